import Derived.Test.YtlejplpkomddeaaGreatR0
import Derived.Test.YtlejplpkomddeaaGreatR6
import Derived.Test.YtlejplpkomddeaaGreatR4
import Derived.WalkSpells
import Derived.Maps.AppendAt
namespace Go.Proofs.YtlejplpkomddeaaGreat
open Go.ChangeShapes Go.WideShapes Go.ChangeAt Go.RowKit
set_option linter.unusedVariables false
set_option maxHeartbeats 4000000
set_option maxRecDepth 100000
structure MS where
 trap:Int
 done:Bool
 cost:Int
 steps:Int
 cells:List (List MC)
 stack:List MC
 frames:List MG
structure VS where
 c:Value
 k:Value
 f:Value
structure Og(w:World)(v:VS)(s:MS):Prop where
 cells:LK w v.c s.cells
 stack:Rd w 2 v.k s.stack.length (s.stack.flatMap MC.cells)
 frames:LI w v.f s.frames
structure PP(w:World)(base:Nat)(v:VS)(s:MS):Prop where
 cells:Nu w base v.c s.cells
 stack:w.ownsRow base 128 2 v.k s.stack.length (s.stack.flatMap MC.cells)
 frames:Np w base v.f s.frames
structure MS.small(s:MS):Prop where
 cells:s.cells.length<=1048576
 cell:∀r∈s.cells,r.length<=1048576
 stack:s.stack.length<=1048576
 frames:s.frames.length<=1048576
 frame:∀f∈s.frames,f.small
structure MG.wf(f:MG):Prop where
 func:Dr f.func
 at_:Dr f.at_
 base:Dr f.base
 locals:∀x∈f.locals,x.wf
structure MS.wf(s:MS):Prop where
 trap:Dr s.trap
 cost:Dr s.cost
 steps:Dr s.steps
 cells:∀r∈s.cells,∀x∈r,x.wf
 stack:∀x∈s.stack,x.wf
 frames:∀f∈s.frames,f.wf
theorem PP.rd{w:World}{base:Nat}{v:VS}{s:MS}(h:PP w base v s):Og w v s:=⟨h.cells.rd,Rd.of_own h.stack,h.frames.rd⟩
theorem Og.keep{w w':World}{v:VS}{s:MS}(h:Og w v s){B:Nat}(hb:Below B w w')(hB:w.heap.size<=B):Og w' v s:=⟨h.cells.keep hb hB,h.stack.keep hb hB,h.frames.keep hb hB⟩
theorem OH{w:World}{base:Nat}{e:TypeId}{g:Nat}{a b c d x y z:Value}(h:w.ownsRow base e 7 (.slice (some ⟨g,0,none⟩) 1 1) 1 [a,b,c,d,x,y,z]):
 w.cell? ⟨g,0,none⟩=some a/\w.cell? ⟨g,1,none⟩=some b/\w.cell? ⟨g,2,none⟩=some c/\w.cell? ⟨g,3,none⟩=some d/\w.cell? ⟨g,4,none⟩=some x/\w.cell? ⟨g,5,none⟩=some y/\w.cell? ⟨g,6,none⟩=some z/\w.frozen? ⟨g,0,none⟩=false/\w.frozen? ⟨g,1,none⟩=false/\w.frozen? ⟨g,2,none⟩=false/\w.frozen? ⟨g,3,none⟩=false/\w.frozen? ⟨g,4,none⟩=false/\w.frozen? ⟨g,5,none⟩=false/\w.frozen? ⟨g,6,none⟩=false:=
 ⟨h.cellAt 0 (by omega),h.cellAt 1 (by omega),h.cellAt 2 (by omega),h.cellAt 3 (by omega),h.cellAt 4 (by omega),h.cellAt 5 (by omega),h.cellAt 6 (by omega),h.frozenAt 0,h.frozenAt 1,h.frozenAt 2,h.frozenAt 3,h.frozenAt 4,h.frozenAt 5,h.frozenAt 6⟩
structure MX(k:Nat)(w u:World)(tp:TypeId)(p r:List Value):Prop where
 par:u.ownsRow w.heap.size tp k (.slice (some ⟨w.heap.size,0,none⟩) 1 1) 1 p
 par':u.ownsRow w.heap.size tp k (.slice (some ⟨w.heap.size+1,0,none⟩) 1 1) 1 r
 bel:Below w.heap.size w u
theorem MX.of(k:Nat)(w:World)(tp:TypeId)(p r:Array Value)(hp:p.size=k)(hr:r.size=k):
 MX k w ((w.alloc (.cells p tp)).alloc (.cells r tp)) tp p.toList r.toList:=by
 have b1:Below w.heap.size w (w.alloc (.cells p tp)):=(Below.refl _ _).alloc lR _;have c2:Below (w.alloc (.cells p tp)).heap.size (w.alloc (.cells p tp)) ((w.alloc (.cells p tp)).alloc (.cells r tp)):=(Below.refl _ _).alloc lR _;have r1:=World.ownsRow_lit (base:=w.heap.size) (e:=tp) (size:=k) w p 1 lR (by unfold maxLen;omega) (by omega);have r2:=World.ownsRow_lit (base:=w.heap.size) (e:=tp) (size:=k) (w.alloc (.cells p tp)) r 1 (by simp) (by unfold maxLen;omega) (by omega);refine⟨Ag r1 c2 lR,?_,b1.trans (c2.mono (by simp))⟩;simpa using r2
theorem MX.keep{k:Nat}{w u u':World}{tp:TypeId}{p r:List Value}(h:MX k w u tp p r)(hb:Below u.heap.size u u'):MX k w u' tp p r:=
 ⟨Ag h.par hb lR,Ag h.par' hb lR,h.bel.trans (hb.mono h.bel.size)⟩
theorem EZ(v v':VS)(s:MS)(w:World)(hs:s.small)(h:Og w v s)(h':Og w v' s):
 Calls Tryz.prog 11 #[.agg #[.int .i64 s.trap,.bool s.done,.int .i64 s.cost,.int .i64 s.steps,v.c,v.k,v.f],.agg #[.int .i64 s.trap,.bool s.done,.int .i64 s.cost,.int .i64 s.steps,v'.c,v'.k,v'.f]] w fun e w'=>e=.returned (.bool true)/\Below w.heap.size w w':=by
 have F0:=MX.of 7 w 39 #[.int .i64 s.trap,.bool s.done,.int .i64 s.cost,.int .i64 s.steps,v.c,v.k,v.f] #[.int .i64 s.trap,.bool s.done,.int .i64 s.cost,.int .i64 s.steps,v'.c,v'.k,v'.f] rfl rfl;have H:=h3 h h' hs;clear h h' hs;go_enter Tryz.func11,Tryz.ntmps11;go_wp2_with fail
 refine(Ij v.c v'.c s.cells _ H.out.2.2.cells H.out.2.2.cell (H.out.1.cells.keep F0.bel lR) (H.out.2.1.cells.keep F0.bel lR)).mono ?_;rintro e u1 ⟨rfl,b1⟩;have F1:=F0.keep b1;clear b1 F0;obtain⟨p0,p1,p2,p3,p4,p5,p6,_⟩:=OH F1.par;obtain⟨o0,o1,o2,o3,o4,o5,o6,_⟩:=OH F1.par';go_wp2_with fail
 refine(Ex v.k v'.k s.stack _ H.out.2.2.stack (H.out.1.stack.keep F1.bel lR) (H.out.2.1.stack.keep F1.bel lR)).mono ?_;rintro e u2 ⟨rfl,b2⟩;have F2:=F1.keep b2;clear b2 F1 p0 p1 p2 p3 p4 p5 p6 o0 o1 o2 o3 o4 o5 o6;obtain⟨p0,p1,p2,p3,p4,p5,p6,_⟩:=OH F2.par;obtain⟨o0,o1,o2,o3,o4,o5,o6,_⟩:=OH F2.par';go_wp2_with fail
 refine(Iu v.f v'.f s.frames _ H.out.2.2.frames H.out.2.2.frame (H.out.1.frames.keep F2.bel lR) (H.out.2.1.frames.keep F2.bel lR)).mono ?_;rintro e u3 ⟨rfl,b3⟩;have F3:=F2.keep b3;clear b3 F2 p0 p1 p2 p3 p4 p5 p6 o0 o1 o2 o3 o4 o5 o6;go_wp2
 go_ret
 exact⟨rfl,F3.bel⟩
def AY(fs:List MF):Prop:=¬fs.length=0/\fs.length<=32/\(∀j,j<fs.length->∀f,fs[j]?=some f->BO f)/\∀f,fs[0]?=some f->LR f
theorem IU(s:Value)(fs:List MF)(w:World)(hL:fs.length<=1048576)(hs:∀f∈fs,f.small)(h:Gc w s fs):
 Calls Tryz.prog 129 #[s] w fun e w'=>Ar e (AY fs)/\Below w.heap.size w w':=by
 obtain⟨xs,hxs,hrd,hel⟩:=h;have hxl:xs.length=fs.length:=by rw[<-hxs];simp
 have H1:=h5 hrd hxs hel hs hxl;obtain⟨a1,c1,rfl⟩:=hrd.is_slice;clear hrd hxs hel hs hxl;generalize hLL:fs.length=n at hL H1;have HL:Hid (fs.length=n):=hLL;clear hLL;by_cases q0:n=0
 ·subst q0
  have HN:Hid (¬AY fs):=fun e=>e.1 HL.out
  clear H1;go_enter Tryz.func129,Tryz.ntmps129;go_wp2
  go_ret
  exact⟨.no HN.out,Below.refl _ _⟩
 have q0':((n:Int)==0)=false:=by simpa using q0
 by_cases q1:32<n
 ·have HN:Hid (¬AY fs):=fun e=>absurd e.2.1 (by rw[HL.out];omega)
  have q1':(32:Int)<(n:Int):=by omega
  clear H1;go_enter Tryz.func129,Tryz.ntmps129;go_wp2
  go_ret
  exact⟨.no HN.out,Below.refl _ _⟩
 have q1':¬(32:Int)<(n:Int):=by omega
 go_enter Tryz.func129,Tryz.ntmps129;go_wp2
 go_loopw [15] (fun i wr=>∃k:Nat,k<=n/\i=.int .i64 k/\Hid (∀j,j<k->∀f,fs[j]?=some f->BO f)/\Hid (Below w.heap.size w wr)) (fun i _=>n-(intOf i).toNat)
 case atStart=>exact⟨0,by omega,rfl,fun j hj=>by omega,Below.refl _ _⟩
 case round=>
  obtain⟨k,hk,rfl,HT,HB⟩:=hrel;by_cases hlt:k<n
  ·obtain⟨⟨f,v⟩,hx⟩:∃x,xs[k]?=some x:=⟨_,gE (by rw[H1.out.2.2.2.2];exact hlt)⟩
   have e1:=Bh H1.out.2.1 hx;have HX:Hid (CP wr v f/\f.small/\fs[k]?=some f):=⟨(H1.out.2.2.1 _ (mG hx)).keep HB.out lR,H1.out.2.2.2.1 _ (mG e1),e1⟩
   clear e1;rcases H1.out.1.2 with⟨e0,_⟩|⟨b,o,c,e1,hc1⟩
   ·omega
   ·simp only[sJ,true_and]at e1
    obtain⟨rfl,rfl⟩:=e1;have i0:=Rd.elem Ai hc1 k _ hx 0 _ rfl;have i1:=Rd.elem Ai hc1 k _ hx 1 _ rfl;have i2:=Rd.elem Ai hc1 k _ hx 2 _ rfl;have i3:=Rd.elem Ai hc1 k _ hx 3 _ rfl;rw[<-HB.out.cell (bL i0),Nat.add_zero]at i0;rw[<-HB.out.cell (bL i1)]at i1;rw[<-HB.out.cell (bL i2)]at i2;rw[<-HB.out.cell (bL i3)]at i3;clear hc1 hx;simp only[]at i0 i1 i2 i3;obtain⟨ap,cp,ep⟩:=HX.out.1.1.is_slice;obtain⟨al,cl,el⟩:=HX.out.1.2.1.is_slice;obtain⟨ac,cc,ec⟩:=HX.out.1.2.2.is_slice;obtain⟨vp,vl,vc⟩:=v;simp only[]at ep el ec i0 i1 i2 i3;subst ep el ec;have nb:¬b=wr.heap.size:=Nat.ne_of_lt (bL i0);have mb:b<wr.heap.size:=bL i0;go_wp2_with fail
    have A1:=fun W (hW:Below wr.heap.size wr W)=>IG ⟨.slice ap f.params.length cp,.slice al f.locals.length cl,.slice ac f.code.length cc⟩ f W HX.out.2.1 (HX.out.1.keep hW lR)
    refine(A1 _ (Aa _ _)).mono ?_;rintro e u ⟨⟨b0,rfl,hb0⟩,hbu⟩;have HB2:Hid (Below w.heap.size w u):=Ab HB.out lR (Ab (Aa _ _) lR hbu);clear hbu HB i0 i1 i2 i3 A1 nb mb;cases b0
    ·have HN:Hid (¬AY fs):=fun e=>by have:=e.2.2.1 k (by rw[HL.out];exact hlt) f HX.out.2.2;simp[this]at hb0
     clear hb0;go_wp2
     go_ret
     exact⟨.no HN.out,HB2.out⟩
    ·have HC:=AS (hb0.1 rfl)
     clear hb0;go_wp2
     go_roundw
     case rel=>exact⟨k+1,by omega,by go_num,Cz HX.out.2.2 HC.out HT.out,HB2⟩
     case measure=>simp[intOf];omega
  ·have hkn:n=k:=by omega
   subst hkn;obtain⟨⟨f,v⟩,hx⟩:∃x,xs[0]?=some x:=⟨_,gE (by rw[H1.out.2.2.2.2];omega)⟩;have e1:=Bh H1.out.2.1 hx;have HX:Hid (CP wr v f/\f.small/\fs[0]?=some f):=⟨(H1.out.2.2.1 _ (mG hx)).keep HB.out lR,H1.out.2.2.2.1 _ (mG e1),e1⟩
   clear e1;rcases H1.out.1.2 with⟨e0,_⟩|⟨b,o,c,e1,hc1⟩
   ·omega
   ·simp only[sJ,true_and]at e1
    obtain⟨rfl,rfl⟩:=e1;have i0:=Rd.elem Ai hc1 0 _ hx 0 _ rfl;have i1:=Rd.elem Ai hc1 0 _ hx 1 _ rfl;rw[<-HB.out.cell (bL i0)]at i0;simp only[Nat.zero_mul,Nat.add_zero]at i0;rw[<-HB.out.cell (bL i1),Nat.zero_mul,Nat.add_zero]at i1;clear hc1 hx;obtain⟨ap,cp,ep⟩:=HX.out.1.1.is_slice;obtain⟨vp,vl,vc⟩:=v;simp only[]at ep i0 i1;subst ep
    have HM:Hid (AY fs↔LR f):=by
     show _↔_;refine⟨fun e=>e.2.2.2 f HX.out.2.2,fun e=>⟨by rw[HL.out];exact q0,by rw[HL.out];omega,by rw[HL.out];exact HT.out,fun g hg=> ?_⟩⟩;rw[HX.out.2.2]at hg;exact(Option.some.inj hg)▸e
    have hn1:=HX.out.2.1.1;generalize hN1:f.params.length=n1 at*;generalize hN2:f.result=R at*;have HE:=h2 hN1 hN2;clear hN1 hN2;have hl0:(0:Int)<(n:Int):=by omega
    by_cases z1:n1=0
    ·subst z1
     have HY:Hid ((R==0)=true↔AY fs):=by
      show _↔_;rw[HM.out,beq_iff_eq];exact⟨fun e=>⟨HE.out.1,HE.out.2.trans e⟩,fun e=>HE.out.2.symm.trans e.2⟩
     go_wp2
     go_ret
     exact⟨.of HY.out,HB.out⟩
    ·have z1':((n1:Int)==0)=false:=by simpa using z1
     have HN:Hid (¬AY fs):=fun e=>z1 (HE.out.1.symm.trans (HM.out.1 e).1)
     go_wp2
     go_ret
     exact⟨.no HN.out,HB.out⟩
def DR(q:MC->Int->Prop)(vs:List MC)(ts:List Int):Prop:=vs.length=ts.length/\∀j,j<vs.length->∀v,vs[j]?=some v->∀t,ts[j]?=some t->q v t
theorem GW(q:MC->Int->Prop)(hF:∀(x:MC) (t:Int) (w:World),0<=x.word->Calls Tryz.prog 171 #[.agg #[.int .i64 x.type,.int .u32 x.word],.int .i64 t] w fun e w'=>Ar e (q x t)/\Below w.heap.size w w')
 (s s':Value) (vs:List MC) (ts:List Int) (w:World) (hL:vs.length<=1048576) (hL':ts.length<=1048576) (hw:∀x∈vs,0<=x.word) (h:Rd w 2 s vs.length (vs.flatMap MC.cells)) (h':Rd w 1 s' ts.length (ts.flatMap Ae)):
 Calls Tryz.prog 134 #[s,s',.func (.func 171) #[] #[]] w fun e w'=>Ar e (DR q vs ts)/\Below w.heap.size w w':=by
 have H1:=h2 h hw;have H2:=AS h';have HF:=AS hF;obtain⟨a1,c1,rfl⟩:=h.is_slice;obtain⟨a2,c2,rfl⟩:=h'.is_slice;clear h h' hw hF;by_cases hll:vs.length=ts.length
 ·rw [← hll]at H2⊢
  clear hL';generalize hLL:vs.length=n at hL H1 H2 hll;have HL:=h2 hLL hll.symm;clear hLL hll;go_enter Tryz.func134,Tryz.ntmps134;go_wp2
  go_loopw [17] (fun i wr=>∃k:Nat,k<=n/\i=.int .i64 k/\Hid (∀j,j<k->∀v,vs[j]?=some v->∀t,ts[j]?=some t->q v t)/\Hid (Below w.heap.size w wr)) (fun i _=>n-(intOf i).toNat)
  case atStart=>exact⟨0,by omega,rfl,fun j hj=>by omega,Below.refl _ _⟩
  case round=>
   obtain⟨k,hk,rfl,HT,HB⟩:=hrel;by_cases hlt:k<n
   ·obtain⟨x,hx⟩:∃x,vs[k]?=some x:=⟨_,gE (by rw[HL.out.1];exact hlt)⟩
    obtain⟨t,ht⟩:∃x,ts[k]?=some x:=⟨_,gE (by rw[HL.out.2];exact hlt)⟩;rcases H1.out.1.2 with⟨e0,_⟩|⟨b,o,c,e1,hc1⟩
    ·omega
    ·rcases H2.out.2 with⟨e0,_⟩|⟨b',o',c',e2,hc2⟩
     ·omega
     ·simp only[sJ,true_and]at e1 e2
      obtain⟨rfl,rfl⟩:=e1;obtain⟨rfl,rfl⟩:=e2;have i0:=Rd.elem MC.cells_length hc1 k _ hx 0 _ rfl;have i1:=Rd.elem MC.cells_length hc1 k _ hx 1 _ rfl;have j0:=Rd.elem An hc2 k _ ht 0 _ rfl;rw[<-HB.out.cell (bL i0),Nat.add_zero]at i0;rw[<-HB.out.cell (bL i1)]at i1;rw[<-HB.out.cell (bL j0),Nat.mul_one,Nat.add_zero]at j0;have HX:Hid (x∈vs/\vs[k]?=some x/\ts[k]?=some t):=⟨mG hx,hx,ht⟩
      have nb:¬b=wr.heap.size:=Nat.ne_of_lt (bL i0);have mb:b<wr.heap.size:=bL i0;have nb':¬b'=wr.heap.size:=Nat.ne_of_lt (bL j0);have mb':b'<wr.heap.size:=bL j0;clear hc1 hc2 hx ht;go_wp2_with fail
      refine(HF.out x t _ (H1.out.2 x HX.out.1)).mono ?_;rintro e u ⟨⟨b0,rfl,hb0⟩,hbu⟩;have HB2:Hid (Below w.heap.size w u):=Ab (Ab HB.out lR (Aa _ _)) lR hbu;clear hbu HB i0 i1 j0 nb mb nb' mb';cases b0
      ·have HN:Hid (¬DR q vs ts):=fun e=>absurd (hb0.2 (e.2 k (by rw[HL.out.1];exact hlt) x HX.out.2.1 t HX.out.2.2)) Bool.false_ne_true
       clear hb0;go_wp2
       go_ret
       exact⟨.no HN.out,HB2.out⟩
      ·have HC:Hid (q x t):=hb0.1 rfl
       clear hb0
       have HT2:Hid (∀j,j<k+1->∀v,vs[j]?=some v->∀t,ts[j]?=some t->q v t):=fun j hj v hv t' ht'=>by
        by_cases e:j=k
        ·subst e
         rw[HX.out.2.1]at hv;rw[HX.out.2.2]at ht';obtain rfl:=Option.some.inj hv;obtain rfl:=Option.some.inj ht';exact HC.out
        ·exact HT.out j (by omega) v hv t' ht'
       go_wp2
       go_roundw
       case rel=>exact⟨k+1,by omega,by go_num,HT2,HB2⟩
       case measure=>simp[intOf];omega
   ·have hkn:n=k:=by omega
    subst hkn;have HY:Hid (DR q vs ts):=⟨by rw[HL.out.1,HL.out.2],by rw[HL.out.1];exact HT.out⟩;go_wp2;go_ret;exact⟨.yes HY.out,HB.out⟩
 ·have HN:Hid (¬DR q vs ts):=fun e=>hll e.1
  have hne:¬(vs.length:Int)=(ts.length:Int):=by omega
  go_enter Tryz.func134,Tryz.ntmps134;go_wp2
  go_ret
  exact⟨.no HN.out,Below.refl _ _⟩
def Do(t x:Int):MC:=⟨t,if t=1 then word (decide (¬x=0))else x⟩
def Aw(ts ws:List Int):List MC:=List.zipWith Do ts ws
theorem Bz(ts ws:List Int)(h:ws.length=ts.length):(Aw ts ws).length=ts.length:=by simp[Aw,h]
theorem Jb(ts ws:List Int)(k:Nat)(t x:Int)(ht:ts[k]?=some t)(hx:ws[k]?=some x):(Aw ts ws)[k]?=some (Do t x):=by simp[Aw,List.getElem?_zipWith,ht,hx]
theorem De{α:Type}(xs:List α)(k:Nat)(x:α)(h:xs[k]?=some x):xs.take (k+1)=xs.take k++[x]:=by
 obtain⟨hlt,rfl⟩:=gI.1 h;exact List.take_succ_eq_append_getElem hlt
theorem Be(x:MC):∀u∈x.cells,u.oneCell'=true:=by
 intro u hu;simp[MC.cells]at hu;rcases hu with rfl|rfl<;>rfl
theorem Ck(w:World)(cs:Array Value)(t:TypeId):(w.alloc (.cells cs t)).heap[w.heap.size]?=some (.cells cs t (0,0)):=Array.getElem?_push_size
theorem CA(w:World)(x:MC)(t:TypeId):∀j u,x.cells[j]?=some u->(w.alloc (.cells x.cells.toArray t)).cell? ((⟨w.heap.size,0,none⟩:Addr).add j)=some u:=fun j u hj=>by
 rw[CW,Nat.zero_add,cell_of_row _ _ _ _ _ _ (Ck w x.cells.toArray t)];simpa using hj
theorem Fy(s t:Value)(ws ts:List Int)(w:World)(hn:ws.length<=1048576)(hl:ws.length=ts.length)(h:Rd w 1 s ws.length (ws.flatMap Bs))(h':Rd w 1 t ts.length (ts.flatMap Ae)):
 Calls Tryz.prog 110 #[s,t] w fun e w'=>∃a c,e=.returned (.slice a ws.length c)/\w'.ownsRow w.heap.size 128 2 (.slice a ws.length c) ws.length ((Aw ts ws).flatMap MC.cells)/\Below w.heap.size w w':=by
 obtain⟨i0,hi,hz0,hz1,hz2⟩:=info_parts DJ;rw[<-hl]at h';have H:Hid (Rd w 1 s ws.length (ws.flatMap Bs)/\Rd w 1 t ws.length (ts.flatMap Ae)/\ws.length=ts.length):=⟨h,h',hl⟩
 obtain⟨a1,c1,rfl⟩:=h.is_slice;obtain⟨a2,c2,rfl⟩:=h'.is_slice;clear h h' hl;generalize hLL:ws.length=n at hn H⊢;have HL:Hid (ws.length=n):=hLL;clear hLL;go_enter Tryz.func110,Tryz.ntmps110;go_wp2
 go_loopw [5,6] (fun s i wr=>∃k:Nat,k<=n/\i=.int .i64 k/\wr.ownsRow w.heap.size 128 2 s k (((Aw ts ws).take k).flatMap MC.cells)/\Below w.heap.size w wr) (fun _ i _=>n-(intOf i).toNat)
 case atStart=>exact⟨0,by omega,rfl,⟨by simp,.inr ⟨w.heap.size,0,#[],rfl,Nat.le_refl _,heap_alloc_new _ _,Nat.le_refl _,Nat.zero_le _,rfl,by simp⟩⟩,(Below.refl _ _).alloc lR _⟩
 case round=>
  obtain⟨k,hk,rfl,hown,hbel⟩:=hrel;by_cases hlt:k<n
  ·obtain⟨x,hx⟩:∃x,ws[k]?=some x:=⟨_,gE (by rw[HL.out];exact hlt)⟩
   obtain⟨t,ht⟩:∃t,ts[k]?=some t:=⟨_,gE (by rw[<-H.out.2.2];exact hlt)⟩;rcases H.out.1.2 with⟨e0,_⟩|⟨g,o,c,e1,hc1⟩
   ·omega
   rcases H.out.2.1.2 with⟨e0,_⟩|⟨g',o',c',e2,hc2⟩
   ·omega
   simp only[sJ,true_and]at e1 e2;obtain⟨rfl,rfl⟩:=e1;obtain⟨rfl,rfl⟩:=e2;have i0':=Rd.elem Bx hc1 k x hx 0 _ rfl;have j0:=Rd.elem An hc2 k t ht 0 _ rfl;rw[Nat.mul_one,Nat.add_zero]at i0' j0;rw[<-hbel.cell (bL i0')]at i0';rw[<-hbel.cell (bL j0)]at j0
   have HX:Hid (((Aw ts ws).take (k+1)).flatMap MC.cells=((Aw ts ws).take k).flatMap MC.cells++(Do t x).cells):=by
    show _=_;rw[De _ k _ (Jb ts ws k t x ht hx),List.flatMap_append];simp
   have HC:Hid (wr.ownsRow w.heap.size 128 2 u5 k (((Aw ts ws).take k).flatMap MC.cells)/\Below w.heap.size w wr):=⟨hown,hbel⟩
   clear hc1 hc2 hx ht hown hbel
   have fin:∀(cv:MC),cv=Do t x->∀v' w1,w1.ownsRow w.heap.size 128 2 v' (k+1) (((Aw ts ws).take k).flatMap MC.cells++cv.cells)->(wr.alloc (.cells cv.cells.toArray 128)).grownBy w1 u5.ownBlock->w1.ownsRow w.heap.size 128 2 v' (k+1) (((Aw ts ws).take (k+1)).flatMap MC.cells)/\Below w.heap.size w w1:=fun cv e v' w1 h1 hg=>by
    subst e;exact⟨by rw[HX.out];exact h1,(HC.out.2.alloc HC.out.2.size _).grown hg (by have:=HC.out.2.size;simp;omega) (fun j hj=>(HC.out.1.lt j hj).1)⟩
   have HFin:Hid _:=fin;clear fin;by_cases q:t=1
   ·subst q
    by_cases q2:x=0
    ·subst q2
     have HCV:Hid ((⟨1,0⟩:MC)=Do 1 0):=rfl;go_wp2_with fail
     refine(Bj false _).mono ?_;rintro e u ⟨rfl,rfl⟩;rw[show word false=0 from rfl];go_wp2_with (at_builtin;refine wpList_append_own _ rfl _ _ 36 rfl w.heap.size 128 i0 (.agg #[.int .i64 0,.int .u32 0]) 2 16 Tryz.underlying36 hi hz0 hz1 hz2 rfl (by decide) _ _ _ rfl (HC.out.1.alloc _) ⟨u.heap.size,0,none⟩ 1 1 (MC.cells ⟨1,0⟩) rfl rfl (CA u ⟨1,0⟩ _) (Be ⟨1,0⟩) (by unfold maxLen;omega) (by omega) (by have:=HC.out.2.size;simp;omega) ?_;intro v' w1 hown' hgrow hnil);have HN:Hid (w1.ownsRow w.heap.size 128 2 v' (k+1) (((Aw ts ws).take (k+1)).flatMap MC.cells)/\Below w.heap.size w w1):=HFin.out _ HCV.out v' w1 hown' hgrow
     clear hown' hgrow hnil i0' j0;go_wp2
     go_roundw
     case rel=>exact⟨k+1,by omega,by go_num,HN.out.1,HN.out.2⟩
     case measure=>simp[intOf];omega
    ·have HCV:Hid ((⟨1,1⟩:MC)=Do 1 x):=by show _=_;unfold Do;simp[q2,word]
     have q2':(x != 0)=true:=by simpa using q2
     go_wp2_with fail
     refine(Bj true _).mono ?_;rintro e u ⟨rfl,rfl⟩;rw[show word true=1 from rfl];go_wp2_with (at_builtin;refine wpList_append_own _ rfl _ _ 36 rfl w.heap.size 128 i0 (.agg #[.int .i64 0,.int .u32 0]) 2 16 Tryz.underlying36 hi hz0 hz1 hz2 rfl (by decide) _ _ _ rfl (HC.out.1.alloc _) ⟨u.heap.size,0,none⟩ 1 1 (MC.cells ⟨1,1⟩) rfl rfl (CA u ⟨1,1⟩ _) (Be ⟨1,1⟩) (by unfold maxLen;omega) (by omega) (by have:=HC.out.2.size;simp;omega) ?_;intro v' w1 hown' hgrow hnil);have HN:Hid (w1.ownsRow w.heap.size 128 2 v' (k+1) (((Aw ts ws).take (k+1)).flatMap MC.cells)/\Below w.heap.size w w1):=HFin.out _ HCV.out v' w1 hown' hgrow
     clear hown' hgrow hnil i0' j0;go_wp2
     go_roundw
     case rel=>exact⟨k+1,by omega,by go_num,HN.out.1,HN.out.2⟩
     case measure=>simp[intOf];omega
   ·have q':(t==1)=false:=by simpa using q
    have HCV:Hid ((⟨t,x⟩:MC)=Do t x):=by show _=_;unfold Do;rw[if_neg q]
    clear q;go_wp2_with (at_builtin;refine wpList_append_own _ rfl _ _ 36 rfl w.heap.size 128 i0 (.agg #[.int .i64 0,.int .u32 0]) 2 16 Tryz.underlying36 hi hz0 hz1 hz2 rfl (by decide) _ _ _ rfl (HC.out.1.alloc _) ⟨wr.heap.size,0,none⟩ 1 1 (MC.cells ⟨t,x⟩) rfl rfl (CA wr ⟨t,x⟩ _) (Be ⟨t,x⟩) (by unfold maxLen;omega) (by omega) (by have:=HC.out.2.size;simp;omega) ?_;intro v' w1 hown' hgrow hnil);have HN:Hid (w1.ownsRow w.heap.size 128 2 v' (k+1) (((Aw ts ws).take (k+1)).flatMap MC.cells)/\Below w.heap.size w w1):=HFin.out _ HCV.out v' w1 hown' hgrow
    clear hown' hgrow hnil i0' j0;go_wp2
    go_roundw
    case rel=>exact⟨k+1,by omega,by go_num,HN.out.1,HN.out.2⟩
    case measure=>simp[intOf];omega
  ·have hkn:k=n:=by omega
   subst hkn;rw[show(Aw ts ws).take k=Aw ts ws from List.take_of_length_le (by rw[Bz ts ws (HL.out.trans H.out.2.2),<-H.out.2.2];omega)]at hown;obtain⟨a3,c3,rfl⟩:∃a c,u5=.slice a k c:=(Rd.of_own hown).is_slice;have HO:=AS hown;clear hown;go_wp2;go_ret;exact⟨_,_,rfl,HO.out,hbel⟩
theorem KR(t s:Value)(ws ts:List Int)(w:World)(hn:ts.length<=1048576)(hl:ws.length=ts.length)(h:Rd w 1 s ws.length (ws.flatMap Bs))(h':Rd w 1 t ts.length (ts.flatMap Ae)):
 Calls Tryz.prog 115 #[t,s] w fun e w'=>∃a c,e=.returned (.slice a ts.length c)/\w'.ownsRow w.heap.size 128 2 (.slice a ts.length c) ts.length ((Aw ts ws).flatMap MC.cells)/\Below w.heap.size w w':=by
 obtain⟨i0,hi,hz0,hz1,hz2⟩:=info_parts DJ;rw[hl]at h;have H:Hid (Rd w 1 s ts.length (ws.flatMap Bs)/\Rd w 1 t ts.length (ts.flatMap Ae)/\(Aw ts ws).length=ts.length/\ws.length=ts.length):=⟨h,h',Bz ts ws hl,hl⟩
 obtain⟨a1,c1,rfl⟩:=h.is_slice;obtain⟨a2,c2,rfl⟩:=h'.is_slice;clear h h' hl;generalize hLL:ts.length=L at hn H⊢;have HL:Hid (ts.length=L):=hLL;clear hLL;go_enter Tryz.func115,Tryz.ntmps115;go_wp2_with (at_make;refine wpList_make_full _ rfl _ _ 36 rfl w.heap.size 128 i0 (.agg #[.int .i64 0,.int .u32 0]) 2 Tryz.underlying36 hi hz0 hz1 .i64 .i64 _ _ L rfl rfl rfl rfl (by rw[hz2];omega) (by unfold maxLen;omega) lR ?_;intro w1 hown hgrow);rw[Cv MC.cells [.int .i64 0,.int .u32 0] (Aw ts ws) L (.agg #[.int .i64 0,.int .u32 0]) 2 rfl rfl (by omega)]at hown;have hB:Below w.heap.size w w1:=(Below.refl _ _).grown hgrow lR (fun k hk=>by cases hk);clear hgrow;go_loopw [13] (fun i wr=>∃k:Nat,k<=L/\i=.int .i64 k/\wr.ownsRow w.heap.size 128 2 (.slice (some ⟨w.heap.size,0,none⟩) L L) L (CK MC.cells [.int .i64 0,.int .u32 0] (Aw ts ws) k L)/\Below w.heap.size w wr) (fun i _=>L-(intOf i).toNat)
 case atStart=>exact⟨0,by omega,rfl,hown,hB⟩
 case round=>
  clear hown hB;obtain⟨k,hk,rfl,hown,hbel⟩:=hrel;by_cases hlt:k<L
  ·obtain⟨x,hx⟩:∃x,ws[k]?=some x:=⟨_,gE (by rw[H.out.2.2.2];exact hlt)⟩
   obtain⟨t,ht⟩:∃t,ts[k]?=some t:=⟨_,gE (by rw[HL.out];exact hlt)⟩;have hcx:=Jb ts ws k t x ht hx;have hnext:=CN MC.cells [.int .i64 0,.int .u32 0] (Aw ts ws) k L _ hcx;rw[Cw MC.cells [.int .i64 0,.int .u32 0] (Aw ts ws) k L hlt]at hown;have hA:(((Aw ts ws).take k).flatMap MC.cells).length=k*2:=by rw[Az MC.cells 2 MC.cells_length,List.length_take,H.out.2.2.1,Nat.min_eq_left hk]
   generalize ((Aw ts ws).take k).flatMap MC.cells=A at hown hnext hA;generalize (List.replicate (L-(k+1)) [Value.int .i64 0,Value.int .u32 0]).flatten=R at hown hnext;rcases H.out.1.2 with⟨e0,_⟩|⟨g,o,c,e1,hc1⟩
   ·omega
   rcases H.out.2.1.2 with⟨e0,_⟩|⟨g',o',c',e2,hc2⟩
   ·omega
   simp only[sJ,true_and]at e1 e2;obtain⟨rfl,rfl⟩:=e1;obtain⟨rfl,rfl⟩:=e2;have i0':=Rd.elem Bx hc1 k x hx 0 _ rfl;have j0:=Rd.elem An hc2 k t ht 0 _ rfl;rw[Nat.mul_one,Nat.add_zero]at i0' j0;have NB:¬g=w.heap.size:=Nat.ne_of_lt (bL i0');rw[<-hbel.cell (bL i0')]at i0';rw[<-hbel.cell (bL j0)]at j0;have hkL:(k:Int)<(L:Int):=by omega
   have f0:=hown.frozenAt (k*2);have f1:=hown.frozenAt (k*2+1);have d0:=hown.cellAt (k*2) (by omega);have d1:=hown.cellAt (k*2+1) (by omega);rw[List.getElem?_append_right (by omega),hA]at d0 d1;rw[Nat.sub_self]at d0;rw[Nat.add_sub_cancel_left]at d1;simp only[List.cons_append,gZ,gS]at d0 d1;have HO:Hid (wr.ownsRow w.heap.size 128 2 (.slice (some ⟨w.heap.size,0,none⟩) L L) L (A++([.int .i64 0,.int .u32 0]++R))/\A.length=k*2/\CK MC.cells [.int .i64 0,.int .u32 0] (Aw ts ws) (k+1) L=A++((Do t x).cells++R)/\Below w.heap.size w wr):=⟨hown,hA,hnext,hbel⟩
   clear hown hA hnext hc1 hc2 hx ht hcx;have nb:¬g=w.heap.size:=NB;have nb':¬w.heap.size=g:=fun e=>NB e.symm
   clear NB;by_cases q:t=1
   ·subst q
    by_cases q2:x=0
    ·subst q2
     have q2':((0:Int) != 0)=false:=rfl;have HCV:Hid ((Do 1 0).cells=[.int .i64 1,.int .u32 0]):=rfl;go_wp2_with fail
     refine(CJ false _).mono ?_;rintro e u ⟨rfl,hu⟩;rw[show word false=0 from rfl];subst hu;go_wp2
     go_roundw
     case rel=>
      refine⟨k+1,by omega,by go_num,?_,((HO.out.2.2.2.setCell lR _).setCell lR _).setCell lR _⟩;have s0:=(HO.out.1.stored (k*2) (.int .i64 1)).1;have s1:=(s0.stored (k*2+1) (.int .u32 0)).1;rw[Mu A R _ _ _ _ (k*2) HO.out.2.1]at s1;have s2:=(s1.stored (k*2+1) (.int .u32 0)).1;rw[HO.out.2.2.1,HCV.out];simpa[<-HO.out.2.1]using s2
     case measure=>simp[intOf];omega
    ·have q2':(x != 0)=true:=by simpa using q2
     have HCV:Hid ((Do 1 x).cells=[.int .i64 1,.int .u32 1]):=by show _=_;unfold Do;simp[q2,word,MC.cells]
     go_wp2_with fail
     refine(CJ true _).mono ?_;rintro e u ⟨rfl,hu⟩;rw[show word true=1 from rfl];subst hu;go_wp2
     go_roundw
     case rel=>
      refine⟨k+1,by omega,by go_num,?_,((HO.out.2.2.2.setCell lR _).setCell lR _).setCell lR _⟩;have s0:=(HO.out.1.stored (k*2) (.int .i64 1)).1;have s1:=(s0.stored (k*2+1) (.int .u32 x)).1;rw[Mu A R _ _ _ _ (k*2) HO.out.2.1]at s1;have s2:=(s1.stored (k*2+1) (.int .u32 1)).1;rw[HO.out.2.2.1,HCV.out];simpa[<-HO.out.2.1]using s2
     case measure=>simp[intOf];omega
   ·have q':(t==1)=false:=by simpa using q
    have HCV:Hid ((Do t x).cells=[.int .i64 t,.int .u32 x]):=by show _=_;unfold Do;rw[if_neg q];rfl
    clear q;go_wp2
    go_roundw
    case rel=>
     refine⟨k+1,by omega,by go_num,?_,(HO.out.2.2.2.setCell lR _).setCell lR _⟩;have s0:=(HO.out.1.stored (k*2) (.int .i64 t)).1;have s1:=(s0.stored (k*2+1) (.int .u32 x)).1;rw[Mu A R _ _ _ _ (k*2) HO.out.2.1]at s1;rw[HO.out.2.2.1,HCV.out];exact s1
    case measure=>simp[intOf];omega
  ·have hkn:k=L:=by omega
   subst hkn;rw[Dc _ _ _ _ H.out.2.2.1]at hown;have HO:=AS hown;clear hown;go_wp2
   go_ret
   exact⟨_,_,rfl,HO.out,hbel⟩
theorem Ef(t:Int)(w:World):Calls Tryz.prog 178 #[.int .i64 t] w fun e w'=>e=.returned (.agg #[.int .i64 t,.int .u32 0])/\Below w.heap.size w w':=by
 go_enter Tryz.func178,Tryz.ntmps178;go_wp2
 exact bodyPost_ret (v:=.agg #[.int .i64 t,.int .u32 0]) (by simp[results,Tryz.results178,go_sem]) rfl ⟨rfl,(Below.refl _ _).alloc lR _⟩
theorem GR(t:Value)(ts:List Int)(w:World)(hn:ts.length<=4194304)(h':Rd w 1 t ts.length (ts.flatMap Ae)):
 Calls Tryz.prog 113 #[t] w fun e w'=>∃a c,e=.returned (.slice a ts.length c)/\w'.ownsRow w.heap.size 128 2 (.slice a ts.length c) ts.length ((ts.map fun t=>(⟨t,0⟩:MC)).flatMap MC.cells)/\Below w.heap.size w w':=by
 obtain⟨i0,hi,hz0,hz1,hz2⟩:=info_parts DJ;have H:=AS h';obtain⟨a2,c2,rfl⟩:=h'.is_slice;clear h';generalize hLL:ts.length=L at hn H⊢;have HL:Hid (ts.length=L):=hLL;clear hLL;go_enter Tryz.func113,Tryz.ntmps113;go_wp2_with (at_make;refine wpList_make_full _ rfl _ _ 36 rfl w.heap.size 128 i0 (.agg #[.int .i64 0,.int .u32 0]) 2 Tryz.underlying36 hi hz0 hz1 .i64 .i64 _ _ L rfl rfl rfl rfl (by rw[hz2];omega) (by unfold maxLen;omega) lR ?_;intro w1 hown hgrow);rw[Cv MC.cells [.int .i64 0,.int .u32 0] (ts.map fun t=>(⟨t,0⟩:MC)) L (.agg #[.int .i64 0,.int .u32 0]) 2 rfl rfl (by omega)]at hown;have hB:Below w.heap.size w w1:=(Below.refl _ _).grown hgrow lR (fun k hk=>by cases hk);clear hgrow;go_loopw [11] (fun i wr=>∃k:Nat,k<=L/\i=.int .i64 k/\wr.ownsRow w.heap.size 128 2 (.slice (some ⟨w.heap.size,0,none⟩) L L) L (CK MC.cells [.int .i64 0,.int .u32 0] (ts.map fun t=>(⟨t,0⟩:MC)) k L)/\Below w.heap.size w wr) (fun i _=>L-(intOf i).toNat)
 case atStart=>exact⟨0,by omega,rfl,hown,hB⟩
 case round=>
  clear hown hB;obtain⟨k,hk,rfl,hown,hbel⟩:=hrel;by_cases hlt:k<L
  ·obtain⟨t,ht⟩:∃t,ts[k]?=some t:=⟨_,gE (by rw[HL.out];exact hlt)⟩
   have hcx:(ts.map fun t=>(⟨t,0⟩:MC))[k]?=some ⟨t,0⟩:=by simp[ht]
   have hnext:=CN MC.cells [.int .i64 0,.int .u32 0] (ts.map fun t=>(⟨t,0⟩:MC)) k L _ hcx;rw[Cw MC.cells [.int .i64 0,.int .u32 0] (ts.map fun t=>(⟨t,0⟩:MC)) k L hlt]at hown;have hA:(((ts.map fun t=>(⟨t,0⟩:MC)).take k).flatMap MC.cells).length=k*2:=by rw[Az MC.cells 2 MC.cells_length,List.length_take,List.length_map,HL.out,Nat.min_eq_left hk]
   generalize ((ts.map fun t=>(⟨t,0⟩:MC)).take k).flatMap MC.cells=A at hown hnext hA;generalize (List.replicate (L-(k+1)) [Value.int .i64 0,Value.int .u32 0]).flatten=R at hown hnext;rcases H.out.2 with⟨e0,_⟩|⟨g',o',c',e2,hc2⟩
   ·omega
   simp only[sJ,true_and]at e2;obtain⟨rfl,rfl⟩:=e2;have j0:=Rd.elem An hc2 k t ht 0 _ rfl;rw[Nat.mul_one,Nat.add_zero]at j0;rw[<-hbel.cell (bL j0)]at j0;have hkL:(k:Int)<(L:Int):=by omega
   have HO:=h4 hown hA hnext hbel;clear hown hA hnext hc2 ht hcx hbel;go_wp2_with fail
   refine(Ef t _).mono ?_;rintro e u ⟨rfl,hbu⟩;have hown:=Ag HO.out.1 hbu lR;have hA:=HO.out.2.1;have f0:=hown.frozenAt (k*2);have f1:=hown.frozenAt (k*2+1);have d0:=hown.cellAt (k*2) (by omega);have d1:=hown.cellAt (k*2+1) (by omega);rw[List.getElem?_append_right (by omega),hA]at d0 d1;rw[Nat.sub_self]at d0;rw[Nat.add_sub_cancel_left]at d1;simp only[List.cons_append,gZ,gS]at d0 d1;have HB:=h2 (HO.out.2.2.2.trans (hbu.mono HO.out.2.2.2.size)) hown;clear hown hA hbu j0;go_wp2
   go_roundw
   case rel=>
    refine⟨k+1,by omega,by go_num,?_,(HB.out.1.setCell lR _).setCell lR _⟩;have s0:=(HB.out.2.stored (k*2) (.int .i64 t)).1;have s1:=(s0.stored (k*2+1) (.int .u32 0)).1;rw[Mu A R _ _ _ _ (k*2) HO.out.2.1]at s1;rw[HO.out.2.2.1];exact s1
   case measure=>simp[intOf];omega
  ·have hkn:k=L:=by omega
   subst hkn;rw[Dc _ _ _ _ (by rw[List.length_map];exact HL.out)]at hown;have HO:=AS hown;clear hown;go_wp2;go_ret;exact⟨_,_,rfl,HO.out,hbel⟩
instance:Inhabited MG:=⟨⟨0,0,0,[]⟩⟩
instance:Inhabited Value:=⟨.bool true⟩
section
variable {H:Type} {enc:TypeId×Value->H} {w:World} {spare:Nat->Bool} {held:Bool} {fuel:Nat} {cs:List Value} {x:DataW H×List MemPlace}
end
def Bg(k:Int)(n:Nat):List MC:=(List.range n).map fun(i:Nat)=>⟨k+2*(i:Int),(k+2*(i:Int)+1) % 4294967296⟩
theorem BU(k:Int)(n:Nat):(Bg k n).length=n:=by simp[Bg]
theorem K6(k:Int)(n:Nat):Bg k (n+1)=Bg k n++[⟨k+2*(n:Int),(k+2*(n:Int)+1) % 4294967296⟩]:=by simp[Bg,List.range_succ]
def Db(k:Int)(cs:List MC)(j:Nat):List MC:=Bg k j++cs.drop j
theorem JZ(k:Int)(cs:List MC):Db k cs 0=cs:=by simp[Db,Bg]
theorem Ki(k:Int)(cs:List MC)(n:Nat)(h:cs.length=n):Db k cs n=Bg k n:=by simp[Db,<-h]
theorem FP(k:Int)(cs:List MC)(j:Nat)(x:MC)(h:cs[j]?=some x):(Db k cs j).flatMap MC.cells=(Bg k j).flatMap MC.cells++(x.cells++(cs.drop (j+1)).flatMap MC.cells):=by
 obtain⟨hlt,rfl⟩:=gI.1 h;unfold Db;rw[List.flatMap_append,List.drop_eq_getElem_cons hlt,List.flatMap_cons]
theorem JR(k:Int)(cs:List MC)(j:Nat)(x:MC)(h:cs[j]?=some x):(((Db k cs j).flatMap MC.cells).set (j*2) (.int .i64 (k+2*(j:Int)))).set (j*2+1) (.int .u32 ((k+2*(j:Int)+1) % 4294967296))=(Db k cs (j+1)).flatMap MC.cells:=by
 have hA:((Bg k j).flatMap MC.cells).length=j*2:=by rw[Az MC.cells 2 MC.cells_length,BU]
 rw[FP k cs j x h];have:=Mu ((Bg k j).flatMap MC.cells) ((cs.drop (j+1)).flatMap MC.cells) (.int .i64 x.type) (.int .u32 x.word) (.int .i64 (k+2*(j:Int))) (.int .u32 ((k+2*(j:Int)+1) % 4294967296)) (j*2) hA;refine this.trans ?_;unfold Db;rw[K6,List.flatMap_append,List.flatMap_append,List.append_assoc];simp[MC.cells]
theorem Ii{w wr:World}{g:Nat}(h:w.grownBy wr (some g))(i:Nat)(x:Value):w.grownBy (wr.setCell ⟨g,i,none⟩ x) (some g):=
 ⟨h.os,h.tape,h.output,by rw[World.size_setCell];exact h.size,fun k hk hne=>(heap_setCell_other wr _ k x (fun e=>hne (by rw[e]))).trans (h.block k hk hne)⟩
theorem EL(base:Nat)(s:Value)(cs:List MC)(k0:Int)(w:World)(hn:cs.length<=1048576)(h0:0<=k0)(h1:k0<=1152921504606846976)(h:w.ownsRow base 128 2 s cs.length (cs.flatMap MC.cells)):
 Calls Tryz.prog 57 #[s,.int .i64 k0] w fun e w'=>e=.returned (.int .i64 (k0+2*(cs.length:Int)))/\w'.ownsRow base 128 2 s cs.length ((Bg k0 cs.length).flatMap MC.cells)/\w.grownBy w' s.ownBlock:=by
 have H:Hid (w.ownsRow base 128 2 s cs.length ((Db k0 cs 0).flatMap MC.cells)):=by show World.ownsRow _ _ _ _ _ _ _;rw[JZ];exact h
 rcases At h with⟨rfl,hz⟩|⟨g,c,rfl⟩
 ·clear h
  rw[hz]at H⊢;have hfin:Hid (w.ownsRow base 128 2 (.slice none 0 0) 0 ((Bg k0 0).flatMap MC.cells)):=World.ownsRow_nil _ _ _ _;go_enter Tryz.func57,Tryz.ntmps57;go_wp2
  go_loopw [1,5] (fun q i wr=>q=.int .i64 k0/\i=.int .i64 0/\wr=w) (fun _ _ _=>0)
  case atStart=>exact⟨rfl,rfl,rfl⟩
  case round=>
   obtain⟨rfl,rfl,rfl⟩:=hrel;go_wp2
   go_ret
   exact⟨by simp,hfin.out,⟨rfl,rfl,rfl,Nat.le_refl _,fun _ _ _=>rfl⟩⟩
 ·clear h
  generalize hLL:cs.length=n at hn H⊢;have HL:Hid (cs.length=n):=hLL;clear hLL;go_enter Tryz.func57,Tryz.ntmps57;go_wp2
  go_loopw [1,5] (fun q i wr=>∃k:Nat,k<=n/\q=.int .i64 (k0+2*k)/\i=.int .i64 k/\Hid (wr.ownsRow base 128 2 (.slice (some ⟨g,0,none⟩) n c) n ((Db k0 cs k).flatMap MC.cells)/\w.grownBy wr (some g))) (fun _ i _=>n-(intOf i).toNat)
  case atStart=>exact⟨0,by omega,by simp,rfl,H.out,⟨rfl,rfl,rfl,Nat.le_refl _,fun _ _ _=>rfl⟩⟩
  case round=>
   obtain⟨k,hk,rfl,rfl,HM⟩:=hrel;by_cases hlt:k<n
   ·obtain⟨x,hx⟩:∃x,cs[k]?=some x:=⟨_,gE (by rw[HL.out];exact hlt)⟩
    have hA:((Bg k0 k).flatMap MC.cells).length=k*2:=by rw[Az MC.cells 2 MC.cells_length,BU]
    have d0:=HM.out.1.cellAt (k*2) (by omega);have d1:=HM.out.1.cellAt (k*2+1) (by omega);rw[FP k0 cs k x hx,List.getElem?_append_right (by omega),hA]at d0 d1;rw[Nat.sub_self]at d0;rw[Nat.add_sub_cancel_left]at d1;simp only[MC.cells,List.cons_append,gZ,gS]at d0 d1;have z0:=HM.out.1.frozenAt (k*2);have z1:=HM.out.1.frozenAt (k*2+1)
    have HN:Hid (((wr.setCell ⟨g,k*2,none⟩ (.int .i64 (k0+2*k))).setCell ⟨g,k*2+1,none⟩ (.int .u32 ((k0+2*k+1) % 4294967296))).ownsRow base 128 2 (.slice (some ⟨g,0,none⟩) n c) n ((Db k0 cs (k+1)).flatMap MC.cells)/\w.grownBy ((wr.setCell ⟨g,k*2,none⟩ (.int .i64 (k0+2*k))).setCell ⟨g,k*2+1,none⟩ (.int .u32 ((k0+2*k+1) % 4294967296))) (some g)):=by
     refine⟨?_,Ii (Ii HM.out.2 _ _) _ _⟩;have s1:=((HM.out.1.stored (k*2) (.int .i64 (k0+2*k))).1.stored (k*2+1) (.int .u32 ((k0+2*k+1) % 4294967296))).1;rw[JR k0 cs k x hx]at s1;exact s1
    clear hA hx;go_wp2
    go_roundw
    case rel=>exact⟨k+1,by omega,by go_num,by go_num,HN⟩
    case measure=>simp[intOf];omega
   ·have hkn:k=n:=by omega
    subst hkn
    have HE:Hid (wr.ownsRow base 128 2 (.slice (some ⟨g,0,none⟩) k c) k ((Bg k0 k).flatMap MC.cells)/\w.grownBy wr (some g)):=by
     have:=HM.out;rw[Ki k0 cs k HL.out]at this;exact this
    go_wp2
    go_ret
    exact⟨rfl,HE.out.1,HE.out.2⟩
theorem Ez(s:Value)(n:Nat)(k0:Int)(w:World)(hn:n<=1048576)(h0:0<=k0)(h1:k0<=1152921504606846976)(h:Rd w 2 s n ((Bg k0 n).flatMap MC.cells)):
 Calls Tryz.prog 60 #[s,.int .i64 k0] w fun e w'=>e=.returned (.int .i64 (k0+2*(n:Int)))/\w'=w:=by
 have H1:=AS h;obtain⟨a1,c1,rfl⟩:=h.is_slice;clear h;go_enter Tryz.func60,Tryz.ntmps60;go_wp2
 go_loopw [1,5] (fun q i wr=>∃k:Nat,k<=n/\q=.int .i64 (k0+2*k)/\i=.int .i64 k/\wr=w) (fun _ i _=>n-(intOf i).toNat)
 case atStart=>exact⟨0,by omega,by simp,rfl,rfl⟩
 case round=>
  obtain⟨k,hk,rfl,rfl,rfl⟩:=hrel;by_cases hlt:k<n
  ·have hz:(Bg k0 n)[k]?=some ⟨k0+2*(k:Int),(k0+2*(k:Int)+1) % 4294967296⟩:=by simp[Bg,hlt]
   rcases H1.out.2 with⟨e0,_⟩|⟨g,o,c,e1,hc1⟩
   ·omega
   simp only[sJ,true_and]at e1;obtain⟨rfl,rfl⟩:=e1;have j0:=Rd.elem MC.cells_length hc1 k _ hz 0 _ rfl;have j1:=Rd.elem MC.cells_length hc1 k _ hz 1 _ rfl;rw[Nat.add_zero]at j0;clear hc1 hz;go_wp2
   go_roundw
   case rel=>exact⟨k+1,by omega,by go_num,by go_num,by trivial⟩
   case measure=>simp[intOf];omega
  ·have hkn:k=n:=by omega
   subst hkn;go_wp2
   go_ret
   exact⟨rfl,rfl⟩
end Go.Proofs.YtlejplpkomddeaaGreat
