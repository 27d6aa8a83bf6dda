import Derived.Test.YtlejplpkomddeaaGreatG0
import Derived.Test.YtlejplpkomddeaaGreatG20
import Derived.Test.YtlejplpkomddeaaGreatG5
import Derived.Test.YtlejplpkomddeaaGreatG1
import Derived.Test.YtlejplpkomddeaaGreatG14
import Derived.Laws.CopyRow
namespace Go.Proofs.YtlejplpkomddeaaGreat
open Go.ChangeShapes Go.WideShapes Go.ChangeAt Go.RowKit
set_option linter.unusedVariables false
set_option maxHeartbeats 4000000
set_option maxRecDepth 100000
def NC(n:Int):Value:=if n=0 then .nilIface else .iface 201 (.int .i64 n)
def CJ(e:Ending)(p:MP):Prop:=∃n,e=.returned (NC n)/\Be p n
theorem CJ.f1{p:MP}(h:¬AE p.regions):CJ (.returned (.iface 201 (.int .i64 1))) p:=⟨1,rfl,.inl ⟨rfl,h⟩⟩
theorem CJ.f2{p:MP}(h1:AE p.regions)(h:¬A3 p.consts):CJ (.returned (.iface 201 (.int .i64 2))) p:=⟨2,rfl,.inr (.inl ⟨rfl,h1,h⟩)⟩
theorem CJ.f3{p:MP}(h1:AE p.regions/\A3 p.consts)(h:¬A5 p.funcs):CJ (.returned (.iface 201 (.int .i64 3))) p:=⟨3,rfl,.inr (.inr (.inl ⟨rfl,h1.1,h1.2,h⟩))⟩
theorem CJ.f4{p:MP}(h1:AE p.regions/\A3 p.consts)(h2:A5 p.funcs)(h:¬Cs p):CJ (.returned (.iface 201 (.int .i64 4))) p:=⟨4,rfl,.inr (.inr (.inr (.inl ⟨rfl,h1.1,h1.2,h2,h⟩)))⟩
theorem CJ.f5{p:MP}(h1:AE p.regions/\A3 p.consts)(h2:A5 p.funcs)(h3:Cs p)(h:¬Bd p):CJ (.returned (.iface 201 (.int .i64 5))) p:=⟨5,rfl,.inr (.inr (.inr (.inr (.inl ⟨rfl,h1.1,h1.2,h2,h3,h⟩))))⟩
theorem CJ.f0{p:MP}(h1:AE p.regions/\A3 p.consts)(h2:A5 p.funcs)(h3:Cs p)(h:Bd p):CJ (.returned .nilIface) p:=⟨0,rfl,.inr (.inr (.inr (.inr (.inr ⟨rfl,h1.1,h1.2,h2,h3,h⟩))))⟩
theorem Gr(v:VP)(p:MP)(w:World)(hs:p.small)(hw:p.wf)(h:Cx w v p)(hcap:Ex w v.r p.regions)(hfp:EI w v.f p.funcs):
  Calls Tryz.prog 89 #[.agg #[v.r,v.k,v.f,v.t]] w fun e w'=>CJ e p/\Below w.heap.size w w':=by
 have H:=h5 hs hw h hcap hfp;clear hs hw h hcap hfp;have HI:Hid _:=Hy.of w v.r v.k v.f v.t 45;go_enter Tryz.func89,Tryz.ntmps89;go_wp2_with fail
 refine(GM v.r p.regions _ H.out.1.regions H.out.1.region (H.out.2.2.1.regions.keep HI.out.bel lR)).mono ?_;rintro e u1 ⟨⟨b1,rfl,hb1⟩,rfl⟩;cases b1
 ·have HN:Hid (¬AE p.regions):=fun e=>by simp[e]at hb1
  clear hb1;go_wp2
  go_ret
  exact⟨.f1 HN.out,HI.out.bel⟩
 have HR:Hid (AE p.regions):=hb1.1 rfl;clear hb1;go_wp2_with fail
 refine(GY v.k p.consts _ H.out.1.consts (fun c hc=>(M7 (H.out.2.1.consts c hc).2).1) (H.out.2.2.1.consts.keep HI.out.bel lR)).mono ?_;rintro e u2 ⟨⟨b2,rfl,hb2⟩,bl2⟩;have HI2:=AM (HI.out.keep bl2);clear bl2;cases b2
 ·have HN:Hid (¬A3 p.consts):=fun e=>by simp[e]at hb2
  clear hb2;go_wp2
  go_ret
  exact⟨.f2 HR.out HN.out,HI2.out.bel⟩
 have HRC:=h2 HR.out (hb2.1 rfl);clear hb2;obtain⟨p0,p1,p2,p3⟩:=HI2.out.prog;go_wp2_with fail
 refine(In v.f p.funcs _ H.out.1.funcs H.out.1.func (H.out.2.2.1.funcs.keep HI2.out.bel lR)).mono ?_;rintro e u3 ⟨⟨b3,rfl,hb3⟩,bl3⟩;have HI3:=AM (HI2.out.keep bl3);clear bl3 p0 p1 p2 p3;cases b3
 ·have HN:Hid (¬A5 p.funcs):=fun e=>by simp[e]at hb3
  clear hb3;go_wp2
  go_ret
  exact⟨.f3 HRC.out HN.out,HI3.out.bel⟩
 have HFo:Hid (A5 p.funcs):=hb3.1 rfl;clear hb3;obtain⟨p0,p1,p2,p3⟩:=HI3.out.prog;go_wp2_with fail
 refine(H5 v p _ H.out.1 H.out.2.1 HRC.out.1 HFo.out (H.out.2.2.1.keep HI3.out.bel lR) (H.out.2.2.2.1.keep HI3.out.bel lR)).mono ?_;rintro e u4 ⟨⟨b4,rfl,hb4⟩,bl4⟩;have HI4:=AM (HI3.out.keep bl4);clear bl4 p0 p1 p2 p3;cases b4
 ·have HN:Hid (¬Cs p):=fun e=>by simp[e]at hb4
  clear hb4;go_wp2
  go_ret
  exact⟨.f4 HRC.out HFo.out HN.out,HI4.out.bel⟩
 have HCo:Hid (Cs p):=hb4.1 rfl;clear hb4;obtain⟨p0,p1,p2,p3⟩:=HI4.out.prog;go_wp2_with fail
 refine(Ii v p _ H.out.1 (H.out.2.2.1.keep HI4.out.bel lR) (H.out.2.2.2.2.keep HI4.out.bel lR)).mono ?_;rintro e u5 ⟨⟨b5,rfl,hb5⟩,bl5⟩;have HI5:Hid (Below w.heap.size w u5):=Ac HI4.out.bel lR bl5;clear bl5 p0 p1 p2 p3;cases b5
 ·have HN:Hid (¬Bd p):=fun e=>by simp[e]at hb5
  clear hb5;go_wp2
  go_ret
  exact⟨.f5 HRC.out HFo.out HCo.out HN.out,HI5.out⟩
 ·have HY:Hid (Bd p):=hb5.1 rfl
  clear hb5;go_wp2
  go_ret
  exact⟨.f0 HRC.out HFo.out HCo.out HY.out,HI5.out⟩
theorem NG{w:World}{base:Nat}{e:TypeId}{s:Value}{k n:Nat}{xs:List Value}(h:w.ownsRow base e k s n xs):∃a c,s=.slice a n c/\n<=c:=by
 rcases h.2 with⟨rfl,rfl⟩|⟨g,cap,cur,rfl,_,_,hc,_⟩
 ·exact⟨_,_,rfl,Nat.le_refl _⟩
 ·exact⟨_,_,rfl,hc⟩
theorem Ha{w:World}{base:Nat}{e:TypeId}{s:Value}{k n:Nat}{xs:List Value}(h:w.ownsRow base e k s n xs):Cg s:=by
 rcases h.2 with⟨rfl,rfl⟩|⟨g,cap,cur,rfl,_⟩
 ·exact .inl rfl
 ·exact .inr ⟨_,_,_,rfl⟩
theorem ES.rdc{w:World}{base:Nat}{s:Value}{rs:List (List Int)}(h:ES w base s rs):Ex w s rs:=by
 obtain⟨xs,h1,h2,h3⟩:=h;exact⟨xs,h1,Rd.of_own h2,fun x hx=>⟨Rd.of_own (h3 x hx),NG (h3 x hx)⟩⟩
theorem Dr.rdp{w:World}{base:Nat}{s:Value}{fs:List MF}(h:Dr w base s fs):EI w s fs:=by
 obtain⟨xs,h1,h2,h3⟩:=h;exact⟨xs,h1,Rd.of_own h2,fun x hx=>⟨(h3 x hx).rd,Ha (h3 x hx).1,Ha (h3 x hx).2.1⟩⟩
theorem Gk{P:Program}{ops:Array Oper}{rest:List Oper}{o:Oper}{a:Act}{w:World}{Q:Exit->Act->World->Prop}(hgd:o.guard=none)(ty:TypeId)(x y:Operand)(ho:o.op=.store ty x y)
  (g off:Nat) (cells:Array Value) (hx:a.eval x=.pointer (some ⟨g,off,none⟩)) (hy:a.eval y=.agg cells)
  (t:TypeId) (cur:Array Value) (hg:w.heap[g]?=some (.cells cur t (0,0))) (hi:(P.info? ty).map (·.size)=some cells.size)
  (hfit:off+cells.size<=cur.size) (h1:cells.all (·.oneCell')=true)
  (h:wpList P ops Q rest (a.put o.dst undef) (w.setRow g (cur.toList.take off++cells.toList++cur.toList.drop (off+cells.size)).toArray)):wpList P ops Q (o::rest) a w:=
 wpList_plain hgd fun K hK=>by
  have hst:(storeVar ty ⟨g,off,none⟩ (.agg cells)).run P w=.ok () (w.setRow g (cur.toList.take off++cells.toList++cur.toList.drop (off+cells.size)).toArray):=by
   have:=run_storeCells_at P g off t cells.toList 0 cur w hg (by simpa using hfit) (fun v hv=>(Array.all_eq_true_iff_forall_mem.1 h1) v (by simpa using hv));cases hq:P.info? ty with
   |none=>simp[hq]at hi
   |some i=>
    have hs:cells.size=i.size:=by simp[hq]at hi;omega
    simp[storeVar,sizeOf,typeInfo,hq,Value.cells,hs]at this⊢;exact this
  unfold Oper.wp execOp;simp only[ho,hx,hy,Instr.storeAt,Instr.sureAddr,Sem.run_bind,Sem.run_pure,Result.andThen_ok,hst];exact hK _ _ h
def BZ(v:VP)(r:MF×(VF×Value)):List Value:=[v.r,v.k,v.f,v.t,r.2.1.p,.int .i64 r.1.result,r.2.1.l,r.2.1.c,r.2.2]
theorem Bt(v:VP)(r:MF×(VF×Value)):(BZ v r).length=9:=rfl
def Bv(u:World)(A B:Nat)(v:VP)(fs:List MF)(hv:Value)(H:List (MF×(VF×Value))):Prop:=H.map Prod.fst=fs/\u.ownsRow A 167 9 hv H.length (H.flatMap (BZ v))/\∀r∈H,(∀u',Below B u u'->CK u' r.2.1 r.1)/\u.ownsRow A 2 1 r.2.2 (r.1.params.length+r.1.locals.length) ((r.1.params++r.1.locals).flatMap Af)
def DW(u:World)(B:Nat)(v:VP)(p:MP)(hv:Value):Prop:=∃H,Bv u B B v p.funcs hv H
theorem Bv.keep{u u':World}{A B:Nat}{v:VP}{fs:List MF}{hv:Value}{H:List (MF×(VF×Value))}(h:Bv u A B v fs hv H)(hB:B<=u.heap.size)(hb:Below u.heap.size u u'):Bv u' A B v fs hv H:=by
 obtain⟨h1,h2,h3⟩:=h;exact⟨h1,Ai h2 hb lR,fun r hr=>⟨fun u2 hu2=>(h3 r hr).1 u2 ((hb.mono hB).trans hu2),Ai (h3 r hr).2 hb lR⟩⟩
theorem Bv.far{u:World}{A B M:Nat}{v:VP}{fs:List MF}{hv:Value}{H:List (MF×(VF×Value))}(h:Bv u A B v fs hv H){cur:Array Value}(hm:Aq u M cur 94)(hM:B<=M)(i:Nat)(z:Value):Bv (u.setCell ⟨M,i,none⟩ z) A B v fs hv H:=by
 obtain⟨h1,h2,h3⟩:=h;exact⟨h1,EJ h2 hm (by decide),fun r hr=>⟨fun u2 hu2=>(h3 r hr).1 u2 (((Below.refl B u).setCell hM z).trans hu2),EJ (h3 r hr).2 hm (by decide)⟩⟩
theorem Bv.push{u u6 u8:World}{A B:Nat}{v:VP}{fs:List MF}{hv b:Value}{H:List (MF×(VF×Value))}(h:Bv u A B v fs hv H)(hA:B<=A)(hB:B<=u.heap.size)(hb:Below u.heap.size u u6){x:MF×(VF×Value)}(hx:∀u',Below B u u'->CK u' x.2.1 x.1)(hl:u6.ownsRow A 2 1 x.2.2 (x.1.params.length+x.1.locals.length) ((x.1.params++x.1.locals).flatMap Af))(hg:u6.grownBy u8 hv.ownBlock)(ho:u8.ownsRow A 167 9 b (H.length+1) (H.flatMap (BZ v)++BZ v x)):Bv u8 A B v (fs++[x.1]) b (H++[x]):=by
 obtain⟨h1,h2,h3⟩:=h.keep hB hb;have hB6:B<=u6.heap.size:=Nat.le_trans hB hb.size;have b8:Below B u6 u8:=(Below.refl B u6).grown hg hB6 (fun k hk=>Nat.le_trans hA (h2.lt k hk).1)
 have ap:∀{s:Value} {n:Nat} {xs:List Value},u6.ownsRow A 2 1 s n xs->u8.ownsRow A 2 1 s n xs:=fun{s n xs} hs=>Bl hs hg (fun g hgs e=>by
  rcases h2.2 with⟨e1,_⟩|⟨g1,cap,cur,e1,_,hg1,_⟩
  ·rw[e1]at e;cases e
  ·rw[e1]at e
   simp only[Value.ownBlock,Option.some.injEq]at e;subst e;exact AL hs hg1 (by decide) g hgs rfl)
 refine⟨by rw[List.map_append,h1];rfl,?_,fun r hr=> ?_⟩
 ·rw[List.length_append,List.flatMap_append]
  simpa using ho
 ·simp only[List.mem_append,List.mem_singleton]at hr
  rcases hr with hr|rfl
  ·exact⟨fun u2 hu2=>(h3 r hr).1 u2 (b8.trans hu2),ap (h3 r hr).2⟩
  ·exact⟨fun u2 hu2=>hx u2 (((hb.mono hB).trans b8).trans hu2),ap hl⟩
theorem Bv.base{u:World}{A A' B:Nat}{v:VP}{fs:List MF}{hv:Value}{H:List (MF×(VF×Value))}(h:Bv u A B v fs hv H)(hA:A'<=A):Bv u A' B v fs hv H:=⟨h.1,AA h.2.1 hA,fun r hr=>⟨(h.2.2 r hr).1,AA (h.2.2 r hr).2 hA⟩⟩
theorem Bv.row{u:World}{A B M:Nat}{v:VP}{fs:List MF}{hv:Value}{H:List (MF×(VF×Value))}(h:Bv u A B v fs hv H){cur:Array Value}(hm:Aq u M cur 94)(hM:B<=M)(cs:Array Value):Bv (u.setRow M cs) A B v fs hv H:=by
 obtain⟨h1,h2,h3⟩:=h
 have key:∀{e:TypeId} {k n:Nat} {s:Value} {xs:List Value},u.ownsRow A e k s n xs->e≠94->(u.setRow M cs).ownsRow A e k s n xs:=fun{e k n s xs} ho hne=>by
  refine⟨ho.1,?_⟩;rcases ho.2 with h4|⟨g,cap,cu,e1,hb1,hg,hr⟩
  ·exact .inl h4
  ·refine .inr ⟨g,cap,cu,e1,hb1,?_,hr⟩
   rw[setRow_other u M g cs (fun e=>AL ho hm hne g (by rw[e1];rfl) e)];exact hg
 exact⟨h1,key h2 (by decide),fun r hr=>⟨fun u2 hu2=>(h3 r hr).1 u2 ((below_setRow (Below.refl B u) hM cs).trans hu2),key (h3 r hr).2 (by decide)⟩⟩
structure Nb(cur:Array Value)(t:Int)(d:Bool)(c n:Int)(X:VS)(hv:Value):Prop where
 c0:cur[0]?=some (.int .i64 t)
 c1:cur[1]?=some (.bool d)
 c2:cur[2]?=some (.int .i64 c)
 c3:cur[3]?=some (.int .i64 n)
 c4:cur[4]?=some X.c
 c5:cur[5]?=some X.k
 c6:cur[6]?=some X.f
 c7:cur[7]?=some hv
 rows:∀k v,BA[k]?=some v->cur[8+k]?=some v
 size:cur.size=158
def Bq(t:Int)(d:Bool)(c n:Int)(X:VS):Array Value:=#[.int .i64 t,.bool d,.int .i64 c,.int .i64 n,X.c,X.k,X.f,.slice none 0 0]++BA++Gl
theorem Gd:BA.size=120:=by kernel_rfl
theorem Il:Gl.size=30:=by kernel_rfl
theorem FI(M:Nat):(BF M).size=30:=by kernel_rfl
theorem Nb.start(t:Int)(d:Bool)(c n:Int)(X:VS):Nb (Bq t d c n X) t d c n X (.slice none 0 0):=by
 have h0:=Gd;have h1:=Il;refine⟨?_,?_,?_,?_,?_,?_,?_,?_,fun k v hk=> ?_,by simp[Bq,h0,h1]⟩;all_goals try(unfold Bq;rw[Array.append_assoc,Array.getElem?_append_left (by simp)];rfl)
 have hlt:k<120:=by
  have:=(Array.getElem?_eq_some_iff.1 hk).1;omega
 unfold Bq;rw[Array.append_assoc,Array.getElem?_append_right (by simp),Array.getElem?_append_left (by simp;omega)];simpa using hk
theorem Nb.setH{cur:Array Value}{t:Int}{d:Bool}{c n:Int}{X:VS}{hv:Value}(h:Nb cur t d c n X hv)(z:Value):Nb (cur.setIfInBounds 7 z) t d c n X z:=by
 have hs:=h.size
 have ne:∀{j:Nat} {v:Value},7≠j->cur[j]?=some v->(cur.setIfInBounds 7 z)[j]?=some v:=fun{j v} hj h=>by
  rw[Array.getElem?_setIfInBounds_ne hj];exact h
 exact⟨ne (by omega) h.c0,ne (by omega) h.c1,ne (by omega) h.c2,ne (by omega) h.c3,ne (by omega) h.c4,ne (by omega) h.c5,ne (by omega) h.c6,by simp[hs],fun k v hk=>ne (by omega) (h.rows k v hk),by simp[hs]⟩
theorem Nb.acts{cur:Array Value}{t:Int}{d:Bool}{c n:Int}{X:VS}{hv:Value}(h:Nb cur t d c n X hv)(M:Nat):Nb (cur.toList.take 128++(BF M).toList++cur.toList.drop (128+(BF M).size)).toArray t d c n X hv/\∀k,k<30->((cur.toList.take 128++(BF M).toList++cur.toList.drop (128+(BF M).size)).toArray)[128+k]?=(BF M)[k]?:=by
 have hs:=h.size;have ha:=FI M
 have lo:∀{j:Nat} {v:Value},j<128->cur[j]?=some v->((cur.toList.take 128++(BF M).toList++cur.toList.drop (128+(BF M).size)).toArray)[j]?=some v:=fun{j v} hj h=>by
  rw[gA,List.append_assoc,List.getElem?_append_left (by simp;omega),List.getElem?_take_of_lt hj];simpa using h
 refine⟨⟨lo (by omega) h.c0,lo (by omega) h.c1,lo (by omega) h.c2,lo (by omega) h.c3,lo (by omega) h.c4,lo (by omega) h.c5,lo (by omega) h.c6,lo (by omega) h.c7,fun k v hk=>lo (by
  have:=(Array.getElem?_eq_some_iff.1 hk).1;rw[Gd]at this;omega) (h.rows k v hk),by simp[ha,hs]⟩,fun k hk=> ?_⟩
 have hl:(cur.toList.take 128).length=128:=by rw[List.length_take,Array.length_toList,hs];rfl
 rw[gA,List.append_assoc,List.getElem?_append_right (by omega),hl,Nat.add_sub_cancel_left,List.getElem?_append_left (by rw[Array.length_toList,ha];exact hk)];simp
end Go.Proofs.YtlejplpkomddeaaGreat
