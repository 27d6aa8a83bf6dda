import Derived.Test.YtdfmdgbolmbffaaGreatTy11
import Derived.Test.YtdfmdgbolmbffaaGreatTy13
import Derived.Test.YtdfmdgbolmbffaaGreatTy14
import Derived.Test.YtdfmdgbolmbffaaGreatTy23
import Derived.Test.YtdfmdgbolmbffaaGreatTy15
namespace Go.Proofs.YtdfmdgbolmbffaaGreat
open Go.ChangeShapes Go.WideShapes Go.ChangeAt Go.RowKit
set_option linter.unusedVariables false
set_option maxHeartbeats 4000000 in
theorem l4Of_any(v:VP)(p:MP)(g:VF)(f:MF)(x:MI)(w:World)(hs:p.small)(h3:p.regions.length=3)(hfs:f.small)(hxw:x.wf)(h:RdP w v p)(hf:RdF w g f)(hx:InstrOk p f x):
    Calls Tryz.prog 71 #[.agg #[v.r,v.k,v.f,v.t],.agg #[g.p,.int .i64 f.result,g.l,g.c],.agg #[.int .i64 x.op,.int .i64 x.a,.int .i64 x.b,.int .i64 x.c]] w (EffIs w (takesL p f x) (givesL p f x)):=by
  obtain⟨op,a,b,c⟩:=x
  have hlo:=hx.1
  have hhi:=hx.2.1
  simp only[]at hlo hhi
  have HX:Hid (InstrOk p f ⟨op,a,b,c⟩):=hx
  have hW:W64 a:=hxw.2.1
  have hcase:op=0\/op=1\/op=2\/op=3\/op=4\/op=5\/op=6\/op=7\/op=8\/op=9\/op=10\/op=11\/op=12\/op=13\/op=14\/op=15\/op=16\/op=17\/op=18\/op=19\/op=20\/op=21\/op=22\/op=23\/op=24\/op=25\/op=26\/op=27\/op=28\/op=29:=by omega
  clear hlo hhi hx hxw
  rcases hcase with rfl|rfl|rfl|rfl|rfl|rfl|rfl|rfl|rfl|rfl|rfl|rfl|rfl|rfl|rfl|rfl|rfl|rfl|rfl|rfl|rfl|rfl|rfl|rfl|rfl|rfl|rfl|rfl|rfl|rfl
  . rw[show takesL p f ⟨0,a,b,c⟩=[]from by simp[takesL],show givesL p f ⟨0,a,b,c⟩=[]from by simp[givesL]]
    exact l4Of_C v.r v.k v.f v.t g.p g.l g.c f _ 0 a b c _ _ w (by simp)
  . obtain⟨q,z,hq,hz⟩:=HX.out.const rfl
    simp only[]at hq
    subst hq
    obtain⟨ak,ck,ek⟩:=h.consts.is_slice
    rw[show takesL p f ⟨1,q,b,c⟩=[]from by simp[takesL],show givesL p f ⟨1,q,b,c⟩=[z.type]from by simp[givesL,vAt,hz],ek]
    exact l4Of_1 v.r v.f v.t g.p g.l g.c f p.consts ak ck q z b c w hs.consts (ek▸h.consts) hz
  . rw[show takesL p f ⟨2,a,b,c⟩=[]from by simp[takesL],show givesL p f ⟨2,a,b,c⟩=[localOf f a]from by simp[givesL]]
    exact l4Of_2 v.r v.k v.f v.t g f a b c w hfs hW hf
  . rw[show takesL p f ⟨3,a,b,c⟩=[localOf f a]from by simp[takesL],show givesL p f ⟨3,a,b,c⟩=[]from by simp[givesL]]
    exact l4Of_3 v.r v.k v.f v.t g f a b c w hfs hW hf
  . obtain⟨q,z,r,hq,hz,hr,ht⟩:=HX.out.cell h3 (by simp)
    simp only[]at hq hz
    subst hq hz
    obtain⟨xs,e1,e2,e3⟩:=h.regions
    obtain⟨ar,cr,er⟩:=e2.is_slice
    rw[show takesL p f ⟨4,q,z,c⟩=[]from by simp[takesL],show givesL p f ⟨4,q,z,c⟩=[cellTy p ⟨4,q,z,c⟩]from by simp[givesL],er]
    exact l4Of_4 v.k v.f v.t g.p g.l g.c f p.regions ar cr q z r _ c w hs.regions (hs.region r (List.mem_of_getElem? hr)) (er▸h.regions) hr ht
  . obtain⟨q,z,r,hq,hz,hr,ht⟩:=HX.out.cell h3 (by simp)
    simp only[]at hq hz
    subst hq hz
    obtain⟨xs,e1,e2,e3⟩:=h.regions
    obtain⟨ar,cr,er⟩:=e2.is_slice
    rw[show takesL p f ⟨5,q,z,c⟩=[cellTy p ⟨5,q,z,c⟩]from by simp[takesL],show givesL p f ⟨5,q,z,c⟩=[]from by simp[givesL],er]
    exact l4Of_5 v.k v.f v.t g.p g.l g.c f p.regions ar cr q z r _ c w hs.regions (hs.region r (List.mem_of_getElem? hr)) (er▸h.regions) hr ht
  . obtain⟨q,z,r,hq,hz,hr,ht⟩:=HX.out.cell h3 (by simp)
    simp only[]at hq hz
    subst hq hz
    obtain⟨xs,e1,e2,e3⟩:=h.regions
    obtain⟨ar,cr,er⟩:=e2.is_slice
    rw[show takesL p f ⟨6,q,z,c⟩=[3]from by simp[takesL],show givesL p f ⟨6,q,z,c⟩=[cellTy p ⟨6,q,z,c⟩]from by simp[givesL],er]
    exact l4Of_6 v.k v.f v.t g.p g.l g.c f p.regions ar cr q z r _ c w hs.regions (hs.region r (List.mem_of_getElem? hr)) (er▸h.regions) hr ht
  . obtain⟨q,z,r,hq,hz,hr,ht⟩:=HX.out.cell h3 (by simp)
    simp only[]at hq hz
    subst hq hz
    obtain⟨xs,e1,e2,e3⟩:=h.regions
    obtain⟨ar,cr,er⟩:=e2.is_slice
    rw[show takesL p f ⟨7,q,z,c⟩=[3,cellTy p ⟨7,q,z,c⟩]from by simp[takesL],show givesL p f ⟨7,q,z,c⟩=[]from by simp[givesL],er]
    exact l4Of_7 v.k v.f v.t g.p g.l g.c f p.regions ar cr q z r _ c w hs.regions (hs.region r (List.mem_of_getElem? hr)) (er▸h.regions) hr ht
  . rw[show takesL p f ⟨8,a,b,c⟩=[a,a]from by simp[takesL],show givesL p f ⟨8,a,b,c⟩=[a]from by simp[givesL]]
    exact l4Of_C v.r v.k v.f v.t g.p g.l g.c f _ 5 a b c _ _ w (by simp)
  . rw[show takesL p f ⟨9,a,b,c⟩=[a,a]from by simp[takesL],show givesL p f ⟨9,a,b,c⟩=[a]from by simp[givesL]]
    exact l4Of_C v.r v.k v.f v.t g.p g.l g.c f _ 5 a b c _ _ w (by simp)
  . rw[show takesL p f ⟨10,a,b,c⟩=[a,a]from by simp[takesL],show givesL p f ⟨10,a,b,c⟩=[a]from by simp[givesL]]
    exact l4Of_C v.r v.k v.f v.t g.p g.l g.c f _ 5 a b c _ _ w (by simp)
  . rw[show takesL p f ⟨11,a,b,c⟩=[a,a]from by simp[takesL],show givesL p f ⟨11,a,b,c⟩=[a]from by simp[givesL]]
    exact l4Of_C v.r v.k v.f v.t g.p g.l g.c f _ 5 a b c _ _ w (by simp)
  . rw[show takesL p f ⟨12,a,b,c⟩=[a,a]from by simp[takesL],show givesL p f ⟨12,a,b,c⟩=[a]from by simp[givesL]]
    exact l4Of_C v.r v.k v.f v.t g.p g.l g.c f _ 5 a b c _ _ w (by simp)
  . rw[show takesL p f ⟨13,a,b,c⟩=[a,a]from by simp[takesL],show givesL p f ⟨13,a,b,c⟩=[a]from by simp[givesL]]
    exact l4Of_C v.r v.k v.f v.t g.p g.l g.c f _ 6 a b c _ _ w (by simp)
  . rw[show takesL p f ⟨14,a,b,c⟩=[a,a]from by simp[takesL],show givesL p f ⟨14,a,b,c⟩=[a]from by simp[givesL]]
    exact l4Of_C v.r v.k v.f v.t g.p g.l g.c f _ 6 a b c _ _ w (by simp)
  . rw[show takesL p f ⟨15,a,b,c⟩=[a,a]from by simp[takesL],show givesL p f ⟨15,a,b,c⟩=[a]from by simp[givesL]]
    exact l4Of_C v.r v.k v.f v.t g.p g.l g.c f _ 6 a b c _ _ w (by simp)
  . rw[show takesL p f ⟨16,a,b,c⟩=[a]from by simp[takesL],show givesL p f ⟨16,a,b,c⟩=[a]from by simp[givesL]]
    exact l4Of_C v.r v.k v.f v.t g.p g.l g.c f _ 6 a b c _ _ w (by simp)
  . rw[show takesL p f ⟨17,a,b,c⟩=[3,3]from by simp[takesL],show givesL p f ⟨17,a,b,c⟩=[3]from by simp[givesL]]
    exact l4Of_C v.r v.k v.f v.t g.p g.l g.c f _ 0 a b c _ _ w (by simp)
  . rw[show takesL p f ⟨18,a,b,c⟩=[3,3]from by simp[takesL],show givesL p f ⟨18,a,b,c⟩=[3]from by simp[givesL]]
    exact l4Of_C v.r v.k v.f v.t g.p g.l g.c f _ 0 a b c _ _ w (by simp)
  . rw[show takesL p f ⟨19,a,b,c⟩=[2]from by simp[takesL],show givesL p f ⟨19,a,b,c⟩=[2]from by simp[givesL]]
    exact l4Of_C v.r v.k v.f v.t g.p g.l g.c f _ 0 a b c _ _ w (by simp)
  . rw[show takesL p f ⟨20,a,b,c⟩=[a,a]from by simp[takesL],show givesL p f ⟨20,a,b,c⟩=[1]from by simp[givesL]]
    exact l4Of_C v.r v.k v.f v.t g.p g.l g.c f _ 7 a b c _ _ w (by simp)
  . rw[show takesL p f ⟨21,a,b,c⟩=[a,a]from by simp[takesL],show givesL p f ⟨21,a,b,c⟩=[1]from by simp[givesL]]
    exact l4Of_C v.r v.k v.f v.t g.p g.l g.c f _ 5 a b c _ _ w (by simp)
  . rw[show takesL p f ⟨22,a,b,c⟩=[a]from by simp[takesL],show givesL p f ⟨22,a,b,c⟩=[b]from by simp[givesL]]
    exact l4Of_C v.r v.k v.f v.t g.p g.l g.c f _ 8 a b c _ _ w (by simp)
  . rw[show takesL p f ⟨23,a,b,c⟩=[0]from by simp[takesL],show givesL p f ⟨23,a,b,c⟩=[0,0]from by simp[givesL]]
    exact l4Of_C v.r v.k v.f v.t g.p g.l g.c f _ 0 a b c _ _ w (by simp)
  . rw[show takesL p f ⟨24,a,b,c⟩=[0]from by simp[takesL],show givesL p f ⟨24,a,b,c⟩=[]from by simp[givesL]]
    exact l4Of_C v.r v.k v.f v.t g.p g.l g.c f _ 0 a b c _ _ w (by simp)
  . rw[show takesL p f ⟨25,a,b,c⟩=[]from by simp[takesL],show givesL p f ⟨25,a,b,c⟩=[]from by simp[givesL]]
    exact l4Of_C v.r v.k v.f v.t g.p g.l g.c f _ 9 a b c _ _ w (by simp)
  . rw[show takesL p f ⟨26,a,b,c⟩=[1]from by simp[takesL],show givesL p f ⟨26,a,b,c⟩=[]from by simp[givesL]]
    exact l4Of_C v.r v.k v.f v.t g.p g.l g.c f _ 9 a b c _ _ w (by simp)
  . rw[show takesL p f ⟨27,a,b,c⟩=[]from by simp[takesL],show givesL p f ⟨27,a,b,c⟩=[]from by simp[givesL]]
    exact l4Of_C v.r v.k v.f v.t g.p g.l g.c f _ 10 a b c _ _ w (by simp)
  . obtain⟨q,fq,hq,hfq⟩:=HX.out.callee rfl
    simp only[]at hq
    subst hq
    obtain⟨xs,e1,e2,e3⟩:=h.funcs
    obtain⟨af,cf,ef⟩:=e2.is_slice
    rw[show takesL p f ⟨28,q,b,c⟩=fq.params from by simp[takesL,hfq],show givesL p f ⟨28,q,b,c⟩=resultL fq from by simp[givesL,hfq],ef]
    exact l4Of_28 v.r v.k v.t g.p g.l g.c f p.funcs af cf q fq b c w hs.funcs (hs.func fq (List.mem_of_getElem? hfq)) (ef▸h.funcs) hfq
  . rw[show takesL p f ⟨29,a,b,c⟩=[]from by simp[takesL],show givesL p f ⟨29,a,b,c⟩=[]from by simp[givesL]]
    exact l4Of_C v.r v.k v.f v.t g.p g.l g.c f _ 0 a b c _ _ w (by simp)
end Go.Proofs.YtdfmdgbolmbffaaGreat
