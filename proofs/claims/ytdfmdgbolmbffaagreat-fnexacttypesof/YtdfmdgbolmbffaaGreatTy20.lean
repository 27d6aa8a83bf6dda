import Derived.Test.YtdfmdgbolmbffaaGreatTy19
import Derived.Lib.AppendZerosOnto
import Derived.Lib.AppendZeros
import Derived.Laws.Append
import Derived.Test.YtdfmdgbolmbffaaGreatTy18
import Derived.Test.YtdfmdgbolmbffaaGreatTy3
import Derived.Deep.AppendLies
import Derived.Deep.RegionLaw
import Derived.Maps.AppendAt
import Derived.Deep.DeepCutAuto
import Derived.Test.YtdfmdgbolmbffaaGreatTy11
namespace Go.Proofs.YtdfmdgbolmbffaaGreat
open Go.ChangeShapes Go.WideShapes Go.ChangeAt Go.RowKit
set_option linter.unusedVariables false
set_option maxHeartbeats 4000000 in
set_option maxRecDepth 100000 in
theorem codeHolds_any(v:VP)(p:MP)(w:World)(hs:p.small)(hw:p.wf)(hp:RegionsOk p.regions)(hfo:FuncsOk p.funcs)(h:RdP w v p)(hcap:RdRc w v.r p.regions):
    Calls Tryz.prog 108 #[.agg #[v.r,v.k,v.f,v.t]] w fun e w'=>SaysIff e (CodeOk p)/\Below w.heap.size w w':=by
  obtain⟨xs,ys,hP⟩:=Pg.of hs hw h
  obtain⟨vr,vk,vf,vt⟩:=v
  simp only[]at hP
  obtain⟨r3,c3,e3⟩:=hP.fr.is_slice
  have hm:=hs.funcs
  subst e3
  have HH:Hid (RegionsOk p.regions/\FuncsOk p.funcs/\RdRc w vr p.regions):=⟨hp,hfo,hcap⟩
  clear hs hw h hp hfo hcap
  obtain⟨rr1,cc1,evr⟩:=hP.rr.is_slice
  obtain⟨rr2,cc2,evk⟩:∃a c,vk=.slice a p.consts.length c:=hP.rd.consts.is_slice
  obtain⟨rr4,cc4,evt⟩:∃a c,vt=.slice a p.certs.length c:=hP.rd.certs.is_slice
  subst evr evk evt
  have HP:Hid _:=hP
  clear hP
  have HI:Hid _:=In1.of w (.slice rr1 p.regions.length cc1) (.slice rr2 p.consts.length cc2) (.slice r3 p.funcs.length c3) (.slice rr4 p.certs.length cc4) 36
  generalize hM:p.funcs.length=m at*
  have HL:Hid (p.funcs.length=m):=hM
  clear hM
  have HP:Hid (Pg w (.slice rr1 p.regions.length cc1) (.slice rr2 p.consts.length cc2) (.slice r3 m c3) (.slice rr4 p.certs.length cc4) p xs ys):=HP
  go_enter Tryz.func108,Tryz.ntmps108
  go_wp2
  go_loopw [11] (fun i wr=>∃k:Nat,k<=m/\i=.int .i64 k/\Hid (∀j,j<k->∀f,p.funcs[j]?=some f->FuncCodeOk p f)/\Hid (In1 w wr (.slice rr1 p.regions.length cc1) (.slice rr2 p.consts.length cc2) (.slice r3 m c3) (.slice rr4 p.certs.length cc4))) (fun i _=>m-(intOf i).toNat)
  case atStart=>exact⟨0,by omega,rfl,fun j hj=>by omega,HI⟩
  case round=>
    clear HI
    obtain⟨k,hk,rfl,HT,HI⟩:=hrel
    by_cases hlt:k<m
    . obtain ⟨⟨f,v⟩,hx⟩:∃x,ys[k]?=some x:=⟨_,List.getElem?_eq_getElem (by rw[HP.out.fl,HL.out];exact hlt)⟩
      have e1:=fst_at HP.out.fm hx
      have HX:Hid (RdF w v f/\f.small/\p.funcs[k]?=some f/\f.wf/\FuncOk f):=⟨HP.out.fe _ (List.mem_of_getElem? hx),HP.out.small.func _ (List.mem_of_getElem? e1),e1,HP.out.wf.funcs _ (List.mem_of_getElem? e1),HH.out.2.1.2.2.1 k (by rw[HL.out];exact hlt) _ e1⟩
      clear e1
      rcases HP.out.fr.2 with⟨e0,_⟩|⟨b,o,c,e1,hc1⟩
      . rw[HL.out]at e0
        omega
      rw[HL.out]at e1
      simp only[Value.slice.injEq,true_and]at e1
      obtain⟨rfl,rfl⟩:=e1
      have i0:=Rd.elem fCells_length hc1 k _ hx 0 _ rfl
      have i1:=Rd.elem fCells_length hc1 k _ hx 1 _ rfl
      have i2:=Rd.elem fCells_length hc1 k _ hx 2 _ rfl
      have i3:=Rd.elem fCells_length hc1 k _ hx 3 _ rfl
      rw[<-HI.out.bel.cell (block_lt_of_cell i0),Nat.add_zero]at i0
      rw[<-HI.out.bel.cell (block_lt_of_cell i1)]at i1
      rw[<-HI.out.bel.cell (block_lt_of_cell i2)]at i2
      rw[<-HI.out.bel.cell (block_lt_of_cell i3)]at i3
      clear hc1 hx
      simp only[]at i0 i1 i2 i3
      obtain⟨ap,cp,ep⟩:=HX.out.1.1.is_slice
      obtain⟨al,cl,el⟩:=HX.out.1.2.1.is_slice
      obtain⟨ac,cc,ec⟩:=HX.out.1.2.2.is_slice
      obtain⟨vp,vl,vc⟩:=v
      simp only[]at ep el ec i0 i1 i2 i3
      subst ep el ec
      obtain⟨p0,p1,p2,p3⟩:=HI.out.prog
      have nb:¬b=wr.heap.size:=Nat.ne_of_lt (block_lt_of_cell i0)
      have mb:b<wr.heap.size:=block_lt_of_cell i0
      have np:¬w.heap.size=wr.heap.size:=Nat.ne_of_lt HI.out.prog.lt
      have mp:w.heap.size<wr.heap.size:=HI.out.prog.lt
      have hz:=HX.out.2.1.2.2
      have HS:Hid (In1 w ((wr.alloc (.cells #[.slice ap f.params.length cp,.int .i64 f.result,.slice al f.locals.length cl,.slice ac f.code.length cc] 63)).alloc (.cells #[(.slice rr1 p.regions.length cc1),(.slice rr2 p.consts.length cc2),.slice (some ⟨b,o,none⟩) m c3,(.slice rr4 p.certs.length cc4),.slice ap f.params.length cp,.int .i64 f.result,.slice al f.locals.length cl,.slice ac f.code.length cc] 85)) (.slice rr1 p.regions.length cc1) (.slice rr2 p.consts.length cc2) (.slice (some ⟨b,o,none⟩) m c3) (.slice rr4 p.certs.length cc4)/\At8 ((wr.alloc (.cells #[.slice ap f.params.length cp,.int .i64 f.result,.slice al f.locals.length cl,.slice ac f.code.length cc] 63)).alloc (.cells #[(.slice rr1 p.regions.length cc1),(.slice rr2 p.consts.length cc2),.slice (some ⟨b,o,none⟩) m c3,(.slice rr4 p.certs.length cc4),.slice ap f.params.length cp,.int .i64 f.result,.slice al f.locals.length cl,.slice ac f.code.length cc] 85)) (wr.heap.size+1) (.slice rr1 p.regions.length cc1) (.slice rr2 p.consts.length cc2) (.slice (some ⟨b,o,none⟩) m c3) (.slice rr4 p.certs.length cc4) (.slice ap f.params.length cp) (.int .i64 f.result) (.slice al f.locals.length cl) (.slice ac f.code.length cc)):=by
        refine⟨HI.out.keep (below_on (below_alloc _ _) (Nat.le_refl _) (below_alloc _ _)),?_⟩
        have:=At8.new (wr.alloc (.cells #[.slice ap f.params.length cp,.int .i64 f.result,.slice al f.locals.length cl,.slice ac f.code.length cc] 63)) (.slice rr1 p.regions.length cc1) (.slice rr2 p.consts.length cc2) (.slice (some ⟨b,o,none⟩) m c3) (.slice rr4 p.certs.length cc4) (.slice ap f.params.length cp) (.int .i64 f.result) (.slice al f.locals.length cl) (.slice ac f.code.length cc) 85
        simpa using this
      go_wp2
      clear p0 p1 p2 p3 i0 i1 i2 i3 nb mb np mp
      generalize hZ:f.code.length=z at*
      have HZ:Hid (f.code.length=z):=hZ
      clear hZ
      generalize wr.heap.size+1=SB at HS⊢
      go_loopw [21] (fun i wr2=>∃q:Nat,q<=z/\i=.int .i64 q/\Hid (∀j,j<q->∀x,f.code[j]?=some x->InstrOk p f x)/\Hid (In1 w wr2 (.slice rr1 p.regions.length cc1) (.slice rr2 p.consts.length cc2) (.slice (some ⟨b,o,none⟩) m c3) (.slice rr4 p.certs.length cc4)/\At8 wr2 SB (.slice rr1 p.regions.length cc1) (.slice rr2 p.consts.length cc2) (.slice (some ⟨b,o,none⟩) m c3) (.slice rr4 p.certs.length cc4) (.slice ap f.params.length cp) (.int .i64 f.result) (.slice al f.locals.length cl) (.slice ac z cc))) (fun i _=>z-(intOf i).toNat)
      case atStart=>exact⟨0,by omega,rfl,fun j hj=>by omega,HS⟩
      case round=>
        clear HS
        obtain⟨q,hq,rfl,HTT,HS⟩:=hrel
        by_cases hlq:q<z
        . obtain⟨x,hx⟩:∃x,f.code[q]?=some x:=⟨_,List.getElem?_eq_getElem (by rw[HZ.out];exact hlq)⟩
          have hxw:=HX.out.2.2.2.1.code x (List.mem_of_getElem? hx)
          rcases HX.out.1.2.2.2 with⟨e0,_⟩|⟨b',o',c',e1,hc2⟩
          . rw[HZ.out]at e0
            omega
          rw[HZ.out]at e1
          simp only[Value.slice.injEq,true_and]at e1
          obtain⟨rfl,rfl⟩:=e1
          have j0:=Rd.elem MI.cells_length hc2 q x hx 0 _ rfl
          have j1:=Rd.elem MI.cells_length hc2 q x hx 1 _ rfl
          have j2:=Rd.elem MI.cells_length hc2 q x hx 2 _ rfl
          have j3:=Rd.elem MI.cells_length hc2 q x hx 3 _ rfl
          rw[<-HS.out.1.bel.cell (block_lt_of_cell j0),Nat.add_zero]at j0
          rw[<-HS.out.1.bel.cell (block_lt_of_cell j1)]at j1
          rw[<-HS.out.1.bel.cell (block_lt_of_cell j2)]at j2
          rw[<-HS.out.1.bel.cell (block_lt_of_cell j3)]at j3
          have HXX:Hid (f.code[q]?=some x/\x.wf):=⟨hx,hxw⟩
          clear hc2 hx hxw
          obtain⟨xo,xa,xb,xc⟩:=x
          simp only[]at j0 j1 j2 j3
          obtain⟨s0,s1,s2,s3,s4,s5,s6,s7⟩:=HS.out.2
          have nb:¬b'=wr.heap.size:=Nat.ne_of_lt (block_lt_of_cell j0)
          have mb:b'<wr.heap.size:=block_lt_of_cell j0
          have np:¬SB=wr.heap.size:=Nat.ne_of_lt HS.out.2.lt
          have mp:SB<wr.heap.size:=HS.out.2.lt
          go_wp2_with fail
          have bA:=below_alloc wr (.cells #[.int .i64 xo,.int .i64 xa,.int .i64 xb,.int .i64 xc] 73)
          have bW:=below_on HS.out.1.bel (Nat.le_refl _) bA
          refine(holds_any ⟨(.slice rr1 p.regions.length cc1),(.slice rr2 p.consts.length cc2),.slice (some ⟨b,o,none⟩) m c3,(.slice rr4 p.certs.length cc4)⟩ p ⟨.slice ap f.params.length cp,.slice al f.locals.length cl,.slice (some ⟨b',o',none⟩) z cc⟩ f xo xa xb xc _ HP.out.small HH.out.1 HX.out.2.2.2.2 HX.out.2.1 HXX.out.2.2.1 HXX.out.2.2.2.1 HXX.out.2.2.2.2 (HP.out.rd.keep bW (Nat.le_refl _)) (HH.out.2.2.keep bW (Nat.le_refl _)) (HX.out.1.keep bW (Nat.le_refl _))).mono ?_
          rintro e u4 ⟨⟨b4,rfl,hb4⟩,bl4⟩
          have bU:=below_on bA (Nat.le_refl _) bl4
          have HS2:Hid (In1 w u4 (.slice rr1 p.regions.length cc1) (.slice rr2 p.consts.length cc2) (.slice (some ⟨b,o,none⟩) m c3) (.slice rr4 p.certs.length cc4)/\At8 u4 SB (.slice rr1 p.regions.length cc1) (.slice rr2 p.consts.length cc2) (.slice (some ⟨b,o,none⟩) m c3) (.slice rr4 p.certs.length cc4) (.slice ap f.params.length cp) (.int .i64 f.result) (.slice al f.locals.length cl) (.slice (some ⟨b',o',none⟩) z cc)):=⟨HS.out.1.keep bU,HS.out.2.keep bU⟩
          clear bA bW bl4 bU HS j0 j1 j2 j3 s0 s1 s2 s3 s4 s5 s6 s7 nb mb np mp
          cases b4
          . have HN:Hid (¬CodeOk p):=fun e=>by
              have:=e k (by rw[HL.out];exact hlt) f HX.out.2.2.1 q (by rw[HZ.out];exact hlq) _ HXX.out.1
              simp[this]at hb4
            clear hb4
            go_wp2
            go_ret
            exact⟨.no HN.out,HS2.out.1.bel⟩
          . have HOK:Hid (InstrOk p f ⟨xo,xa,xb,xc⟩):=hb4.1 rfl
            clear hb4
            go_wp2
            go_roundw
            case rel=>exact⟨q+1,by omega,by go_num,upto_next HXX.out.1 HOK.out HTT.out,HS2⟩
            case measure=>simp[intOf];omega
        . have hqz:z=q:=by omega
          subst hqz
          have HFC:Hid (FuncCodeOk p f):=fun j hj x hx=>HTT.out j (by rw[<-HZ.out];exact hj) x hx
          go_wp2
          go_roundw
          case rel=>exact⟨k+1,by omega,by go_num,upto_next HX.out.2.2.1 HFC.out HT.out,HS.out.1⟩
          case measure=>simp[intOf];omega
    . have hkn:m=k:=by omega
      subst hkn
      have HCo:Hid (CodeOk p):=fun j hj f hf=>HT.out j (by rw[<-HL.out];exact hj) f hf
      go_wp2
      go_ret
      exact⟨.yes HCo.out,HI.out.bel⟩
end Go.Proofs.YtdfmdgbolmbffaaGreat
namespace Go.Proofs.YtdfmdgbolmbffaaGreat
open Go.ChangeShapes Go.WideShapes Go.ChangeAt Go.RowKit
set_option linter.unusedVariables false
def Placed(v:Value):Prop:=v=.slice none 0 0\/∃ad n c,v=.slice (some ad) n c
set_option maxHeartbeats 1000000 in
theorem rises_any(x y:MT)(w:World):
    Calls Tryz.prog 135 #[.agg #[.int .i64 x.func,.int .i64 x.head,.int .i64 x.counter,.int .u32 x.init],.agg #[.int .i64 y.func,.int .i64 y.head,.int .i64 y.counter,.int .u32 y.init]] w fun e w'=>SaysIff e (Rises x y)/\Below w.heap.size w w':=by
  have HB:Hid (Below w.heap.size w ((w.alloc (.cells #[.int .i64 x.func,.int .i64 x.head,.int .i64 x.counter,.int .u32 x.init] 100)).alloc (.cells #[.int .i64 y.func,.int .i64 y.head,.int .i64 y.counter,.int .u32 y.init] 100))):=below_on (below_alloc _ _) (Nat.le_refl _) (below_alloc _ _)
  go_enter Tryz.func135,Tryz.ntmps135
  go_wp2
  all_goals(go_ret;refine⟨SaysIff.of ?_,by first|exact HB.out|(rw[‹x.func=y.func›]at HB;exact HB.out)⟩;go_light;unfold Rises;simp_all<;>omega)
end Go.Proofs.YtdfmdgbolmbffaaGreat
namespace Go.Proofs.YtdfmdgbolmbffaaGreat
open Go.ChangeShapes Go.WideShapes Go.ChangeAt Go.RowKit
set_option linter.unusedVariables false
theorem own_empty(w:World)(cur:Array Value)(e:TypeId)(G:Nat)(h:cur.size=G)(hG:G<=maxLen):(w.alloc (.cells cur e)).drew.ownsRow w.heap.size e 1 (.slice (some ⟨w.heap.size,0,none⟩) 0 G) 0 []:=
  ⟨rfl,.inr ⟨w.heap.size,G,cur,rfl,Nat.le_refl _,Array.getElem?_push_size,Nat.zero_le _,hG,by omega,by simp⟩⟩
set_option maxHeartbeats 1000000 in
set_option maxRecDepth 100000 in
theorem grow_nil(n:Nat)(w:World)(hn:n<=4194304):
    Calls Tryz.prog 173 #[.slice none 0 0,.int .i64 n] w fun e w'=>∃v,e=.returned v/\w'.ownsRow w.heap.size 2 1 v 0 []/\Below w.heap.size w w':=by
  obtain⟨i0,hi,hz0,hz1,hz2⟩:=info_parts info64
  by_cases q0:n=0
  . subst q0
    go_enter Tryz.func173,Tryz.ntmps173
    go_wp2
    go_ret
    exact⟨_,rfl,World.ownsRow_nil _ _ _ _,Below.refl _ _⟩
  . have q1:(0:Int)<(n:Int):=by omega
    have hold:(Builtin.firstCells i0.size 0 (.slice none 0 0)).run Tryz.prog w.drew=.ok (([]:List Value).toArray) w.drew:=run_firstCells_none w.drew i0.size 0 0 0
    have hrz:∀ty,(Builtin.append_ #[48,3] ty #[.slice none 0 0,.int .i64 n]).run Tryz.prog w=.ok (.slice (some ⟨w.heap.size,0,none⟩) (0+n) (grownCap w (0+n) 0 2)) (w.drew.alloc (.cells (([]:List Value).toArray++Builtin.zeroCells (Value.int .i64 0).cells n++Builtin.zeroCells (Value.int .i64 0).cells (grownCap w (0+n) 0 2-(0+n))) 2)):=fun ty=>
      Lib.run_append_grow_zeros w 48 3 ty 2 i0 (.int .i64 0) .i64 .i64 Tryz.underlying48 Tryz.underlying3 hi hz0 none 0 0 [] hold n (by omega) (by rw[hz1];omega) (by omega) (by omega) (by rw[hz2];omega) (growslice_fits (by omega) (by rw[hz2];omega))
    have hG1:=grownCap_ge w (0+n) 0 2
    have hG2:=grownCap_le_maxLen w (0+n) 0 2 (by unfold maxLen;omega)
    generalize grownCap w (0+n) 0 2=G at hrz hG1 hG2
    have HG:Hid (G<=maxLen):=hG2
    unfold maxLen at hG2
    go_enter Tryz.func173,Tryz.ntmps173
    go_wp2_with (at_builtin;refine Lib.wpList_append_run _ rfl _ _ _ _ rfl _ _ rfl rfl _ _ (hrz _) ?_)
    all_goals
      go_ret
      exact⟨_,rfl,own_empty w _ _ G (by simp[Builtin.zeroCells];omega) HG.out,below_on (below_alloc _ _) (Nat.le_refl _) (below_drew1 _)⟩
end Go.Proofs.YtdfmdgbolmbffaaGreat
namespace Go.Proofs.YtdfmdgbolmbffaaGreat
open Go.ChangeShapes Go.WideShapes Go.ChangeAt Go.RowKit
set_option linter.unusedVariables false
theorem Rd.placed{w:World}{ad:Addr}{n c:Nat}{xs:List Int}(h:Rd w 1 (.slice (some ad) n c) n (xs.flatMap intCell)):∀j u,(xs.flatMap intCell)[j]?=some u->w.cell? (ad.add j)=some u:=by
  intro j u hj
  rcases h.2 with⟨rfl,_⟩|⟨g,o,c',e,hc⟩
  . have:=(List.getElem?_eq_some_iff.1 hj).1
    rw[h.1]at this
    omega
  . simp only[Value.slice.injEq,Option.some.injEq,true_and]at e
    obtain⟨rfl,rfl⟩:=e
    rw[Addr.add_lit]
    exact hc j u hj
theorem ints_oneCell(xs:List Int):∀u∈xs.flatMap intCell,u.oneCell'=true:=by
  intro u hu
  obtain⟨x,_,hx⟩:=List.mem_flatMap.1 hu
  simp[intCell]at hx
  subst hx
  rfl
theorem own_none{w:World}{base:Nat}{e:TypeId}{v:Value}{xs:List Int}{n:Nat}(h:w.ownsRow base e 1 v n (xs.flatMap intCell))(ys:List Int)(hy:ys.length=0):w.ownsRow base e 1 v (n+ys.length) ((xs++ys).flatMap intCell):=by
  obtain rfl:=List.eq_nil_of_length_eq_zero hy
  simpa using h
theorem below_row{B:Nat}{w u u':World}{e:TypeId}{v:Value}{n:Nat}{xs:List Value}(h:Below B w u)(ho:u.ownsRow w.heap.size e 1 v n xs)(hB:B<=w.heap.size)(hg:u.grownBy u' v.ownBlock):Below B w u':=
  h.grown hg (Nat.le_trans hB h.size) (fun k hk=>Nat.le_trans hB (ho.lt k hk).1)
set_option maxHeartbeats 2000000 in
set_option maxRecDepth 100000 in
theorem concat2_any(g:Nat)(s1 s2:Value)(xs ys:List Int)(w:World)(hx:xs.length<=1048576)(hy:ys.length<=1048576)(h1:Rd w 1 s1 xs.length (xs.flatMap intCell))(h2:Rd w 1 s2 ys.length (ys.flatMap intCell))(k1:Placed s1)(k2:Placed s2)
    (g0:w.cell? ⟨g,0,none⟩=some s1) (g1:w.cell? ⟨g,1,none⟩=some s2):
    Calls Tryz.prog 151 #[.slice (some ⟨g,0,none⟩) 2 2] w fun e w'=>∃v,e=.returned v/\w'.ownsRow w.heap.size 2 1 v (xs.length+ys.length) ((xs++ys).flatMap intCell)/\Below w.heap.size w w':=by
  have H:Hid (xs.length<=1048576/\ys.length<=1048576/\Rd w 1 s1 xs.length (xs.flatMap intCell)/\Rd w 1 s2 ys.length (ys.flatMap intCell)/\Placed s1/\Placed s2):=⟨hx,hy,h1,h2,k1,k2⟩
  obtain⟨a1,c1,rfl⟩:=h1.is_slice
  obtain⟨a2,c2,rfl⟩:=h2.is_slice
  clear h1 h2 k1 k2
  obtain⟨i0,hi,hz0,hz1,hz2⟩:=info_parts info64
  have HG:Hid (w.cell? ⟨g,0,none⟩=some (.slice a1 xs.length c1)/\w.cell? ⟨g,1,none⟩=some (.slice a2 ys.length c2)):=⟨g0,g1⟩
  go_enter Tryz.func151,Tryz.ntmps151
  go_wp2
  go_loopw [3,11] (fun s c wr=>((c=.int .i64 0/\s=.int .i64 0)\/(c=.int .i64 1/\s=.int .i64 (xs.length:Int))\/(c=.int .i64 2/\s=.int .i64 ((xs.length+ys.length:Nat):Int)))/\wr=w) (fun _ c _=>2-(intOf c).toNat)
  case atStart=>exact⟨.inl ⟨rfl,rfl⟩,rfl⟩
  case round=>
    obtain⟨hc,rfl⟩:=hrel
    rcases hc with⟨rfl,rfl⟩|⟨rfl,rfl⟩|⟨rfl,rfl⟩
    . go_wp2
      go_roundw
      case rel=>exact⟨.inr (.inl ⟨rfl,by simp⟩),by trivial⟩
      case measure=>simp[intOf]
    . go_wp2
      go_roundw
      case rel=>exact⟨.inr (.inr ⟨rfl,by simp⟩),by trivial⟩
      case measure=>simp[intOf]
    . go_wp2_with fail
      refine(grow_nil (xs.length+ys.length) _ (by omega)).mono ?_
      rintro e u1 ⟨v0,rfl,own0,bl0⟩
      have HO:Hid (u1.ownsRow wr.heap.size 2 1 v0 0 []/\Below wr.heap.size wr u1):=⟨own0,bl0⟩
      clear own0 bl0 g0 g1
      obtain⟨W,hWe⟩:∃W,W=wr:=⟨_,rfl⟩
      subst hWe
      go_wp2
      go_loopw [6,27] (fun v c wr=>((c=.int .i64 0/\Hid (wr.ownsRow W.heap.size 2 1 v 0 ([]:List Value)))\/(c=.int .i64 1/\Hid (wr.ownsRow W.heap.size 2 1 v (0+xs.length) (([]++xs).flatMap intCell)))\/(c=.int .i64 2/\Hid (wr.ownsRow W.heap.size 2 1 v (xs.length+ys.length) ((xs++ys).flatMap intCell))))/\Hid (Below W.heap.size W wr)) (fun _ c _=>2-(intOf c).toNat)
      case atStart=>exact⟨.inl ⟨rfl,HO.out.1⟩,HO.out.2⟩
      case round=>
        clear HO
        obtain⟨hc,HB⟩:=hrel
        have g0:=HG.out.1
        have g1:=HG.out.2
        rw[<-HB.out.cell (block_lt_of_cell g0)]at g0
        rw[<-HB.out.cell (block_lt_of_cell g1)]at g1
        rcases hc with⟨rfl,HO⟩|⟨rfl,HO⟩|⟨rfl,HO⟩
        . rcases H.out.2.2.2.2.1 with e|⟨ad,n',c',e⟩
          . simp only[Value.slice.injEq]at e
            obtain⟨rfl,e2,rfl⟩:=e
            have hN:Hid (xs.length=0):=e2
            rw[e2]at g0
            have hr:∀ty,(Builtin.append_ #[48,48] ty #[u6,.slice none 0 0]).run Tryz.prog wr=.ok u6 wr:=fun ty=>run_append_owned_none (P:=Tryz.prog) wr W.heap.size 48 ty 2 i0 1 Tryz.underlying48 hi u6 _ _ HO.out
            clear e2
            go_wp2_with (at_builtin;refine Lib.wpList_append_run _ rfl _ _ _ _ rfl _ _ rfl rfl _ _ (hr _) ?_)
            go_roundw
            case rel=>exact⟨.inr (.inl ⟨rfl,own_none (xs:=[]) HO.out xs hN.out⟩),HB⟩
            case measure=>simp[intOf]
          . simp only[Value.slice.injEq]at e
            obtain⟨rfl,e2,rfl⟩:=e
            have HR:Hid (Rd wr 1 (.slice (some ad) xs.length c1) xs.length (xs.flatMap intCell)):=H.out.2.2.1.keep HB.out (Nat.le_refl _)
            clear e2
            go_wp2_with (at_builtin;refine wpList_append_own _ rfl _ _ 48 rfl W.heap.size 2 i0 (.int .i64 0) 1 8 Tryz.underlying48 hi hz0 hz1 hz2 rfl (by decide) _ _ _ rfl HO.out ad xs.length c1 (xs.flatMap intCell) rfl ?c1 ?c2 ?c3 ?c4 ?c5 ?c6 ?_)
            case c1=>rw[flat_length intCell 1 intCell_length]
            case c2=>exact HR.out.placed
            case c3=>exact ints_oneCell _
            case c4=>unfold maxLen;omega
            case c5=>omega
            case c6=>exact HB.out.size
            intro v' w' hown' hgrow' hnil'
            have HO2:Hid (w'.ownsRow W.heap.size 2 1 v' (0+xs.length) (([]++xs).flatMap intCell)):=by show World.ownsRow _ _ _ _ _ _ _;simpa using hown'
            have HB2:Hid (Below W.heap.size W w'):=below_row HB.out HO.out (Nat.le_refl _) hgrow'
            clear hown' hgrow' hnil'
            go_wp2
            go_roundw
            case rel=>exact⟨.inr (.inl ⟨rfl,HO2⟩),HB2⟩
            case measure=>simp[intOf]
        . rcases H.out.2.2.2.2.2 with e|⟨ad,n',c',e⟩
          . simp only[Value.slice.injEq]at e
            obtain⟨rfl,e2,rfl⟩:=e
            have hN:Hid (ys.length=0):=e2
            rw[e2]at g1
            have hr:∀ty,(Builtin.append_ #[48,48] ty #[u6,.slice none 0 0]).run Tryz.prog wr=.ok u6 wr:=fun ty=>run_append_owned_none (P:=Tryz.prog) wr W.heap.size 48 ty 2 i0 1 Tryz.underlying48 hi u6 _ _ HO.out
            clear e2
            go_wp2_with (at_builtin;refine Lib.wpList_append_run _ rfl _ _ _ _ rfl _ _ rfl rfl _ _ (hr _) ?_)
            go_roundw
            case rel=>exact⟨.inr (.inr ⟨rfl,by have:=own_none (xs:=[]++xs) HO.out ys hN.out;simpa[Hid]using this⟩),HB⟩
            case measure=>simp[intOf]
          . simp only[Value.slice.injEq]at e
            obtain⟨rfl,e2,rfl⟩:=e
            have HR:Hid (Rd wr 1 (.slice (some ad) ys.length c2) ys.length (ys.flatMap intCell)):=H.out.2.2.2.1.keep HB.out (Nat.le_refl _)
            clear e2
            go_wp2_with (at_builtin;refine wpList_append_own _ rfl _ _ 48 rfl W.heap.size 2 i0 (.int .i64 0) 1 8 Tryz.underlying48 hi hz0 hz1 hz2 rfl (by decide) _ _ _ rfl HO.out ad ys.length c2 (ys.flatMap intCell) rfl ?c1 ?c2 ?c3 ?c4 ?c5 ?c6 ?_)
            case c1=>rw[flat_length intCell 1 intCell_length]
            case c2=>exact HR.out.placed
            case c3=>exact ints_oneCell _
            case c4=>unfold maxLen;omega
            case c5=>omega
            case c6=>exact HB.out.size
            intro v' w' hown' hgrow' hnil'
            have HO2:Hid (w'.ownsRow W.heap.size 2 1 v' (xs.length+ys.length) ((xs++ys).flatMap intCell)):=by show World.ownsRow _ _ _ _ _ _ _;simpa using hown'
            have HB2:Hid (Below W.heap.size W w'):=below_row HB.out HO.out (Nat.le_refl _) hgrow'
            clear hown' hgrow' hnil'
            go_wp2
            go_roundw
            case rel=>exact⟨.inr (.inr ⟨rfl,HO2⟩),HB2⟩
            case measure=>simp[intOf]
        . go_wp2
          go_ret
          exact⟨_,rfl,HO.out,HB.out⟩
end Go.Proofs.YtdfmdgbolmbffaaGreat
namespace Go.Proofs.YtdfmdgbolmbffaaGreat
open Go.ChangeShapes Go.WideShapes Go.ChangeAt Go.RowKit
set_option linter.unusedVariables false
structure Stk(w:World)(S:Nat)(V:Value)(xs:List Int):Prop where
  blk:Blk w S #[V] 207
  own:w.ownsRow (S+1) 2 1 V xs.length (xs.flatMap intCell)
theorem Stk.keep{w w':World}{S:Nat}{V:Value}{xs:List Int}(h:Stk w S V xs)(hb:Below w.heap.size w w'):Stk w' S V xs:=⟨h.blk.keep hb,own_keep h.own hb (Nat.le_refl _)⟩
theorem height_any(S:Nat)(V:Value)(xs:List Int)(w:World)(h:Stk w S V xs):Calls Tryz.prog 121 #[.pointer (some ⟨S,0,none⟩)] w fun e w'=>e=.returned (.int .i64 (xs.length:Int))/\w'=w:=by
  obtain⟨a1,c1,rfl⟩:=own_slice h.own
  have c0:=h.blk.cell 0
  simp only[List.getElem?_toArray,List.getElem?_cons_zero]at c0
  clear h
  go_enter Tryz.func121,Tryz.ntmps121
  go_wp2
  go_ret
  exact⟨rfl,rfl⟩
set_option maxHeartbeats 1000000 in
theorem isJust_any(S:Nat)(V vs:Value)(xs ys:List Int)(w:World)(h:Stk w S V xs)(hv:Rd w 1 vs ys.length (ys.flatMap intCell))(hx:xs.length<=1048576)(hy:ys.length<=1048576):Calls Tryz.prog 126 #[.pointer (some ⟨S,0,none⟩),vs] w fun e w'=>SaysIff e (xs=ys)/\Below w.heap.size w w':=by
  have c0:=h.blk.cell 0
  simp only[List.getElem?_toArray,List.getElem?_cons_zero]at c0
  have H:Hid (Stk w S V xs/\Rd w 1 vs ys.length (ys.flatMap intCell)/\xs.length<=1048576/\ys.length<=1048576):=⟨h,hv,hx,hy⟩
  obtain⟨a1,c1,rfl⟩:=own_slice h.own
  obtain⟨a2,c2,rfl⟩:=hv.is_slice
  clear h hv hx hy
  go_enter Tryz.func126,Tryz.ntmps126
  go_wp2_with fail
  refine(slicesEq64_any _ _ xs ys w H.out.2.2.1 H.out.2.2.2 (Rd.of_own H.out.1.own) H.out.2.1).mono ?_
  rintro e u ⟨⟨b,rfl,hb⟩,m,rfl⟩
  have HB:Hid (b=true↔xs=ys):=hb
  clear hb
  go_wp2
  go_ret
  exact⟨⟨b,rfl,HB.out⟩,below_drewN _ _ _⟩
def PushT(w:World)(S:Nat)(V:Value)(zs:List Int)(w':World):Prop:=∃V',Stk w' S V' zs/\Chg (fun j=>j=S\/V.ownBlock=some j) w w'/\(V'.ownBlock=V.ownBlock\/∀g,V'.ownBlock=some g->w.heap.size<=g)
theorem Stk.lt{w:World}{S:Nat}{V:Value}{xs:List Int}(h:Stk w S V xs):∀g,V.ownBlock=some g->S<g/\g<w.heap.size:=fun g hg=>by have:=h.own.lt g hg;omega
theorem append_nothing{P:Program}{w:World}(base:Nat)(t ty e:TypeId)(i:TypeInfo)(size:Nat)(ht:P.underlying t=some (.slice e))(hi:P.info? e=some i)(v:Value)(n:Nat)(xs:List Value)(hown:w.ownsRow base e size v n xs)(c:Nat):(Builtin.append_ #[t,t] ty #[v,.slice none 0 c]).run P w=.ok v w:=by
  rcases hown.2 with⟨rfl,rfl⟩|⟨g,cap,cur,rfl,_,_,hnc,_⟩
  . simp[Builtin.append_,run_underlying ht,sizeOf,typeInfo,hi,Builtin.lenOf,Builtin.firstCells]
  . simp[Builtin.append_,run_underlying ht,sizeOf,typeInfo,hi,Builtin.lenOf,Builtin.firstCells,hnc,storeCells]
theorem PushT.of{w w5:World}{S:Nat}{V V':Value}{xs ys:List Int}(h:Stk w S V xs)(hown:w5.ownsRow (S+1) 2 1 V' (xs.length+ys.length) (xs.flatMap intCell++ys.flatMap intCell))(hgrow:w.grownBy w5 V.ownBlock)(hat:V'.ownBlock=V.ownBlock\/V'.ownBlock=some w.heap.size):PushT w S V (xs++ys) (w5.setCell ⟨S,0,none⟩ V'):=by
  have hb:=h.blk.grown hgrow h.own (by decide)
  have hl:(xs++ys).length=xs.length+ys.length:=List.length_append
  refine⟨V',⟨by have:=hb.set 0 V';simpa using this,?_⟩,?_,?_⟩
  . rw[hl,List.flatMap_append]
    exact ownsRow_setCell_below hown (by simp only[];omega) _
  . exact(Chg.grown (R:=fun j=>j=S\/V.ownBlock=some j) (Chg.refl _ _) hgrow (fun k hk e=>.inr e.symm)).setCell (.inl (.inl rfl)) _
  . exact hat.imp_right fun e g hg=>by rw[e]at hg;cases hg;exact Nat.le_refl _
set_option maxHeartbeats 2000000 in
set_option maxRecDepth 100000 in
theorem pushT_any(S:Nat)(V vs:Value)(xs ys:List Int)(w:World)(h:Stk w S V xs)(hv:Rd w 1 vs ys.length (ys.flatMap intCell))(hx:xs.length<=1048576)(hy:ys.length<=1048576):Calls Tryz.prog 146 #[.pointer (some ⟨S,0,none⟩),vs] w fun e w'=>e=.returned (.tuple #[])/\PushT w S V (xs++ys) w':=by
  obtain⟨i0,hi,hz0,hz1,hz2⟩:=info_parts info64
  obtain⟨a1,c1,rfl⟩:=own_slice h.own
  have HS:Hid (Stk w S (.slice a1 xs.length c1) xs):=h
  have c0:=h.blk.cell 0
  have f0:=h.blk.frozen 0
  have hS:S+1<=w.heap.size:=h.blk.lt
  simp only[List.getElem?_toArray,List.getElem?_cons_zero]at c0
  obtain⟨a2,c2,rfl⟩:=hv.is_slice
  cases a2 with
  | none=>
    have hz:ys.length=0:=by
      rcases hv.2 with⟨e0,_⟩|⟨g,o,c,e1,_⟩
      . exact e0
      . cases e1
    have hy0:ys=[]:=List.eq_nil_of_length_eq_zero hz
    subst hy0
    have hr:∀ty,(Builtin.append_ #[48,48] ty #[.slice a1 xs.length c1,.slice none 0 c2]).run Tryz.prog w=.ok (.slice a1 xs.length c1) w:=fun ty=>append_nothing (P:=Tryz.prog) (S+1) 48 ty 2 i0 1 Tryz.underlying48 hi _ _ _ h.own c2
    have HP:Hid (PushT w S (.slice a1 xs.length c1) (xs++[]) (w.setCell ⟨S,0,none⟩ (.slice a1 xs.length c1))):=PushT.of h (by simpa using h.own) ⟨rfl,rfl,rfl,Nat.le_refl _,fun _ _ _=>rfl⟩ (.inl rfl)
    clear h hv hy hz
    rw[List.length_nil]
    go_enter Tryz.func146,Tryz.ntmps146
    go_wp2_with (at_builtin;refine Lib.wpList_append_run _ rfl _ _ _ _ rfl _ _ rfl rfl _ _ (hr _) ?_)
    refine bodyPost_end (v:=.tuple #[]) (by kernel_rfl) rfl ?_
    exact⟨rfl,HP.out⟩
  | some ad=>
    have HN:Hid (∀j u,(ys.flatMap intCell)[j]?=some u->w.cell? (ad.add j)=some u):=fun j u hj=>by
      rcases hv.2 with⟨e0,_⟩|⟨g,o,c,e1,hc⟩
      . have:ys=[]:=List.eq_nil_of_length_eq_zero e0
        subst this
        simp at hj
      . simp only[Value.slice.injEq,Option.some.injEq]at e1
        obtain⟨rfl,_⟩:=e1
        rw[add_at]
        exact hc j u hj
    clear h hv
    generalize hyl:ys.length=m at hy⊢
    have HM:Hid (ys.length=m):=hyl
    clear hyl
    go_enter Tryz.func146,Tryz.ntmps146
    go_wp2_with (at_builtin;refine wpList_append_own_at _ rfl _ _ 48 rfl (S+1) 2 i0 (.int .i64 0) 1 8 Tryz.underlying48 hi hz0 hz1 hz2 rfl (by decide) _ xs.length (xs.flatMap intCell) rfl HS.out.own ad m c2 (ys.flatMap intCell) rfl (by rw[flat_length intCell 1 intCell_length,HM.out]) HN.out (ints_oneCell _) (by simp[maxLen];omega) (by omega) hS ?_;intro v5 w5 hown hgrow hnil hat;have HP:Hid (PushT w S (.slice a1 xs.length c1) (xs++ys) (w5.setCell ⟨S,0,none⟩ v5)):=PushT.of HS.out (by rw[HM.out];exact hown) hgrow hat;have hb5:=HS.out.blk.grown hgrow HS.out.own (by decide);have k0:=hb5.cell 0;have k1:=hb5.frozen 0;simp only[List.getElem?_toArray,List.getElem?_cons_zero]at k0;obtain⟨a5,c5,e5⟩:=own_slice hown;subst e5;clear hown hgrow hnil hat hb5)
    refine bodyPost_end (v:=.tuple #[]) (by kernel_rfl) rfl ?_
    exact⟨rfl,HP.out⟩
set_option maxHeartbeats 2000000 in
set_option maxRecDepth 100000 in
theorem stackOf_any(vs:Value)(ys:List Int)(w:World)(hv:Rd w 1 vs ys.length (ys.flatMap intCell))(hy:ys.length<=1048576):Calls Tryz.prog 118 #[vs] w fun e w'=>e=.returned (.pointer (some ⟨w.heap.size,0,none⟩))/\(∃V,Stk w' w.heap.size V ys)/\Below w.heap.size w w':=by
  have E0:Hid (Stk (w.alloc (.cells #[.slice none 0 0] 207)) w.heap.size (.slice none 0 0) []/\Below w.heap.size w (w.alloc (.cells #[.slice none 0 0] 207))):=⟨⟨Blk.new _ _ _,World.ownsRow_nil _ _ _ _⟩,below_alloc _ _⟩
  have H:Hid (Rd w 1 vs ys.length (ys.flatMap intCell)/\ys.length<=1048576):=⟨hv,hy⟩
  clear hv hy
  go_enter Tryz.func118,Tryz.ntmps118
  go_wp2_with fail
  refine(pushT_any w.heap.size (.slice none 0 0) vs [] ys _ E0.out.1 (H.out.1.keep E0.out.2 (Nat.le_refl _)) (by simp) H.out.2).mono ?_
  rintro e u ⟨rfl,V',hs,hc,_⟩
  have E1:Hid (Stk u w.heap.size V' ys/\Below w.heap.size w u):=⟨hs,E0.out.2.trans (hc.below E0.out.2.size (fun k hk e=>by
    rcases e with e|e
    . omega
    . cases e))⟩
  clear hs hc E0
  go_wp2_with fail
  go_ret
  exact⟨rfl,⟨V',E1.out.1⟩,E1.out.2⟩
end Go.Proofs.YtdfmdgbolmbffaaGreat
namespace Go.Proofs.YtdfmdgbolmbffaaGreat
open Go.ChangeShapes Go.WideShapes Go.ChangeAt Go.RowKit
set_option linter.unusedVariables false
def PopT(w:World)(S:Nat)(V:Value)(sh ts:List Int)(V2:Value)(c:Int)(w':World):Prop:=
  (sh.length<ts.length/\c=1/\Below w.heap.size w w')\/(ts.length<=sh.length/\fitsT (sh.drop (sh.length-ts.length)) ts=false/\c=2/\Below w.heap.size w w')\/
  (ts.length<=sh.length/\fitsT (sh.drop (sh.length-ts.length)) ts=true/\c=0/\(∃V',Stk w' S V' (sh.take (sh.length-ts.length))/\V'.ownBlock=V.ownBlock)/\w'.ownsRow w.heap.size 2 1 V2 ts.length ((sh.drop (sh.length-ts.length)).flatMap intCell)/\Chg (fun j=>j=S) w w')
theorem Stk.short{w:World}{S:Nat}{a:Option Addr}{n c m:Nat}{xs:List Int}(h:Stk w S (.slice a n c) xs)(hm:m<=xs.length)(hn:n=xs.length):w.ownsRow (S+1) 2 1 (.slice a m c) m ((xs.take m).flatMap intCell):=by
  subst hn
  have h1:=h.own
  have hmk:m*1<=xs.length*1:=by omega
  refine⟨by rw[flat_length intCell 1 intCell_length,List.length_take,Nat.min_eq_left hm],?_⟩
  rcases h1.2 with⟨e1,e2⟩|⟨g,cap,cur,e1,hb,hg,hnc,hcm,hcs,ht⟩
  . have hz:m=0:=by omega
    subst hz
    simp only[Value.slice.injEq]at e1
    obtain⟨rfl,_,rfl⟩:=e1
    exact .inl ⟨rfl,rfl⟩
  . simp only[Value.slice.injEq,true_and]at e1
    obtain⟨rfl,rfl⟩:=e1
    refine .inr ⟨g,c,cur,rfl,hb,hg,by omega,hcm,hcs,?_⟩
    have e:(xs.take m).flatMap intCell=(xs.flatMap intCell).take (m*1):=by
      rw[<-ht,List.take_take,Nat.min_eq_left hmk]
      have h2:xs.flatMap intCell=(xs.take m).flatMap intCell++(xs.drop m).flatMap intCell:=by rw[<-List.flatMap_append,List.take_append_drop]
      have h3:cur.toList.take (m*1)=(xs.flatMap intCell).take (m*1):=by rw[<-ht,List.take_take,Nat.min_eq_left hmk]
      rw[h3,h2]
      exact(List.take_left' (by rw[flat_length intCell 1 intCell_length,List.length_take,Nat.min_eq_left hm])).symm
    rw[e,<-ht,List.take_take,Nat.min_eq_left hmk]
theorem Stk.tail{w:World}{S g n c:Nat}{xs:List Int}(h:Stk w S (.slice (some ⟨g,0,none⟩) n c) xs)(lo:Nat)(c':Nat)(hn:lo<=xs.length):Rd w 1 (.slice (some ⟨g,lo,none⟩) (xs.length-lo) c') (xs.length-lo) ((xs.drop lo).flatMap intCell):=by
  refine⟨by rw[flat_length intCell 1 intCell_length,List.length_drop],.inr ⟨g,lo,c',rfl,fun j u hj=> ?_⟩⟩
  rcases(Rd.of_own h.own).2 with⟨e,_,_,e2⟩|⟨g',o,c2,e,hc⟩
  . have:xs=[]:=List.eq_nil_of_length_eq_zero e
    subst this
    simp at hj
  . simp only[Value.slice.injEq,Option.some.injEq,Addr.mk.injEq]at e
    obtain⟨⟨rfl,rfl,_⟩,_⟩:=e
    have h2:xs.flatMap intCell=(xs.take lo).flatMap intCell++(xs.drop lo).flatMap intCell:=by rw[<-List.flatMap_append,List.take_append_drop]
    have h3:(xs.flatMap intCell)[lo+j]?=some u:=by
      rw[h2,List.getElem?_append_right (by rw[flat_length intCell 1 intCell_length,List.length_take,Nat.min_eq_left hn];omega),flat_length intCell 1 intCell_length,List.length_take,Nat.min_eq_left hn]
      rw[show lo+j-lo*1=j by omega]
      exact hj
    have:=hc (lo+j) u h3
    rw[Nat.zero_add]at this
    exact this
theorem Stk.shrink{w:World}{S:Nat}{a:Option Addr}{n c m:Nat}{xs:List Int}(h:Stk w S (.slice a n c) xs)(hm:m<=xs.length)(hn:n=xs.length):Stk (w.setCell ⟨S,0,none⟩ (.slice a m c)) S (.slice a m c) (xs.take m):=by
  refine⟨by have:=h.blk.set 0 (.slice a m c);simpa using this,?_⟩
  rw[List.length_take,Nat.min_eq_left hm]
  exact ownsRow_setCell_below (h.short hm hn) (by simp only[];omega) _
set_option maxHeartbeats 4000000 in
set_option maxRecDepth 100000 in
theorem popT_any(S:Nat)(V vw:Value)(sh ts:List Int)(w:World)(h:Stk w S V sh)(hw:Rd w 1 vw ts.length (ts.flatMap intCell))(hx:sh.length<=1048576)(hy:ts.length<=1048576):Calls Tryz.prog 148 #[.pointer (some ⟨S,0,none⟩),vw] w fun e w'=>∃V2 c,e=.returned (.tuple #[V2,.int .i64 c])/\PopT w S V sh ts V2 c w':=by
  obtain⟨a2,c2,rfl⟩:=hw.is_slice
  have H:Hid (Stk w S V sh/\Rd w 1 (.slice a2 ts.length c2) ts.length (ts.flatMap intCell)/\sh.length<=1048576/\ts.length<=1048576):=⟨h,hw,hx,hy⟩
  clear h hw
  by_cases hlt:sh.length<ts.length
  . have HL:Hid (sh.length<ts.length):=hlt
    have hneg:(sh.length:Int)-(ts.length:Int)<0:=by omega
    clear hlt
    go_enter Tryz.func148,Tryz.ntmps148
    go_wp2_with fail
    refine(height_any S V sh w H.out.1).mono ?_
    rintro e u ⟨rfl,rfl⟩
    go_wp2_with fail
    go_ret2
    exact⟨_,1,rfl,.inl ⟨HL.out,rfl,Below.refl _ _⟩⟩
  . obtain ⟨lo,hlo⟩:∃lo,sh.length=lo+ts.length:=⟨sh.length-ts.length,by omega⟩
    have HLO:Hid (sh.length=lo+ts.length):=hlo
    have hnn:¬(lo:Int)<0:=by omega
    have HSL:Hid (sh.length-ts.length=lo):=by show sh.length-ts.length=lo;omega
    rcases own_row H.out.1.own with⟨e,e0⟩|⟨g,c,e⟩
    . subst e
      have hsh:sh=[]:=List.eq_nil_of_length_eq_zero e0
      subst hsh
      have hts:ts=[]:=List.eq_nil_of_length_eq_zero (by simp at hlt;omega)
      subst hts
      clear hlo hlt hnn e0 HLO HSL hx hy
      rw[List.length_nil]
      have c0:=H.out.1.blk.cell 0
      have f0:=H.out.1.blk.frozen 0
      simp only[List.getElem?_toArray,List.getElem?_cons_zero]at c0
      go_enter Tryz.func148,Tryz.ntmps148
      go_wp2_with fail
      refine(height_any S _ [] w H.out.1).mono ?_
      rintro e u ⟨rfl,rfl⟩
      rw[List.length_nil]
      go_wp2_with fail
      refine(clone64_any _ 0 [] u (by omega) (fun u hu=>by cases hu) ⟨rfl,.inl ⟨rfl,_,_,rfl⟩⟩).mono ?_
      rintro e u1 ⟨a3,c3,rfl,ho,hb⟩
      have HO:Hid (u1.ownsRow u.heap.size 2 1 (.slice a3 0 c3) 0 []/\Below u.heap.size u u1):=⟨ho,hb⟩
      clear ho hb c0 f0
      go_wp2_with fail
      refine(eqFits_any _ _ [] [] u1 (by simp) (by simp) ⟨rfl,.inl ⟨rfl,_,_,rfl⟩⟩ ⟨rfl,.inl ⟨rfl,_,_,rfl⟩⟩).mono ?_
      rintro e u2 ⟨⟨b2,rfl,hb2⟩,bl2⟩
      have hbt:b2=true:=hb2.2 rfl
      subst hbt
      have H2:Hid (u2.ownsRow u.heap.size 2 1 (.slice a3 0 c3) 0 []/\Below u.heap.size u u2):=⟨own_keep HO.out.1 bl2 (Nat.le_refl _),below_on HO.out.2 (Nat.le_refl _) bl2⟩
      clear hb2 bl2 HO
      have HK:=(H.out.1.keep H2.out.2).blk
      have c0:=HK.cell 0
      have f0:=HK.frozen 0
      simp only[List.getElem?_toArray,List.getElem?_cons_zero]at c0
      have HP:Hid (Stk (u2.setCell ⟨S,0,none⟩ (.slice none 0 0)) S (.slice none 0 0) []/\(u2.setCell ⟨S,0,none⟩ (.slice none 0 0)).ownsRow u.heap.size 2 1 (.slice a3 0 c3) 0 []/\Chg (fun j=>j=S) u (u2.setCell ⟨S,0,none⟩ (.slice none 0 0))):=⟨(H.out.1.keep H2.out.2).shrink (m:=0) (by simp) rfl,ownsRow_setCell_below H2.out.1 H.out.1.blk.lt _,(Chg.of (R:=fun j=>j=S) H2.out.2).setCell (.inl rfl) _⟩
      clear HK
      go_wp2_with fail
      go_ret2
      exact⟨_,0,rfl,.inr (.inr ⟨Nat.le_refl _,rfl,rfl,⟨.slice none 0 0,HP.out.1,rfl⟩,HP.out.2.1,HP.out.2.2⟩)⟩
    . subst e
      have hcp:sh.length<=c:=by
        rcases H.out.1.own.2 with⟨e,_⟩|⟨g',cap,cur,e,_,_,hnc,_⟩
        . cases e
        . simp only[Value.slice.injEq,Option.some.injEq,Addr.mk.injEq]at e
          obtain⟨_,_,rfl⟩:=e
          exact hnc
      have c0:=H.out.1.blk.cell 0
      have f0:=H.out.1.blk.frozen 0
      simp only[List.getElem?_toArray,List.getElem?_cons_zero]at c0
      rw[hlo]at c0 hcp hx
      have HT:Hid (∀c',Rd w 1 (.slice (some ⟨g,lo,none⟩) ts.length c') ts.length ((sh.drop lo).flatMap intCell)):=fun c'=>by
        have:=H.out.1.tail lo c' (by omega)
        rw[show sh.length-lo=ts.length by omega]at this
        exact this
      clear hlo hlt
      generalize htl:ts.length=m at c0 hcp hx hy HT⊢
      have HTL:Hid (ts.length=m):=htl
      clear htl
      have hcI:(lo:Int)<=(c:Int):=by omega
      have hcI2:(lo:Int)+(m:Int)<=(c:Int):=by omega
      go_enter Tryz.func148,Tryz.ntmps148
      go_wp2_with fail
      refine(height_any S _ sh w H.out.1).mono ?_
      rintro e u ⟨rfl,rfl⟩
      rw[HLO.out,HTL.out]
      have HDL:Hid ((sh.drop lo).length=m):=by show(sh.drop lo).length=m;rw[List.length_drop,HLO.out,HTL.out];omega
      go_upto_region 4 with fail
      go_cut [7] (fun s wx=>∃a c',s=.slice a m c'/\Hid (wx.ownsRow u.heap.size 2 1 (.slice a m c') m ((sh.drop lo).flatMap intCell)/\Below u.heap.size u wx))
      case first=>
        go_wp2_with fail
        all_goals
          refine(clone64_any _ m ((sh.drop lo).flatMap intCell) u (by omega) (ints_oneCell _) (by
            first
              |exact HT.out _
              |exact⟨by rw[flat_length intCell 1 intCell_length,HDL.out],.inl ⟨by omega,_,_,by rw[show m=0 by omega]⟩⟩)).mono ?_
          rintro e u1 ⟨a3,c3,rfl,ho,hb⟩
          have HO:Hid (u1.ownsRow u.heap.size 2 1 (.slice a3 m c3) m ((sh.drop lo).flatMap intCell)/\Below u.heap.size u u1):=⟨ho,hb⟩
          clear ho hb
          go_wp2_with fail
          go_meet
          exact⟨_,_,rfl,HO⟩
      case rest=>
        obtain⟨a3,c3,rfl,HO⟩:=hcut
        clear c0 f0
        obtain⟨W1,hW1⟩:∃W,W=wc:=⟨_,rfl⟩
        subst hW1
        go_wp2_with fail
        refine(eqFits_any _ _ (sh.drop lo) ts W1 (by rw[HDL.out];omega) H.out.2.2.2 (by rw[HDL.out];exact Rd.of_own HO.out.1) (by have:=H.out.2.1.keep HO.out.2 (Nat.le_refl _);rw[HTL.out]at this⊢;exact this)).mono ?_
        rintro e u2 ⟨⟨b2,rfl,hb2⟩,bl2⟩
        have H2:Hid ((b2=true↔fitsT (sh.drop lo) ts=true)/\u2.ownsRow u.heap.size 2 1 (.slice a3 m c3) m ((sh.drop lo).flatMap intCell)/\Below u.heap.size u u2):=⟨hb2,own_keep HO.out.1 bl2 (Nat.le_refl _),below_on HO.out.2 (Nat.le_refl _) bl2⟩
        clear hb2 bl2 HO
        cases b2
        . have HN:Hid (fitsT (sh.drop lo) ts=false):=by
            cases hf:fitsT (sh.drop lo) ts with
            |false=>rfl
            |true=>have:=H2.out.1.2 hf;cases this
          go_wp2_with fail
          go_ret2
          exact⟨_,2,rfl,.inr (.inl ⟨by have:=HLO.out;omega,by rw[HSL.out];exact HN.out,rfl,H2.out.2.2⟩)⟩
        . have HY:Hid (fitsT (sh.drop lo) ts=true):=H2.out.1.1 rfl
          have HK:=(H.out.1.keep H2.out.2.2).blk
          have c0:=HK.cell 0
          have f0:=HK.frozen 0
          simp only[List.getElem?_toArray,List.getElem?_cons_zero]at c0
          rw[HLO.out,HTL.out]at c0
          have HP:Hid (Stk (u2.setCell ⟨S,0,none⟩ (.slice (some ⟨g,0,none⟩) lo c)) S (.slice (some ⟨g,0,none⟩) lo c) (sh.take lo)/\(u2.setCell ⟨S,0,none⟩ (.slice (some ⟨g,0,none⟩) lo c)).ownsRow u.heap.size 2 1 (.slice a3 m c3) m ((sh.drop lo).flatMap intCell)/\Chg (fun j=>j=S) u (u2.setCell ⟨S,0,none⟩ (.slice (some ⟨g,0,none⟩) lo c))):=⟨(H.out.1.keep H2.out.2.2).shrink (by have:=HLO.out;omega) rfl,ownsRow_setCell_below H2.out.2.1 H.out.1.blk.lt _,(Chg.of (R:=fun j=>j=S) H2.out.2.2).setCell (.inl rfl) _⟩
          clear HK
          go_wp2_with fail
          go_ret2
          refine⟨_,0,rfl,.inr (.inr ⟨by have:=HLO.out;omega,by rw[HSL.out];exact HY.out,rfl,⟨.slice (some ⟨g,0,none⟩) lo c,?_,rfl⟩,?_,HP.out.2.2⟩)⟩
          . rw[HSL.out]
            exact HP.out.1
          . rw[HSL.out,HTL.out]
            exact HP.out.2.1
end Go.Proofs.YtdfmdgbolmbffaaGreat
namespace Go.Proofs.YtdfmdgbolmbffaaGreat
open Go.ChangeShapes Go.WideShapes Go.ChangeAt Go.RowKit
set_option linter.unusedVariables false
theorem formL:formOf 8=5/\formOf 9=5/\formOf 10=5/\formOf 11=5/\formOf 12=5/\formOf 13=6/\formOf 14=6/\formOf 15=6/\formOf 16=6/\formOf 20=7/\formOf 21=5/\formOf 22=8:=by decide+kernel
theorem InstrOk.type{p:MP}{f:MF}{x:MI}(h:InstrOk p f x)(e:(8<=x.op/\x.op<=16)\/x.op=20\/x.op=21):isT x.a=true:=by
  obtain⟨_,_,h⟩:=h
  have hf:formOf x.op=5\/formOf x.op=6\/formOf x.op=7:=by
    have h3:x.op=8\/x.op=9\/x.op=10\/x.op=11\/x.op=12\/x.op=13\/x.op=14\/x.op=15\/x.op=16\/x.op=20\/x.op=21:=by omega
    obtain⟨k0,k1,k2,k3,k4,k5,k6,k7,k8,k9,kA,kB⟩:=formL
    rcases h3 with e|e|e|e|e|e|e|e|e|e|e<;>rw[e]<;>omega
  unfold FormOk takes at h
  rcases h with h|h|h|h|h|h|h|h|h|h<;>first|(exfalso;omega)|(rcases h.1 with h|h|h<;>first|exact h.2|(rcases h.2 with e|e<;>rw[e]<;>rfl))
theorem InstrOk.conv{p:MP}{f:MF}{x:MI}(h:InstrOk p f x)(e:x.op=22):isT x.a=true/\isT x.b=true:=by
  obtain⟨_,_,h⟩:=h
  have hf:formOf x.op=8:=by rw[e];exact formL.2.2.2.2.2.2.2.2.2.2.2
  unfold FormOk takes at h
  rcases h with h|h|h|h|h|h|h|h|h|h<;>first|(exfalso;omega)|exact⟨h.2.1,h.2.2.1⟩
theorem InstrOk.loc0{p:MP}{f:MF}{x:MI}(h:InstrOk p f x)(e:x.op=2):localOf f x.a≠0:=fun e0=>by
  have h5:=h.2.2
  have hf2:formOf x.op=2:=by rw[e];exact formK.2.1
  unfold FormOk takes at h5
  rcases h5 with h|h|h|h|h|h|h|h|h|h<;>first|(exfalso;omega)|exact h.2.1 e0
theorem gives_ok{p:MP}{f:MF}{x:MI}(hp:FaultIs p 0)(hx:InstrOk p f x):(∀t∈givesL p f x,t=0->0<(takesL p f x).length)/\(givesL p f x).length<=2:=by
  have hpp:=hp.parts
  have one:∀t:Int,t≠0->(∀u∈[t],u=0->0<(takesL p f x).length)/\[t].length<=2:=fun t ht=>⟨fun u hu e=>by simp only[List.mem_singleton]at hu;exact absurd (hu.symm.trans e) ht,by simp⟩
  unfold givesL
  by_cases c1:x.op=1
  . rw[if_pos c1]
    obtain⟨q,z,e1,e2⟩:=hx.const c1
    have hc:=hpp.2.1.2 q (List.getElem?_eq_some_iff.1 e2).1 z e2
    have e3:vAt p.consts x.a.toNat=z:=by unfold vAt;rw[e1,Int.toNat_natCast,e2];rfl
    rw[e3]
    exact one _ (isT_ne hc.1)
  rw[if_neg c1]
  by_cases c2:x.op=2
  . rw[if_pos c2];exact one _ (hx.loc0 c2)
  rw[if_neg c2]
  by_cases c4:x.op=4\/x.op=6
  . rw[if_pos c4]
    obtain⟨q,z,r,e1,e2,e3,e4⟩:=hx.cell hpp.1.1 (by omega)
    have:=(hpp.1.2 q (List.getElem?_eq_some_iff.1 e3).1 r e3).2
    exact one _ (isT_ne (List.all_eq_true.1 this _ (List.mem_of_getElem? e4)))
  rw[if_neg c4]
  by_cases c8:8<=x.op/\x.op<=16
  . rw[if_pos c8];exact one _ (isT_ne (hx.type (by omega)))
  rw[if_neg c8]
  by_cases c17:x.op=17\/x.op=18
  . rw[if_pos c17];exact one _ (by decide)
  rw[if_neg c17]
  by_cases c19:x.op=19
  . rw[if_pos c19];exact one _ (by decide)
  rw[if_neg c19]
  by_cases c20:x.op=20\/x.op=21
  . rw[if_pos c20];exact one _ (by decide)
  rw[if_neg c20]
  by_cases c22:x.op=22
  . rw[if_pos c22];exact one _ (isT_ne (hx.conv c22).2)
  rw[if_neg c22]
  by_cases c23:x.op=23
  . rw[if_pos c23]
    have e1:takesL p f x=[0]:=by unfold takesL;rw[if_neg (by omega),if_neg (by omega),if_neg (by omega),if_neg (by omega),if_neg (by omega),if_neg (by omega),if_neg (by omega),if_neg (by omega),if_pos (by omega)]
    rw[e1]
    exact⟨fun _ _ _=>by simp,by simp⟩
  rw[if_neg c23]
  by_cases c28:x.op=28
  . rw[if_pos c28]
    obtain⟨q,fq,e1,e2⟩:=hx.callee c28
    have hfq:FuncOk fq:=hpp.2.2.1.2.2.1 q (List.getElem?_eq_some_iff.1 e2).1 fq e2
    rw[e1,Int.toNat_natCast,e2]
    simp only[]
    unfold resultL
    by_cases hr:fq.result=0
    . rw[if_pos hr];exact⟨fun t ht=>(by cases ht),by simp⟩
    . rw[if_neg hr];exact one _ hr
  . rw[if_neg c28];exact⟨fun t ht=>(by cases ht),by simp⟩
end Go.Proofs.YtdfmdgbolmbffaaGreat
