import Derived.Test.YtdfmdgbolmbffaaGreatTy5
import Derived.Laws.StructEq
namespace Go.Proofs.YtdfmdgbolmbffaaGreat
open Go.ChangeShapes Go.WideShapes Go.ChangeAt Go.RowKit
set_option linter.unusedVariables false
set_option maxHeartbeats 1000000 in
theorem allTypes_any(s:Value)(ys:List Int)(w:World)(hn:ys.length<=1048576)(h:Rd w 1 s ys.length (ys.flatMap intCell)):
    Calls Tryz.prog 124 #[s] w fun e w'=>e=.returned (.bool (ys.all isT))/\w'=w:=by
  have H1:Hid (Rd w 1 s ys.length (ys.flatMap intCell)):=h
  obtain⟨a1,c1,rfl⟩:=h.is_slice
  clear h
  generalize hLL:ys.length=n at hn H1
  have HL:Hid (ys.length=n):=hLL
  clear hLL
  generalize hR:ys.all isT=R
  have HR:Hid (ys.all isT=R):=hR
  clear hR
  go_enter Tryz.func124,Tryz.ntmps124
  go_wp2
  go_loopw [7] (fun i wr=>∃k:Nat,k<=n/\i=.int .i64 k/\Hid ((ys.take k).all isT=true)/\wr=w) (fun i _=>n-(intOf i).toNat)
  case atStart=>exact⟨0,by omega,rfl,by simp[Hid],rfl⟩
  case round=>
    obtain⟨k,hk,rfl,HT,rfl⟩:=hrel
    by_cases hlt:k<n
    . obtain⟨x,hx⟩:∃x,ys[k]?=some x:=⟨_,List.getElem?_eq_getElem (by rw[HL.out];exact hlt)⟩
      rcases H1.out.2 with⟨e0,_⟩|⟨g,o,c,e1,hc1⟩
      . omega
      . simp only[Value.slice.injEq,true_and]at e1
        obtain⟨rfl,rfl⟩:=e1
        have i0:=Rd.elem intCell_length hc1 k x hx 0 _ rfl
        rw[Nat.mul_one,Nat.add_zero]at i0
        have HX:Hid (ys[k]?=some x):=hx
        clear hc1 hx
        go_wp2_with fail
        refine(isType_any x wr).mono ?_
        rintro e u ⟨rfl,rfl⟩
        cases hq:isT x with
        | false=>
          have hR:R=false:=by
            rw[<-HR.out]
            exact all_not _ _ _ (List.mem_of_getElem? HX.out) hq
          subst hR
          clear hq
          go_wp2
          go_ret
          exact⟨rfl,rfl⟩
        | true=>
          have HN:Hid ((ys.take (k+1)).all isT=true):=by
            show _=_
            rw[all_next _ _ _ _ HX.out HT.out]
            exact hq
          clear hq
          go_wp2
          go_roundw
          case rel=>exact⟨k+1,by omega,by go_num,HN,by trivial⟩
          case measure=>simp[intOf];omega
    . have hkn:k=n:=by omega
      subst hkn
      have hR:R=true:=by
        rw[<-HR.out,<-HT.out,<-HL.out,List.take_length]
      subst hR
      go_wp2
      go_ret
      exact⟨rfl,rfl⟩
def RegionOk(r:List Int):Prop:=r.length<=256/\r.all isT=true
def RegionsOk(rs:List (List Int)):Prop:=rs.length=3/\∀j,j<rs.length->∀r,rs[j]?=some r->RegionOk r
set_option maxHeartbeats 2000000 in
set_option maxRecDepth 100000 in
theorem regionsHold_any(s:Value)(fs:List (List Int))(w:World)(hL:fs.length<=1048576)(hs:∀f∈fs,f.length<=1048576)(h:RdR w s fs):
    Calls Tryz.prog 105 #[s] w fun e w'=>SaysIff e (RegionsOk fs)/\w'=w:=by
  obtain⟨xs,hxs,hrd,hel⟩:=h
  have hxl:xs.length=fs.length:=by rw[<-hxs];simp
  have H1:Hid (Rd w 1 s fs.length (xs.flatMap rCells)/\xs.map Prod.fst=fs/\(∀x∈xs,Rd w 1 x.2 x.1.length (x.1.flatMap intCell))/\(∀f∈fs,f.length<=1048576)/\xs.length=fs.length):=⟨hrd,hxs,hel,hs,hxl⟩
  obtain⟨a1,c1,rfl⟩:=hrd.is_slice
  clear hrd hxs hel hs hxl
  generalize hLL:fs.length=n at hL H1
  have HL:Hid (fs.length=n):=hLL
  clear hLL
  by_cases q0:n=3
  . subst q0
    go_enter Tryz.func105,Tryz.ntmps105
    go_wp2
    go_loopw [10] (fun i wr=>∃k:Nat,k<=3/\i=.int .i64 k/\Hid (∀j,j<k->∀r,fs[j]?=some r->RegionOk r)/\wr=w) (fun i _=>3-(intOf i).toNat)
    case atStart=>exact⟨0,by omega,rfl,fun j hj=>by omega,rfl⟩
    case round=>
      obtain⟨k,hk,rfl,HT,rfl⟩:=hrel
      by_cases hlt:k<3
      . obtain⟨⟨f,v⟩,hx⟩:∃x,xs[k]?=some x:=⟨_,List.getElem?_eq_getElem (by rw[H1.out.2.2.2.2];exact hlt)⟩
        have e1:=fst_at H1.out.2.1 hx
        have hf:=H1.out.2.2.1 _ (List.mem_of_getElem? hx)
        have HX:Hid (Rd wr 1 v f.length (f.flatMap intCell)/\f.length<=1048576/\fs[k]?=some f):=⟨hf,H1.out.2.2.2.1 _ (List.mem_of_getElem? e1),e1⟩
        clear e1
        rcases H1.out.1.2 with⟨e0,_⟩|⟨b,o,c,e1,hc1⟩
        . omega
        . simp only[Value.slice.injEq,true_and]at e1
          obtain⟨rfl,rfl⟩:=e1
          have i0:=Rd.elem rCells_length hc1 k _ hx 0 _ rfl
          rw[Nat.mul_one,Nat.add_zero]at i0
          clear hc1 hx
          simp only[]at i0 hf
          obtain⟨av,cv,ev⟩:=hf.is_slice
          subst ev
          clear hf
          have hz:=HX.out.2.1
          by_cases q1:256<f.length
          . have HN:Hid (¬RegionsOk fs):=fun e=>absurd (e.2 k (by rw[HL.out];exact hlt) f HX.out.2.2).1 (by omega)
            generalize f.length=m at*
            go_wp2
            go_ret
            exact⟨.no HN.out,rfl⟩
          . go_wp2_with fail
            refine(allTypes_any _ f _ HX.out.2.1 HX.out.1).mono ?_
            rintro e u ⟨rfl,rfl⟩
            cases t1:f.all isT
            . have HN:Hid (¬RegionsOk fs):=fun e=>by have:=(e.2 k (by rw[HL.out];exact hlt) f HX.out.2.2).2;simp[t1]at this
              clear t1
              go_wp2
              go_ret
              exact⟨.no HN.out,rfl⟩
            . have HN:Hid (RegionOk f):=⟨by omega,t1⟩
              clear t1
              go_wp2
              go_roundw
              case rel=>exact⟨k+1,by omega,by go_num,upto_next HX.out.2.2 HN.out HT.out,by trivial⟩
              case measure=>simp[intOf];omega
      . have hkn:k=3:=by omega
        subst hkn
        have HY:Hid (RegionsOk fs):=⟨HL.out,by rw[HL.out];exact HT.out⟩
        go_wp2
        go_ret
        exact⟨.yes HY.out,rfl⟩
  . have HN:Hid (¬RegionsOk fs):=fun e=>q0 (by rw[<-HL.out];exact e.1)
    have hi:¬(n:Int)=3:=by omega
    clear H1
    go_enter Tryz.func105,Tryz.ntmps105
    go_wp2
    go_ret
    exact⟨.no HN.out,rfl⟩
end Go.Proofs.YtdfmdgbolmbffaaGreat
namespace Go.Proofs.YtdfmdgbolmbffaaGreat
open Go.ChangeShapes Go.WideShapes Go.ChangeAt Go.RowKit
set_option linter.unusedVariables false
theorem W32_range{z:Int}(h:W32 z):0<=z/\z<=4294967295:=by simpa[W32,Lit.wf,IntKind.min,IntKind.max,IntKind.signed,IntKind.bits]using h
theorem value_eql(a b a' b':Int)(w:World):(binOp .eql 194 (.agg #[.int .i64 a,.int .u32 b]) (.agg #[.int .i64 a',.int .u32 b'])).run Tryz.prog w=.ok (.bool (decide (a=a'/\b=b'))) w:=by
  have u64:=Tryz.underlying2
  have a64:=Tryz.isAgg2
  have z64:=Tryz.sizeOf2
  have u32:=Tryz.underlying98
  have a32:=Tryz.isAgg98
  have z32:=Tryz.sizeOf98
  have hS:Tryz.prog.underlying 194=some (.struct (Tryz.prog.fieldsOf 194)):=by kernel_rfl
  have hp:Tryz.prog.stoodInHeld 194=false:=by kernel_rfl
  rw[run_eql_struct,show(10000:Nat)=9999+1 from rfl,run_equalIn_agg w 9999 194 _ _ hS hp]
  simp only[Program.fieldsOf,Tryz.underlying194]
  go_simp
  by_cases h1:a=a'
  . by_cases h2:b=b'<;>simp[*]
  . simp[*]
set_option maxHeartbeats 1000000 in
set_option maxRecDepth 100000 in
theorem isValue_any(t x:Int)(w:World)(hx:0<=x):
    Calls Tryz.prog 131 #[.agg #[.int .i64 t,.int .u32 x]] w fun e w'=>SaysIff e (ConstOk ⟨t,x⟩)/\Below w.heap.size w w':=by
  by_cases h1:t=1
  . subst h1
    have e0:∀w,(binOp .eql 194 (.agg #[.int .i64 1,.int .u32 x]) (.agg #[.int .i64 1,.int .u32 0])).run Tryz.prog w=.ok (.bool (decide (1=(1:Int)/\x=0))) w:=value_eql 1 x 1 0
    have e1:∀w,(binOp .eql 194 (.agg #[.int .i64 1,.int .u32 x]) (.agg #[.int .i64 1,.int .u32 1])).run Tryz.prog w=.ok (.bool (decide (1=(1:Int)/\x=1))) w:=value_eql 1 x 1 1
    by_cases h2:x=0
    . have e2:decide (1=(1:Int)/\x=0)=true:=by simp[h2]
      have HY:Hid (ConstOk ⟨1,x⟩):=⟨rfl,fun _=>by simp only[];omega⟩
      rw[e2]at e0
      clear h2 e2 e1 hx
      go_enter Tryz.func131,Tryz.ntmps131
      go_wp2
      go_ret
      exact⟨.yes HY.out,below_alloc _ _⟩
    . have e2:decide (1=(1:Int)/\x=0)=false:=by simp[h2]
      rw[e2]at e0
      by_cases h3:x=1
      . have e3:decide (1=(1:Int)/\x=1)=true:=by simp[h3]
        have HY:Hid (ConstOk ⟨1,x⟩):=⟨rfl,fun _=>by simp only[];omega⟩
        rw[e3]at e1
        clear h2 e2 h3 e3 hx
        go_enter Tryz.func131,Tryz.ntmps131
        go_wp2
        go_ret
        exact⟨.yes HY.out,below_alloc _ _⟩
      . have e3:decide (1=(1:Int)/\x=1)=false:=by simp[h3]
        have HN:Hid (¬ConstOk ⟨1,x⟩):=fun e=>by have:=e.2 rfl;simp only[]at this;omega
        rw[e3]at e1
        clear h2 e2 h3 e3 hx
        go_enter Tryz.func131,Tryz.ntmps131
        go_wp2
        go_ret
        exact⟨.no HN.out,below_alloc _ _⟩
  . have h1':(t==1)=false:=by simpa using h1
    have HI:Hid (isT t=true↔ConstOk ⟨t,x⟩):=⟨fun e=>⟨e,fun e=>absurd e h1⟩,fun e=>e.1⟩
    go_enter Tryz.func131,Tryz.ntmps131
    go_wp2_with fail
    refine(isType_any t _).mono ?_
    rintro e u ⟨rfl,rfl⟩
    go_wp2
    go_ret
    exact⟨.of HI.out,below_alloc _ _⟩
end Go.Proofs.YtdfmdgbolmbffaaGreat
namespace Go.Proofs.YtdfmdgbolmbffaaGreat
open Go.ChangeShapes Go.WideShapes Go.ChangeAt Go.RowKit
set_option linter.unusedVariables false
set_option maxHeartbeats 2000000 in
set_option maxRecDepth 100000 in
theorem constsHold_any(s:Value)(cs:List MC)(w:World)(hn:cs.length<=1048576)(hw:∀c∈cs,0<=c.word)(h:Rd w 2 s cs.length (cs.flatMap MC.cells)):
    Calls Tryz.prog 106 #[s] w fun e w'=>SaysIff e (ConstsOk cs)/\Below w.heap.size w w':=by
  have H1:Hid (Rd w 2 s cs.length (cs.flatMap MC.cells)):=h
  obtain⟨a1,c1,rfl⟩:=h.is_slice
  clear h
  have HZ:Hid (∀c∈cs,0<=c.word):=hw
  clear hw
  generalize hLL:cs.length=n at hn H1
  have HL:Hid (cs.length=n):=hLL
  clear hLL
  by_cases q0:64<n
  . have HN:Hid (¬ConstsOk cs):=fun e=>absurd e.1 (by rw[HL.out];omega)
    clear H1
    go_enter Tryz.func106,Tryz.ntmps106
    go_wp2
    go_ret
    exact⟨.no HN.out,Below.refl _ _⟩
  go_enter Tryz.func106,Tryz.ntmps106
  go_wp2
  go_loopw [10] (fun i wr=>∃k:Nat,k<=n/\i=.int .i64 k/\Hid (∀j,j<k->∀c,cs[j]?=some c->ConstOk c)/\Hid (Below w.heap.size w wr)) (fun i _=>n-(intOf i).toNat)
  case atStart=>exact⟨0,by omega,rfl,fun j hj=>by omega,Below.refl _ _⟩
  case round=>
    obtain⟨k,hk,rfl,HT,HW⟩:=hrel
    by_cases hlt:k<n
    . obtain⟨x,hx⟩:∃x,cs[k]?=some x:=⟨_,List.getElem?_eq_getElem (by rw[HL.out];exact hlt)⟩
      rcases H1.out.2 with⟨e0,_⟩|⟨b,o,c,e1,hc1⟩
      . omega
      . simp only[Value.slice.injEq,true_and]at e1
        obtain⟨rfl,rfl⟩:=e1
        have i0:=Rd.elem MC.cells_length hc1 k x hx 0 _ rfl
        have i1:=Rd.elem MC.cells_length hc1 k x hx 1 _ rfl
        rw[<-HW.out.cell (block_lt_of_cell i0),Nat.add_zero]at i0
        rw[<-HW.out.cell (block_lt_of_cell i1)]at i1
        have HX:Hid (cs[k]?=some x):=hx
        clear hc1 hx
        have nb:¬b=wr.heap.size:=Nat.ne_of_lt (block_lt_of_cell i0)
        have mb:b<wr.heap.size:=block_lt_of_cell i0
        have HW2:Hid (Below w.heap.size w (wr.alloc (.cells #[.int .i64 x.type,.int .u32 x.word] 128))):=below_on HW.out (Nat.le_refl _) (below_alloc _ _)
        go_wp2_with fail
        refine(isValue_any x.type x.word _ (HZ.out x (List.mem_of_getElem? HX.out))).mono ?_
        rintro e u ⟨⟨b1,rfl,hb1⟩,blu⟩
        have HW3:Hid (Below w.heap.size w u):=below_on HW2.out (Nat.le_refl _) blu
        clear i0 i1 nb mb blu HW2
        cases b1
        . have HN:Hid (¬ConstsOk cs):=fun e=>absurd (hb1.2 (e.2 k (by rw[HL.out];exact hlt) x HX.out)) Bool.false_ne_true
          clear hb1
          go_wp2
          go_ret
          exact⟨.no HN.out,HW3.out⟩
        . have HC:Hid (ConstOk x):=hb1.1 rfl
          clear hb1
          go_wp2
          go_roundw
          case rel=>exact⟨k+1,by omega,by go_num,upto_next HX.out HC.out HT.out,HW3⟩
          case measure=>simp[intOf];omega
    . have hkn:n=k:=by omega
      subst hkn
      have HY:Hid (ConstsOk cs):=⟨by rw[HL.out];omega,by rw[HL.out];exact HT.out⟩
      go_wp2
      go_ret
      exact⟨.yes HY.out,HW.out⟩
set_option maxHeartbeats 2000000 in
set_option maxRecDepth 100000 in
theorem funcHolds_any(v:VF)(f:MF)(w:World)(hs:f.small)(h:RdF w v f):
    Calls Tryz.prog 132 #[.agg #[v.p,.int .i64 f.result,v.l,v.c]] w fun e w'=>SaysIff e (FuncOk f)/\Below w.heap.size w w':=by
  have H1:Hid (RdF w v f/\f.small):=⟨h,hs⟩
  obtain⟨a1,c1,e1⟩:=h.1.is_slice
  obtain⟨a2,c2,e2⟩:=h.2.1.is_slice
  obtain⟨a3,c3,e3⟩:=h.2.2.is_slice
  obtain⟨vp,vl,vc⟩:=v
  obtain⟨s1,s2,s3⟩:=hs
  simp only[]at e1 e2 e3
  subst e1 e2 e3
  clear h
  have HB:Hid (Below w.heap.size w (w.alloc (.cells #[.slice a1 f.params.length c1,.int .i64 f.result,.slice a2 f.locals.length c2,.slice a3 f.code.length c3] 63))):=below_alloc _ _
  by_cases q1:8<f.params.length
  . have HN:Hid (¬FuncOk f):=fun e=>absurd e.par (by omega)
    clear H1
    generalize f.params.length=n1 at*
    generalize f.locals.length=n2 at*
    generalize f.code.length=n3 at*
    go_enter Tryz.func132,Tryz.ntmps132
    go_wp2
    go_ret
    exact⟨.no HN.out,HB.out⟩
  by_cases q2:32<f.params.length+f.locals.length
  . have HN:Hid (¬FuncOk f):=fun e=>absurd e.loc (by omega)
    clear H1
    generalize f.params.length=n1 at*
    generalize f.locals.length=n2 at*
    generalize f.code.length=n3 at*
    go_enter Tryz.func132,Tryz.ntmps132
    go_wp2
    go_ret
    exact⟨.no HN.out,HB.out⟩
  by_cases q3:f.code.length=0
  . have HN:Hid (¬FuncOk f):=fun e=>e.code0 q3
    clear H1
    generalize f.params.length=n1 at*
    generalize f.locals.length=n2 at*
    generalize f.code.length=n3 at*
    subst q3
    go_enter Tryz.func132,Tryz.ntmps132
    go_wp2
    go_ret
    exact⟨.no HN.out,HB.out⟩
  by_cases q4:1024<f.code.length
  . have HN:Hid (¬FuncOk f):=fun e=>absurd e.code1 (by omega)
    clear H1
    generalize f.params.length=n1 at*
    generalize f.locals.length=n2 at*
    generalize f.code.length=n3 at*
    go_enter Tryz.func132,Tryz.ntmps132
    go_wp2
    go_ret
    exact⟨.no HN.out,HB.out⟩
  have q1':¬(8:Int)<(f.params.length:Int):=by omega
  have q2':¬(32:Int)<(f.params.length:Int)+(f.locals.length:Int):=by omega
  have q3':((f.code.length:Int)==0)=false:=by simpa using q3
  have q4':¬(1024:Int)<(f.code.length:Int):=by omega
  have HQ:Hid (f.params.length<=8/\f.params.length+f.locals.length<=32/\¬f.code.length=0/\f.code.length<=1024):=⟨by omega,by omega,q3,by omega⟩
  go_enter Tryz.func132,Tryz.ntmps132
  go_wp2_with fail
  refine(allTypes_any _ f.params _ H1.out.2.1 (H1.out.1.1.keep HB.out (Nat.le_refl _))).mono ?_
  rintro e u ⟨rfl,rfl⟩
  cases t1:f.params.all isT
  . have HN:Hid (¬FuncOk f):=fun e=>by have:=e.pt;simp[t1]at this
    clear t1
    go_wp2
    go_ret
    exact⟨.no HN.out,HB.out⟩
  have HT1:Hid (f.params.all isT=true):=t1
  clear t1
  go_wp2_with fail
  refine(allTypes_any _ f.locals _ H1.out.2.2.1 (H1.out.1.2.1.keep HB.out (Nat.le_refl _))).mono ?_
  rintro e u ⟨rfl,rfl⟩
  cases t1:f.locals.all isT
  . have HN:Hid (¬FuncOk f):=fun e=>by have:=e.lt;simp[t1]at this
    clear t1
    go_wp2
    go_ret
    exact⟨.no HN.out,HB.out⟩
  have HT2:Hid (f.locals.all isT=true):=t1
  clear t1
  generalize hR:f.result=R at*
  have HE:Hid (f.result=R):=hR
  clear hR q1 q2 q3 q4
  by_cases q5:R=0
  . subst q5
    have HY:Hid (FuncOk f):=⟨HQ.out.1,HQ.out.2.1,HT1.out,HT2.out,.inl HE.out,HQ.out.2.2.1,HQ.out.2.2.2⟩
    go_wp2
    go_ret
    exact⟨.yes HY.out,HB.out⟩
  . have q5':(R==0)=false:=by simpa using q5
    go_wp2_with fail
    refine(isType_any R _).mono ?_
    rintro e u ⟨rfl,rfl⟩
    cases t1:isT R
    . have HN:Hid (¬FuncOk f):=fun e=>by have:=e.res;rw[HE.out]at this;simp[q5,t1]at this
      clear t1
      go_wp2
      go_ret
      exact⟨.no HN.out,HB.out⟩
    . have HY:Hid (FuncOk f):=⟨HQ.out.1,HQ.out.2.1,HT1.out,HT2.out,.inr (by rw[HE.out];exact t1),HQ.out.2.2.1,HQ.out.2.2.2⟩
      clear t1
      go_wp2
      go_ret
      exact⟨.yes HY.out,HB.out⟩
end Go.Proofs.YtdfmdgbolmbffaaGreat
namespace Go.Proofs.YtdfmdgbolmbffaaGreat
open Go.ChangeShapes Go.WideShapes Go.ChangeAt Go.RowKit
set_option linter.unusedVariables false
def FuncsOk(fs:List MF):Prop:=¬fs.length=0/\fs.length<=32/\(∀j,j<fs.length->∀f,fs[j]?=some f->FuncOk f)/\∀f,fs[0]?=some f->MainOk f
set_option maxHeartbeats 2000000 in
set_option maxRecDepth 100000 in
theorem funcsHold_any(s:Value)(fs:List MF)(w:World)(hL:fs.length<=1048576)(hs:∀f∈fs,f.small)(h:RdFs w s fs):
    Calls Tryz.prog 107 #[s] w fun e w'=>SaysIff e (FuncsOk fs)/\Below w.heap.size w w':=by
  obtain⟨xs,hxs,hrd,hel⟩:=h
  have hxl:xs.length=fs.length:=by rw[<-hxs];simp
  have H1:Hid (Rd w 4 s fs.length (xs.flatMap fCells)/\xs.map Prod.fst=fs/\(∀x∈xs,RdF w x.2 x.1)/\(∀f∈fs,f.small)/\xs.length=fs.length):=⟨hrd,hxs,hel,hs,hxl⟩
  obtain⟨a1,c1,rfl⟩:=hrd.is_slice
  clear hrd hxs hel hs hxl
  generalize hLL:fs.length=n at hL H1
  have HL:Hid (fs.length=n):=hLL
  clear hLL
  by_cases q0:n=0
  . subst q0
    have HN:Hid (¬FuncsOk fs):=fun e=>e.1 HL.out
    clear H1
    go_enter Tryz.func107,Tryz.ntmps107
    go_wp2
    go_ret
    exact⟨.no HN.out,Below.refl _ _⟩
  have q0':((n:Int)==0)=false:=by simpa using q0
  by_cases q1:32<n
  . have HN:Hid (¬FuncsOk fs):=fun e=>absurd e.2.1 (by rw[HL.out];omega)
    have q1':(32:Int)<(n:Int):=by omega
    clear H1
    go_enter Tryz.func107,Tryz.ntmps107
    go_wp2
    go_ret
    exact⟨.no HN.out,Below.refl _ _⟩
  have q1':¬(32:Int)<(n:Int):=by omega
  go_enter Tryz.func107,Tryz.ntmps107
  go_wp2
  go_loopw [15] (fun i wr=>∃k:Nat,k<=n/\i=.int .i64 k/\Hid (∀j,j<k->∀f,fs[j]?=some f->FuncOk f)/\Hid (Below w.heap.size w wr)) (fun i _=>n-(intOf i).toNat)
  case atStart=>exact⟨0,by omega,rfl,fun j hj=>by omega,Below.refl _ _⟩
  case round=>
    obtain⟨k,hk,rfl,HT,HB⟩:=hrel
    by_cases hlt:k<n
    . obtain⟨⟨f,v⟩,hx⟩:∃x,xs[k]?=some x:=⟨_,List.getElem?_eq_getElem (by rw[H1.out.2.2.2.2];exact hlt)⟩
      have e1:=fst_at H1.out.2.1 hx
      have HX:Hid (RdF wr v f/\f.small/\fs[k]?=some f):=⟨(H1.out.2.2.1 _ (List.mem_of_getElem? hx)).keep HB.out (Nat.le_refl _),H1.out.2.2.2.1 _ (List.mem_of_getElem? e1),e1⟩
      clear e1
      rcases H1.out.1.2 with⟨e0,_⟩|⟨b,o,c,e1,hc1⟩
      . omega
      . simp only[Value.slice.injEq,true_and]at e1
        obtain⟨rfl,rfl⟩:=e1
        have i0:=Rd.elem fCells_length hc1 k _ hx 0 _ rfl
        have i1:=Rd.elem fCells_length hc1 k _ hx 1 _ rfl
        have i2:=Rd.elem fCells_length hc1 k _ hx 2 _ rfl
        have i3:=Rd.elem fCells_length hc1 k _ hx 3 _ rfl
        rw[<-HB.out.cell (block_lt_of_cell i0),Nat.add_zero]at i0
        rw[<-HB.out.cell (block_lt_of_cell i1)]at i1
        rw[<-HB.out.cell (block_lt_of_cell i2)]at i2
        rw[<-HB.out.cell (block_lt_of_cell i3)]at i3
        clear hc1 hx
        simp only[]at i0 i1 i2 i3
        obtain⟨ap,cp,ep⟩:=HX.out.1.1.is_slice
        obtain⟨al,cl,el⟩:=HX.out.1.2.1.is_slice
        obtain⟨ac,cc,ec⟩:=HX.out.1.2.2.is_slice
        obtain⟨vp,vl,vc⟩:=v
        simp only[]at ep el ec i0 i1 i2 i3
        subst ep el ec
        have nb:¬b=wr.heap.size:=Nat.ne_of_lt (block_lt_of_cell i0)
        have mb:b<wr.heap.size:=block_lt_of_cell i0
        go_wp2_with fail
        have A1:=fun W (hW:Below wr.heap.size wr W)=>funcHolds_any ⟨.slice ap f.params.length cp,.slice al f.locals.length cl,.slice ac f.code.length cc⟩ f W HX.out.2.1 (HX.out.1.keep hW (Nat.le_refl _))
        refine(A1 _ (below_alloc _ _)).mono ?_
        rintro e u ⟨⟨b0,rfl,hb0⟩,hbu⟩
        have HB2:Hid (Below w.heap.size w u):=below_on HB.out (Nat.le_refl _) (below_on (below_alloc _ _) (Nat.le_refl _) hbu)
        clear hbu HB i0 i1 i2 i3 A1 nb mb
        cases b0
        . have HN:Hid (¬FuncsOk fs):=fun e=>by have:=e.2.2.1 k (by rw[HL.out];exact hlt) f HX.out.2.2;simp[this]at hb0
          clear hb0
          go_wp2
          go_ret
          exact⟨.no HN.out,HB2.out⟩
        . have HC:Hid (FuncOk f):=hb0.1 rfl
          clear hb0
          go_wp2
          go_roundw
          case rel=>exact⟨k+1,by omega,by go_num,upto_next HX.out.2.2 HC.out HT.out,HB2⟩
          case measure=>simp[intOf];omega
    . have hkn:n=k:=by omega
      subst hkn
      obtain⟨⟨f,v⟩,hx⟩:∃x,xs[0]?=some x:=⟨_,List.getElem?_eq_getElem (by rw[H1.out.2.2.2.2];omega)⟩
      have e1:=fst_at H1.out.2.1 hx
      have HX:Hid (RdF wr v f/\f.small/\fs[0]?=some f):=⟨(H1.out.2.2.1 _ (List.mem_of_getElem? hx)).keep HB.out (Nat.le_refl _),H1.out.2.2.2.1 _ (List.mem_of_getElem? e1),e1⟩
      clear e1
      rcases H1.out.1.2 with⟨e0,_⟩|⟨b,o,c,e1,hc1⟩
      . omega
      . simp only[Value.slice.injEq,true_and]at e1
        obtain⟨rfl,rfl⟩:=e1
        have i0:=Rd.elem fCells_length hc1 0 _ hx 0 _ rfl
        have i1:=Rd.elem fCells_length hc1 0 _ hx 1 _ rfl
        rw[<-HB.out.cell (block_lt_of_cell i0)]at i0
        simp only[Nat.zero_mul,Nat.add_zero]at i0
        rw[<-HB.out.cell (block_lt_of_cell i1),Nat.zero_mul,Nat.add_zero]at i1
        clear hc1 hx
        obtain⟨ap,cp,ep⟩:=HX.out.1.1.is_slice
        obtain⟨vp,vl,vc⟩:=v
        simp only[]at ep i0 i1
        subst ep
        have HM:Hid (FuncsOk fs↔MainOk f):=by
          show _↔_
          refine⟨fun e=>e.2.2.2 f HX.out.2.2,fun e=>⟨by rw[HL.out];exact q0,by rw[HL.out];omega,by rw[HL.out];exact HT.out,fun g hg=> ?_⟩⟩
          rw[HX.out.2.2]at hg
          exact(Option.some.inj hg)▸e
        have hn1:=HX.out.2.1.1
        generalize hN1:f.params.length=n1 at*
        generalize hN2:f.result=R at*
        have HE:Hid (f.params.length=n1/\f.result=R):=⟨hN1,hN2⟩
        clear hN1 hN2
        have hl0:(0:Int)<(n:Int):=by omega
        by_cases z1:n1=0
        . subst z1
          have HY:Hid ((R==0)=true↔FuncsOk fs):=by
            show _↔_
            rw[HM.out,beq_iff_eq]
            exact⟨fun e=>⟨HE.out.1,HE.out.2.trans e⟩,fun e=>HE.out.2.symm.trans e.2⟩
          go_wp2
          go_ret
          exact⟨.of HY.out,HB.out⟩
        . have z1':((n1:Int)==0)=false:=by simpa using z1
          have HN:Hid (¬FuncsOk fs):=fun e=>z1 (HE.out.1.symm.trans (HM.out.1 e).1)
          go_wp2
          go_ret
          exact⟨.no HN.out,HB.out⟩
end Go.Proofs.YtdfmdgbolmbffaaGreat
