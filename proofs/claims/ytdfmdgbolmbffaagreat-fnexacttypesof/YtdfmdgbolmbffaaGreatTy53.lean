import Derived.Test.YtdfmdgbolmbffaaGreatTy48
import Derived.Test.YtdfmdgbolmbffaaGreatTy52
import Derived.Test.YtdfmdgbolmbffaaGreatTy49
import Derived.Test.YtdfmdgbolmbffaaGreatTy44
import Derived.Test.YtdfmdgbolmbffaaGreatTy42
import Derived.Test.YtdfmdgbolmbffaaGreatTy3
import Derived.Deep.RegionHeldLaw
namespace Go.Proofs.YtdfmdgbolmbffaaGreat
open Go.ChangeShapes Go.WideShapes Go.ChangeAt Go.RowKit
set_option linter.unusedVariables false
theorem OwTy.marks{u u':World}{base lo hi:Nat}{s:Value}{F:List (List Int×Value)}(h:OwTy u base s F)(mg:MarksG lo hi u u')(hb:hi<=base):OwTy u' base s F:=⟨mg.own h.row hb,⟨fun y hy=>mg.own (h.fam.own y hy) hb,h.fam.sep⟩⟩
theorem Blk.marks{u u':World}{Y lo hi:Nat}{cur:Array Value}{t:TypeId}(h:Blk u Y cur t)(mg:MarksG lo hi u u')(hb:hi<=Y):Blk u' Y cur t:=by
  have hl:=h.lt
  unfold Blk at*
  rw[mg.out Y hl (.inr hb)]
  exact h
structure LTy(p:MP)(fi:Int)(y:MTy)(F:List (List Int×Value)):Prop where
  is:TyIs p fi y
  eq:F.map Prod.fst=y.shapes
  len:F.length<=1024
  row:∀x∈F,x.1.length<=64
theorem LTy.sl{p:MP}{fi:Int}{y:MTy}{F:List (List Int×Value)}(h:LTy p fi y F):y.shapes.length<=1048576/\∀f∈y.shapes,f.length<=1048576:=by
  rw[<-h.eq]
  refine⟨by rw[List.length_map];exact Nat.le_trans h.len (by omega),fun f hf=> ?_⟩
  obtain⟨x,hx,rfl⟩:=List.mem_map.1 hf
  exact Nat.le_trans (h.row x hx) (by omega)
theorem LTy.rows{p:MP}{fi:Int}{y:MTy}{F:List (List Int×Value)}(h:LTy p fi y F):∀x∈F,x.1.length<=1048576:=fun x hx=>Nat.le_trans (h.row x hx) (by omega)
theorem LTy.rd{p:MP}{fi:Int}{y:MTy}{F:List (List Int×Value)}(h:LTy p fi y F){u:World}{b:Nat}{s:Value}(ho:OwTy u b s F):RdR u s y.shapes:=by
  rw[<-h.eq]
  exact ho.rd
set_option maxRecDepth 100000 in
set_option maxHeartbeats 8000000 in
theorem types_walk(v0:VP)(p0:MP)(p1:Int)(w:World)(h0:RdP w v0 p0)(b0:p0.fits)(f0:p0.wf)(f1:W64 p1):
    Calls Tryz.prog 3 #[.agg #[v0.r,v0.k,v0.f,v0.t],.int .i64 p1] w fun e w'=>e=.returned (.bool true)/\Below w.heap.size w w':=by
  have HF:Hid (p0.fits/\RdP w v0 p0/\p0.wf/\W64 p1):=⟨b0,h0,f0,f1⟩
  clear b0 f0 f1 h0
  go_enter Tryz.func3,Tryz.ntmps3
  go_upto_region 1 with fail
  refine wp_world (fun u=>Hid (Blk u w.heap.size #[v0.r,v0.k,v0.f,v0.t] 27/\Below w.heap.size w u)) ⟨Blk.new _ _ _,below_alloc _ _⟩ ?_
  rintro U0 E1
  obtain⟨i0,i1,i2,i3⟩:=cel4 E1.out.1
  go_wp2_with fail
  refine(szProgram_any v0 p0 1048576 U0 HF.out.1 (HF.out.2.1.keep E1.out.2 (Nat.le_refl _)) (by omega) (by omega)).mono ?_
  rintro e u1 ⟨r1,rfl,hr1,bl1⟩
  have E2:Hid (Blk u1 w.heap.size #[v0.r,v0.k,v0.f,v0.t] 27/\Below w.heap.size w u1):=⟨E1.out.1.keep bl1,below_on E1.out.2 (Nat.le_refl _) bl1⟩
  clear bl1 E1 i0 i1 i2 i3
  rcases hr1 with rfl|⟨hr0,hr1,hs0⟩
  . go_wp2_with fail
    go_ret
    exact⟨rfl,E2.out.2⟩
  have S0:Hid p0.small:=hs0
  clear hs0
  have hrn:¬r1<0:=by omega
  obtain⟨i0,i1,i2,i3⟩:=cel4 E2.out.1
  go_wp2_with fail
  refine(toProgram_any v0 p0 u1 S0.out (HF.out.2.1.keep E2.out.2 (Nat.le_refl _))).mono ?_
  rintro e u2 ⟨a1,c1,a2,c2,a3,c3,a4,c4,rfl,own2,bl2⟩
  have E3:Hid (Blk u2 w.heap.size #[v0.r,v0.k,v0.f,v0.t] 27/\Below w.heap.size w u2/\RdP u2 ⟨.slice a1 p0.regions.length c1,.slice a2 p0.consts.length c2,.slice a3 p0.funcs.length c3,.slice a4 p0.certs.length c4⟩ p0):=⟨E2.out.1.keep bl2,below_on E2.out.2 (Nat.le_refl _) bl2,own2.rd⟩
  clear own2 bl2 E2 i0 i1 i2 i3
  go_wp2_with fail
  refine(specTypes_any ⟨.slice a1 p0.regions.length c1,.slice a2 p0.consts.length c2,.slice a3 p0.funcs.length c3,.slice a4 p0.certs.length c4⟩ p0 p1 u2 S0.out HF.out.2.2.1 HF.out.2.2.2 E3.out.2.2).mono ?_
  rintro e u3 ⟨y,sW,rfl,hy,hrW,bl3⟩
  obtain⟨wa,wc,esW⟩:∃a c,sW=.slice a y.shapes.length c:=by obtain⟨_,_,h2,_⟩:=hrW;exact h2.is_slice
  subst esW
  have E4:Hid (Blk u3 w.heap.size #[v0.r,v0.k,v0.f,v0.t] 27/\Below w.heap.size w u3/\RdR u3 (.slice wa y.shapes.length wc) y.shapes):=⟨E3.out.1.keep bl3,below_on E3.out.2.1 (Nat.le_refl _) bl3,hrW⟩
  have HY:Hid (TyIs p0 p1 y):=hy
  clear hy hrW bl3 E3
  go_upto_region 6 with fail
  refine wp_world (fun u=>Hid (Blk u w.heap.size #[v0.r,v0.k,v0.f,v0.t] 27/\Below w.heap.size w u/\RdR u (.slice wa y.shapes.length wc) y.shapes/\Blk u u3.heap.size #[.int .i64 y.code,.int .i64 y.at_,.int .i64 y.depth,.slice wa y.shapes.length wc] 30)) ⟨E4.out.1.keep (below_alloc _ _),below_on E4.out.2.1 (Nat.le_refl _) (below_alloc _ _),E4.out.2.2.keep (below_alloc _ _) (Nat.le_refl _),Blk.new _ _ _⟩ ?_
  rintro U4 E5
  generalize u3.heap.size=WB at E5⊢
  clear E4
  clear u3
  obtain⟨i0,i1,i2,i3⟩:=cel4 E5.out.1
  go_wp2_with fail
  refine(toProgram_any v0 p0 U4 S0.out (HF.out.2.1.keep E5.out.2.1 (Nat.le_refl _))).mono ?_
  rintro e u5 ⟨x1,e1,x2,e2,x3,e3,x4,e4,rfl,own5,bl5⟩
  have X5:Hid (OwnP u5 U4.heap.size ⟨.slice x1 p0.regions.length e1,.slice x2 p0.consts.length e2,.slice x3 p0.funcs.length e3,.slice x4 p0.certs.length e4⟩ p0/\Below U4.heap.size U4 u5):=⟨own5,bl5⟩
  clear own5 bl5 i0 i1 i2 i3
  go_upto_region 7 with fail
  refine wp_world (fun u=>Hid (Blk u u5.heap.size #[.slice x1 p0.regions.length e1,.slice x2 p0.consts.length e2,.slice x3 p0.funcs.length e3,.slice x4 p0.certs.length e4] 36/\Below u5.heap.size u5 u/\u5.heap.size+1=u.heap.size)) ⟨Blk.new _ _ _,below_alloc _ _,by simp⟩ ?_
  rintro U6 E7
  obtain⟨j0,j1,j2,j3⟩:=cel4 E7.out.1
  go_wp2_with fail
  have XO:=X5.out.1.keep E7.out.2.1 (Nat.le_refl _)
  refine(implTypes_any ⟨.slice x1 p0.regions.length e1,.slice x2 p0.consts.length e2,.slice x3 p0.funcs.length e3,.slice x4 p0.certs.length e4⟩ p0 p1 U6 S0.out HF.out.2.2.1 XO.rd XO.regions.rdc XO.funcs.rdp).mono ?_
  rintro e u7 ⟨y',hy',sG,F,rfl,how,hfs,hfl,hfx,bl7⟩
  have eyy:y=y':=HY.out.one hy'
  subst eyy
  obtain⟨ga,gc,esG⟩:=own_slice how.row
  subst esG
  have HL:Hid (LTy p0 p1 y F):=⟨hy',hfs,hfl,hfx⟩
  obtain⟨B6,hB6⟩:∃B,B=U6.heap.size:=⟨_,rfl⟩
  rw[<-hB6]at how
  have HB6:Hid (u5.heap.size+1=B6/\B6<=u7.heap.size):=⟨by rw[hB6];exact E7.out.2.2,by rw[hB6];exact bl7.size⟩
  have E8:Hid (Below u5.heap.size u5 u7/\Blk u7 u5.heap.size #[.slice x1 p0.regions.length e1,.slice x2 p0.consts.length e2,.slice x3 p0.funcs.length e3,.slice x4 p0.certs.length e4] 36/\OwTy u7 B6 (.slice ga F.length gc) F):=⟨below_on E7.out.2.1 (Nat.le_refl _) bl7,E7.out.1.keep bl7,how⟩
  clear hfs hfl hfx bl7 how hB6 E7 XO hy' HY j0 j1 j2 j3
  go_upto_region 8 with fail
  have E9a:Hid (Below U4.heap.size U4 (u7.alloc (.cells #[.int .i64 y.code,.int .i64 y.at_,.int .i64 y.depth,.slice ga F.length gc] 30))/\Below u5.heap.size u5 (u7.alloc (.cells #[.int .i64 y.code,.int .i64 y.at_,.int .i64 y.depth,.slice ga F.length gc] 30))/\Blk (u7.alloc (.cells #[.int .i64 y.code,.int .i64 y.at_,.int .i64 y.depth,.slice ga F.length gc] 30)) u5.heap.size #[.slice x1 p0.regions.length e1,.slice x2 p0.consts.length e2,.slice x3 p0.funcs.length e3,.slice x4 p0.certs.length e4] 36/\Blk (u7.alloc (.cells #[.int .i64 y.code,.int .i64 y.at_,.int .i64 y.depth,.slice ga F.length gc] 30)) u7.heap.size #[.int .i64 y.code,.int .i64 y.at_,.int .i64 y.depth,.slice ga F.length gc] 30/\OwTy (u7.alloc (.cells #[.int .i64 y.code,.int .i64 y.at_,.int .i64 y.depth,.slice ga F.length gc] 30)) B6 (.slice ga F.length gc) F):=⟨below_on (below_on X5.out.2 (Nat.le_refl _) E8.out.1) (Nat.le_refl _) (below_alloc _ _),below_on E8.out.1 (Nat.le_refl _) (below_alloc _ _),E8.out.2.1.keep (below_alloc _ _),Blk.new _ _ _,E8.out.2.2.keep (below_alloc _ _)⟩
  obtain⟨GB,hGB⟩:∃G,G=u7.heap.size:=⟨_,rfl⟩
  rw[<-hGB]at E9a HB6⊢
  refine wp_world (fun u=>Hid (Below U4.heap.size U4 u/\Below u5.heap.size u5 u/\Blk u u5.heap.size #[.slice x1 p0.regions.length e1,.slice x2 p0.consts.length e2,.slice x3 p0.funcs.length e3,.slice x4 p0.certs.length e4] 36/\Blk u GB #[.int .i64 y.code,.int .i64 y.at_,.int .i64 y.depth,.slice ga F.length gc] 30/\OwTy u B6 (.slice ga F.length gc) F)) E9a ?_
  rintro U8 E9
  clear E8 E9a hGB
  obtain⟨g0,g1,g2,g3⟩:=cel4 E9.out.2.2.2.1
  obtain⟨k0,k1',k2,k3⟩:=cel4 (E5.out.2.2.2.keep E9.out.1)
  go_wp2_with fail
  refine(eqTypeResult_same y.code y.at_ y.depth (.slice ga F.length gc) (.slice wa y.shapes.length wc) y.shapes U8 HL.out.sl.1 HL.out.sl.2 (HL.out.rd E9.out.2.2.2.2) (E5.out.2.2.1.keep E9.out.1 (Nat.le_refl _))).mono ?_
  rintro e u9 ⟨rfl,bl9⟩
  have E10:Hid (Below U4.heap.size U4 u9/\Below u5.heap.size u5 u9/\Blk u9 u5.heap.size #[.slice x1 p0.regions.length e1,.slice x2 p0.consts.length e2,.slice x3 p0.funcs.length e3,.slice x4 p0.certs.length e4] 36/\Blk u9 GB #[.int .i64 y.code,.int .i64 y.at_,.int .i64 y.depth,.slice ga F.length gc] 30/\OwTy u9 B6 (.slice ga F.length gc) F):=⟨below_on E9.out.1 (Nat.le_refl _) bl9,below_on E9.out.2.1 (Nat.le_refl _) bl9,E9.out.2.2.1.keep bl9,E9.out.2.2.2.1.keep bl9,E9.out.2.2.2.2.keep bl9⟩
  clear bl9 E9 g0 g1 g2 g3 k0 k1' k2 k3
  go_upto_region 10 with fail
  have KS:∀w',Blk w' w.heap.size #[v0.r,v0.k,v0.f,v0.t] 27->Blk w' u5.heap.size #[.slice x1 p0.regions.length e1,.slice x2 p0.consts.length e2,.slice x3 p0.funcs.length e3,.slice x4 p0.certs.length e4] 36->w'.cell? ⟨w.heap.size,0,none⟩=some (v0.r)/\w'.cell? ⟨w.heap.size,1,none⟩=some (v0.k)/\w'.cell? ⟨w.heap.size,2,none⟩=some (v0.f)/\w'.cell? ⟨w.heap.size,3,none⟩=some (v0.t)/\w'.cell? ⟨u5.heap.size,0,none⟩=some (.slice x1 p0.regions.length e1)/\w'.cell? ⟨u5.heap.size,1,none⟩=some (.slice x2 p0.consts.length e2)/\w'.cell? ⟨u5.heap.size,2,none⟩=some (.slice x3 p0.funcs.length e3)/\w'.cell? ⟨u5.heap.size,3,none⟩=some (.slice x4 p0.certs.length e4):=fun w' A B=>by
    obtain⟨q0,q1,q2,q3⟩:=cel4 A
    obtain⟨l0,l1,l2,l3⟩:=cel4 B
    exact⟨q0,q1,q2,q3,l0,l1,l2,l3⟩
  have HR:Hid (Below U4.heap.size U4 u9.drew/\Below u5.heap.size u5 u9.drew/\Blk u9.drew u5.heap.size #[.slice x1 p0.regions.length e1,.slice x2 p0.consts.length e2,.slice x3 p0.funcs.length e3,.slice x4 p0.certs.length e4] 36/\Blk u9.drew GB #[.int .i64 y.code,.int .i64 y.at_,.int .i64 y.depth,.slice ga F.length gc] 30/\OwTy u9.drew B6 (.slice ga F.length gc) F):=⟨below_on E10.out.1 (Nat.le_refl _) (below_drew1 _),below_on E10.out.2.1 (Nat.le_refl _) (below_drew1 _),E10.out.2.2.1.keep (below_drew1 _),E10.out.2.2.2.1.keep (below_drew1 _),E10.out.2.2.2.2.keep (below_drew1 _)⟩
  clear E10
  have b0:=KS _ (E5.out.1.keep HR.out.1) HR.out.2.2.1
  refine wp_region_held_drew (S:=fun w'=>w'.cell? ⟨w.heap.size,0,none⟩=some (v0.r)/\w'.cell? ⟨w.heap.size,1,none⟩=some (v0.k)/\w'.cell? ⟨w.heap.size,2,none⟩=some (v0.f)/\w'.cell? ⟨w.heap.size,3,none⟩=some (v0.t)/\w'.cell? ⟨u5.heap.size,0,none⟩=some (.slice x1 p0.regions.length e1)/\w'.cell? ⟨u5.heap.size,1,none⟩=some (.slice x2 p0.consts.length e2)/\w'.cell? ⟨u5.heap.size,2,none⟩=some (.slice x3 p0.funcs.length e3)/\w'.cell? ⟨u5.heap.size,3,none⟩=some (.slice x4 p0.certs.length e4)) (by kernel_rfl) b0 (fun hHeld=> ?_)
  clear b0
  generalize u9.drew=UD at HR hHeld⊢
  refine wpAnyH_take (i:=0) (v:= ?_) rfl (by kernel_rfl) (by kernel_rfl) (by kernel_rfl) (fun _ _ _ h=>h) (Or.inl ⟨by rfl,?_⟩) (by assumption) ?_
  rotate_left
  . (intro w hSw;(try dsimp only at hSw);go_simp;(try with_reducible rfl))
  refine wpAnyH_take (i:=1) (v:= ?_) rfl (by kernel_rfl) (by kernel_rfl) (by kernel_rfl) (fun _ _ _ h=>h) (Or.inl ⟨by rfl,?_⟩) (by assumption) ?_
  rotate_left
  . (intro w hSw;(try dsimp only at hSw);go_simp;(try with_reducible rfl))
  refine wpAnyH_ready (rs:=[2]) (by kernel_rfl) (by simp) ?_
  refine AllReadyH.cons rfl (fun KC hKC=> ?_) AllReadyH.nil
  go_simp
  refine(toProgram_any v0 p0 UD S0.out (HF.out.2.1.keep (below_on E5.out.2.1 (Nat.le_refl _) HR.out.1) (Nat.le_refl _))).mono ?_
  rintro e u11 ⟨a1,c1,a2,c2,a3,c3,a4,c4,rfl,own11,bl11⟩
  have E12:Hid ((Below U4.heap.size U4 u11/\Below u5.heap.size u5 u11/\Blk u11 u5.heap.size #[.slice x1 p0.regions.length e1,.slice x2 p0.consts.length e2,.slice x3 p0.funcs.length e3,.slice x4 p0.certs.length e4] 36/\Blk u11 GB #[.int .i64 y.code,.int .i64 y.at_,.int .i64 y.depth,.slice ga F.length gc] 30/\OwTy u11 B6 (.slice ga F.length gc) F)/\RdP u11 ⟨.slice a1 p0.regions.length c1,.slice a2 p0.consts.length c2,.slice a3 p0.funcs.length c3,.slice a4 p0.certs.length c4⟩ p0):=⟨⟨below_on HR.out.1 (Nat.le_refl _) bl11,below_on HR.out.2.1 (Nat.le_refl _) bl11,HR.out.2.2.1.keep bl11,HR.out.2.2.2.1.keep bl11,HR.out.2.2.2.2.keep bl11⟩,own11.rd⟩
  clear own11 bl11 HR
  go_simp
  refine hKC.out _ _ (KS _ (E5.out.1.keep E12.out.1.1) E12.out.1.2.2.1) (fun hHeld=> ?_)
  clear hKC KC
  refine wpAnyH_ready (rs:=[3]) (by kernel_rfl) (by simp) ?_
  refine AllReadyH.cons rfl (fun KC hKC=> ?_) AllReadyH.nil
  go_simp
  refine(eqProgram_same ⟨.slice x1 p0.regions.length e1,.slice x2 p0.consts.length e2,.slice x3 p0.funcs.length e3,.slice x4 p0.certs.length e4⟩ ⟨.slice a1 p0.regions.length c1,.slice a2 p0.consts.length c2,.slice a3 p0.funcs.length c3,.slice a4 p0.certs.length c4⟩ p0 u11 S0.out (X5.out.1.rd.keep E12.out.1.2.1 (Nat.le_refl _)) E12.out.2).mono ?_
  rintro e u12 ⟨rfl,bl12⟩
  have E13:Hid (Below U4.heap.size U4 u12/\Below u5.heap.size u5 u12/\Blk u12 u5.heap.size #[.slice x1 p0.regions.length e1,.slice x2 p0.consts.length e2,.slice x3 p0.funcs.length e3,.slice x4 p0.certs.length e4] 36/\Blk u12 GB #[.int .i64 y.code,.int .i64 y.at_,.int .i64 y.depth,.slice ga F.length gc] 30/\OwTy u12 B6 (.slice ga F.length gc) F):=by
    have E12':Hid (Below U4.heap.size U4 u11/\Below u5.heap.size u5 u11/\Blk u11 u5.heap.size #[.slice x1 p0.regions.length e1,.slice x2 p0.consts.length e2,.slice x3 p0.funcs.length e3,.slice x4 p0.certs.length e4] 36/\Blk u11 GB #[.int .i64 y.code,.int .i64 y.at_,.int .i64 y.depth,.slice ga F.length gc] 30/\OwTy u11 B6 (.slice ga F.length gc) F):=E12.out.1
    exact⟨below_on E12'.out.1 (Nat.le_refl _) bl12,below_on E12'.out.2.1 (Nat.le_refl _) bl12,E12'.out.2.2.1.keep bl12,E12'.out.2.2.2.1.keep bl12,E12'.out.2.2.2.2.keep bl12⟩
  clear bl12 E12
  go_simp
  refine hKC.out _ _ (KS _ (E5.out.1.keep E13.out.1) E13.out.2.2.1) (fun hHeld=> ?_)
  clear hKC KC
  refine wpAnyH_take (i:=4) (v:= ?_) rfl (by kernel_rfl) (by kernel_rfl) (by kernel_rfl) (fun _ _ _ h=>h) (Or.inl ⟨by rfl,?_⟩) (by assumption) ?_
  rotate_left
  . (intro w hSw;(try dsimp only at hSw);go_simp;(try with_reducible rfl))
  refine wpAnyH_done (by kernel_rfl) ?_ _
  clear hHeld KS
  go_upto_region 13 with fail
  obtain⟨j0,j1,j2,j3⟩:=cel4 E13.out.2.2.1
  go_wp2_with fail
  refine(markProgram_any u5 U4.heap.size ⟨.slice x1 p0.regions.length e1,.slice x2 p0.consts.length e2,.slice x3 p0.funcs.length e3,.slice x4 p0.certs.length e4⟩ p0 u12 S0.out X5.out.1 E13.out.2.1).mono ?_
  rintro e u14 ⟨⟨k1,rfl,hk1,_⟩,mg⟩
  have E14:Hid (Below U4.heap.size U4 u14/\Blk u14 GB #[.int .i64 y.code,.int .i64 y.at_,.int .i64 y.depth,.slice ga F.length gc] 30/\OwTy u14 B6 (.slice ga F.length gc) F):=by
    have hs1:=X5.out.2.size
    have hs2:=E13.out.2.1.size
    exact⟨E13.out.1.trans (mg.below (by omega)),E13.out.2.2.2.1.marks mg (by have:=HB6.out;omega),E13.out.2.2.2.2.marks mg (by have:=HB6.out;omega)⟩
  clear mg E13 j0 j1 j2 j3
  have hk1':¬k1<0:=by omega
  have hkd:decide (k1<0)=false:=by simp;omega
  obtain⟨g0,g1,g2,g3⟩:=cel4 E14.out.2.1
  obtain⟨k0,k1'',k2,k3⟩:=cel4 (E5.out.2.2.2.keep E14.out.1)
  go_wp2_with fail
  refine(eqTypeResult_same y.code y.at_ y.depth (.slice ga F.length gc) (.slice wa y.shapes.length wc) y.shapes u14 HL.out.sl.1 HL.out.sl.2 (HL.out.rd E14.out.2.2) (E5.out.2.2.1.keep E14.out.1 (Nat.le_refl _))).mono ?_
  rintro e u15 ⟨rfl,bl15⟩
  have E15:Hid (Below U4.heap.size U4 u15/\Blk u15 GB #[.int .i64 y.code,.int .i64 y.at_,.int .i64 y.depth,.slice ga F.length gc] 30/\OwTy u15 B6 (.slice ga F.length gc) F):=⟨below_on E14.out.1 (Nat.le_refl _) bl15,E14.out.2.1.keep bl15,E14.out.2.2.keep bl15⟩
  clear bl15 E14 g0 g1 g2 g3 k0 k1'' k2 k3
  obtain⟨g0,g1,g2,g3⟩:=cel4 E15.out.2.1
  go_wp2_with fail
  have hB6:B6<=u15.heap.size:=by have:=HB6.out.2;have:=E15.out.2.1.lt;omega
  refine(markTypeResult_ex B6 y.code y.at_ y.depth (.slice ga F.length gc) F u15 hB6 (Nat.le_trans HL.out.len (by omega)) HL.out.rows E15.out.2.2).mono ?_
  rintro e u17 ⟨rfl,how17,bl17,hbk17⟩
  have E17:Hid (Below U4.heap.size U4 u17/\Blk u17 GB #[.int .i64 y.code,.int .i64 y.at_,.int .i64 y.depth,.slice ga F.length gc] 30/\OwTy u17 B6 (.slice ga F.length gc) (markRs 1 F)):=by
    have hs1:=X5.out.2.size
    have hs2:=HB6.out.1
    refine⟨E15.out.1.trans (bl17.mono (by omega)),?_,how17⟩
    have:=E15.out.2.1
    unfold Blk at*
    exact hbk17 _ _ _ this (by decide)
  clear how17 bl17 hbk17 E15 g0 g1 g2 g3
  have hend:=endR_le 1 F HL.out.rows
  generalize hER:endR 1 F=er at hend⊢
  have HER:Hid (endR 1 F=er):=hER
  clear hER
  have her:¬er<0:=by omega
  obtain⟨g0,g1,g2,g3⟩:=cel4 E17.out.2.1
  go_wp2_with fail
  refine(heldTypeResult_ex B6 y.code y.at_ y.depth (.slice ga F.length gc) F u17 (Nat.le_trans HL.out.len (by omega)) HL.out.rows E17.out.2.2).mono ?_
  rintro e u19 ⟨rfl,bl19⟩
  have E19:Hid (Below U4.heap.size U4 u19/\Blk u19 GB #[.int .i64 y.code,.int .i64 y.at_,.int .i64 y.depth,.slice ga F.length gc] 30/\OwTy u19 B6 (.slice ga F.length gc) (markRs 1 F)):=⟨below_on E17.out.1 (Nat.le_refl _) bl19,E17.out.2.1.keep bl19,E17.out.2.2.keep bl19⟩
  clear bl19 E17 g0 g1 g2 g3
  rw[HER.out]
  obtain⟨i0,i1,i2,i3⟩:=cel4 (E5.out.1.keep E19.out.1)
  go_wp2_with fail
  refine(toProgram_any v0 p0 u19 S0.out (HF.out.2.1.keep (below_on E5.out.2.1 (Nat.le_refl _) E19.out.1) (Nat.le_refl _))).mono ?_
  rintro e u20 ⟨d1,h1,d2,h2,d3,h3,d4,h4,rfl,own20,bl20⟩
  have E20:Hid (Below U4.heap.size U4 u20/\Blk u20 GB #[.int .i64 y.code,.int .i64 y.at_,.int .i64 y.depth,.slice ga F.length gc] 30/\OwTy u20 B6 (.slice ga F.length gc) (markRs 1 F)):=⟨below_on E19.out.1 (Nat.le_refl _) bl20,E19.out.2.1.keep bl20,E19.out.2.2.keep bl20⟩
  have D20:Hid (OwnP u20 u19.heap.size ⟨.slice d1 p0.regions.length h1,.slice d2 p0.consts.length h2,.slice d3 p0.funcs.length h3,.slice d4 p0.certs.length h4⟩ p0):=own20
  clear own20 bl20 E19 i0 i1 i2 i3
  go_wp2_with fail
  refine(implTypes_any ⟨.slice d1 p0.regions.length h1,.slice d2 p0.consts.length h2,.slice d3 p0.funcs.length h3,.slice d4 p0.certs.length h4⟩ p0 p1 u20 S0.out HF.out.2.2.1 D20.out.rd D20.out.regions.rdc D20.out.funcs.rdp).mono ?_
  rintro e u21 ⟨y2,hy2,sH,F2,rfl,how2,hfs2,hfl2,hfx2,bl21⟩
  have eyy:y=y2:=HL.out.is.one hy2
  subst eyy
  obtain⟨ha,hc,esH⟩:=own_slice how2.row
  subst esH
  have E21:Hid ((Below U4.heap.size U4 u21/\Blk u21 GB #[.int .i64 y.code,.int .i64 y.at_,.int .i64 y.depth,.slice ga F.length gc] 30/\OwTy u21 B6 (.slice ga F.length gc) (markRs 1 F))/\OwTy u21 u20.heap.size (.slice ha F2.length hc) F2/\F2.map Prod.fst=y.shapes):=⟨⟨below_on E20.out.1 (Nat.le_refl _) bl21,E20.out.2.1.keep bl21,E20.out.2.2.keep bl21⟩,how2,hfs2⟩
  clear hy2 how2 hfs2 hfl2 hfx2 bl21 E20 D20
  go_upto_region 25 with fail
  refine wp_world (fun u=>Hid ((Below U4.heap.size U4 u/\Blk u GB #[.int .i64 y.code,.int .i64 y.at_,.int .i64 y.depth,.slice ga F.length gc] 30/\OwTy u B6 (.slice ga F.length gc) (markRs 1 F))/\RdR u (.slice ha F2.length hc) y.shapes/\Blk u u21.heap.size #[.int .i64 y.code,.int .i64 y.at_,.int .i64 y.depth,.slice ha F2.length hc] 30)) ⟨⟨below_on E21.out.1.1 (Nat.le_refl _) (below_alloc _ _),E21.out.1.2.1.keep (below_alloc _ _),E21.out.1.2.2.keep (below_alloc _ _)⟩,by have:=(E21.out.2.1.keep (below_alloc u21 (.cells #[.int .i64 y.code,.int .i64 y.at_,.int .i64 y.depth,.slice ha F2.length hc] 30))).rd;rw[E21.out.2.2]at this;exact this,Blk.new _ _ _⟩ ?_
  rintro U22 E22
  generalize u21.heap.size=TB at E22⊢
  clear E21
  obtain⟨g0,g1,g2,g3⟩:=cel4 E22.out.2.2
  obtain⟨k0,k1'',k2,k3⟩:=cel4 (E5.out.2.2.2.keep E22.out.1.1)
  go_wp2_with fail
  refine(eqTypeResult_same y.code y.at_ y.depth (.slice ha F2.length hc) (.slice wa y.shapes.length wc) y.shapes U22 HL.out.sl.1 HL.out.sl.2 E22.out.2.1 (E5.out.2.2.1.keep E22.out.1.1 (Nat.le_refl _))).mono ?_
  rintro e u23 ⟨rfl,bl23⟩
  have E23:Hid (Below U4.heap.size U4 u23/\Blk u23 GB #[.int .i64 y.code,.int .i64 y.at_,.int .i64 y.depth,.slice ga F.length gc] 30/\OwTy u23 B6 (.slice ga F.length gc) (markRs 1 F)):=by
    have E22':Hid (Below U4.heap.size U4 U22/\Blk U22 GB #[.int .i64 y.code,.int .i64 y.at_,.int .i64 y.depth,.slice ga F.length gc] 30/\OwTy U22 B6 (.slice ga F.length gc) (markRs 1 F)):=E22.out.1
    exact⟨below_on E22'.out.1 (Nat.le_refl _) bl23,E22'.out.2.1.keep bl23,E22'.out.2.2.keep bl23⟩
  clear bl23 E22 g0 g1 g2 g3 k0 k1'' k2 k3
  obtain⟨g0,g1,g2,g3⟩:=cel4 E23.out.2.1
  go_wp2_with fail
  refine(heldTypeResult_ex B6 y.code y.at_ y.depth (.slice ga F.length gc) F u23 (Nat.le_trans HL.out.len (by omega)) HL.out.rows E23.out.2.2).mono ?_
  rintro e u24 ⟨rfl,bl24⟩
  have E24:Hid (Below w.heap.size w u24):=below_on E5.out.2.1 (Nat.le_refl _) (below_on E23.out.1 (Nat.le_refl _) bl24)
  clear bl24 E23 g0 g1 g2 g3
  rw[HER.out]
  go_wp2_with fail
  go_ret
  exact⟨rfl,E24.out⟩
end Go.Proofs.YtdfmdgbolmbffaaGreat
