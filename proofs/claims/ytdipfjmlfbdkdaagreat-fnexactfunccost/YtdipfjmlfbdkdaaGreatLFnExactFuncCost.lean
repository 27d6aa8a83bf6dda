import Derived.Test.YtdipfjmlfbdkdaaGreatRows
import Derived.Test.YtdipfjmlfbdkdaaGreatFc0
import Derived.Test.YtdipfjmlfbdkdaaGreatFc50
import Derived.Test.YtdipfjmlfbdkdaaGreatFc52
import Derived.Test.YtdipfjmlfbdkdaaGreatFc3
import Derived.Test.YtdipfjmlfbdkdaaGreatFc31
import Derived.WalkKit
import Derived.ProofKit
import Derived.OpenShut
import Derived.ShutString
import Derived.ChangeOld
import Derived.Below
namespace Go.Proofs.YtdipfjmlfbdkdaaGreat.fnExactFuncCost
open Go.ChangeShapes Go.WideShapes Go.ChangeAt Go.RowKit
set_option linter.unusedVariables false
theorem own:ownKnob Tryz.prog.godebug=none:=by kernel_rfl
theorem Kp:laidOutB Tryz.prog=true:=by kernel_rfl
set_option maxRecDepth 100000 in
set_option maxHeartbeats 8000000 in
theorem RI(v0:VP)(p0:MP)(p1:Int)(v2:Value)(p2:List Int)(w:World)(h0:Dg w v0 p0)(b0:p0.fits)(f0:p0.wf)(f1:CD p1)(h2:Rd w 1 v2 p2.length (p2.flatMap Ac))(b2:p2.length<=9223372036854775807):
 Calls Tryz.prog 3 #[.agg #[v0.r,v0.k,v0.f,v0.t],.int .i64 p1,v2] w fun e w'=>e=.returned (.bool true)/\Below w.heap.size w w':=by
 have B0:Hid (Cd (w.alloc (.cells #[v0.r,v0.k,v0.f,v0.t] 27)) w.heap.size v0.r v0.k v0.f v0.t/\Below w.heap.size w (w.alloc (.cells #[v0.r,v0.k,v0.f,v0.t] 27))):=⟨Cd.new w _ _ _ _ _,Aa _ _⟩
 obtain⟨sa2,sc2,rfl⟩:∃a c,v2=.slice a p2.length c:=h2.is_slice;have HF:Hid (p0.fits/\Dg w v0 p0/\p0.wf/\CD p1/\Rd w 1 (.slice sa2 p2.length sc2) p2.length (p2.flatMap Ac)/\p2.length<=9223372036854775807):=⟨b0,h0,f0,f1,h2,b2⟩
 clear b0 f0 f1 h0 h2 b2;generalize hpl:p2.length=n2 at HF⊢;have HPL:Hid (p2.length=n2):=hpl;clear hpl;go_enter Tryz.func3,Tryz.ntmps3;go_upto_region 1 with fail
 refine Al (fun u=>Hid (Cd u w.heap.size v0.r v0.k v0.f v0.t/\Below w.heap.size w u)) B0 ?_
 rintro U0 E0;clear B0;have hnb:n2<=9223372036854775807:=HF.out.2.2.2.2.2;by_cases hbig:1048576<n2
 . have hbigI:(1048576:Int)<(n2:Int):=by omega
   go_wp2_with fail
   go_ret
   exact⟨rfl,E0.out.2⟩
 have hbigI:¬(1048576:Int)<(n2:Int):=by omega
 have S2:Hid (p2.length<=1048576):=(show p2.length<=1048576 by rw[HPL.out];omega);obtain⟨i0,i1,i2,i3⟩:=E0.out.1;go_wp2_with fail;refine(Jt v0 p0 1048576 U0 HF.out.1 (HF.out.2.1.keep E0.out.2 (Nat.le_refl _)) (by omega) (by omega)).mono ?_;rintro e u1 ⟨r1,rfl,hr1,bl1⟩;have E1:Hid (Cd u1 w.heap.size v0.r v0.k v0.f v0.t/\Below w.heap.size w u1):=⟨E0.out.1.keep bl1,Ab E0.out.2 (Nat.le_refl _) bl1⟩
 clear bl1 E0 i0 i1 i2 i3;rcases hr1 with rfl|⟨hr0,hr1,hs0⟩
 . go_wp2_with fail
   go_ret
   exact⟨rfl,E1.out.2⟩
 have S0:Hid p0.small:=hs0;clear hs0;have hrm:¬r1<0:=by omega
 clear hr0 hr1 hbigI;obtain⟨i0,i1,i2,i3⟩:=E1.out.1;go_wp2_with fail
 refine(DY v0 p0 u1 S0.out (HF.out.2.1.keep E1.out.2 (Nat.le_refl _))).mono ?_;rintro e u3 ⟨a1,c1,a2,c2,a3,c3,a4,c4,rfl,own3,bl3⟩;have E2:Hid (Cd u3 w.heap.size v0.r v0.k v0.f v0.t/\Below w.heap.size w u3/\Dg u3 ⟨.slice a1 p0.regions.length c1,.slice a2 p0.consts.length c2,.slice a3 p0.funcs.length c3,.slice a4 p0.certs.length c4⟩ p0):=⟨E1.out.1.keep bl3,Ab E1.out.2 (Nat.le_refl _) bl3,own3.rd⟩
 clear own3 bl3 E1 i0 i1 i2 i3 hrm;go_wp2_with fail
 refine(IU sa2 sc2 n2 p2 u3 HPL.out S2.out (HF.out.2.2.2.2.1.keep E2.out.2.1 (Nat.le_refl _))).mono ?_;rintro e u4 ⟨d1,g1,rfl,own4,bl4⟩;have E3:Hid (Cd u4 w.heap.size v0.r v0.k v0.f v0.t/\Below w.heap.size w u4/\Dg u4 ⟨.slice a1 p0.regions.length c1,.slice a2 p0.consts.length c2,.slice a3 p0.funcs.length c3,.slice a4 p0.certs.length c4⟩ p0/\Rd u4 1 (.slice d1 n2 g1) n2 (p2.flatMap Ac)):=⟨E2.out.1.keep bl4,Ab E2.out.2.1 (Nat.le_refl _) bl4,E2.out.2.2.keep bl4 (Nat.le_refl _),own4⟩
 clear own4 bl4 E2;go_wp2_with fail
 refine(LK ⟨.slice a1 p0.regions.length c1,.slice a2 p0.consts.length c2,.slice a3 p0.funcs.length c3,.slice a4 p0.certs.length c4⟩ p0 p1 (.slice d1 n2 g1) p2 u4 S0.out HF.out.2.2.1 HF.out.2.2.2.1 E3.out.2.2.1 (by rw[HPL.out];exact E3.out.2.2.2) S2.out).mono ?_;rintro e u5 ⟨⟨b5,rfl,hb5⟩,bl5⟩;have E4:Hid (Cd u5 w.heap.size v0.r v0.k v0.f v0.t/\Below w.heap.size w u5):=⟨E3.out.1.keep bl5,Ab E3.out.2.1 (Nat.le_refl _) bl5⟩
 have HB5:Hid (CC p0 p1 p2 b5):=hb5;clear hb5 bl5 E3;obtain⟨i0,i1,i2,i3⟩:=E4.out.1;go_wp2_with fail
 refine(DY v0 p0 u5 S0.out (HF.out.2.1.keep E4.out.2 (Nat.le_refl _))).mono ?_;rintro e u6 ⟨x1,e1,x2,e2,x3,e3,x4,e4,rfl,own6,bl6⟩
 have E5:Hid (Cd (u6.alloc (.cells #[.slice x1 p0.regions.length e1,.slice x2 p0.consts.length e2,.slice x3 p0.funcs.length e3,.slice x4 p0.certs.length e4] 35)) w.heap.size v0.r v0.k v0.f v0.t/\Below w.heap.size w (u6.alloc (.cells #[.slice x1 p0.regions.length e1,.slice x2 p0.consts.length e2,.slice x3 p0.funcs.length e3,.slice x4 p0.certs.length e4] 35))/\Fm (u6.alloc (.cells #[.slice x1 p0.regions.length e1,.slice x2 p0.consts.length e2,.slice x3 p0.funcs.length e3,.slice x4 p0.certs.length e4] 35)) u5.heap.size ⟨.slice x1 p0.regions.length e1,.slice x2 p0.consts.length e2,.slice x3 p0.funcs.length e3,.slice x4 p0.certs.length e4⟩ p0/\Cd (u6.alloc (.cells #[.slice x1 p0.regions.length e1,.slice x2 p0.consts.length e2,.slice x3 p0.funcs.length e3,.slice x4 p0.certs.length e4] 35)) u6.heap.size (.slice x1 p0.regions.length e1) (.slice x2 p0.consts.length e2) (.slice x3 p0.funcs.length e3) (.slice x4 p0.certs.length e4)):=⟨(E4.out.1.keep bl6).alloc _,Ab (Ab E4.out.2 (Nat.le_refl _) bl6) (Nat.le_refl _) (Aa _ _),own6.keep (Aa _ _) (Nat.le_refl _),Cd.new u6 _ _ _ _ _⟩
 clear own6 bl6 E4 i0 i1 i2 i3;go_upto_region 9 with fail
 generalize u6.heap.size=X at E5⊢;refine Al (fun u=>Hid (Cd u w.heap.size v0.r v0.k v0.f v0.t/\Below w.heap.size w u/\Fm u u5.heap.size ⟨.slice x1 p0.regions.length e1,.slice x2 p0.consts.length e2,.slice x3 p0.funcs.length e3,.slice x4 p0.certs.length e4⟩ p0/\Cd u X (.slice x1 p0.regions.length e1) (.slice x2 p0.consts.length e2) (.slice x3 p0.funcs.length e3) (.slice x4 p0.certs.length e4))) E5 ?_
 rintro U7 E6;clear E5;go_wp2_with fail
 refine(IU sa2 sc2 n2 p2 U7 HPL.out S2.out (HF.out.2.2.2.2.1.keep E6.out.2.1 (Nat.le_refl _))).mono ?_;rintro e u8 ⟨d2,g2,rfl,own8,bl8⟩;have E7:Hid (Cd u8 w.heap.size v0.r v0.k v0.f v0.t/\Below w.heap.size w u8/\Fm u8 u5.heap.size ⟨.slice x1 p0.regions.length e1,.slice x2 p0.consts.length e2,.slice x3 p0.funcs.length e3,.slice x4 p0.certs.length e4⟩ p0/\Cd u8 X (.slice x1 p0.regions.length e1) (.slice x2 p0.consts.length e2) (.slice x3 p0.funcs.length e3) (.slice x4 p0.certs.length e4)/\Rd u8 1 (.slice d2 n2 g2) n2 (p2.flatMap Ac)):=⟨E6.out.1.keep bl8,Ab E6.out.2.1 (Nat.le_refl _) bl8,E6.out.2.2.1.keep bl8 (Nat.le_refl _),E6.out.2.2.2.keep bl8,own8⟩
 clear own8 bl8 E6;obtain⟨j0,j1,j2,j3⟩:=E7.out.2.2.2.1;go_wp2_with fail
 refine(Ki ⟨.slice x1 p0.regions.length e1,.slice x2 p0.consts.length e2,.slice x3 p0.funcs.length e3,.slice x4 p0.certs.length e4⟩ p0 p1 d2 g2 p2 n2 u8 S0.out HF.out.2.2.1 E7.out.2.2.1.rd E7.out.2.2.1.regions.rdc E7.out.2.2.1.funcs.rdp E7.out.2.2.1.funcs.rdk S2.out HPL.out E7.out.2.2.2.2).mono ?_;rintro e u9 ⟨⟨b9,rfl,hb9⟩,bl9⟩;obtain rfl:b9=b5:=hb9.one HB5.out;have E8:Hid (Cd u9 w.heap.size v0.r v0.k v0.f v0.t/\Below w.heap.size w u9/\Dg u9 ⟨.slice x1 p0.regions.length e1,.slice x2 p0.consts.length e2,.slice x3 p0.funcs.length e3,.slice x4 p0.certs.length e4⟩ p0/\Cd u9 X (.slice x1 p0.regions.length e1) (.slice x2 p0.consts.length e2) (.slice x3 p0.funcs.length e3) (.slice x4 p0.certs.length e4)/\Rd u9 1 (.slice d2 n2 g2) n2 (p2.flatMap Ac)):=⟨E7.out.1.keep bl9,Ab E7.out.2.1 (Nat.le_refl _) bl9,(E7.out.2.2.1.keep bl9 (Nat.le_refl _)).rd,E7.out.2.2.2.1.keep bl9,E7.out.2.2.2.2.keep bl9 (Nat.le_refl _)⟩
 have R0:Hid (Dg u9 v0 p0):=HF.out.2.1.keep E8.out.2.1 (Nat.le_refl _);clear hb9 bl9 HB5 E7 j0 j1 j2 j3;obtain⟨i0,i1,i2,i3⟩:=E8.out.1;obtain⟨j0,j1,j2,j3⟩:=E8.out.2.2.2.1;go_upto_region 13 with fail
 go_cut [41] (fun s wx=>s=.bool false/\Hid (Below u9.heap.size u9 wx))
 case first=>
  go_region_with (first
   |(go_at_call 6;refine(DY v0 p0 _ S0.out ?_).mono ?_;exact R0.out.keep (Ae _) (Nat.le_refl _);rintro e uA ⟨y1,l1,y2,l2,y3,l3,y4,l4,rfl,own9,bl9⟩;have B9:Hid (Below u9.heap.size u9 uA):=A4 bl9 (Nat.le_refl _);have O9:Hid (Dg uA ⟨.slice y1 p0.regions.length l1,.slice y2 p0.consts.length l2,.slice y3 p0.funcs.length l3,.slice y4 p0.certs.length l4⟩ p0):=own9.rd;clear own9 bl9;obtain⟨k0,k1,k2,k3⟩:=E8.out.2.2.2.1.keep B9.out)
   |(go_at_call 9;refine(Ie ⟨.slice x1 p0.regions.length e1,.slice x2 p0.consts.length e2,.slice x3 p0.funcs.length e3,.slice x4 p0.certs.length e4⟩ ⟨.slice y1 p0.regions.length l1,.slice y2 p0.consts.length l2,.slice y3 p0.funcs.length l3,.slice y4 p0.certs.length l4⟩ p0 _ S0.out ?_ ?_).mono ?_;exact E8.out.2.2.1.keep B9.out (Nat.le_refl _);exact O9.out;rintro e uB ⟨rfl,bl10⟩;have B10:Hid (Below u9.heap.size u9 uB):=Ab B9.out (Nat.le_refl _) bl10;clear bl10))
  all_goals(go_wp2_with fail;go_meet;exact⟨rfl,B10⟩)
 case rest=>
 obtain⟨rfl,HC⟩:=hcut;have E9:Hid (Below w.heap.size w wc/\Rd wc 1 (.slice d2 n2 g2) n2 (p2.flatMap Ac)):=⟨Ab E8.out.2.1 (Nat.le_refl _) HC.out,E8.out.2.2.2.2.keep HC.out (Nat.le_refl _)⟩
 clear HC E8 R0 i0 i1 i2 i3 j0 j1 j2 j3;go_wp2_with fail
 refine(IU sa2 sc2 n2 p2 wc HPL.out S2.out (HF.out.2.2.2.2.1.keep E9.out.1 (Nat.le_refl _))).mono ?_;rintro e uC ⟨d3,g3,rfl,ownC,blC⟩;have E10:Hid (Below w.heap.size w uC/\Rd uC 1 (.slice d2 n2 g2) n2 (p2.flatMap Ac)/\Rd uC 1 (.slice d3 n2 g3) n2 (p2.flatMap Ac)):=⟨Ab E9.out.1 (Nat.le_refl _) blC,E9.out.2.keep blC (Nat.le_refl _),ownC⟩
 clear ownC blC E9;go_wp2_with fail
 refine(CU (.slice d2 n2 g2) (.slice d3 n2 g3) p2 uC (by have:=S2.out;omega) (by rw[HPL.out];exact E10.out.2.1) (by rw[HPL.out];exact E10.out.2.2)).mono ?_;rintro e uD ⟨rfl,blD⟩;have E11:Hid (Below w.heap.size w uD):=Ab E10.out.1 (Nat.le_refl _) blD;clear blD E10;go_wp2_with fail;go_ret;exact⟨rfl,E11.out⟩
set_option maxRecDepth 100000 in
theorem QQ(os:Os)(started:os.Started)(H:Type)(enc:TypeId×Value->H):
 ReturnsInHanded {} Tryz.checked os 3 .any (Rows.fnExactFuncCostSpec.pre6 enc Tryz.prog Tryz.f3 Rows.fnExactFuncCostRow.domain false) (Rows.fnExactFuncCostSpec.post enc Tryz.prog Tryz.f3 false true false false):=by
 refine returnsInHanded_of_change (C:=Tryz.checked) own started (by kernel_rfl) Tryz.func3
  (ChangeSpec.witness6 (enc:=enc) (C:=Tryz.checked) false ⟨#[],#[.agg #[.slice none 0 0,.slice none 0 0,.slice none 0 0,.slice none 0 0],.int .i64 0,.slice none 0 0],[]⟩ 8 (by kernel_rfl) (by kernel_rfl) (by kernel_rfl) (by kernel_rfl)) ?_
 intro W base args ds gs before hval0 hW hcnd _;have hval:∀(j:Nat) t v,Tryz.f3.params[j]?=some t->args[j]?=some v->Value.okWide Tryz.prog W .any base t v:=hval0;have hW':=hW;obtain⟨p,q,hA0,hV,rfl,hfz,hnd⟩:=hW;have hA:DataW.TrodAll enc Tryz.prog W 0 (fun _=>true) true Tryz.f3.params.toList args.toList ds p:=hA0;rw[Tryz.params3]at hA hval;obtain⟨x0,xs0,d0,ds0,q0,r0,hargs,rfl,rfl,t0,u0⟩:=trodAll_cons hA;obtain⟨x1,xs1,d1,ds1,q1,r1,rfl,rfl,rfl,t1,u1⟩:=trodAll_cons u0;obtain⟨x2,xs2,d2,ds2,q2,r2,rfl,rfl,rfl,t2,u2⟩:=trodAll_cons u1;obtain⟨rfl,rfl,rfl⟩:=trodAll_nil u2;obtain rfl:args=#[x0,x1,x2]:=by cases args;simp_all
 obtain⟨rfl,rfl⟩:=trodVars_none hV;obtain⟨cs0,rfl,_⟩:=okWide_struct Tryz.underlying27 (hval 0 27 x0 rfl rfl);have k0:=t0;have lt0:∀x∈q0,x.block<W.heap.size:=by obtain⟨m,hm⟩:=k0;exact DataW.trod_lt m _ _ _ hm
 obtain⟨p0,v0,e0,h0,b0,f0⟩:∃(p:MP) (v:VP),cs0=#[v.r,v.k,v.f,v.t]/\Dg W v p/\p.fits/\p.wf:=by
  obtain⟨fuel,hf⟩:=t0;obtain⟨p,v,e,h,b,f⟩:=Kt hf;exact⟨p,v,by apply Array.toList_inj.1;exact e,h,b,f⟩
 subst e0;obtain⟨p1,rfl⟩:=okWide_int Tryz.underlying2 (hval 1 2 x1 rfl rfl);have k1:=t1;have lt1:∀x∈q1,x.block<W.heap.size:=by obtain⟨m,hm⟩:=k1;exact DataW.trod_lt m _ _ _ hm
 have f1:CD p1:=by
  obtain⟨fuel,hf⟩:=t1;obtain⟨z,e,h⟩:=Ch hf;have e2:p1=z:=by simpa[Ac,Value.cells]using e
  rw[e2];exact h
 obtain⟨ax2,nx2,cx2,rfl⟩:=okWide_slice Tryz.underlying28 (hval 2 28 x2 rfl rfl);have k2:=t2;have lt2:∀x∈q2,x.block<W.heap.size:=by obtain⟨m,hm⟩:=k2;exact DataW.trod_lt m _ _ _ hm
 obtain⟨p2,h2,b2⟩:∃p:List Int,Rd W 1 (.slice ax2 nx2 cx2) p.length (p.flatMap Ac)/\p.length<=9223372036854775807:=by
  obtain⟨fuel,hf⟩:=t2;obtain⟨y,e,h,b,_⟩:=DN hf
  have es:y.2=.slice ax2 nx2 cx2:=by
   have e2:[(.slice ax2 nx2 cx2:Value)]=[y.2]:=e;exact(List.cons.inj e2).1.symm
  rw[es]at h;exact⟨y.1,h,by simp[maxLen]at b;exact b⟩
 clear hA0 hval0;refine(RI v0 p0 p1 _ p2 W h0 b0 f0 f1 h2 b2).mono fun e W' ⟨he,bel⟩=> ?_
 subst he;exact⟨_,rfl,_,_,_,[],_,[],hW',trodAll_mk1 (shut_bool Tryz.underlying4 _),(trodAll_cons_mk (Below.trod Kp (by kernel_rfl) (dP (by kernel_rfl)) k0 bel lt0) (trodAll_cons_mk (Below.trod Kp (by kernel_rfl) (dP (by kernel_rfl)) k1 bel lt1) (trodAll_cons_mk (Below.trod Kp (by kernel_rfl) (dP (by kernel_rfl)) k2 bel lt2) trodAll_mk0))),rfl,bel.frame _,fun h=>by cases h⟩
theorem over:Rows.fnExactFuncCostRow.holds Tryz.pinned (OpenSpec.ofChange Rows.fnExactFuncCostSpec):=
 OpenClaim.holds_of_wide 3 Tryz.f3 rfl rfl rfl rfl rfl rfl rfl ⟨rfl,rfl,rfl,rfl,rfl⟩ rfl rfl rfl rfl rfl (by kernel_rfl) Tryz.func3 (by kernel_rfl)
  (dP (by kernel_rfl)) (by unfold Func.isWrapper;first|(rw[a8 (by decide+kernel)];kernel_rfl)|(rw[bF (by decide+kernel)];exact⟨rfl,rfl⟩))
  (fun os started H enc _=>QQ os started H enc)
theorem proved:Rows.FnExactFuncCostSaid:=over
#print axioms proved
end Go.Proofs.YtdipfjmlfbdkdaaGreat.fnExactFuncCost
namespace Go.Proofs.YtdipfjmlfbdkdaaGreat
theorem fnExactFuncCost_holds:Rows.FnExactFuncCostSaid:=fnExactFuncCost.proved
end Go.Proofs.YtdipfjmlfbdkdaaGreat
