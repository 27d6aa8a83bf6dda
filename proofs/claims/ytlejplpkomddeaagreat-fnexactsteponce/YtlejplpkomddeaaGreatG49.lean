import Derived.Test.YtlejplpkomddeaaGreatG0
import Derived.Test.YtlejplpkomddeaaGreatG5
import Derived.Test.YtlejplpkomddeaaGreatG48
namespace Go.Proofs.YtlejplpkomddeaaGreat
open Go.ChangeShapes Go.WideShapes Go.ChangeAt Go.RowKit
set_option linter.unusedVariables false
set_option maxHeartbeats 2000000
set_option maxRecDepth 100000
theorem Oh(B M top:Nat)(t:Int)(d:Bool)(c n:Int)(X:VS)(C:List (Value×List MC))(K:List MC)(F:List (MG×Value))(hv:Value)(gf c3 gH nf ch kf:Nat)(y:MG×Value)(w:World)(h:Aj w B X C K F)(hm:MB w M t d c n X hv)(hF:F.length=top+1)(hF1:top<=1048576)(hy:F[top]?=some y)(hXf:X.f=.slice (some ⟨gf,0,none⟩) (top+1) c3)(hhv:hv=(.slice (some ⟨gH,0,none⟩) nf ch))(hkf:y.1.func=kf)(hk:kf<nf)(hnf:nf<=1048576):
  Calls Tryz.prog 98 #[.pointer (some ⟨M,0,none⟩)] w fun e w'=>e=.returned (.agg #[.pointer (some ⟨gH,kf*9,none⟩),.pointer (some ⟨gf,top*4,none⟩)])/\Below w.heap.size w w':=by
 subst hhv;obtain⟨x1,x2,x3⟩:=X;simp only[]at hXf;subst hXf;have E0:Hid (MB (w.alloc (.cells #[.pointer none,.pointer none] 172)) M t d c n _ _/\Aj (w.alloc (.cells #[.pointer none,.pointer none] 172)) B _ C K F/\Aq (w.alloc (.cells #[.pointer none,.pointer none] 172)) w.heap.size _ _/\Below w.heap.size w (w.alloc (.cells #[.pointer none,.pointer none] 172))):=⟨hm.keep (Aa _ _),h.grow (Aa _ _),Aq.new _ _ _,Aa _ _⟩
 have H:=h3 hF hy hkf;have hkI:(kf:Int)<(nf:Int):=by omega
 have hwt:IntKind.i64.wrap (top:Int)=(top:Int):=IntWalk.i64_in _ (by omega);clear h hm hy hkf;go_enter Tryz.func98,Tryz.ntmps98;go_upto_region 1 with fail
 refine Ag (fun u=>Hid (MB u M t d c n _ _/\Aj u B _ C K F/\Aq u w.heap.size _ _/\Below w.heap.size w u)) E0 ?_
 rintro U E1;clear E0;have m6:=E1.out.1.at.2.2.2.2.2.2.1;simp only[]at m6;have inst:=Ae.some U;have J0:=fun n:Ae U=>Ae.cell m6 n
 go_wp2_with fail
 refine Ak (by kernel_rfl) (by kernel_rfl) ?_;repeat(go_big_quiet_step (fail))
 refine wpQuiet_nil ?_;rintro w'' ⟨n',rfl⟩;have E2:=h4 (E1.out.1.keep n'.h) (E1.out.2.1.grow n'.h) (E1.out.2.2.1.keep n'.h) (Ac E1.out.2.2.2 lR n'.h);clear J0 inst m6 E1;go_upto_region 2 with fail
 generalize n'.u=V at E2⊢;clear n';have m7:=E2.out.1.at.2.2.2.2.2.2.2;have ho:=E2.out.2.1.frames;simp only[]at ho;rw[H.out.1]at ho;have fc0:=ho.cellAt (top*4+0) (by omega);rw[Az As 4 Al F top 0 _ H.out.2.1 (by omega)]at fc0;simp only[As,gZ,H.out.2.2,Nat.add_zero]at fc0;clear ho;obtain⟨r0,r1⟩:=E2.out.2.2.1.c2;obtain⟨rz0,rz1⟩:=E2.out.2.2.1.z2;try dsimp only at r0 r1
 have bD:=Ad V;have m7d:=Ab bD m7;have fcd:=Ab bD fc0;have r0d:=Ab bD r0;have r1d:=Ab bD r1;have R1:=E2.out.2.2.1.set 0 (.pointer (some ⟨gH,kf*9,none⟩));have q1:=R1.cell 1;have R2:=R1.set 1 (.pointer (some ⟨gf,top*4,none⟩));obtain⟨q3,q4⟩:=R2.c2;simp only[sA,List.set_cons_zero,gA,gZ,gS]at q1 q3 q4;have q1d:(V.setCell ⟨w.heap.size,0,none⟩ (.pointer (some ⟨gH,kf*9,none⟩))).drew.cell? ⟨w.heap.size,1,none⟩=some (.pointer none):=q1;have q2d:(V.setCell ⟨w.heap.size,0,none⟩ (.pointer (some ⟨gH,kf*9,none⟩))).drew.frozen? ⟨w.heap.size,1,none⟩=false:=R1.frozen 1;have q0d:V.drew.frozen? ⟨w.heap.size,0,none⟩=false:=rz0;have q3d:((V.setCell ⟨w.heap.size,0,none⟩ (.pointer (some ⟨gH,kf*9,none⟩))).setCell ⟨w.heap.size,1,none⟩ (.pointer (some ⟨gf,top*4,none⟩))).drew.cell? ⟨w.heap.size,0,none⟩=some (.pointer (some ⟨gH,kf*9,none⟩)):=q3;have q4d:((V.setCell ⟨w.heap.size,0,none⟩ (.pointer (some ⟨gH,kf*9,none⟩))).setCell ⟨w.heap.size,1,none⟩ (.pointer (some ⟨gf,top*4,none⟩))).drew.cell? ⟨w.heap.size,1,none⟩=some (.pointer (some ⟨gf,top*4,none⟩)):=q4
 have HB:Hid (Below w.heap.size w ((V.drew.setCell ⟨w.heap.size,0,none⟩ (.pointer (some ⟨gH,kf*9,none⟩))).setCell ⟨w.heap.size,1,none⟩ (.pointer (some ⟨gf,top*4,none⟩)))):=((Ac E2.out.2.2.2 lR bD).setCell (by simp) _).setCell (by simp) _;clear m7 fc0 r0 r1 rz0 rz1 bD R1 R2;go_upto_region 2 with fail
 go_region_law (fail)
 all_goals
  go_wp2_with fail
  exact bodyPost_ret (v:=.agg #[.pointer (some ⟨gH,kf*9,none⟩),.pointer (some ⟨gf,top*4,none⟩)]) (by simp[results,Tryz.results98,go_sem,q3d,q4d]) rfl ⟨rfl,HB.out⟩
end Go.Proofs.YtlejplpkomddeaaGreat
