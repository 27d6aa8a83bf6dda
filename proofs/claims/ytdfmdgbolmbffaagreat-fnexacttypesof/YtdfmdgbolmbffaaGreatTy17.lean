import Derived.Test.YtdfmdgbolmbffaaGreatTy16
import Derived.Deep.RegionLaw
namespace Go.Proofs.YtdfmdgbolmbffaaGreat
open Go.ChangeShapes Go.WideShapes Go.ChangeAt Go.RowKit
set_option linter.unusedVariables false
set_option maxHeartbeats 8000000 in
set_option maxRecDepth 100000 in
theorem takesC(v:VP)(g:VF)(f:MF)(op a b c:Int)(ts:List Int)(w:World)(h:op=0/\ts=[]\/op=1/\ts=[]\/op=2/\ts=[]\/op=4/\ts=[]\/op=6/\ts=[3]\/op=8/\ts=[a,a]\/op=9/\ts=[a,a]\/op=10/\ts=[a,a]\/op=11/\ts=[a,a]\/op=12/\ts=[a,a]\/op=13/\ts=[a,a]\/op=14/\ts=[a,a]\/op=15/\ts=[a,a]\/op=16/\ts=[a]\/op=17/\ts=[3,3]\/op=18/\ts=[3,3]\/op=19/\ts=[2]\/op=20/\ts=[a,a]\/op=21/\ts=[a,a]\/op=22/\ts=[a]\/op=23/\ts=[0]\/op=24/\ts=[0]\/op=25/\ts=[]\/op=26/\ts=[1]\/op=27/\ts=[]):Calls Tryz.prog 147 #[.agg #[v.r,v.k,v.f,v.t,g.p,.int .i64 f.result,g.l,g.c],.agg #[.int .i64 op,.int .i64 a,.int .i64 b,.int .i64 c]] w (TysIs w ts):=by
  have E0:Hid _:=Sc2.of w v g f op a b c
  rcases h with⟨rfl,rfl⟩|⟨rfl,rfl⟩|⟨rfl,rfl⟩|⟨rfl,rfl⟩|⟨rfl,rfl⟩|⟨rfl,rfl⟩|⟨rfl,rfl⟩|⟨rfl,rfl⟩|⟨rfl,rfl⟩|⟨rfl,rfl⟩|⟨rfl,rfl⟩|⟨rfl,rfl⟩|⟨rfl,rfl⟩|⟨rfl,rfl⟩|⟨rfl,rfl⟩|⟨rfl,rfl⟩|⟨rfl,rfl⟩|⟨rfl,rfl⟩|⟨rfl,rfl⟩|⟨rfl,rfl⟩|⟨rfl,rfl⟩|⟨rfl,rfl⟩|⟨rfl,rfl⟩|⟨rfl,rfl⟩|⟨rfl,rfl⟩
  all_goals
    go_enter Tryz.func147,Tryz.ntmps147
    go_upto_region 1 with fail
    refine wp_world (fun u=>Hid (Sc2 w u v g f _ a b c)) E0 ?_
    rintro U E1
    clear E0
    have i0:=E1.out.ib.cell 0
    have i1:=E1.out.ib.cell 1
    have i2:=E1.out.ib.cell 2
    simp only[List.getElem?_toArray,List.getElem?_cons_zero,List.getElem?_cons_succ]at i0 i1 i2
    go_wp2_with fail
    go_ret
    first|exact tys_nil E1.out.bel|exact tys_new E1.out.bel _ 1 1 rfl|exact tys_new E1.out.bel _ 2 2 rfl
set_option maxHeartbeats 8000000 in
set_option maxRecDepth 100000 in
theorem givesC(v:VP)(g:VF)(f:MF)(op a b c:Int)(ts:List Int)(w:World)(h:op=0/\ts=[]\/op=3/\ts=[]\/op=5/\ts=[]\/op=7/\ts=[]\/op=8/\ts=[a]\/op=9/\ts=[a]\/op=10/\ts=[a]\/op=11/\ts=[a]\/op=12/\ts=[a]\/op=13/\ts=[a]\/op=14/\ts=[a]\/op=15/\ts=[a]\/op=16/\ts=[a]\/op=17/\ts=[3]\/op=18/\ts=[3]\/op=19/\ts=[2]\/op=20/\ts=[1]\/op=21/\ts=[1]\/op=22/\ts=[b]\/op=23/\ts=[0,0]\/op=24/\ts=[]\/op=25/\ts=[]\/op=26/\ts=[]\/op=27/\ts=[]\/op=29/\ts=[]):Calls Tryz.prog 150 #[.agg #[v.r,v.k,v.f,v.t,g.p,.int .i64 f.result,g.l,g.c],.agg #[.int .i64 op,.int .i64 a,.int .i64 b,.int .i64 c]] w (TysIs w ts):=by
  have E0:Hid _:=Sc2.of w v g f op a b c
  rcases h with⟨rfl,rfl⟩|⟨rfl,rfl⟩|⟨rfl,rfl⟩|⟨rfl,rfl⟩|⟨rfl,rfl⟩|⟨rfl,rfl⟩|⟨rfl,rfl⟩|⟨rfl,rfl⟩|⟨rfl,rfl⟩|⟨rfl,rfl⟩|⟨rfl,rfl⟩|⟨rfl,rfl⟩|⟨rfl,rfl⟩|⟨rfl,rfl⟩|⟨rfl,rfl⟩|⟨rfl,rfl⟩|⟨rfl,rfl⟩|⟨rfl,rfl⟩|⟨rfl,rfl⟩|⟨rfl,rfl⟩|⟨rfl,rfl⟩|⟨rfl,rfl⟩|⟨rfl,rfl⟩|⟨rfl,rfl⟩|⟨rfl,rfl⟩
  all_goals
    go_enter Tryz.func150,Tryz.ntmps150
    go_upto_region 1 with fail
    refine wp_world (fun u=>Hid (Sc2 w u v g f _ a b c)) E0 ?_
    rintro U E1
    clear E0
    have i0:=E1.out.ib.cell 0
    have i1:=E1.out.ib.cell 1
    have i2:=E1.out.ib.cell 2
    simp only[List.getElem?_toArray,List.getElem?_cons_zero,List.getElem?_cons_succ]at i0 i1 i2
    go_wp2_with fail
    go_ret
    first|exact tys_nil E1.out.bel|exact tys_new E1.out.bel _ 1 1 rfl|exact tys_new E1.out.bel _ 2 2 rfl
end Go.Proofs.YtdfmdgbolmbffaaGreat
