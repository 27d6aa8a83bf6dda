import Derived.Test.YtkgohaigebcgoaaGreatDoorCh9
namespace Go.Proofs.YtkgohaigebcgoaaGreatDoor
open Go.ChangeShapes Go.WideShapes Go.ChangeAt Go.RowKit Go.Proofs.Tryz
set_option linter.unusedVariables false
open Go renaming World → Y,Calls → Ai
open Go.RowKit renaming Hid → Ae
open Go.Value renaming agg → An
open Go.Proofs.Tryz renaming prog → Aq
set_option maxHeartbeats 8000000
set_option maxRecDepth 100000
theorem T4{q:Prop}(h:q:=by
 go_upto_region 1 with fail
 refine Av (λu=>Ae (Im w u v g f _ a b c)) E0 ?_;rintro U E1;clear E0;have i0:=E1.ib.cell 0;have i1:=E1.ib.cell 1;have i2:=E1.ib.cell 2;simp only[lQ,lO,lS]at i0 i1 i2;go_wp2_with fail;go_ret;first|exact T1 E1.cq|exact GX E1.cq _ 1 1 rfl|exact GX E1.cq _ 2 2 rfl):q:=h
theorem rR(v:VP)(g:VF)(f:MF)(op a b c:Int)(ts:List Int)(w:Y)(h:op=0/\ts=[]\/op=1/\ts=[]\/op=2/\ts=[]\/op=4/\ts=[]\/op=6/\ts=[3]\/op=8/\ts=[a,a]\/op=9/\ts=[a,a]\/op=10/\ts=[a,a]\/op=11/\ts=[a,a]\/op=12/\ts=[a,a]\/op=13/\ts=[a,a]\/op=14/\ts=[a,a]\/op=15/\ts=[a,a]\/op=16/\ts=[a]\/op=17/\ts=[3,3]\/op=18/\ts=[3,3]\/op=19/\ts=[2]\/op=20/\ts=[a,a]\/op=21/\ts=[a,a]\/op=22/\ts=[a]\/op=23/\ts=[0]\/op=24/\ts=[0]\/op=25/\ts=[]\/op=26/\ts=[1]\/op=27/\ts=[]):Ai Aq 114 #[An #[v.r,v.k,v.f,v.t,g.p,f.cu,g.l,g.c],An #[op,a,b,c]] w (DI w ts):=by
 have E0:Ae _:=Im.of w v g f op a b c;rcases h with⟨rfl,rfl⟩|⟨rfl,rfl⟩|⟨rfl,rfl⟩|⟨rfl,rfl⟩|⟨rfl,rfl⟩|⟨rfl,rfl⟩|⟨rfl,rfl⟩|⟨rfl,rfl⟩|⟨rfl,rfl⟩|⟨rfl,rfl⟩|⟨rfl,rfl⟩|⟨rfl,rfl⟩|⟨rfl,rfl⟩|⟨rfl,rfl⟩|⟨rfl,rfl⟩|⟨rfl,rfl⟩|⟨rfl,rfl⟩|⟨rfl,rfl⟩|⟨rfl,rfl⟩|⟨rfl,rfl⟩|⟨rfl,rfl⟩|⟨rfl,rfl⟩|⟨rfl,rfl⟩|⟨rfl,rfl⟩|⟨rfl,rfl⟩
 all_goals
  go_enter func114,ntmps114;exact T4
theorem rn(v:VP)(g:VF)(f:MF)(op a b c:Int)(ts:List Int)(w:Y)(h:op=0/\ts=[]\/op=3/\ts=[]\/op=5/\ts=[]\/op=7/\ts=[]\/op=8/\ts=[a]\/op=9/\ts=[a]\/op=10/\ts=[a]\/op=11/\ts=[a]\/op=12/\ts=[a]\/op=13/\ts=[a]\/op=14/\ts=[a]\/op=15/\ts=[a]\/op=16/\ts=[a]\/op=17/\ts=[3]\/op=18/\ts=[3]\/op=19/\ts=[2]\/op=20/\ts=[1]\/op=21/\ts=[1]\/op=22/\ts=[b]\/op=23/\ts=[0,0]\/op=24/\ts=[]\/op=25/\ts=[]\/op=26/\ts=[]\/op=27/\ts=[]\/op=29/\ts=[]):Ai Aq 119 #[An #[v.r,v.k,v.f,v.t,g.p,f.cu,g.l,g.c],An #[op,a,b,c]] w (DI w ts):=by
 have E0:Ae _:=Im.of w v g f op a b c;rcases h with⟨rfl,rfl⟩|⟨rfl,rfl⟩|⟨rfl,rfl⟩|⟨rfl,rfl⟩|⟨rfl,rfl⟩|⟨rfl,rfl⟩|⟨rfl,rfl⟩|⟨rfl,rfl⟩|⟨rfl,rfl⟩|⟨rfl,rfl⟩|⟨rfl,rfl⟩|⟨rfl,rfl⟩|⟨rfl,rfl⟩|⟨rfl,rfl⟩|⟨rfl,rfl⟩|⟨rfl,rfl⟩|⟨rfl,rfl⟩|⟨rfl,rfl⟩|⟨rfl,rfl⟩|⟨rfl,rfl⟩|⟨rfl,rfl⟩|⟨rfl,rfl⟩|⟨rfl,rfl⟩|⟨rfl,rfl⟩|⟨rfl,rfl⟩
 all_goals
  go_enter func119,ntmps119;exact T4
end Go.Proofs.YtkgohaigebcgoaaGreatDoor
