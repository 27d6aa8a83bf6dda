import Derived.Test.YtdfmdgbolmbffaaGreatTy25
import Derived.Test.YtdfmdgbolmbffaaGreatTy15
namespace Go.Proofs.YtdfmdgbolmbffaaGreat
open Go.ChangeShapes Go.WideShapes Go.ChangeAt Go.RowKit
set_option linter.unusedVariables false
set_option maxHeartbeats 1000000 in
theorem l6Result_any(g:VF)(f:MF)(w:World)(hf:RdF w g f):
    Calls Tryz.prog 31 #[.agg #[g.p,.int .i64 f.result,g.l,g.c]] w (TysIs w (resultL f)):=by
  obtain⟨g1,g3,g4,g6,g7,g9,rfl⟩:=rdF_sl hf
  by_cases h:f.result=0
  . have h2:(f.result==0)=true:=by simpa using h
    have HR:Hid (resultL f=[]):=if_pos h
    clear h
    go_enter Tryz.func31,Tryz.ntmps31
    go_wp2_with fail
    rw[HR.out]
    have k:=tys_new (below_alloc w (.cells #[.slice g1 f.params.length g3,.int .i64 f.result,.slice g4 f.locals.length g6,.slice g7 f.code.length g9] 63)) [] 0 0 rfl
    rw[show(w.alloc (.cells #[.slice g1 f.params.length g3,.int .i64 f.result,.slice g4 f.locals.length g6,.slice g7 f.code.length g9] 63)).heap.size=w.heap.size+1 by simp]at k
    exact bodyPost_ret (v:=.slice (some ⟨w.heap.size+1,0,none⟩) 0 0) (by simp[results,Tryz.results31,go_sem]) rfl k
  . have h2:(f.result==0)=false:=by simpa using h
    have HR:Hid (resultL f=[f.result]):=if_neg h
    clear h
    go_enter Tryz.func31,Tryz.ntmps31
    go_wp2_with fail
    rw[HR.out]
    have k:=tys_new (below_alloc w (.cells #[.slice g1 f.params.length g3,.int .i64 f.result,.slice g4 f.locals.length g6,.slice g7 f.code.length g9] 63)) [f.result] 1 1 rfl
    rw[show(w.alloc (.cells #[.slice g1 f.params.length g3,.int .i64 f.result,.slice g4 f.locals.length g6,.slice g7 f.code.length g9] 63)).heap.size=w.heap.size+1 by simp]at k
    exact bodyPost_ret (v:=.slice (some ⟨w.heap.size+1,0,none⟩) 1 1) (by simp[results,Tryz.results31,go_sem]) rfl k
end Go.Proofs.YtdfmdgbolmbffaaGreat
