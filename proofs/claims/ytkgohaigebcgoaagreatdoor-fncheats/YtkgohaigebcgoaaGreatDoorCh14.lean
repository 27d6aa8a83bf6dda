import Derived.Test.YtkgohaigebcgoaaGreatDoorCh2
namespace Go.Proofs.YtkgohaigebcgoaaGreatDoor
open Go.ChangeShapes Go.WideShapes Go.ChangeAt Go.RowKit Go.Proofs.Tryz
set_option linter.unusedVariables false
open Option renaming some → K,none → M
open Go renaming World → Y,Calls → Ai
open Go.Value renaming int → Ag,agg → An,tuple → Ap
open Go.RowKit renaming Below → Ah
open Go.Obj renaming cells → Ak
open Go.Ending renaming returned → Am
open Go.Proofs.Tryz renaming prog → Aq
open Go.World renaming alloc → Ac
set_option maxHeartbeats 4000000
set_option maxRecDepth 100000
section
open Go.Extern.Stop Go.Stop Go.Extern
theorem sC(g a c:Int)(t:Addr)(w:Y)(b:Dz w):
 Ai Aq 34 #[.iface 116 (An #[g,a,.iface 114 c]),.iface 120 (.pointer (K t))] w λd f=>d=Am false/\Ah w w f:=by
 have u:= @run_callFunc_extern Aq 73 _ (λargs=>ReflectliteValue.unpack (args.getD 0 (Ap #[]))) func73 kR kR kR kR;have v:= @run_callFunc_extern Aq 74 _ (ReflectliteValue.methodAny (ReflectliteValue.valueError "reflectlite.Value.Type" 0) (λt _ _ _=>ReflectliteType.toType t)) func74 kR kR kR kR;have y:= @run_callFunc_extern Aq 75 _ (ReflectliteValue.method (ReflectliteValue.valueError "reflectlite.Value.IsNil" 0) ReflectliteValue.isNil) func75 kR kR kR kR;have p:= @run_callFunc_extern Aq 238 _ (ReflectliteType.abiMethod λt=>do pure (Ag .u8 (<-Rtype.kind t))) func238 kR kR kR kR;have r:= @run_callFunc_extern Aq 267 _ (ReflectliteType.method ReflectliteType.elem) func267 kR kR kR kR;have s:= @run_callFunc_extern Aq 268 _ (ReflectliteType.relation "Implements" ReflectliteType.implements_) func268 kR kR kR kR;have n:= @run_callFunc_extern Aq 141 _ ReflectliteType.typeOf func141 kR kR kR kR;have q:= @run_callFunc_extern Aq 265 _ (ReflectliteType.relation "AssignableTo" ReflectliteType.assignableTo) func265 kR kR kR kR;have L:=MN;have O:=Tg;have P:=Tj;have Q:=Th;have R:=Tk;have S:=Ti;have N:=MO;have D:=DE;have h:=qE;have j:=qH;have l:=VW;have m:=rV;have G:=IX;have E:=IV;have F:=Eg;have H:=GQ;have C:=Zl;have B:=Zi;have k:=rg;have A:=Pi;have e:0<w.heap.size:=lT b;have I:=Zd w t (Ac (Ac w (Ak #[.pointer (K t)] 120)) (Ak #[.pointer (K ⟨1,120,M⟩),.pointer w,Ag .u64 150] 180)) sP
 have z:(Ac (Ac w (Ak #[.pointer (K t)] 120)) (Ak #[.pointer (K ⟨1,120,M⟩),.pointer w,Ag .u64 150] 180)) ⟨0,0,M⟩=K (.iface 227 (An #[.pointer (K ⟨1,67,M⟩)])):=by rw[World.cell?_alloc_lt _ _ ⟨0,0,M⟩ (by simp<;>omega),World.cell?_alloc_lt _ _ ⟨0,0,M⟩ e];exact b
 go_enter func34,ntmps34;go_wp2;refine wp_loop_rounds 2 ?_;rw[rounds_succ];go_wp2;rw[rounds_succ];simp only[Array.getD_eq_getD_getElem?,lQ,lS,lO,oz];go_wp2;simp only[Array.getD_eq_getD_getElem?,lQ,lS,lO,oz];go_ret;refine⟨rfl,?_⟩;refine Ar ?_ lR (Al _ _);refine Ar ?_ lR (Al _ _);refine Ar ?_ lR (Al _ _);exact Al _ _
end
end Go.Proofs.YtkgohaigebcgoaaGreatDoor
