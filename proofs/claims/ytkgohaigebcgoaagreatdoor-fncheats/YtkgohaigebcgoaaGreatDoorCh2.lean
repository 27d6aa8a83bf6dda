import Derived.Test.YtkgohaigebcgoaaGreatDoorCh1
import Derived.LaidEql
import Derived.Stop.Asserts
import Derived.RowKitTokens
namespace Go.Proofs.YtkgohaigebcgoaaGreatDoor
open Go.ChangeShapes Go.WideShapes Go.ChangeAt Go.RowKit Go.Proofs.Tryz
set_option linter.unusedVariables false
open Option renaming some → K,none → M
open Go renaming Value → J,World → Y
open Go.Value renaming int → Ag,agg → An,bool → Ao,tuple → Ap
open Go.RowKit renaming Below → Ah
open Go.Obj renaming cells → Ak
open Go.Proofs.Tryz renaming prog → Aq
open Go.World renaming alloc → Ac
section
open Go.Extern.Stop Go.Stop Go.Extern
def Dz(w:Y):Prop:=w ⟨0,0,M⟩=K (.iface 227 (An #[.pointer (K ⟨1,67,M⟩)]))
theorem Dz.av{w a:Y}(h:Dz w)(b:Ah w w a):Dz a:=by unfold Dz at*;rw[b.cell (lT h)];exact h
theorem IX(h:J)(w:Y):(Go.method 456 227 (An #[h]) "Kind").run Aq w=.ok (238,h) w:=kR
theorem IV(h:J)(w:Y):(Go.method 456 227 (An #[h]) "Elem").run Aq w=.ok (267,An #[h]) w:=kR
theorem Eg(h:J)(w:Y):(Go.method 456 227 (An #[h]) "Implements").run Aq w=.ok (268,An #[h]) w:=kR
theorem DE(h:J)(w:Y):(Go.method 456 227 (An #[h]) "AssignableTo").run Aq w=.ok (265,An #[h]) w:=kR
theorem GQ(v:J)(w:Y):(Go.method 456 116 v "Unwrap").run Aq w=.ok (257,v) w:=kR
theorem MN(v:J)(w:Y):(ReflectliteType.typeOf #[.iface 116 v]).run Aq w=.ok (.iface 227 (An #[.pointer (K ⟨1,116,M⟩)])) w:=kR
theorem MO(v:J)(w:Y):(ReflectliteType.typeOf #[.iface 114 v]).run Aq w=.ok (.iface 227 (An #[.pointer (K ⟨1,114,M⟩)])) w:=kR
theorem Tg(v:J)(w:Y):(Instr.typeAssert (.iface 116 v) 67 232 true).run Aq w=.ok (Ap #[.nilIface,false]) w:=run_typeAssert_lacksB underlying232 kR kR v 67 w
theorem Tj(v:J)(w:Y):(Instr.typeAssert (.iface 116 v) 67 235 true).run Aq w=.ok (Ap #[.iface 116 v,true]) w:=run_typeAssert_hasB underlying235 kR v 67 w
theorem Th(v:J)(w:Y):(Instr.typeAssert (.iface 114 v) 67 232 true).run Aq w=.ok (Ap #[.nilIface,false]) w:=run_typeAssert_lacksB underlying232 kR kR v 67 w
theorem Tk(v:J)(w:Y):(Instr.typeAssert (.iface 114 v) 67 235 true).run Aq w=.ok (Ap #[.nilIface,false]) w:=run_typeAssert_lacksB underlying235 kR kR v 67 w
theorem Ti(v:J)(w:Y):(Instr.typeAssert (.iface 114 v) 67 237 true).run Aq w=.ok (Ap #[.nilIface,false]) w:=run_typeAssert_lacksB underlying237 kR kR v 67 w
theorem VW(t:Addr)(w:Y):(ReflectliteValue.unpack (.iface 120 (.pointer (K t)))).run Aq w=.ok (An #[.pointer (K ⟨1,120,M⟩),.pointer w,Ag .u64 150]) (Ac w (Ak #[.pointer (K t)] 120)):=kR
theorem rV(a:Addr)(w:Y):(ReflectliteValue.methodAny (ReflectliteValue.valueError "reflectlite.Value.Type" 0) (λt _ _ _=>ReflectliteType.toType t) #[An #[.pointer (K ⟨1,120,M⟩),.pointer (K a),Ag .u64 150]]).run Aq w=.ok (.iface 227 (An #[.pointer (K ⟨1,120,M⟩)])) w:=kR
theorem Zl(w:Y):((ReflectliteType.abiMethod λt=>(λa:Nat=>Ag IntKind.u8 (a:Int))<$>Rtype.kind t) #[.pointer (K ⟨1,120,M⟩)]).run Aq w=.ok (Ag .u8 22) w:=kR
theorem Zi(w:Y):((ReflectliteType.abiMethod λt=>(λa:Nat=>Ag IntKind.u8 (a:Int))<$>Rtype.kind t) #[.pointer (K ⟨1,118,M⟩)]).run Aq w=.ok (Ag .u8 25) w:=kR
theorem ZB(a:Addr)(w:Y):(ReflectliteValue.parts (An #[.pointer (K ⟨1,120,M⟩),.pointer (K a),Ag .u64 150])).run Aq w=.ok (K (120,a,150)) w:=kR
theorem Zd(a p:Addr)(W:Y)(b:W a=K (.pointer (K p))):
 (ReflectliteValue.method (ReflectliteValue.valueError "reflectlite.Value.IsNil" 0) ReflectliteValue.isNil #[An #[.pointer (K ⟨1,120,M⟩),.pointer (K a),Ag .u64 150]]).run Aq W=.ok false W:=by
 change Sem.run Aq (ReflectliteValue.parts (An #[.pointer (K ⟨1,120,M⟩),.pointer (K a),Ag .u64 150])>>=_) W=_;simp only[Sem.run_bind,ZB,Result.andThen];simp[ReflectliteValue.isNil,loadVar,isAgg,underlying,underlying120,b,Result.andThen]
theorem rg(w:Y):(ReflectliteType.method ReflectliteType.elem #[An #[.pointer (K ⟨1,120,M⟩)]]).run Aq w=.ok (.iface 227 (An #[.pointer (K ⟨1,118,M⟩)])) w:=kR
theorem Pi(w:Y):(ReflectliteType.relation "Implements" ReflectliteType.implements_ #[An #[.pointer (K ⟨1,118,M⟩)],.iface 227 (An #[.pointer (K ⟨1,67,M⟩)])]).run Aq w=.ok true w:=kR
theorem qE(w:Y):(ReflectliteType.relation "AssignableTo" ReflectliteType.assignableTo #[An #[.pointer (K ⟨1,116,M⟩)],.iface 227 (An #[.pointer (K ⟨1,118,M⟩)])]).run Aq w=.ok (Ao false) w:=kR
theorem qH(w:Y):(ReflectliteType.relation "AssignableTo" ReflectliteType.assignableTo #[An #[.pointer (K ⟨1,114,M⟩)],.iface 227 (An #[.pointer (K ⟨1,118,M⟩)])]).run Aq w=.ok (Ao false) w:=kR
theorem VV(t:Addr)(w:Y):(ReflectliteValue.unpack (.iface 122 (.pointer (K t)))).run Aq w=.ok (An #[.pointer (K ⟨1,122,M⟩),.pointer w,Ag .u64 150]) (Ac w (Ak #[.pointer (K t)] 122)):=kR
theorem rU(a:Addr)(w:Y):(ReflectliteValue.methodAny (ReflectliteValue.valueError "reflectlite.Value.Type" 0) (λt _ _ _=>ReflectliteType.toType t) #[An #[.pointer (K ⟨1,122,M⟩),.pointer (K a),Ag .u64 150]]).run Aq w=.ok (.iface 227 (An #[.pointer (K ⟨1,122,M⟩)])) w:=kR
theorem Zk(w:Y):((ReflectliteType.abiMethod λt=>(λa:Nat=>Ag IntKind.u8 (a:Int))<$>Rtype.kind t) #[.pointer (K ⟨1,122,M⟩)]).run Aq w=.ok (Ag .u8 22) w:=kR
theorem Zh(w:Y):((ReflectliteType.abiMethod λt=>(λa:Nat=>Ag IntKind.u8 (a:Int))<$>Rtype.kind t) #[.pointer (K ⟨1,114,M⟩)]).run Aq w=.ok (Ag .u8 6) w:=kR
theorem TP(a:Addr)(w:Y):(ReflectliteValue.parts (An #[.pointer (K ⟨1,122,M⟩),.pointer (K a),Ag .u64 150])).run Aq w=.ok (K (122,a,150)) w:=kR
theorem Zc(a p:Addr)(W:Y)(b:W a=K (.pointer (K p))):
 (ReflectliteValue.method (ReflectliteValue.valueError "reflectlite.Value.IsNil" 0) ReflectliteValue.isNil #[An #[.pointer (K ⟨1,122,M⟩),.pointer (K a),Ag .u64 150]]).run Aq W=.ok false W:=by
 change Sem.run Aq (ReflectliteValue.parts (An #[.pointer (K ⟨1,122,M⟩),.pointer (K a),Ag .u64 150])>>=_) W=_;simp only[Sem.run_bind,TP,Result.andThen];simp[ReflectliteValue.isNil,loadVar,isAgg,underlying,underlying122,b,Result.andThen]
theorem q9(w:Y):(ReflectliteType.method ReflectliteType.elem #[An #[.pointer (K ⟨1,122,M⟩)]]).run Aq w=.ok (.iface 227 (An #[.pointer (K ⟨1,114,M⟩)])) w:=kR
theorem Ph(w:Y):(ReflectliteType.relation "Implements" ReflectliteType.implements_ #[An #[.pointer (K ⟨1,114,M⟩)],.iface 227 (An #[.pointer (K ⟨1,67,M⟩)])]).run Aq w=.ok true w:=kR
theorem qD(w:Y):(ReflectliteType.relation "AssignableTo" ReflectliteType.assignableTo #[An #[.pointer (K ⟨1,116,M⟩)],.iface 227 (An #[.pointer (K ⟨1,114,M⟩)])]).run Aq w=.ok (Ao false) w:=kR
theorem qG(w:Y):(ReflectliteType.relation "AssignableTo" ReflectliteType.assignableTo #[An #[.pointer (K ⟨1,114,M⟩)],.iface 227 (An #[.pointer (K ⟨1,114,M⟩)])]).run Aq w=.ok (Ao true) w:=kR
theorem WL(w:Y):(Rtype.elem? 122).run Aq w=.ok (K 114) w:=kR
theorem VU(t:Addr)(w:Y):(ReflectliteValue.unpack (.iface 123 (.pointer (K t)))).run Aq w=.ok (An #[.pointer (K ⟨1,123,M⟩),.pointer w,Ag .u64 150]) (Ac w (Ak #[.pointer (K t)] 123)):=kR
theorem rT(a:Addr)(w:Y):(ReflectliteValue.methodAny (ReflectliteValue.valueError "reflectlite.Value.Type" 0) (λt _ _ _=>ReflectliteType.toType t) #[An #[.pointer (K ⟨1,123,M⟩),.pointer (K a),Ag .u64 150]]).run Aq w=.ok (.iface 227 (An #[.pointer (K ⟨1,123,M⟩)])) w:=kR
theorem Zj(w:Y):((ReflectliteType.abiMethod λt=>(λa:Nat=>Ag IntKind.u8 (a:Int))<$>Rtype.kind t) #[.pointer (K ⟨1,123,M⟩)]).run Aq w=.ok (Ag .u8 22) w:=kR
theorem Zg(w:Y):((ReflectliteType.abiMethod λt=>(λa:Nat=>Ag IntKind.u8 (a:Int))<$>Rtype.kind t) #[.pointer (K ⟨1,116,M⟩)]).run Aq w=.ok (Ag .u8 25) w:=kR
theorem TO(a:Addr)(w:Y):(ReflectliteValue.parts (An #[.pointer (K ⟨1,123,M⟩),.pointer (K a),Ag .u64 150])).run Aq w=.ok (K (123,a,150)) w:=kR
theorem Zb(a p:Addr)(W:Y)(b:W a=K (.pointer (K p))):
 (ReflectliteValue.method (ReflectliteValue.valueError "reflectlite.Value.IsNil" 0) ReflectliteValue.isNil #[An #[.pointer (K ⟨1,123,M⟩),.pointer (K a),Ag .u64 150]]).run Aq W=.ok false W:=by
 change Sem.run Aq (ReflectliteValue.parts (An #[.pointer (K ⟨1,123,M⟩),.pointer (K a),Ag .u64 150])>>=_) W=_;simp only[Sem.run_bind,TO,Result.andThen];simp[ReflectliteValue.isNil,loadVar,isAgg,underlying,underlying123,b,Result.andThen]
theorem qZ(w:Y):(ReflectliteType.method ReflectliteType.elem #[An #[.pointer (K ⟨1,123,M⟩)]]).run Aq w=.ok (.iface 227 (An #[.pointer (K ⟨1,116,M⟩)])) w:=kR
theorem Pf(w:Y):(ReflectliteType.relation "Implements" ReflectliteType.implements_ #[An #[.pointer (K ⟨1,116,M⟩)],.iface 227 (An #[.pointer (K ⟨1,67,M⟩)])]).run Aq w=.ok true w:=kR
theorem qC(w:Y):(ReflectliteType.relation "AssignableTo" ReflectliteType.assignableTo #[An #[.pointer (K ⟨1,116,M⟩)],.iface 227 (An #[.pointer (K ⟨1,116,M⟩)])]).run Aq w=.ok (Ao true) w:=kR
theorem qF(w:Y):(ReflectliteType.relation "AssignableTo" ReflectliteType.assignableTo #[An #[.pointer (K ⟨1,114,M⟩)],.iface 227 (An #[.pointer (K ⟨1,116,M⟩)])]).run Aq w=.ok (Ao false) w:=kR
theorem WK(w:Y):(Rtype.elem? 123).run Aq w=.ok (K 116) w:=kR
end
end Go.Proofs.YtkgohaigebcgoaaGreatDoor
