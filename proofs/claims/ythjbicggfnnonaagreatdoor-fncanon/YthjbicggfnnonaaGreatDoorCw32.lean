import Derived.Test.YthjbicggfnnonaaGreatDoorCw30
import Derived.LaidEql
import Derived.Stop.Asserts
import Derived.RowKitTokens
import Derived.Test.YthjbicggfnnonaaGreatDoorCw6
namespace Go.Proofs.YthjbicggfnnonaaGreatDoor
open Go.ChangeShapes Go.WideShapes Go.ChangeAt Go.RowKit
set_option linter.unusedVariables false
set_option maxHeartbeats 8000000
set_option maxRecDepth 100000
variable {w:World}{base k n:Nat}{e:TypeId}{s:Value}{xs:List Value}
theorem K9(h:w.ownsRow base e k s n xs):∃a c,s=.slice a n c/\n<=c:=by
 rcases h.2 with⟨rfl,rfl⟩|⟨g,cap,d,rfl,_,_,b,_⟩
 . exact⟨_,_,rfl,Nat.le_refl _⟩
 exact⟨_,_,rfl,b⟩
theorem La(h:w.ownsRow base e k s n xs):OP s:=by
 rcases h.2 with⟨rfl,rfl⟩|⟨g,cap,a,rfl,_⟩
 . exact .inl rfl
 exact .inr ⟨_,_,_,rfl⟩
theorem Gw.rdc{rs:List (List Int)}(h:Gw w base s rs):Mw w s rs:=by obtain⟨xs,h1,h2,a⟩:=h;exact⟨xs,h1,Rd.cB h2,fun x b=>⟨Rd.cB (a x b),K9 (a x b)⟩⟩
theorem DZ.rdp{c:List MF}(h:DZ w base s c):OQ w s c:=by obtain⟨xs,h1,h2,a⟩:=h;exact⟨xs,h1,Rd.cB h2,fun x b=>⟨(a x b).rd,La (a x b).1,La (a x b).2.1⟩⟩
section
open Go.Extern.Stop Go.Stop Go.Extern
theorem Up(t:Value)(w:World):Calls Tryz.prog 34 #[.nilIface,t] w fun e a=>e=.returned (.bool false)/\a=w:=by go_enter Tryz.func34,Tryz.ntmps34;go_wp2;go_ret;exact⟨rfl,rfl⟩
theorem Th(t:Addr)(w:World):(ReflectliteValue.unpack (.iface 85 (.pointer (some t)))).run Tryz.prog w=.ok (.agg #[.pointer (some ⟨2,85,none⟩),.pointer (some ⟨w.heap.size,0,none⟩),.int .u64 150]) (w.alloc (.cells #[.pointer (some t)] 85)):=kR
theorem Wn(a:Addr)(w:World):(ReflectliteValue.methodAny (ReflectliteValue.valueError "reflectlite.Value.Type" 0) (fun t _ _ _=>ReflectliteType.toType t) #[.agg #[.pointer (some ⟨2,85,none⟩),.pointer (some a),.int .u64 150]]).run Tryz.prog w=.ok (.iface 175 (.agg #[.pointer (some ⟨2,85,none⟩)])) w:=kR
theorem Px(h:Value)(w:World):(Go.method 381 175 (.agg #[h]) "Kind").run Tryz.prog w=.ok (186,h) w:=kR
theorem We(w:World):((ReflectliteType.abiMethod fun t=>(fun a:Nat=>Value.int IntKind.u8 (a:Int))<$>Rtype.kind t) #[.pointer (some ⟨2,85,none⟩)]).run Tryz.prog w=.ok (.int .u8 22) w:=kR
theorem Wd(w:World):((ReflectliteType.abiMethod fun t=>(fun a:Nat=>Value.int IntKind.u8 (a:Int))<$>Rtype.kind t) #[.pointer (some ⟨2,80,none⟩)]).run Tryz.prog w=.ok (.int .u8 6) w:=kR
theorem SY(a:Addr)(w:World):(ReflectliteValue.parts (.agg #[.pointer (some ⟨2,85,none⟩),.pointer (some a),.int .u64 150])).run Tryz.prog w=.ok (some (85,a,150)) w:=kR
theorem Uz(a p:Addr)(W:World)(b:W.cell? a=some (.pointer (some p))):
 (ReflectliteValue.method (ReflectliteValue.valueError "reflectlite.Value.IsNil" 0) ReflectliteValue.isNil #[.agg #[.pointer (some ⟨2,85,none⟩),.pointer (some a),.int .u64 150]]).run Tryz.prog W=.ok (.bool false) W:=by
 change Sem.run Tryz.prog (ReflectliteValue.parts (.agg #[.pointer (some ⟨2,85,none⟩),.pointer (some a),.int .u64 150])>>=_) W=_;simp only[Sem.run_bind,SY,Result.andThen];simp[ReflectliteValue.isNil,loadVar,isAgg,underlying,Tryz.underlying85,b,Result.andThen]
theorem Pw(h:Value)(w:World):(Go.method 381 175 (.agg #[h]) "Elem").run Tryz.prog w=.ok (196,.agg #[h]) w:=kR
theorem JG(h:Value)(w:World):(Go.method 381 175 (.agg #[h]) "Implements").run Tryz.prog w=.ok (197,.agg #[h]) w:=kR
theorem IQ(h:Value)(w:World):(Go.method 381 175 (.agg #[h]) "AssignableTo").run Tryz.prog w=.ok (194,.agg #[h]) w:=kR
theorem VY(w:World):(ReflectliteType.method ReflectliteType.elem #[.agg #[.pointer (some ⟨2,85,none⟩)]]).run Tryz.prog w=.ok (.iface 175 (.agg #[.pointer (some ⟨2,80,none⟩)])) w:=kR
theorem NU(w:World):(ReflectliteType.relation "Implements" ReflectliteType.implements_ #[.agg #[.pointer (some ⟨2,80,none⟩)],.iface 175 (.agg #[.pointer (some ⟨2,39,none⟩)])]).run Tryz.prog w=.ok (.bool true) w:=kR
theorem TX(v:Value)(w:World):(ReflectliteType.typeOf #[.iface 80 v]).run Tryz.prog w=.ok (.iface 175 (.agg #[.pointer (some ⟨2,80,none⟩)])) w:=kR
theorem Nw(w:World):(ReflectliteType.relation "AssignableTo" ReflectliteType.assignableTo #[.agg #[.pointer (some ⟨2,80,none⟩)],.iface 175 (.agg #[.pointer (some ⟨2,80,none⟩)])]).run Tryz.prog w=.ok (.bool true) w:=kR
theorem Tg(n:Int)(w:World):(ReflectliteValue.unpack (.iface 80 (iZ n))).run Tryz.prog w=.ok (.agg #[.pointer (some ⟨2,80,none⟩),.pointer (some ⟨w.heap.size,0,none⟩),.int .u64 134]) (w.alloc (.cells #[iZ n] 80)):=kR
theorem TG(w:World):(Rtype.elem? 85).run Tryz.prog w=.ok (some 80) w:=kR
theorem mkF(p:Addr)(w:World):(ReflectliteValue.mk 80 p ReflectliteValue.flagAddr).run Tryz.prog w=.ok (.agg #[.pointer (some ⟨2,80,none⟩),.pointer (some p),.int .u64 390]) w:=kR
theorem Uv(a p:Addr)(W:World)(b:W.cell? a=some (.pointer (some p))):
 (ReflectliteValue.method (ReflectliteValue.valueError "reflectlite.Value.Elem" 0) ReflectliteValue.elem #[.agg #[.pointer (some ⟨2,85,none⟩),.pointer (some a),.int .u64 150]]).run Tryz.prog W=.ok (.agg #[.pointer (some ⟨2,80,none⟩),.pointer (some p),.int .u64 390]) W:=by
 change Sem.run Tryz.prog (ReflectliteValue.parts (.agg #[.pointer (some ⟨2,85,none⟩),.pointer (some a),.int .u64 150])>>=_) W=_;simp only[Sem.run_bind,SY,Result.andThen];simp[ReflectliteValue.elem,loadVar,isAgg,underlying,Tryz.underlying85,b,Result.andThen,TG,mkF]
theorem TS(a:Addr)(w:World):(ReflectliteValue.parts (.agg #[.pointer (some ⟨2,80,none⟩),.pointer (some a),.int .u64 390])).run Tryz.prog w=.ok (some (80,a,390)) w:=kR
theorem US(a:Addr)(w:World):(ReflectliteValue.parts (.agg #[.pointer (some ⟨2,80,none⟩),.pointer (some a),.int .u64 134])).run Tryz.prog w=.ok (some (80,a,134)) w:=kR
theorem TF(w:World):(Rtype.directlyAssignable 80 80).run Tryz.prog w=.ok true w:=kR
theorem WG(a b:Addr)(n:Int)(f:Value)(W:World)(c:W.cell? b=some (iZ n))(e:W.cell? a=some f)(d:W.frozen? a=false):
 (ReflectliteValue.set #[.agg #[.pointer (some ⟨2,80,none⟩),.pointer (some a),.int .u64 390],.agg #[.pointer (some ⟨2,80,none⟩),.pointer (some b),.int .u64 134]]).run Tryz.prog W=.ok (.tuple #[]) (W.setCell a (iZ n)):=by
 change Sem.run Tryz.prog (ReflectliteValue.parts (.agg #[.pointer (some ⟨2,80,none⟩),.pointer (some a),.int .u64 390])>>=fun y=>ReflectliteValue.parts (.agg #[.pointer (some ⟨2,80,none⟩),.pointer (some b),.int .u64 134])>>=_) W=_;simp only[Sem.run_bind,TS,US,Result.andThen];simp[ReflectliteValue.flagAddr,loadVar,isAgg,underlying,Tryz.underlying80,c,Result.andThen,TF,storeVar,Value.cells,storeCells,Addr.add];rw[run_store Tryz.prog W a _ _ (by rfl)];simp[e,d]
end
def PV(w:World)(s:CP)(k:GK)(p left f:Int)(D:List Ax)(c d:Int)(e:Ending)(g:World):Prop:=e=.returned (.tuple #[])/\∃b a,p<=b/\b<=p+c/\left-d<=a/\a<=left-1/\GS w g s k b a f 0 D
theorem EL{z:Int}(a:0<=z)(h1:z<4294967296):Nc z:=by simp[Nc,Lit.wf,IntKind.min,IntKind.max,IntKind.signed,IntKind.bits];omega
theorem Dm(w u:World)(s:CP)(k:GK)(p left M:Int)(D:List Ax)(t:Int)(hk:DH k)(h:GS w u s k p left M 0 D)(hp:p+8<=1000000000000)(hl:-700000<=left)(ht:Cr t):
 Calls Tryz.prog 113 #[.pointer (some ⟨k.Gb,0,none⟩),.int .i64 t] u (PV w s k p left M D 8 1):=by
 have a6:=h.src.low;have d:Hid (DH k/\Cr t):=⟨hk,ht⟩
 obtain⟨_,_,q0,_⟩:=h.cells;have P:=Ag h;go_enter Tryz.func113,Tryz.ntmps113;go_wp2_with fail;refine(Al P.o.src).mono ?_;rintro e u1 ⟨r,h0,h1,rfl,i,g⟩;have Q:=Ag (P.o.draw i g);go_wp2_with fail;refine(Al Q.o.src).mono ?_;rintro e u2 ⟨N,h2,h3,rfl,i,g⟩;have y:=Ag (Q.o.draw i g);obtain⟨q,rfl⟩:=i7 h0;have a8:(q:Int)<3:=h1;cases e0:(N==0)
 case true=>
  obtain⟨gr,cr,xs,a,c,Y,Z,d2,L,V⟩:=y.o.iX d.o.1 (show q<3 from oM);go_wp2_with fail;refine(Dn _ s (p+1+1) t _ xs y.o.src oM L.rd oM).mono ?_;rintro e W ⟨K,rfl,T,U,J,H,I,i,g⟩;have l:=Ag (y.o.draw i g);by_cases S:K>=0;case pos=>go_wp2_with fail;refine(AA d.o.1 l.o oM Ah Ah Ah Ah).mono ?_;rintro e A ⟨z,rfl,_,b⟩;have f:=Ag b;go_wp2_with fail;refine i6 (v:=.tuple #[]) kR rfl ?_;exact⟨rfl,J,left-1,oM,oM,oM,oM,f.o⟩
  case neg=>
   go_wp2_with fail;refine(FD l.o.src oM).mono ?_;rintro e O ⟨x,n,C,E,rfl,H,I,i,g⟩;have m:=Ag (l.o.draw i g);(cases ht1:(t==1));focus
    go_wp2_with fail;refine(CG d.o.1 m.o oM oM d.o.2 (EL C E)).mono ?_;rintro e G ⟨F,rfl,B,b⟩;have j:=Ag b;go_wp2_with fail;refine(AA d.o.1 j.o oM Ah Ah Ah Ah).mono ?_;rintro e A ⟨z,rfl,_,b⟩;have f:=Ag b;go_wp2_with fail;refine ke (v:=.tuple #[]) kR rfl ?_;exact⟨rfl,n,left-1,oM,oM,oM,oM,f.o⟩
   focus
    go_wp2_with fail;refine(CG d.o.1 m.o oM oM d.o.2 (EL (DK _ _ _).1 (DK _ _ _).2)).mono ?_;rintro e G ⟨F,rfl,B,b⟩;have j:=Ag b;go_wp2_with fail;refine(AA d.o.1 j.o oM Ah Ah Ah Ah).mono ?_;rintro e A ⟨z,rfl,_,b⟩;have f:=Ag b;go_wp2_with fail;refine ke (v:=.tuple #[]) kR rfl ?_;exact⟨rfl,n,left-1,oM,oM,oM,oM,f.o⟩
 case false=>
  cases e1:(N==1)
  case true=>
   obtain⟨gr,cr,xs,a,c,Y,Z,d2,L,V⟩:=y.o.iX d.o.1 (show q<3 from oM);go_wp2_with fail;refine(Dn _ s (p+1+1) t _ xs y.o.src oM L.rd oM).mono ?_;rintro e W ⟨K,rfl,T,U,J,H,I,i,g⟩;have l:=Ag (y.o.draw i g);by_cases S:K>=0;(case pos=>go_wp2_with fail;refine(AA d.o.1 l.o oM Ah Ah Ah Ah).mono ?_;rintro e A ⟨z,rfl,_,b⟩;have f:=Ag b;go_wp2_with fail;refine i6 (v:=.tuple #[]) kR rfl ?_;exact⟨rfl,J,left-1,oM,oM,oM,oM,f.o⟩);case neg=>
    go_wp2_with fail;refine(FD l.o.src oM).mono ?_;rintro e O ⟨x,n,C,E,rfl,H,I,i,g⟩;have m:=Ag (l.o.draw i g);(cases ht1:(t==1));focus
     go_wp2_with fail;refine(CG d.o.1 m.o oM oM d.o.2 (EL C E)).mono ?_;rintro e G ⟨F,rfl,B,b⟩;have j:=Ag b;go_wp2_with fail;refine(AA d.o.1 j.o oM Ah Ah Ah Ah).mono ?_;rintro e A ⟨z,rfl,_,b⟩;have f:=Ag b;go_wp2_with fail;refine ke (v:=.tuple #[]) kR rfl ?_;exact⟨rfl,n,left-1,oM,oM,oM,oM,f.o⟩
    focus
     go_wp2_with fail;refine(CG d.o.1 m.o oM oM d.o.2 (EL (DK _ _ _).1 (DK _ _ _).2)).mono ?_;rintro e G ⟨F,rfl,B,b⟩;have j:=Ag b;go_wp2_with fail;refine(AA d.o.1 j.o oM Ah Ah Ah Ah).mono ?_;rintro e A ⟨z,rfl,_,b⟩;have f:=Ag b;go_wp2_with fail;refine ke (v:=.tuple #[]) kR rfl ?_;exact⟨rfl,n,left-1,oM,oM,oM,oM,f.o⟩
  case false=>
   (cases e2:(N==2));case true=>
    go_wp2_with fail;refine(Iz w u2 s k _ left M 0 D d.o.1 y.o).mono ?_;rintro e u3 ⟨a,c,xs,rfl,ho,V,hb⟩;have R:=Ag (y.o.aa hb);have X:=Ag (Rd.cB ho);go_wp2_with fail;refine(Dn _ s (p+1+1) t _ xs R.o.src oM X.o oM).mono ?_;rintro e W ⟨K,rfl,T,U,J,H,I,i,g⟩;have l:=Ag (R.o.draw i g);by_cases S:K>=0;(case pos=>go_wp2_with fail;refine(AA d.o.1 l.o oM Ah Ah Ah Ah).mono ?_;rintro e A ⟨z,rfl,_,b⟩;have f:=Ag b;go_wp2_with fail;refine i6 (v:=.tuple #[]) kR rfl ?_;exact⟨rfl,J,left-1,oM,oM,oM,oM,f.o⟩);case neg=>
     go_wp2_with fail;refine(FD l.o.src oM).mono ?_;rintro e O ⟨x,n,C,E,rfl,H,I,i,g⟩;have m:=Ag (l.o.draw i g);(cases ht1:(t==1));focus
      go_wp2_with fail;refine(CG d.o.1 m.o oM oM d.o.2 (EL C E)).mono ?_;rintro e G ⟨F,rfl,B,b⟩;have j:=Ag b;go_wp2_with fail;refine(AA d.o.1 j.o oM Ah Ah Ah Ah).mono ?_;rintro e A ⟨z,rfl,_,b⟩;have f:=Ag b;go_wp2_with fail;refine ke (v:=.tuple #[]) kR rfl ?_;exact⟨rfl,n,left-1,oM,oM,oM,oM,f.o⟩
     focus
      go_wp2_with fail;refine(CG d.o.1 m.o oM oM d.o.2 (EL (DK _ _ _).1 (DK _ _ _).2)).mono ?_;rintro e G ⟨F,rfl,B,b⟩;have j:=Ag b;go_wp2_with fail;refine(AA d.o.1 j.o oM Ah Ah Ah Ah).mono ?_;rintro e A ⟨z,rfl,_,b⟩;have f:=Ag b;go_wp2_with fail;refine ke (v:=.tuple #[]) kR rfl ?_;exact⟨rfl,n,left-1,oM,oM,oM,oM,f.o⟩
   case false=>
    go_wp2_with fail;refine(FD y.o.src oM).mono ?_;rintro e O ⟨x,n,C,E,rfl,H,I,i,g⟩;have m:=Ag (y.o.draw i g);(cases ht1:(t==1));focus
     go_wp2_with fail;refine(CG d.o.1 m.o oM oM d.o.2 (EL C E)).mono ?_;rintro e G ⟨F,rfl,B,b⟩;have j:=Ag b;go_wp2_with fail;refine(AA d.o.1 j.o oM Ah Ah Ah Ah).mono ?_;rintro e A ⟨z,rfl,_,b⟩;have f:=Ag b;go_wp2_with fail;refine ke (v:=.tuple #[]) kR rfl ?_;exact⟨rfl,n,left-1,oM,oM,oM,oM,f.o⟩
    focus
     go_wp2_with fail;refine(CG d.o.1 m.o oM oM d.o.2 (EL (DK _ _ _).1 (DK _ _ _).2)).mono ?_;rintro e G ⟨F,rfl,B,b⟩;have j:=Ag b;go_wp2_with fail;refine(AA d.o.1 j.o oM Ah Ah Ah Ah).mono ?_;rintro e A ⟨z,rfl,_,b⟩;have f:=Ag b;go_wp2_with fail;refine ke (v:=.tuple #[]) kR rfl ?_;exact⟨rfl,n,left-1,oM,oM,oM,oM,f.o⟩
def Vw(xs:List Int)(u:World)(e:Ending)(b:World):Prop:=∃(a:Option Addr) (c:Nat),e=.returned (.slice a xs.length c)/\b.ownsRow u.heap.size 2 1 (.slice a xs.length c) xs.length (xs.flatMap Ad)/\Below u.heap.size u b
theorem CT(u:World)(V:Value)(xs:List Int)(r:xs.length<=1048576)(h:Rd u 1 V xs.length (xs.flatMap Ad)):
 Calls Tryz.prog 120 #[V] u (Vw xs u):=by
 obtain⟨q,k,m,n,p⟩:=kS Co;have e:Hid (Rd (u.alloc (.cells #[] 2)) 1 V xs.length (xs.flatMap Ad)):=h.aa (Aa _ _) lR;clear h;go_enter Tryz.func120,Tryz.ntmps120;go_wp2_with (at_builtin;refine OD rfl (.tmp 3) (.tmp 4) u.heap.size 58 2 q (.int .i64 0) 1 8 rfl Tryz.underlying58 k m n p rfl dC (.slice (some ⟨u.heap.size,0,none⟩) 0 0) 0 [] rfl (BK u _ _) V xs.length (xs.flatMap Ad) rfl e.o (by rw[Av Ad 1 Ar]) (C4 _) oX oM (Aa _ _).size ?_;intro v1 d c b i;have a:Hid (d.ownsRow u.heap.size 2 1 v1 xs.length (xs.flatMap Ad)/\Below u.heap.size u d):=⟨by simpa using c,(Aa _ _).grown b (Aa _ _).size (fun j l=>by cases l;exact Nat.le_refl _)⟩;clear c b i)
 go_ret;obtain⟨f,g,rfl⟩:=AO a.o.1;exact⟨f,g,rfl,a.o.1,a.o.2⟩
theorem JQ(a:List Int)(m p:Nat):∀n,p+n<=m->BW (a.take m) p n=BW a p n
 |0,_=>rfl
 | n+1,h=>by (have e:(a.take m)[p+n]?=a[p+n]?:=by rw[List.getElem?_take,lI oM]);simp only[BW,JQ a m p n oM,e]
def Um(w:World)(I:Nat)(d:List Int)(e:Ending)(b:World):Prop:=(∃c,e=BF c/\c≠0/\DQ d c JH/\En (fun j=>j=I) w b)\/(∃(v:VP) (F:List (List Int×Value)) (a:List MC) (G:List (MF×VF)) (ts:List MT),e=.returned (.agg #[v.r,v.k,v.f,v.t])/\CJ b w.heap.size (Ab v F a G ts [])/\MP.small ⟨F.map Prod.fst,a,G.map Prod.fst,ts⟩/\DQ d 0 ⟨F.map Prod.fst,a,G.map Prod.fst,ts⟩/\En (fun j=>j=I) w b)
theorem Ow(B I L:Nat)(a:Option Addr)(c:Nat)(b:List Int)(w:World)(ht:D3 w)(aJ:0<B)(h:IF w B I L a c b 0):
 Calls Tryz.prog 33 #[.pointer (some ⟨I,0,none⟩)] w (Um w I b):=by
 have K:Hid (Br w (w.alloc (.cells #[sN,sN,sN,sN] 29)) [gb w.heap.size (⟨sN,sN,sN,sN⟩:VP)] B I L a c b 0):=(Br.start h).box 29 4 _ rfl;have HT:Hid (D3 (w.alloc (.cells #[sN,sN,sN,sN] 29))):=fun j hj=>by rw[(Aa _ _).cell (d5 (ht j hj))];exact ht j hj
 have a6:=Ag h.len;have hL:=h.ir;go_enter Tryz.func33,Tryz.ntmps33;go_wp2_with fail;refine(MG B I L a c b _ HT.o aJ K.o.dr.at_).mono ?_;rintro e u1 (⟨rfl,T,f⟩|⟨rfl,T,ao,f⟩|⟨rfl,T,ao,am,f⟩)
 . unfold BF;go_wp2;exact⟨rfl,.inl ⟨1,rfl,oM,.inl ⟨T,rfl,rfl⟩,K.o.dr.gH.gP f⟩⟩
 . unfold BF;go_wp2;exact⟨rfl,.inl ⟨2,rfl,oM,.inr (.inl ⟨T,ao,rfl,rfl⟩),K.o.dr.gH.gP f⟩⟩
 have aG:=T.1;rw[a6.o]at aG;have J:=Ag (f7 T ao);have H1:Hid (Br w u1 [gb w.heap.size (⟨sN,sN,sN,sN⟩:VP)] B I (L-4) a c (AN b) 4):=⟨K.o.sep.gH f (fun j hj e=>by have:=K.o.lt;omega),⟨am,K.o.dr.gH.gP f⟩,K.o.lt⟩;have HZ:=Ag am.hz;have aw:=Ag am.len;have ah:Hid (Cz (AN b) 2 4=some (wrap64 (BW b 4 2),6)):=by show _=_;unfold Cz;rw[lI (by rw[aw.o];omega),AN,JQ b _ 4 2 (by rw[a6.o];omega)]
 have HV:Hid (Kz b↔wrap64 (BW b 4 2)=1):=Iff.rfl;generalize wrap64 (BW b 4 2)=x2 at ah HV;go_wp2_with fail;refine(Bv B I (L-4) a c (AN b) 2 4 _ oM oM H1.o.dr.at_).mono ?_;rintro e u2 (⟨x,V,k2,rfl,i,rfl,A⟩|⟨rfl,g,f⟩);rotate_left
 . rw[ah.o]at g;cases g
 rw[ah.o]at i;simp only[i4,Prod.mk.injEq]at i;obtain⟨rfl,rfl⟩:=i;have H2:=Ag (H1.o.read A);by_cases Q:x2=1;rotate_left
 . (have hb:(x2==1)=false:=by simpa using Q);(have aA:Hid (¬Kz b):=fun h=>Q (HV.o.1 h));go_wp2_with (go_at_call 56;refine(Eu 3 _).mono ?_;rintro e v2 ⟨rfl,P⟩;obtain rfl:=P.symm;unfold BF);exact⟨rfl,.inl ⟨3,rfl,oM,.inr (.inr (.inl ⟨J.o.1,J.o.2,aA.o,rfl,rfl⟩)),H2.o.dr.gH⟩⟩
 subst Q;have ae:=Ag (HV.o.2 rfl);have O:Hid (∀q:Nat,FR (AN b) 6=none->DQ b 4 JH):=fun q h=>.inr (.inr (.inr (.inl ⟨J.o.1,J.o.2,ae.o,h,rfl,rfl⟩)))
 go_upto_region 3 with(go_at_call 56;refine(Ev 3 _).mono ?_;rintro e v2 ⟨rfl,P⟩;obtain rfl:=P.symm)
 go_wp2_with fail;refine(K3 B I (L-4) a c (AN b) 3 6 _ oM H2.o.dr.at_).mono ?_;rintro e u3 (⟨_,V3,k3,rfl,i,⟨F,rfl,E⟩,A⟩|⟨rfl,g,f⟩);rotate_left
 . unfold BF;go_wp2;exact⟨rfl,.inl ⟨4,rfl,oM,O.o 0 (AB g),H2.o.dr.gH.gP f⟩⟩
 obtain⟨k,s,e3⟩:∃a c,V3=.slice a F.length c:=AO (E.own (Bf V3 F) sP);subst e3;have H3:=Ag (H2.o.rows A E);have N:=Ag i;go_wp2_with fail;refine(Bv B I (L-4) a c (AN b) 2 k3 _ oM oM H3.o.dr.at_).mono ?_;rintro e u4 (⟨x4,V,k4,rfl,i,rfl,A⟩|⟨rfl,g,f⟩);rotate_left
 . unfold BF;go_wp2;exact⟨rfl,.inl ⟨4,rfl,oM,O.o 0 (Am (r:=A9 (B4 (AN b) 2) 3) N.o (AB (AB g))),H3.o.dr.gH.gP f⟩⟩
 have H4:=Ag (H3.o.read A);have R:=Ag i;obtain⟨p4,aQ⟩:=Ff HZ.o oM i;obtain⟨m4,rfl⟩:=i7 p4;have aM:m4<=65535:=oM;go_wp2_with fail;refine(LF B I (L-4) a c (AN b) m4 k4 _ oM H4.o.dr.at_).mono ?_;rintro e u5 (⟨d,V5,k5,rfl,i,E,A⟩|⟨rfl,g,f⟩);rotate_left
 . unfold BF;go_wp2;exact⟨rfl,.inl ⟨4,rfl,oM,O.o 0 (Am (r:=A9 (B4 (AN b) 2) 3) N.o (AB (Am R.o g))),H4.o.dr.gH.gP f⟩⟩
 obtain⟨l,t,e5⟩:∃a c,V5=.slice a d.length c:=AO E;subst e5;have H5:=Ag (H4.o.row A E);have U:=Ag i;go_wp2_with fail;refine(Bv B I (L-4) a c (AN b) 2 k5 _ oM oM H5.o.dr.at_).mono ?_;rintro e u6 (⟨x6,V,k6,rfl,i,rfl,A⟩|⟨rfl,g,f⟩);rotate_left
 . unfold BF;go_wp2;exact⟨rfl,.inl ⟨4,rfl,oM,O.o 0 (Am (r:=A9 (B4 (AN b) 2) 3) N.o (Am (r:=Eg (AN b) 2 (D6 (AN b))) (Am R.o U.o) (AB (AB g)))),H5.o.dr.gH.gP f⟩⟩
 have H6:=Ag (H5.o.read A);have R6:=Ag i;obtain⟨p6,aR⟩:=Ff HZ.o oM i;obtain⟨m6,rfl⟩:=i7 p6;have aN:m6<=65535:=oM;go_wp2_with fail;refine(MU B I (L-4) a c (AN b) m6 k6 _ oM H6.o.dr.at_).mono ?_;rintro e u7 (⟨_,V7,k7,rfl,i,⟨G,rfl,E⟩,A⟩|⟨rfl,g,f⟩);rotate_left
 . unfold BF;go_wp2;exact⟨rfl,.inl ⟨4,rfl,oM,O.o 0 (Am (r:=A9 (B4 (AN b) 2) 3) N.o (Am (r:=Eg (AN b) 2 (D6 (AN b))) (Am R.o U.o) (AB (Am R6.o g)))),H6.o.dr.gH.gP f⟩⟩
 obtain⟨m,y,e7⟩:∃a c,V7=.slice a G.length c:=AO (E.own (AP V7 G) sP);subst e7;have H7:=Ag (H6.o.rows A E);have R7:=Ag i;go_wp2_with fail;refine(Bv B I (L-4) a c (AN b) 2 k7 _ oM oM H7.o.dr.at_).mono ?_;rintro e u8 (⟨x8,V,k8,rfl,i,rfl,A⟩|⟨rfl,g,f⟩);rotate_left
 . unfold BF;go_wp2;exact⟨rfl,.inl ⟨4,rfl,oM,O.o 0 (Am (r:=A9 (B4 (AN b) 2) 3) N.o (Am (r:=Eg (AN b) 2 (D6 (AN b))) (Am R.o U.o) (Am (r:=Eg (AN b) 2 (Fb (AN b))) (Am R6.o R7.o) (AB (AB g))))),H7.o.dr.gH.gP f⟩⟩
 have H8:=Ag (H7.o.read A);have R8:=Ag i;obtain⟨p8,aS⟩:=Ff HZ.o oM i;obtain⟨m8,rfl⟩:=i7 p8;have aP:m8<=65535:=oM;go_wp2_with fail;refine(MS B I (L-4) a c (AN b) m8 k8 _ oM H8.o.dr.at_).mono ?_;rintro e u9 (⟨ts,V9,D,rfl,i,E,A⟩|⟨rfl,g,f⟩);rotate_left
 . unfold BF;go_wp2;exact⟨rfl,.inl ⟨4,rfl,oM,O.o 0 (Am (r:=A9 (B4 (AN b) 2) 3) N.o (Am (r:=Eg (AN b) 2 (D6 (AN b))) (Am R.o U.o) (Am (r:=Eg (AN b) 2 (Fb (AN b))) (Am R6.o R7.o) (AB (Am R8.o g))))),H8.o.dr.gH.gP f⟩⟩
 obtain⟨p,z,e9⟩:∃a c,V9=.slice a ts.length c:=AO E;subst e9;have H9:=Ag (H8.o.row A E);have R9:=Ag i;have a8:Hid (FR (AN b) 6=some (⟨F.map Prod.fst,d,G.map Prod.fst,ts⟩,D)):=(Am (r:=A9 (B4 (AN b) 2) 3) N.o (Am (r:=Eg (AN b) 2 (D6 (AN b))) (Am R.o U.o) (Am (r:=Eg (AN b) 2 (Fb (AN b))) (Am R6.o R7.o) (Am (r:=Eg (AN b) 2 (Iv (AN b))) (Am R8.o R9.o) rfl))));have aj:=A7.prog HZ.o _ _ _ a8.o;have aD:Hid (Br w u9 (gb w.heap.size (⟨sN,sN,sN,sN⟩:VP)::Ab ⟨.slice k F.length s,.slice l d.length t,.slice m G.length y,.slice p ts.length z⟩ F d G ts []) B I (L-4) a c (AN b) D):=by have:=H9.o;simpa[Hid,Ab,List.append_assoc]using this
 go_upto_region 4 with fail
 refine Ao (fun u=>Hid (Br w u ((gb w.heap.size (⟨sN,sN,sN,sN⟩:VP)::Ab ⟨.slice k F.length s,.slice l d.length t,.slice m G.length y,.slice p ts.length z⟩ F d G ts [])++[gb u9.heap.size ⟨.slice k F.length s,.slice l d.length t,.slice m G.length y,.slice p ts.length z⟩]) B I (L-4) a c (AN b) D)) (aD.o.box 29 4 _ rfl) ?_;generalize u9.heap.size=X;intro v0 E0;have H:=Ag (E0.o.aa (Ae _));have aL:=H.o.dr.at_.at_;have KS:∀u,Aw u I #[.slice a (L-4) c,iZ (D:Int)] 82->(u.cell? ⟨I,0,none⟩=some (.slice a (L-4) c)/\u.cell? ⟨I,1,none⟩=some (iZ (D:Int))):=fun u h=>⟨h.cell 0,h.cell 1⟩
 by_cases hk:D=L-4;rotate_left
 . have aH:¬(D:Int)=((L-4:Nat):Int):=oM;(have aI:((D:Int)==((L-4:Nat):Int))=false:=by simpa using aH);(have HK:Hid (¬D=b.length-4):=by rw[a6.o];exact hk);refine wp_region_held_drew (S:=fun Y=>Y.cell? ⟨I,0,none⟩=some (.slice a (L-4) c)/\Y.cell? ⟨I,1,none⟩=some (iZ (D:Int))) kR (KS _ H.o.dr.at_.cC) (fun W=> ?_)
   generalize v0.drew=UD at H W⊢;refine An 0 ?_;refine An 1 ?_;refine An 2 ?_;refine An 3 ?_;refine An 4 ?_;refine An 5 ?_;refine An 6 ?_;refine An 7 ?_;refine An 8 ?_;refine An 9 ?_;go_simp;refine rdH 10 ?_;intro KC au;go_simp;refine(Eu 5 _).mono ?_;rintro e v2 ⟨rfl,Q⟩;obtain rfl:=Q.symm;unfold BF;go_wp2;exact⟨rfl,.inl ⟨5,rfl,oM,.inr (.inr (.inr (.inr (.inl ⟨_,D,J.o.1,J.o.2,ae.o,a8.o,HK.o,rfl,rfl⟩)))),H.o.dr.gH⟩⟩
 have aI:((D:Int)==((L-4:Nat):Int))=true:=by rw[hk];simp
 have HK:Hid (D=b.length-4):=by rw[a6.o];exact hk
 clear hk;refine wp_region_held_drew (S:=fun Y=>Y.cell? ⟨I,0,none⟩=some (.slice a (L-4) c)/\Y.cell? ⟨I,1,none⟩=some (iZ (D:Int))) kR (KS _ H.o.dr.at_.cC) (fun W=> ?_)
 generalize v0.drew=UD at H W⊢;refine An 0 ?_;refine An 1 ?_;refine An 2 ?_;refine An 3 ?_;refine An 4 ?_;refine An 5 ?_;refine An 6 ?_;refine An 7 ?_;refine An 8 ?_;refine An 9 ?_;clear W;go_simp;refine rdH 10 ?_;intro KC au;go_simp;refine(Ev 5 _).mono ?_;rintro e v2 ⟨rfl,Q⟩;obtain rfl:=Q.symm;go_simp;refine au.o _ _ (KS _ H.o.dr.at_.cC) (fun W=> ?_);refine wpAnyH_done kR ?_ _;obtain⟨⟨y0,y1,y2,y3⟩,-⟩:=H.o.four (List.mem_append_right _ (show gb X ⟨.slice k F.length s,.slice l d.length t,.slice m G.length y,.slice p ts.length z⟩∈_ from sP));go_wp2_with fail;have HO:=Ag ((H.o.sub (M:=Ab ⟨.slice k F.length s,.slice l d.length t,.slice m G.length y,.slice p ts.length z⟩ F d G ts []) ((List.sublist_cons_self _ _).trans (lD _ _))).sep.ik);refine(Gh ⟨.slice k F.length s,.slice l d.length t,.slice m G.length y,.slice p ts.length z⟩ ⟨F.map Prod.fst,d,G.map Prod.fst,ts⟩ UD aj.1 aj.2 HO.o.rd HO.o.aB.rdc HO.o.funcs.rdp).mono ?_;rintro e v3 ⟨⟨n,rfl,hf⟩,hb⟩;have Z:=Ag (H.o.aa hb);have aq:=Ag hf;have aF:=Ag aj.1;obtain⟨⟨y0,y1,y2,y3⟩,-⟩:=Z.o.four (List.mem_append_right _ (show gb X ⟨.slice k F.length s,.slice l d.length t,.slice m G.length y,.slice p ts.length z⟩∈_ from sP));obtain⟨⟨q0,q1,q2,q3⟩,f0,f1,f2,f3⟩:=Z.o.four (List.mem_append_left _ (lS (a:=gb w.heap.size (⟨sN,sN,sN,sN⟩:VP))));by_cases g:n=0
 . subst g;rw[show GX 0=.nilIface from rfl];go_wp2_with (go_at_call 56;refine(Ev 6 _).mono ?_;rintro e v4 ⟨rfl,P⟩;obtain rfl:=P.symm);have HF:=Ag (Br.gU (C:=Ab ⟨.slice k F.length s,.slice l d.length t,.slice m G.length y,.slice p ts.length z⟩ F d G ts []++[gb X ⟨.slice k F.length s,.slice l d.length t,.slice m G.length y,.slice p ts.length z⟩]) Z.o (.slice k F.length s) (.slice l d.length t) (.slice m G.length y) (.slice p ts.length z));generalize (((v3.setCell ⟨w.heap.size,0,none⟩ (.slice k F.length s)).setCell ⟨w.heap.size,1,none⟩ (.slice l d.length t)).setCell ⟨w.heap.size,2,none⟩ (.slice m G.length y)).setCell ⟨w.heap.size,3,none⟩ (.slice p ts.length z)=WF at HF⊢;obtain⟨⟨r0,r1,r2,r3⟩,-⟩:=HF.o.four (lS (a:=gb w.heap.size ⟨.slice k F.length s,.slice l d.length t,.slice m G.length y,.slice p ts.length z⟩));have aE:=Ag ((HF.o.sub (M:=Ab ⟨.slice k F.length s,.slice l d.length t,.slice m G.length y,.slice p ts.length z⟩ F d G ts []) ((lD _ _).trans (List.sublist_cons_self _ _))).sep);exact i6 (v:=.agg #[.slice k F.length s,.slice l d.length t,.slice m G.length y,.slice p ts.length z]) (by simp[results,Tryz.results33,go_sem,r0,r1,r2,r3]) rfl (.inr ⟨⟨.slice k F.length s,.slice l d.length t,.slice m G.length y,.slice p ts.length z⟩,F,d,G,ts,rfl,aE.o,aF.o,.inr (.inr (.inr (.inr (.inr (.inr ⟨J.o.1,J.o.2,ae.o,by rw[<-HK.o];exact a8.o,aq.o,rfl⟩))))),HF.o.dr.gH⟩)
 rw[show GX n=.iface 80 (iZ n)from lE g];go_wp2_with (go_at_call 56;refine(Eu 6 _).mono ?_;rintro e v4 ⟨rfl,P⟩;obtain rfl:=P.symm;unfold BF);exact⟨rfl,.inl ⟨6,rfl,oM,.inr (.inr (.inr (.inr (.inr (.inl ⟨_,n,J.o.1,J.o.2,ae.o,by rw[<-HK.o];exact a8.o,aq.o,g,rfl,rfl⟩))))),Z.o.dr.gH⟩⟩
end Go.Proofs.YthjbicggfnnonaaGreatDoor
