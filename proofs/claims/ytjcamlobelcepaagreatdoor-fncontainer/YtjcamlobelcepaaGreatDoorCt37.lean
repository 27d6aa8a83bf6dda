import Derived.Test.YtjcamlobelcepaaGreatDoorCt36
import Derived.Test.YtjcamlobelcepaaGreatDoorCt30
import Derived.Tactics2
import Derived.Defers
import Derived.Recover
import Derived.Laws.Pointers
namespace Go.Proofs.YtjcamlobelcepaaGreatDoor
open Go.ChangeShapes Go.WideShapes Go.ChangeAt Go.RowKit
set_option linter.unusedVariables false
set_option maxHeartbeats 8000000
set_option maxRecDepth 100000
section
open Go.Extern.Stop Go.Stop Go.Extern
def CY(w:World):Prop:=w.cell? ⟨1,0,none⟩=some (.iface 191 (.agg #[.pointer (some ⟨2,41,none⟩)]))
theorem CY.keep{w w':World}(h:CY w)(hb:Below w.heap.size w w'):CY w':=by
 unfold CY at*;rw[hb.cell (aD h)];exact h
theorem SP(n:Int)(t:Addr)(old:Value)(w:World)(hg:w.cell? ⟨1,0,none⟩=some (.iface 191 (.agg #[.pointer (some ⟨2,41,none⟩)])))(ht0:w.cell? t=some old)(hf0:w.frozen? t=false):
 Calls Tryz.prog 50 #[.iface 90 (.int .i64 n),.iface 105 (.pointer (some t))] w fun ev w'=>ev=.returned (.bool true)/\w'=((((w.alloc (.cells #[.pointer (some t)] 105)).alloc (.cells #[.pointer (some ⟨2,105,none⟩),.pointer (some ⟨w.heap.size,0,none⟩),.int .u64 150] 141)).alloc (.cells #[.pointer (some ⟨2,105,none⟩),.pointer (some ⟨w.heap.size,0,none⟩),.int .u64 150] 141)).alloc (.cells #[.int .i64 n] 90)).setCell t (.int .i64 n):=by
 have h6:= @run_callFunc_extern Tryz.prog 82 _ (fun args=>ReflectliteValue.unpack (args.getD 0 (.tuple #[]))) Tryz.func82 (by kernel_rfl) (by kernel_rfl) (by kernel_rfl) (by kernel_rfl);have h7:= @run_callFunc_extern Tryz.prog 83 _ (ReflectliteValue.methodAny (ReflectliteValue.valueError "reflectlite.Value.Type" 0) (fun t _ _ _=>ReflectliteType.toType t)) Tryz.func83 (by kernel_rfl) (by kernel_rfl) (by kernel_rfl) (by kernel_rfl);have h8:= @run_callFunc_extern Tryz.prog 84 _ (ReflectliteValue.method (ReflectliteValue.valueError "reflectlite.Value.IsNil" 0) ReflectliteValue.isNil) Tryz.func84 (by kernel_rfl) (by kernel_rfl) (by kernel_rfl) (by kernel_rfl);have h27:= @run_callFunc_extern Tryz.prog 181 _ (ReflectliteType.abiMethod fun t=>do pure (.int .u8 (<-Rtype.kind t))) Tryz.func181 (by kernel_rfl) (by kernel_rfl) (by kernel_rfl) (by kernel_rfl);have h37:= @run_callFunc_extern Tryz.prog 191 _ (ReflectliteType.method ReflectliteType.elem) Tryz.func191 (by kernel_rfl) (by kernel_rfl) (by kernel_rfl) (by kernel_rfl)
 have h38:= @run_callFunc_extern Tryz.prog 192 _ (ReflectliteType.relation "Implements" ReflectliteType.implements_) Tryz.func192 (by kernel_rfl) (by kernel_rfl) (by kernel_rfl) (by kernel_rfl);have h10:= @run_callFunc_extern Tryz.prog 117 _ ReflectliteType.typeOf Tryz.func117 (by kernel_rfl) (by kernel_rfl) (by kernel_rfl) (by kernel_rfl);have h35:= @run_callFunc_extern Tryz.prog 189 _ (ReflectliteType.relation "AssignableTo" ReflectliteType.assignableTo) Tryz.func189 (by kernel_rfl) (by kernel_rfl) (by kernel_rfl) (by kernel_rfl);have h11:= @run_callFunc_extern Tryz.prog 118 _ (ReflectliteValue.method (ReflectliteValue.valueError "reflectlite.Value.Elem" 0) ReflectliteValue.elem) Tryz.func118 (by kernel_rfl) (by kernel_rfl) (by kernel_rfl) (by kernel_rfl);have h12:= @run_callFunc_extern Tryz.prog 119 _ ReflectliteValue.set Tryz.func119 (by kernel_rfl) (by kernel_rfl) (by kernel_rfl) (by kernel_rfl);have tO:=Sm;have mA:=Ho;have a25:=Mv;have v25:=Rn;have f6:=Ro;have f7:=Ui;have mK:=Oj;have mE:=Oi;have mI:=ID;have k27:=T4;have k25:=T3;have e27:=TX;have i25:=MX;have hl1:1<w.heap.size:=aD hg;have htl:t.block<w.heap.size:=aD ht0
 have n8:=S0 ⟨w.heap.size,0,none⟩ t ((w.alloc (.cells #[.pointer (some t)] 105)).alloc (.cells #[.pointer (some ⟨2,105,none⟩),.pointer (some ⟨w.heap.size,0,none⟩),.int .u64 150] 141)) (by simp)
 have hg2:((w.alloc (.cells #[.pointer (some t)] 105)).alloc (.cells #[.pointer (some ⟨2,105,none⟩),.pointer (some ⟨w.heap.size,0,none⟩),.int .u64 150] 141)).cell? ⟨1,0,none⟩=some (.iface 191 (.agg #[.pointer (some ⟨2,41,none⟩)])):=by
  rw[World.cell?_alloc_lt _ _ ⟨1,0,none⟩ (by simp<;>omega),World.cell?_alloc_lt _ _ ⟨1,0,none⟩ hl1];exact hg
 have el:=SU ⟨w.heap.size,0,none⟩ t (((w.alloc (.cells #[.pointer (some t)] 105)).alloc (.cells #[.pointer (some ⟨2,105,none⟩),.pointer (some ⟨w.heap.size,0,none⟩),.int .u64 150] 141)).alloc (.cells #[.pointer (some ⟨2,105,none⟩),.pointer (some ⟨w.heap.size,0,none⟩),.int .u64 150] 141)) (by rw[World.cell?_alloc_lt _ _ ⟨w.heap.size,0,none⟩ (by simp;omega)];simp)
 have st:=UL t ⟨w.heap.size+1+1+1,0,none⟩ n old ((((w.alloc (.cells #[.pointer (some t)] 105)).alloc (.cells #[.pointer (some ⟨2,105,none⟩),.pointer (some ⟨w.heap.size,0,none⟩),.int .u64 150] 141)).alloc (.cells #[.pointer (some ⟨2,105,none⟩),.pointer (some ⟨w.heap.size,0,none⟩),.int .u64 150] 141)).alloc (.cells #[.int .i64 n] 90))
  (by rw[World.cell?_alloc_at _ _ _ _ (by simp)];rfl)
  (by rw[World.cell?_alloc_lt _ _ t (by simp;omega),World.cell?_alloc_lt _ _ t (by simp;omega),World.cell?_alloc_lt _ _ t (by simp;omega),World.cell?_alloc_lt _ _ t htl];exact ht0)
  (by rw[World.frozen?_alloc_old _ _ t (by simp;omega),World.frozen?_alloc_old _ _ t (by simp;omega),World.frozen?_alloc_old _ _ t (by simp;omega),World.frozen?_alloc_old _ _ t (bC htl)];exact hf0)
 go_enter Tryz.func50,Tryz.ntmps50;go_wp2
 refine wp_loop_rounds 1 ?_;rw[rounds_succ];go_wp2
 go_ret
 exact⟨rfl,rfl⟩
theorem FU(n:Int)(w:World)(hg:CY w):
 Calls Tryz.prog 24 #[FT n] w fun e w'=>e=.returned (.int .i64 n)/\Below w.heap.size w w':=by
 by_cases q:n=0
 . subst q
   show Calls Tryz.prog 24 #[.nilIface] w _;go_enter Tryz.func24,Tryz.ntmps24;go_wp2_with fail
   refine(SQ _ _).mono ?_;rintro e u ⟨rfl,rfl⟩;go_wp2
   go_ret
   exact⟨rfl,Aa _ _⟩
 . have e1:FT n=.iface 90 (.int .i64 n):=bX q
   rw[e1];clear e1;have hl1:1<w.heap.size:=aD hg;go_enter Tryz.func24,Tryz.ntmps24;go_wp2_with fail
   have c0:(w.alloc (.cells #[.int .i64 0] 90)).cell? ⟨w.heap.size,0,none⟩=some (.int .i64 0):=by rw[World.cell?_alloc_at _ _ _ _ rfl];rfl
   refine(SP n ⟨w.heap.size,0,none⟩ (.int .i64 0) (w.alloc (.cells #[.int .i64 0] 90)) (hg.keep (Aa _ _)) c0 (by simp)).mono ?_;rintro e u ⟨rfl,hu⟩
   have hB:Below w.heap.size w u:=by
    rw[hu];exact(Ab (Ab (Ab (Ab (Aa _ _) lR (Aa _ _)) lR (Aa _ _)) lR (Aa _ _)) lR (Aa _ _)).setCell lR _
   have c1:u.cell? ⟨w.heap.size,0,none⟩=some (.int .i64 n):=by
    rw[hu];refine World.cell?_setCell_same' _ _ _ ?_;rw[World.cell?_alloc_lt _ _ ⟨w.heap.size,0,none⟩ (by simp;omega),World.cell?_alloc_lt _ _ ⟨w.heap.size,0,none⟩ (by simp;omega),World.cell?_alloc_lt _ _ ⟨w.heap.size,0,none⟩ (by simp;omega),World.cell?_alloc_lt _ _ ⟨w.heap.size,0,none⟩ (by simp),c0];rfl
   have HB:Hid (Below w.heap.size w u):=hB;clear hB hu c0;go_wp2
   go_ret
   exact⟨rfl,HB.o⟩
theorem Kr(v:VP)(p:MP)(w:World)(hs:p.small)(hw:p.wf)(h:Ej w v p)(hcap:Jv w v.r p.regions)(hfp:Lw w v.f p.funcs)(hg:CY w):
 Calls Tryz.prog 7 #[.agg #[v.r,v.k,v.f,v.t]] w fun e w'=>BI e p/\Below w.heap.size w w':=by
 have H:Hid (p.small/\p.wf/\Ej w v p/\Jv w v.r p.regions/\Lw w v.f p.funcs/\CY w):=⟨hs,hw,h,hcap,hfp,hg⟩
 clear hs hw h hcap hfp hg;go_enter Tryz.func7,Tryz.ntmps7;go_wp2_with fail
 have B0:=Aa w (.cells #[v.r,v.k,v.f,v.t] 28);refine(DJ v p _ H.o.1 H.o.2.1 (H.o.2.2.1.keep B0 lR) (H.o.2.2.2.1.keep B0 lR) (H.o.2.2.2.2.1.keep B0 lR)).mono ?_;rintro e u ⟨⟨n,rfl,hn⟩,bl⟩;have HB:Hid (Below w.heap.size w u/\CY u/\AV p n):=⟨Ab B0 lR bl,H.o.2.2.2.2.2.keep (Ab B0 lR bl),hn⟩
 clear B0 bl hn;go_wp2_with fail
 refine(FU n _ HB.o.2.1).mono ?_;rintro e u2 ⟨rfl,bl2⟩;have HB2:Hid (Below w.heap.size w u2):=Ab HB.o.1 lR bl2;clear bl2;go_wp2
 go_ret
 exact⟨⟨n,rfl,HB.o.2.2⟩,HB2.o⟩
end
theorem PE{G1 G2:List (MF×VF)}{f f':MF}{pv lv c0 c1:Value}(hf:f'.result=f.result):((G1++(f,(⟨pv,lv,c0⟩:VF))::G2).flatMap AW).set (G1.length*4+3) c1=(G1++(f',(⟨pv,lv,c1⟩:VF))::G2).flatMap AW:=by
 induction G1 with
 |nil=>simp[AW,hf]
 | cons x r ih=>
   rw[bK,bK,am,am,<-ih,bL,show(r.length+1)*4+3=r.length*4+3+1+1+1+1 by omega];rfl
section
variable {w u:World} {s:CR} {p:Int} {v:VP} {F:List (List Int×Value)} {cs:List MC} {G1 G2:List (MF×VF)} {ts:List MT} {P gf cf:Nat} {X:As} {D:List As} {f:MF} {pv lv c0 vc:Value} {code:List MI}
theorem Bs.code_(h:Bs w u s p (Ai v F cs (G1++(f,(⟨pv,lv,c0⟩:VF))::G2) ts (Ca vc code::X::D)))(hv:v.f=.slice (some ⟨gf,0,none⟩) (G1++(f,(⟨pv,lv,c0⟩:VF))::G2).length cf):Bs w (u.setCell ⟨gf,G1.length*4+3,none⟩ vc) s p (Ai v F cs (G1++((⟨f.params,f.result,f.locals,code⟩:MF),(⟨pv,lv,vc⟩:VF))::G2) ts (X::D))/\u.cell? ⟨gf,G1.length*4+3,none⟩=some c0/\u.frozen? ⟨gf,G1.length*4+3,none⟩=false:=by
 have ho:=h.prow.2.2.2.1;rw[hv]at ho;have hs:=(cP ho (G1.length*4+3) vc).1;rw[PE (f:=f) (f':=⟨f.params,f.result,f.locals,code⟩) rfl]at hs;have hlt:=(ho.lt gf rfl).1;have hc:=bF ho (G1.length*4+3) (by simp only[aH,bL];omega);rw[C8 AW 4 Ag _ G1.length 3 (f,(⟨pv,lv,c0⟩:VF)) (by simp) (by omega)]at hc;refine⟨⟨?_,h.bel.setCell hlt _⟩,hc,ho.frozenAt _⟩;have h0:CI u w.heap.size ((Ct v.r F::BS F++[DY v.k cs])++BT v.f (G1++(f,(⟨pv,lv,c0⟩:VF))::G2)::(BQ (G1++(f,(⟨pv,lv,c0⟩:VF))::G2)++(CZ v.t ts::Ca vc code::X::D))):=by simpa[Ai,List.append_assoc]using h.sep
 have h1:=h0.put ((G1++((⟨f.params,f.result,f.locals,code⟩:MF),(⟨pv,lv,vc⟩:VF))::G2).flatMap AW) (by show(u.setCell ⟨gf,G1.length*4+3,none⟩ vc).ownsRow _ _ _ v.f _ _;rw[hv];exact hs) (by show u.grownBy (u.setCell ⟨gf,G1.length*4+3,none⟩ vc) v.f.ownBlock;rw[hv];exact FC (⟨rfl,rfl,rfl,Nat.le_refl _,fun _ _ _=>rfl⟩:u.grownBy u (some gf)) _ _);have e:({BT v.f (G1++(f,(⟨pv,lv,c0⟩:VF))::G2)with xs:=(G1++((⟨f.params,f.result,f.locals,code⟩:MF),(⟨pv,lv,vc⟩:VF))::G2).flatMap AW}:As)=BT v.f (G1++((⟨f.params,f.result,f.locals,code⟩:MF),(⟨pv,lv,vc⟩:VF))::G2):=by simp[BT]
 rw[e]at h1
 have h2:CI (u.setCell ⟨gf,G1.length*4+3,none⟩ vc) w.heap.size (Ai v F cs (G1++((⟨f.params,f.result,f.locals,code⟩:MF),(⟨pv,lv,vc⟩:VF))::G2) ts (X::D)++[Ca c0 f.code]):=h1.perm (by
  classical
  rw[dy];intro a;simp only[Ai,BQ,Co,a8,am,dD,dJ,dN];omega)
 exact h2.sub (dA _ _)
end
def Mg(w:World)(s:CR)(k:GK)(p left lv:Int)(nt:Nat)(D:List As)(ka kp:Int)(e:Ending)(u':World):Prop:=e=.returned (.tuple #[])/\∃p' left',(p<=p'/\p'<=p+ka/\left-kp<=left'/\left'<=left-1)/\Hid (GS w u' s k p' left' lv nt D)
theorem gE{q:Prop}(h:q:=by
 go_wp2_with fail
 first|refine dh (v:=.tuple #[]) (by kernel_rfl) rfl ?_|refine aW (v:=.tuple #[]) (by kernel_rfl) rfl ?_
 exact⟨rfl,_,_,by omega,E⟩):q:=h
theorem gC{q:Prop}(h:q:=by
 rintro e u ⟨r,rfl,E⟩;go_wp2_with fail
 refine(Uc E).mono ?_;rintro e u ⟨n,rfl,E⟩;exact gE):q:=h
theorem RI(x:Int):bits .and .u32 x 1<=1:=by
 have h1:∀n:Nat,IntKind.u32.wrap (n:Int)=(n:Int) % 4294967296:=fun _=>rfl
 have h2:(BitVec.ofInt 32 x &&& BitVec.ofInt 32 1).toNat<=1:=by rw[BitVec.toNat_and];exact aR Nat.and_le_right (by decide)
 unfold bits;simp only[h1];show((BitVec.ofInt 32 x &&& BitVec.ofInt 32 1).toNat:Int) % 4294967296<=1;omega
theorem T5{w u:World}{s:CR}{k:GK}{p left lv t:Int}{nt:Nat}{D:List As}(E:Hid (GS w u s k p left lv nt D))(ht:1<=t/\t<=3:=by omega)(hp:p+300<=1000000000000:=by omega)(hl:-700000<=left:=by omega):
 Calls Tryz.prog 53 #[.pointer (some ⟨k.Gb,0,none⟩),iZ t] u (Mg w s k p left lv nt D 8 1):=by
 obtain⟨_,_,q0,_⟩:=E.o.cells;have hp0:=E.o.le;go_enter Tryz.func53,Tryz.ntmps53;go_wp2_with fail
 refine(Ol E).mono ?_;rintro e u ⟨r,rfl,hr,E⟩;clear q0;go_wp2_with fail
 refine(Ol E).mono ?_;rintro e u ⟨r2,rfl,h2,E⟩;obtain⟨q,rfl⟩:=aS hr.1;have hq:=hr.2;obtain⟨gr,cr,a,n,c,d0,d1,d2,HP,_⟩:=Si E (show q<3 by omega);rcases(show r2=0\/r2=1\/r2=2\/r2=3 by omega)with rfl|rfl|rfl|rfl
 iterate 2
  go_wp2_with fail
  refine(HP.o t).mono ?_;rintro e u ⟨r,p1,rfl,rfl|⟨b,rfl,hb⟩,hp1,E⟩;rotate_left;have hb0:(b:Int)>=0:=by omega
  go_wp2_with fail
  refine(Fa E (ok3 E.o.ok hb)).mono ?_;rintro e u ⟨n,rfl,_,E⟩;exact gE
 focus
  go_wp2_with fail
  refine(T8 E).mono ?_;rintro e u ⟨a,n,c,rfl,E,HP⟩;go_wp2_with fail
  refine(HP.o t).mono ?_;rintro e u ⟨r,p1,rfl,rfl|⟨b,rfl,hb⟩,hp1,E⟩;rotate_left;have hb0:(b:Int)>=0:=by omega
  go_wp2_with fail
  refine(Fa E (UI E.o.ok hb)).mono ?_;rintro e u ⟨n,rfl,_,E⟩;exact gE
 all_goals
  go_wp2_with fail
  refine(wdG E).mono ?_;rintro e u ⟨x,p2,rfl,hx,hp2,E⟩;cases ht1:(t==1)
  . go_wp2_with fail
    refine(SS E ht hx (fun e=>by simp[e]at ht1)).mono ?_;exact gC
  . go_wp2_with fail
    refine(SS E ht (Jy _ _ _) (fun _=>RI _)).mono ?_;exact gC
theorem Rk(n:Int)(w:World):(Instr.typeAssert (.iface 90 (iZ n)) 20 90 false).run Tryz.prog w=.ok (iZ n) w:=by kernel_rfl
theorem Je(p:Addr)(x:Value)(n:Int)(older:List PanicEntry)(w:World)(hc:w.cell? p=some x)(hz:w.frozen? p=false):
 CallsD Tryz.prog 48 #[.pointer (some p)] (.panicking ({v:=.iface 90 (iZ n),recovered:=false}::older)) w fun e u' w'=>
  e=.returned (.tuple #[])/\u'=.panicking ({v:=.iface 90 (iZ n),recovered:=true}::older)/\w'=w.setCell p (.iface 90 (iZ n)):=by
 refine callsD_of_wpS Tryz.func48 rfl fun c₀ cs hu=> ?_
 apply wpS_seq;apply wpS_region;simp[wpOpsS,go_sem,recoverD,hu,Tryz.ntmps48,Exit.thenS];refine wpS_of_wp ?_;show Code.wp Tryz.prog _ _ {tmps:=#[.pointer (some p),.iface 90 (iZ n),.iface 90 (iZ n),undef,undef,undef,undef,undef],defers:=[]} w;have hta:=Rk n w;go_wp2
 simp[bodyPostS,results,Tryz.results48]
theorem NO(p:Addr)(w:World):
 CallsD Tryz.prog 48 #[.pointer (some p)] .returning w fun e u' w'=>e=.returned (.tuple #[])/\u'=.returning/\w'=w:=by
 refine callsD_of_wpS Tryz.func48 rfl fun c₀ cs hu=> ?_
 apply wpS_seq;apply wpS_region;simp[wpOpsS,go_sem,recoverD,hu,Tryz.ntmps48,Exit.thenS];refine wpS_of_wp ?_;show Code.wp Tryz.prog _ _ {tmps:=#[.pointer (some p),.nilIface,.nilIface,undef,undef,undef,undef,undef],defers:=[]} w;go_wp2
 cases c₀
 simp_all [bodyPostS,results,Tryz.results48]
theorem CI.low{u:World}{base:Nat}{L:List As}(h:CI u base L)(g i:Nat)(hl:g<base)(y:Value):CI (u.setCell ⟨g,i,none⟩ y) base L:=h.chg ((DX.refl (fun j=>j=g) u).setCell (ad:=⟨g,i,none⟩) (.inl rfl) y) (fun j hj e=>by omega)
theorem Pa(w:World)(b:Nat):CI w b (Ai (⟨sN,sN,sN,sN⟩:VP) [] [] [] [] []):=by
 refine⟨fun r hr=> ?_,?_⟩
 . simp[Ai,BS,BQ]at hr
   rcases hr with rfl|rfl|rfl|rfl<;>exact bq _ _ _ _
 . simp[Ai,BS,BQ,Tz,Ct,DY,BT,CZ,Value.ownBlock]
def Qi(zs:List Int)(w:World)(e:Ending)(w':World):Prop:=∃(c:Int) (v:VP) (F:List (List Int×Value)) (cs:List MC) (G:List (MF×VF)) (ts:List MT),e=.returned (.tuple #[.agg #[v.r,v.k,v.f,v.t],FT c])/\Ff zs c (if c=0 then⟨F.map Prod.fst,cs,G.map Prod.fst,ts⟩else Nm)/\CI w' w.heap.size (Ai v F cs G ts [])/\MP.small ⟨F.map Prod.fst,cs,G.map Prod.fst,ts⟩/\Below w.heap.size w w'
theorem Jj(a:Option Addr)(L c:Nat)(zs:List Int)(w:World)(hL:L<=1048576)(hc:L<=c)(ht:Dq w)(h:Dp w (.slice a L c) L (zs.map (Value.int .u8)))(hz:DC zs):
 Calls Tryz.prog 23 #[.slice a L c] w (Qi zs w):=by
 have hmf:∀(fn:Fn) (first cap:Array Value) (w:World),(Instr.makeFunc fn first cap).run Tryz.prog w=.ok (.func fn first cap) w:=fun _ _ _ _=>rfl
 have htl:=aD (ht 0 (by omega));have H:=Af (aG h (aG hz ht));clear h hz ht;go_enter_defers Tryz.func23,Tryz.ntmps23
 go_wp2_with fail
 have b1:=Aa w (.cells #[sN,sN,sN,sN] 28);have b2:=Aa (w.alloc (.cells #[sN,sN,sN,sN] 28)) (.cells #[.nilIface] 41);have b3:=Aa ((w.alloc (.cells #[sN,sN,sN,sN] 28)).alloc (.cells #[.nilIface] 41)) (.cells #[.slice a L c,iZ 0] 102);have k1:=Ap.new w #[sN,sN,sN,sN] 28;have k2:=Ap.new (w.alloc (.cells #[sN,sN,sN,sN] 28)) #[.nilIface] 41;have k3:=Ap.new ((w.alloc (.cells #[sN,sN,sN,sN] 28)).alloc (.cells #[.nilIface] 41)) #[.slice a L c,iZ 0] 102;rw[dC]at k2;rw[dC,dC]at k3;have bU:Below w.heap.size w (((w.alloc (.cells #[sN,sN,sN,sN] 28)).alloc (.cells #[.nilIface] 41)).alloc (.cells #[.slice a L c,iZ 0] 102)):=Ab (Ab b1 lR b2) lR b3
 have HU:Hid (Hh (((w.alloc (.cells #[sN,sN,sN,sN] 28)).alloc (.cells #[.nilIface] 41)).alloc (.cells #[.slice a L c,iZ 0] 102)) w.heap.size (w.heap.size+1+1) L a c zs 0/\Ap (((w.alloc (.cells #[sN,sN,sN,sN] 28)).alloc (.cells #[.nilIface] 41)).alloc (.cells #[.slice a L c,iZ 0] 102)) w.heap.size #[sN,sN,sN,sN] 28/\Ap (((w.alloc (.cells #[sN,sN,sN,sN] 28)).alloc (.cells #[.nilIface] 41)).alloc (.cells #[.slice a L c,iZ 0] 102)) (w.heap.size+1) #[.nilIface] 41/\Below w.heap.size w (((w.alloc (.cells #[sN,sN,sN,sN] 28)).alloc (.cells #[.nilIface] 41)).alloc (.cells #[.slice a L c,iZ 0] 102))/\Dq (((w.alloc (.cells #[sN,sN,sN,sN] 28)).alloc (.cells #[.nilIface] 41)).alloc (.cells #[.slice a L c,iZ 0] 102))):=
  ⟨⟨k3,fun u hu=>H.o.1.keep (bU.trans hu),hL,by omega,by omega,H.o.2.1,hc⟩,(k1.keep b2).keep b3,k2.keep b3,bU,fun j hj=>by rw[bU.cell (aD (H.o.2.2 j hj))];exact H.o.2.2 j hj⟩
 clear b1 b2 b3 k1 k2 k3 bU;refine(Ns w.heap.size (w.heap.size+1+1) L a c zs _ HU.o.2.2.2.2 (by simpa using htl) HU.o.1).mono ?_;generalize (((w.alloc (.cells #[sN,sN,sN,sN] 28)).alloc (.cells #[.nilIface] 41)).alloc (.cells #[.slice a L c,iZ 0] 102))=U at HU⊢;have hUs:w.heap.size+1<U.heap.size:=HU.o.2.2.1.lt;rintro e u1 (⟨cd,rfl,hcd,hdec,hch⟩|⟨v,F,cs,G,ts,rfl,hsep,hsm,hdec,hch⟩)
 . have HK:Hid (Ap u1 w.heap.size #[sN,sN,sN,sN] 28/\Ap u1 (w.heap.size+1) #[.nilIface] 41/\Below w.heap.size w u1):=⟨hch.blk HU.o.2.1 (by omega),hch.blk HU.o.2.2.1 (by omega),HU.o.2.2.2.1.trans (hch.below (by have:=HU.o.2.2.2.1.size;omega) (fun k hk e=>by omega))⟩
   unfold Ba;go_wp2
   refine leaves_cons (f:=48) (args:=#[.pointer (some ⟨w.heap.size+1,0,none⟩)]) (by simp) (by simp[go_sem]) ?_;refine(Je ⟨w.heap.size+1,0,none⟩ .nilIface cd [] _ (HK.o.2.1.cell 0) (HK.o.2.1.frozen 0)).mono ?_;rintro e u' w'' ⟨rfl,rfl,rfl⟩
   have HW:Hid (Ap (u1.setCell ⟨w.heap.size+1,0,none⟩ (.iface 90 (iZ cd))) w.heap.size #[sN,sN,sN,sN] 28/\(u1.setCell ⟨w.heap.size+1,0,none⟩ (.iface 90 (iZ cd))).cell? ⟨w.heap.size+1,0,none⟩=some (.iface 90 (iZ cd))/\Below w.heap.size w (u1.setCell ⟨w.heap.size+1,0,none⟩ (.iface 90 (iZ cd)))):=by
    refine⟨HK.o.1.other (a:=⟨w.heap.size+1,0,none⟩) (by simp) _,?_,HK.o.2.2.setCell (by simp) _⟩;have:=(HK.o.2.1.set 0 (.iface 90 (iZ cd))).cell 0;simpa using this
   generalize u1.setCell ⟨w.heap.size+1,0,none⟩ (.iface 90 (iZ cd))=WF at HW⊢;have r0:WF.cell? ⟨w.heap.size,0,none⟩=some sN:=HW.o.1.cell 0;have r1:WF.cell? ⟨w.heap.size,1,none⟩=some sN:=HW.o.1.cell 1;have r2:WF.cell? ⟨w.heap.size,2,none⟩=some sN:=HW.o.1.cell 2;have r3:WF.cell? ⟨w.heap.size,3,none⟩=some sN:=HW.o.1.cell 3;have r4:=HW.o.2.1;have HR:Hid (Qi zs w (.returned (.tuple #[.agg #[sN,sN,sN,sN],(.iface 90 (iZ cd))])) WF):=⟨cd,(⟨sN,sN,sN,sN⟩:VP),[],[],[],[],by rw[show FT cd=(.iface 90 (iZ cd))from bX hcd],by rw[bX hcd];exact hdec,Pa _ _,Ll,HW.o.2.2⟩;simp[Leaves,settle,results,Tryz.results23,go_sem,r0,r1,r2,r3,r4];exact HR.o
 . obtain⟨a1,d1,a2,d2,a3,d3,a4,d4,rfl⟩:=EY hsep
   have HK:=Af (aG (hch.blk HU.o.2.1 (by omega)) (aG (hch.blk HU.o.2.2.1 (by omega)) (HU.o.2.2.2.1.trans (hch.below (by have:=HU.o.2.2.2.1.size;omega) (fun k hk e=>by omega)))));have HSP:=Af hsep;have HDC:=Af (aG hdec hsm);clear hsep hdec hsm hch HU;have q0:u1.cell? ⟨w.heap.size,0,none⟩=some sN:=HK.o.1.cell 0;have q1:u1.cell? ⟨w.heap.size,1,none⟩=some sN:=HK.o.1.cell 1;have q2:u1.cell? ⟨w.heap.size,2,none⟩=some sN:=HK.o.1.cell 2;have q3:u1.cell? ⟨w.heap.size,3,none⟩=some sN:=HK.o.1.cell 3;have q4:u1.cell? ⟨w.heap.size+1,0,none⟩=some .nilIface:=HK.o.2.1.cell 0;have f0:=HK.o.1.frozen 0;have f1:=HK.o.1.frozen 1;have f2:=HK.o.1.frozen 2;have f3:=HK.o.1.frozen 3;have f4:=HK.o.2.1.frozen 0;go_wp2;refine leaves_cons (f:=48) (args:=#[.pointer (some ⟨w.heap.size+1,0,none⟩)]) (by simp) (by simp[go_sem]) ?_;refine(NO ⟨w.heap.size+1,0,none⟩ _).mono ?_;rintro e u' w'' ⟨rfl,rfl,rfl⟩
   have HW4:Hid (Ap ((((u1.setCell ⟨w.heap.size,0,none⟩ (.slice a1 F.length d1)).setCell ⟨w.heap.size,1,none⟩ (.slice a2 cs.length d2)).setCell ⟨w.heap.size,2,none⟩ (.slice a3 G.length d3)).setCell ⟨w.heap.size,3,none⟩ (.slice a4 ts.length d4)) w.heap.size #[.slice a1 F.length d1,.slice a2 cs.length d2,.slice a3 G.length d3,.slice a4 ts.length d4] 28/\Ap ((((u1.setCell ⟨w.heap.size,0,none⟩ (.slice a1 F.length d1)).setCell ⟨w.heap.size,1,none⟩ (.slice a2 cs.length d2)).setCell ⟨w.heap.size,2,none⟩ (.slice a3 G.length d3)).setCell ⟨w.heap.size,3,none⟩ (.slice a4 ts.length d4)) (w.heap.size+1) #[.nilIface] 41):=by
    constructor
    . have:=(((HK.o.1.set 0 (.slice a1 F.length d1)).set 1 (.slice a2 cs.length d2)).set 2 (.slice a3 G.length d3)).set 3 (.slice a4 ts.length d4)
      simpa using this
    . exact(((HK.o.2.1.other (a:=⟨w.heap.size,0,none⟩) (by simp) _).other (a:=⟨w.heap.size,1,none⟩) (by simp) _).other (a:=⟨w.heap.size,2,none⟩) (by simp) _).other (a:=⟨w.heap.size,3,none⟩) (by simp) _
   have HW:Hid (Ap (((((u1.setCell ⟨w.heap.size,0,none⟩ (.slice a1 F.length d1)).setCell ⟨w.heap.size,1,none⟩ (.slice a2 cs.length d2)).setCell ⟨w.heap.size,2,none⟩ (.slice a3 G.length d3)).setCell ⟨w.heap.size,3,none⟩ (.slice a4 ts.length d4)).setCell ⟨w.heap.size+1,0,none⟩ .nilIface) w.heap.size #[.slice a1 F.length d1,.slice a2 cs.length d2,.slice a3 G.length d3,.slice a4 ts.length d4] 28/\(((((u1.setCell ⟨w.heap.size,0,none⟩ (.slice a1 F.length d1)).setCell ⟨w.heap.size,1,none⟩ (.slice a2 cs.length d2)).setCell ⟨w.heap.size,2,none⟩ (.slice a3 G.length d3)).setCell ⟨w.heap.size,3,none⟩ (.slice a4 ts.length d4)).setCell ⟨w.heap.size+1,0,none⟩ .nilIface).cell? ⟨w.heap.size+1,0,none⟩=some .nilIface/\Below w.heap.size w (((((u1.setCell ⟨w.heap.size,0,none⟩ (.slice a1 F.length d1)).setCell ⟨w.heap.size,1,none⟩ (.slice a2 cs.length d2)).setCell ⟨w.heap.size,2,none⟩ (.slice a3 G.length d3)).setCell ⟨w.heap.size,3,none⟩ (.slice a4 ts.length d4)).setCell ⟨w.heap.size+1,0,none⟩ .nilIface)/\CI (((((u1.setCell ⟨w.heap.size,0,none⟩ (.slice a1 F.length d1)).setCell ⟨w.heap.size,1,none⟩ (.slice a2 cs.length d2)).setCell ⟨w.heap.size,2,none⟩ (.slice a3 G.length d3)).setCell ⟨w.heap.size,3,none⟩ (.slice a4 ts.length d4)).setCell ⟨w.heap.size+1,0,none⟩ .nilIface) U.heap.size (Ai ⟨.slice a1 F.length d1,.slice a2 cs.length d2,.slice a3 G.length d3,.slice a4 ts.length d4⟩ F cs G ts [])):=by
    refine⟨HW4.o.1.other (a:=⟨w.heap.size+1,0,none⟩) (by simp) _,?_,((((HK.o.2.2.setCell lR (.slice a1 F.length d1)).setCell lR (.slice a2 cs.length d2)).setCell lR (.slice a3 G.length d3)).setCell lR (.slice a4 ts.length d4)).setCell (Nat.le_succ _) .nilIface,((((HSP.o.low w.heap.size 0 (by omega) (.slice a1 F.length d1)).low w.heap.size 1 (by omega) (.slice a2 cs.length d2)).low w.heap.size 2 (by omega) (.slice a3 G.length d3)).low w.heap.size 3 (by omega) (.slice a4 ts.length d4)).low (w.heap.size+1) 0 (by omega) .nilIface⟩;have:=(HW4.o.2.set 0 .nilIface).cell 0;simpa using this
   clear HW4 q0 q1 q2 q3 q4 f0 f1 f2 f3 f4 HK HSP;generalize ((((u1.setCell ⟨w.heap.size,0,none⟩ (.slice a1 F.length d1)).setCell ⟨w.heap.size,1,none⟩ (.slice a2 cs.length d2)).setCell ⟨w.heap.size,2,none⟩ (.slice a3 G.length d3)).setCell ⟨w.heap.size,3,none⟩ (.slice a4 ts.length d4)).setCell ⟨w.heap.size+1,0,none⟩ .nilIface=WF at HW⊢;have r0:WF.cell? ⟨w.heap.size,0,none⟩=some (.slice a1 F.length d1):=HW.o.1.cell 0;have r1:WF.cell? ⟨w.heap.size,1,none⟩=some (.slice a2 cs.length d2):=HW.o.1.cell 1;have r2:WF.cell? ⟨w.heap.size,2,none⟩=some (.slice a3 G.length d3):=HW.o.1.cell 2;have r3:WF.cell? ⟨w.heap.size,3,none⟩=some (.slice a4 ts.length d4):=HW.o.1.cell 3;have r4:=HW.o.2.1;have HR:Hid (Qi zs w (.returned (.tuple #[.agg #[.slice a1 F.length d1,.slice a2 cs.length d2,.slice a3 G.length d3,.slice a4 ts.length d4],.nilIface])) WF):=⟨0,⟨.slice a1 F.length d1,.slice a2 cs.length d2,.slice a3 G.length d3,.slice a4 ts.length d4⟩,F,cs,G,ts,rfl,by rw[bj rfl];exact HDC.o.1,HW.o.2.2.2.base (by omega),HDC.o.2,HW.o.2.2.1⟩;simp[Leaves,settle,results,Tryz.results23,go_sem,r0,r1,r2,r3,r4];exact HR.o
end Go.Proofs.YtjcamlobelcepaaGreatDoor
