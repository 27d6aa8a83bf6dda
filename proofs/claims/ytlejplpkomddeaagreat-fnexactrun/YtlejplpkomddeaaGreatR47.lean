import Derived.Test.YtlejplpkomddeaaGreatR0
import Derived.Test.YtlejplpkomddeaaGreatR46
import Derived.Deep.RegionHeldLaw
import Derived.Deep.RegionLaw
namespace Go.Proofs.YtlejplpkomddeaaGreat
open Go.ChangeShapes Go.WideShapes Go.ChangeAt Go.RowKit
set_option linter.unusedVariables false
set_option maxHeartbeats 4000000
set_option maxRecDepth 100000
theorem H8(z0:MC)(B M top:Nat)(t:Int)(d:Bool)(c n:Int)(X:VS)(C:List (Value×List MC))(K:List MC)(F:List (MG×Value))(hv:Value)(gh oh gf c3:Nat)(y:MG×Value)(op a b c':Int)(w:World)(hB:B<=w.heap.size)(h:Ah w B X C (K++[z0]) F)(hm:MB w M t d c n X hv)(hF:F.length=top+1)(hF1:top<=1048576)(hy:F[top]?=some y)(hXf:X.f=.slice (some ⟨gf,0,none⟩) (top+1) c3)(hK:K.length<=1048576)(q:Nat)(z:MC)(ha:a=q)(hz:y.1.locals[q]?=some z)(hnl:y.1.locals.length<=1048576):
 Calls Tryz.prog 153 #[.pointer (some ⟨M,0,none⟩),.agg #[.pointer (some ⟨gh,oh,none⟩),.pointer (some ⟨gf,top*4,none⟩)],.agg #[.int .i64 op,.int .i64 a,.int .i64 b,.int .i64 c']] w (BP w B M t d c n C K (F.set top ({y.1 with locals:=y.1.locals.set q z0},y.2)) hv X C F):=by
 subst ha;have E0:Hid (Ax w ((w.alloc (.cells #[.pointer (some ⟨gh,oh,none⟩),.pointer (some ⟨gf,top*4,none⟩)] 172)).alloc (.cells #[.int .i64 op,.int .i64 (q:Int),.int .i64 b,.int .i64 c'] 134)) B M top t d c n X C (K++[z0]) F hv gh oh gf op q b c' X C F):=Ax.of gh oh gf op q b c' hB h hm;have H:=h3 h hF hy;clear h hm hy;go_enter Tryz.func153,Tryz.ntmps153;go_upto_region 1 with fail
 refine Af (fun u=>Hid (Ax w u B M _ t d c n X C _ F hv gh oh gf op q b c' X C F)/\Below w.heap.size w u) ⟨E0,Ab (Aa _ _) lR (Aa _ _)⟩ ?_
 rintro U ⟨E1,bU⟩;clear E0;have f1:=E1.out.fb.cell 1;have i1:=E1.out.ib.cell 1;simp only[gA,gZ,gS]at f1 i1;obtain⟨_,_,fc3⟩:=E1.out.frc hXf H.out.2.2;have hmem:(y.2,y.1.locals)∈C++[(X.k,K++[z0])]++AL F:=by simp only[List.mem_append];exact .inr (mG (Bb H.out.2.2))
 have hql:=(gI.1 hz).1;rcases At (E1.out.own.fam.own _ hmem)with⟨_,e⟩|⟨gl,cl,el⟩
 ·simp only[]at e
  omega
 simp only[]at el;have HL:=h2 el hz
 have HL2:Hid (∀u {X':VS} {K':List MC},Ah u B X' C K' F->u.ownsRow B 128 2 (.slice (some ⟨gl,0,none⟩) y.1.locals.length cl) y.1.locals.length (y.1.locals.flatMap MC.cells)):=fun u X' K' hu=>by
  have:=hu.fam.own (y.2,y.1.locals) (by simp only[List.mem_append];exact .inr (mG (Bb H.out.2.2)));simp only[]at this;rw[HL.out.1]at this;exact this
 rw[el]at fc3;have hqI:(q:Int)<(y.1.locals.length:Int):=by omega
 generalize y.1.locals.length=nl at fc3 hqI hnl HL HL2;have bD:=Ad U;have nM:=(E1.out.keep bD).own.neM (E1.out.keep bD).mb;have hMw:=E1.out.hM;have nGf:¬gf=M:=fun e=>nM (.inr (.inr (.inl (by rw[hXf,<-e];rfl))))
 have f1d:=Ac bD f1;have i1d:=Ac bD i1;have fcd:=Ac bD fc3;clear f1 i1 fc3 hXf hmem el hz hql;go_upto_region 1 with fail
 go_region_law (go_simp;go_at_call 197;refine(CC B M t d c n X C K F hv z0 _ (Nat.le_trans E1.out.hB (E1.out.keep bD).chg.size) (E1.out.keep bD).own (E1.out.keep bD).mb hK).mono ?_;rintro e u1 ⟨rfl,k',h1,h2,h3,h4⟩;have E2:Hid (Ax w u1 B M top t d c n ⟨X.c,k',X.f⟩ C K F hv gh oh gf op q b c' X C F):=(E1.out.keep bD).pop h1 h2 h3 h4;have f1u:=h3.cell f1d (by simp only[];omega);have i1u:=h3.cell i1d (by simp only[];omega);have fcu:=h3.cell fcd nGf;have O2:=E2.out.own.rowc (r:=(y.2,y.1.locals)) (by simp only[List.mem_append];exact .inr (mG (Bb H.out.2.2))) HL.out.1 HL.out.2;obtain⟨hbl,curl,hgl⟩:=Bq (HL2.out u1 E2.out.own);have T2:=GI (i:=q*2) hgl (.int .i64 z0.type) O2.2;have t1:=O2.1;have t2:=O2.2;have t3:=T2.1;have t4:=T2.2.1;have t5:=T2.2.2;have E3:Hid (Ax w ((u1.setCell ⟨gl,q*2,none⟩ (.int .i64 z0.type)).setCell ⟨gl,q*2+1,none⟩ (.int .u32 z0.word)) B M top t d c n ⟨X.c,k',X.f⟩ C K (F.set top ({y.1 with locals:=y.1.locals.set q z0},y.2)) hv gh oh gf op q b c' X C F):=E2.out.setL H.out.2.2 HL.out.1 HL.out.2 z0;clear O2 hbl hgl T2;clear h1 h2 h3 h4)
 all_goals
  go_wp2_with fail
  exact bodyPost_end (v:=.tuple #[]) (by kernel_rfl) rfl E3.out.res
theorem MV(z0:MC)(B M top:Nat)(t:Int)(d:Bool)(c n:Int)(X:VS)(C:List (Value×List MC))(K:List MC)(F:List (MG×Value))(hv:Value)(gh oh gf c3:Nat)(y:MG×Value)(op a b c':Int)(w:World)(hB:B<=w.heap.size)(h:Ah w B X C (K++[z0]) F)(hm:MB w M t d c n X hv)(hF:F.length=top+1)(hF1:top<=1048576)(hy:F[top]?=some y)(hXf:X.f=.slice (some ⟨gf,0,none⟩) (top+1) c3)(hK:K.length<=1048576)(q p:Nat)(r:Value×List MC)(z:MC)(ha:a=q)(hb:b=p)(hr:C[q]?=some r)(hz:r.2[p]?=some z)(hnr:r.2.length<=1048576)(hnc:C.length<=1048576):
 Calls Tryz.prog 155 #[.pointer (some ⟨M,0,none⟩),.agg #[.pointer (some ⟨gh,oh,none⟩),.pointer (some ⟨gf,top*4,none⟩)],.agg #[.int .i64 op,.int .i64 a,.int .i64 b,.int .i64 c']] w (BP w B M t d c n (C.set q (r.1,r.2.set p z0)) K F hv X C F):=by
 subst ha hb;have E0:Hid (Ax w ((w.alloc (.cells #[.pointer (some ⟨gh,oh,none⟩),.pointer (some ⟨gf,top*4,none⟩)] 172)).alloc (.cells #[.int .i64 op,.int .i64 (q:Int),.int .i64 (p:Int),.int .i64 c'] 134)) B M top t d c n X C (K++[z0]) F hv gh oh gf op q p c' X C F):=Ax.of gh oh gf op q p c' hB h hm;have H:=h3 h hF hy;clear h hm hy;go_enter Tryz.func155,Tryz.ntmps155;go_upto_region 1 with fail
 refine Af (fun u=>Hid (Ax w u B M _ t d c n X C _ F hv gh oh gf op q p c' X C F)/\Below w.heap.size w u) ⟨E0,Ab (Aa _ _) lR (Aa _ _)⟩ ?_
 rintro U ⟨E1,bU⟩;clear E0;have i1:=E1.out.ib.cell 1;have i2:=E1.out.ib.cell 2;simp only[gA,gZ,gS]at i1 i2;have hql:=(gI.1 hr).1;have hpl:=(gI.1 hz).1;rcases At E1.out.own.cells with⟨_,e⟩|⟨gc,c1,ec⟩
 ·omega
 have hmem:r∈C++[(X.k,K++[z0])]++AL F:=by simp only[List.mem_append];exact .inl (.inl (mG hr))
 rcases At (E1.out.own.fam.own _ hmem)with⟨_,e⟩|⟨gl,cl,el⟩
 ·omega
 have m4:=E1.out.mb.at.2.2.2.2.1;rw[ec]at m4;have cc:=E1.out.own.celc ec hr;rw[el]at cc;obtain⟨lt0,lw0⟩:=E1.out.own.rowc hmem el hz;have hqI:(q:Int)<(C.length:Int):=by omega
 have hpI:(p:Int)<(r.2.length:Int):=by omega
 have HR:=h3 hr el hz;have HEC:=AS ec
 have HL2:Hid (∀u {X':VS} {K':List MC},Ah u B X' C K' F->u.ownsRow B 128 2 (.slice (some ⟨gl,0,none⟩) r.2.length cl) r.2.length (r.2.flatMap MC.cells)):=fun u X' K' hu=>by
  have:=hu.fam.own r (by simp only[List.mem_append];exact .inl (.inl (mG HR.out.1)));rw[HR.out.2.1]at this;exact this
 have bD:=Ad U;have nM:=(E1.out.keep bD).own.neM (E1.out.keep bD).mb;have hMw:=E1.out.hM;have nGc:¬gc=M:=fun e=>nM (.inl (by rw[ec,<-e];rfl))
 have i1d:=Ac bD i1;have i2d:=Ac bD i2;have m4d:=Ac bD m4;have ccd:=Ac bD cc;generalize r.2.length=nr at ccd hpI hnr HR HL2;clear i1 i2 m4 cc lt0 lw0 hXf hmem el hz hr ec hql hpl;go_upto_region 1 with fail
 go_region_law (go_simp;go_at_call 197;refine(CC B M t d c n X C K F hv z0 _ (Nat.le_trans E1.out.hB (E1.out.keep bD).chg.size) (E1.out.keep bD).own (E1.out.keep bD).mb hK).mono ?_;rintro e u1 ⟨rfl,k',h1,h2,h3,h4⟩;have E2:Hid (Ax w u1 B M top t d c n ⟨X.c,k',X.f⟩ C K F hv gh oh gf op q p c' X C F):=(E1.out.keep bD).pop h1 h2 h3 h4;have i1u:=h3.cell i1d (by simp only[];omega);have i2u:=h3.cell i2d (by simp only[];omega);have ccu:=h3.cell ccd nGc;have O2:=E2.out.own.rowc (r:=r) (by simp only[List.mem_append];exact .inl (.inl (mG HR.out.1))) HR.out.2.1 HR.out.2.2;obtain⟨hbl,curl,hgl⟩:=Bq (HL2.out u1 E2.out.own);have T2:=GI (i:=p*2) hgl (.int .i64 z0.type) O2.2;have t1:=O2.1;have t2:=O2.2;have t3:=T2.1;have t4:=T2.2.1;have t5:=T2.2.2;have m4u:=E2.out.mb.at.2.2.2.2.1;simp only[]at m4u;rw[HEC.out]at m4u;have E3:Hid (Ax w ((u1.setCell ⟨gl,p*2,none⟩ (.int .i64 z0.type)).setCell ⟨gl,p*2+1,none⟩ (.int .u32 z0.word)) B M top t d c n ⟨X.c,k',X.f⟩ (C.set q (r.1,r.2.set p z0)) K F hv gh oh gf op q p c' X C F):=E2.out.setC HR.out.1 HR.out.2.1 HR.out.2.2 z0;clear O2 hbl hgl T2;clear h1 h2 h3 h4)
 all_goals
  go_wp2_with fail
  exact bodyPost_end (v:=.tuple #[]) (by kernel_rfl) rfl E3.out.res
end Go.Proofs.YtlejplpkomddeaaGreat
