import Derived.Test.YtlejplpkomddeaaGreatR0
import Derived.Test.YtlejplpkomddeaaGreatR4
import Derived.Test.YtlejplpkomddeaaGreatR11
import Derived.Test.YtlejplpkomddeaaGreatR34
import Derived.Deep.RegionHeldLaw
import Derived.Deep.RegionLaw
import Derived.Deep.AppendLies
namespace Go.Proofs.YtlejplpkomddeaaGreat
open Go.ChangeShapes Go.WideShapes Go.ChangeAt Go.RowKit
set_option linter.unusedVariables false
set_option maxHeartbeats 8000000
set_option maxRecDepth 100000
theorem PJ(v:VP)(t c n:Int)(x:VS)(ia ib ic:Int)(C:List (Value×List MC))(K:List MC)(F:List (MG×Value))(B top:Nat)(y:MG×Value)(aa:Option Addr)(ca:Nat)(ar:List MC)(w:World)(hB:B<=w.heap.size)(h:Ah w B x C K F)(hF:F.length=top+1)(hF1:top<=1048576)(hy:F[top]?=some y)(q p:Nat)(r:Value×List MC)(z:MC)(hia:ia=q)(hib:ib=p)(hr:C[q]?=some r)(hp:r.2[p]?=some z)(hnr:r.2.length<=1048576)(hnc:C.length<=1048576)(har:w.ownsRow B 128 2 (.slice aa ar.length ca) ar.length (ar.flatMap MC.cells))(z0:MC)(ha0:ar[0]?=some z0)(hap:∀r∈C++[(x.k,K)]++AL F,∀g,(Value.slice aa ar.length ca).ownBlock=some g->some g≠r.1.ownBlock)(hna1:ar.length<=1048576):
 Calls Tryz.prog 79 #[.agg #[v.r,v.k,v.f,v.t],.agg #[.int .i64 t,.bool false,.int .i64 c,.int .i64 n,x.c,x.k,x.f],.agg #[.int .i64 5,.int .i64 ia,.int .i64 ib,.int .i64 ic],.slice aa ar.length ca] w (Dl w B t c n (C.set q (r.1,r.2.set p z0)) K F):=by
 have H:=h3 h hF hy;subst hia hib;have hro:w.ownsRow B 128 2 r.1 r.2.length (r.2.flatMap MC.cells):=h.fam.own r (by simp only[List.mem_append];exact .inl (.inl (mG hr)));have hpl:=(gI.1 hp).1;have hql:=(gI.1 hr).1;rcases At hro with⟨_,e⟩|⟨gl,cl,el⟩
 ·omega
 have HL:=h3 hp el hr;generalize hnl':r.2.length=nl at el hpl HL hnr;clear hro hp hr hnl' el;have HA0:Hid (ar[0]?=some z0/\0<ar.length):=⟨ha0,(gI.1 ha0).1⟩
 rcases At har with⟨_,e⟩|⟨ga,ca',ea⟩
 ·have:=HA0.out.2;omega
 simp only[sJ,true_and]at ea;obtain⟨rfl,rfl⟩:=ea
 obtain⟨gc,c1,e1⟩:∃g c,x.c=.slice (some ⟨g,0,none⟩) C.length c:=by
  rcases At h.cells with⟨_,e⟩|hh
  ·omega
  ·exact hh
 obtain⟨a2,c2,e2⟩:=Al (h.fam.own (x.k,K) (by simp));rcases At h.frames with⟨_,e⟩|⟨gf,c3,e3⟩
 ·omega
 have E0:=A7.of v t c n ⟨5,q,p,ic⟩ h hB;obtain⟨vc,vk',vf'⟩:=x;simp only[]at e1 e2 e3;rw[hF]at e3;subst e1 e2 e3;have E1:Hid _:=E0.1;have E1':Hid _:=E0.2;have HAP:=AS hap;have HAR:=AS har;clear E0 h hy hap har ha0;generalize hna:ar.length=na at*;have HNA:Hid (ar.length=na):=hna;have hna0:0<na:=by have:=HA0.out.2;omega
 clear hna;go_enter Tryz.func79,Tryz.ntmps79;go_upto_region 1 with fail
 refine Af (fun u=>Hid (A7 w u B v t c n _ _ C K F/\Below w.heap.size w u)) ⟨E1.out,E1'.out⟩ ?_
 rintro U EE;clear E1 E1';have E1:Hid _:=EE.out.1;have E1':Hid _:=EE.out.2;clear EE;have sb6:=E1.out.sb.cell 6;have ib0:=E1.out.ib.cell 0;simp only[gA,gZ,gS]at sb6 ib0;have HAU:=AS (Ag HAR.out E1'.out lR);have hqI:(q:Int)<(C.length:Int):=by omega
 have hpI:(p:Int)<(nl:Int):=by omega
 have hmem:r∈C++[(Value.slice a2 K.length c2,K)]++AL F:=by simp only[List.mem_append];exact .inl (.inl (mG HL.out.2.2))
 have HGA:Hid (∀g,(Value.slice (some ⟨ga,0,none⟩) na ca).ownBlock=some g->some g≠some gl):=fun g hg e=>HAP.out _ hmem g hg (by rw[HL.out.2.1];exact e)
 have lf:U.cell? ⟨gc,q,none⟩=some (.slice (some ⟨gl,0,none⟩) nl cl):=by rw[E1.out.own.celc rfl HL.out.2.2,HL.out.2.1]
 obtain⟨lt0,lw0⟩:=E1.out.own.rowc hmem HL.out.2.1 HL.out.1;have ib1:=E1.out.ib.cell 1;have ib2:=E1.out.ib.cell 2;have sb4:=E1.out.sb.cell 4;simp only[gA,gZ,gS]at ib1 ib2 sb4;have at0:U.cell? ⟨ga,0,none⟩=some (.int .i64 z0.type):=(Fl HAU.out HA0.out.1 HNA.out).1;have aw0:U.cell? ⟨ga,1,none⟩=some (.int .u32 z0.word):=(Fl HAU.out HA0.out.1 HNA.out).2;have hr2:C[q]?=some (.slice (some ⟨gl,0,none⟩) nl cl,r.2):=by rw[HL.out.2.2,<-HL.out.2.1]
 have hrE:((.slice (some ⟨gl,0,none⟩) nl cl,r.2.set p z0):Value×List MC)=(r.1,r.2.set p z0):=by rw[HL.out.2.1]
 have bD:=Ad U;have KD:U.drew.cell? ⟨gc,q,none⟩=some (.slice (some ⟨gl,0,none⟩) nl cl)/\U.drew.cell? ⟨w.heap.size+1+1,1,none⟩=some (.int .i64 q)/\U.drew.cell? ⟨w.heap.size+1,4,none⟩=some (.slice (some ⟨gc,0,none⟩) C.length c1)/\U.drew.cell? ⟨w.heap.size+1+1,2,none⟩=some (.int .i64 p)/\U.drew.cell? ⟨ga,0,none⟩=some (.int .i64 z0.type)/\U.drew.cell? ⟨ga,1,none⟩=some (.int .u32 z0.word):=⟨Ac bD lf,Ac bD ib1,Ac bD sb4,Ac bD ib2,Ac bD at0,Ac bD aw0⟩
 obtain⟨o1,g1⟩:=E1.out.own.setC (Nat.le_trans E1.out.hB E1.out.le) hr2 HL.out.1 z0;rw[hrE]at o1;obtain⟨hBg,curl,hgl⟩:=Bq (by have:=E1.out.own.fam.own _ hmem;rw[HL.out.2.1]at this;exact(BG this)▸this);have HN:=AS (E1.out.rows g1 hgl (by decide) (by decide) (by decide) hBg o1);have A9:=Bn HAU.out g1 (HGA.out)
 have KV:((U.setCell ⟨gl,p*2,none⟩ (.int .i64 z0.type)).setCell ⟨gl,p*2+1,none⟩ (.int .u32 z0.word)).drew.cell? ⟨gc,q,none⟩=some (.slice (some ⟨gl,0,none⟩) nl cl)/\((U.setCell ⟨gl,p*2,none⟩ (.int .i64 z0.type)).setCell ⟨gl,p*2+1,none⟩ (.int .u32 z0.word)).drew.cell? ⟨w.heap.size+1+1,1,none⟩=some (.int .i64 q)/\((U.setCell ⟨gl,p*2,none⟩ (.int .i64 z0.type)).setCell ⟨gl,p*2+1,none⟩ (.int .u32 z0.word)).drew.cell? ⟨w.heap.size+1,4,none⟩=some (.slice (some ⟨gc,0,none⟩) C.length c1)/\((U.setCell ⟨gl,p*2,none⟩ (.int .i64 z0.type)).setCell ⟨gl,p*2+1,none⟩ (.int .u32 z0.word)).drew.cell? ⟨w.heap.size+1+1,2,none⟩=some (.int .i64 p)/\((U.setCell ⟨gl,p*2,none⟩ (.int .i64 z0.type)).setCell ⟨gl,p*2+1,none⟩ (.int .u32 z0.word)).drew.cell? ⟨ga,0,none⟩=some (.int .i64 z0.type)/\((U.setCell ⟨gl,p*2,none⟩ (.int .i64 z0.type)).setCell ⟨gl,p*2+1,none⟩ (.int .u32 z0.word)).drew.cell? ⟨ga,1,none⟩=some (.int .u32 z0.word):=⟨by have:=HN.out.own.celc rfl (show(C.set q (r.1,r.2.set p z0))[q]?=some (r.1,r.2.set p z0)by rw[List.getElem?_set_self hql]);rw[HL.out.2.1]at this;exact this,HN.out.ib.cell 1,HN.out.sb.cell 4,HN.out.ib.cell 2,(Fl A9 HA0.out.1 HNA.out).1,(Fl A9 HA0.out.1 HNA.out).2⟩
 have lt1:U.drew.cell? ⟨gl,p*2,none⟩=some (.int .i64 z.type):=lt0;have lw1:U.drew.cell? ⟨gl,p*2+1,none⟩=some (.int .u32 z.word):=lw0;have zf0:U.drew.frozen? ⟨gl,p*2,none⟩=false:=frozen_of_row U gl (p*2) curl _ hgl;have zf1:U.drew.frozen? ⟨gl,p*2+1,none⟩=false:=frozen_of_row U gl (p*2+1) curl _ hgl;have hg2:=heap_setCell_same U gl (p*2) curl _ (.int .i64 z0.type) hgl
 have lw2:(U.setCell ⟨gl,p*2,none⟩ (.int .i64 z0.type)).drew.cell? ⟨gl,p*2+1,none⟩=some (.int .u32 z.word):=by
  show(U.setCell ⟨gl,p*2,none⟩ (.int .i64 z0.type)).cell? ⟨gl,p*2+1,none⟩=_;rw[cell_of_row _ _ _ _ _ _ hg2,Array.getElem?_setIfInBounds_ne (by omega),<-cell_of_row _ _ _ _ _ _ hgl];exact lw0
 have zf2:(U.setCell ⟨gl,p*2,none⟩ (.int .i64 z0.type)).drew.frozen? ⟨gl,p*2+1,none⟩=false:=frozen_of_row (U.setCell ⟨gl,p*2,none⟩ (.int .i64 z0.type)) gl (p*2+1) _ _ hg2;clear hrE hr2 o1 g1 A9 hgl hg2 bD lf ib1 sb4 ib2 at0 aw0 lt0 lw0;go_wp2_with fail
 go_region_held_law (fun w'=>w'.cell? ⟨gc,q,none⟩=some (.slice (some ⟨gl,0,none⟩) nl cl)/\w'.cell? ⟨w.heap.size+1+1,1,none⟩=some (.int .i64 q)/\w'.cell? ⟨w.heap.size+1,4,none⟩=some (.slice (some ⟨gc,0,none⟩) C.length c1)/\w'.cell? ⟨w.heap.size+1+1,2,none⟩=some (.int .i64 p)/\w'.cell? ⟨ga,0,none⟩=some (.int .i64 z0.type)/\w'.cell? ⟨ga,1,none⟩=some (.int .u32 z0.word)) (first|exact KD|exact KV|go_keep) (fail)
 all_goals
  clear KD lt1 lw1 lw2 zf0 zf1 zf2 ib0 sb6;go_upto_region 40 with fail
  refine Af (fun u=>Hid (A7 w u B v t c n _ _ _ K F)) (HN.out.keep (Ad _)) ?_;rintro U2 E2;clear HN;obtain⟨m0,m1,m2,m3,m4,m5,m6⟩:=E2.out.sb.c7;try dsimp only at m0 m1 m2 m3 m4 m5 m6
  obtain⟨r0,r1,r2,r3,r4,r5,r6⟩:=E2.out.rb.c7;obtain⟨rz0,rz1,rz2,rz3,rz4,rz5,rz6⟩:=E2.out.rb.z7;try dsimp only at r0 r1 r2 r3 r4 r5 r6
  go_wp2_with fail
  have hBw:=E2.out.hB;exact bodyPost_ret (results_cell_row Tryz.results79 _ _ _ 39 _ (0,0) _ rfl (E2.out.rb.w7 _ _ _ _ _ _ _) Tryz.underlying39 rfl (by kernel_rfl)) rfl ⟨⟨.slice (some ⟨gc,0,none⟩) C.length c1,.slice a2 K.length c2,.slice (some ⟨gf,0,none⟩) (top+1) c3⟩,rfl,E2.out.own.o7 E2.out.rb _ _ _ _ _ _ _,E2.out.bel.s7 (by omega) _ _ _ _ _ _ _⟩
end Go.Proofs.YtlejplpkomddeaaGreat
