import Derived.Test.YtlejplpkomddeaaGreatR0
import Derived.Test.YtlejplpkomddeaaGreatR4
import Derived.Test.YtlejplpkomddeaaGreatR11
import Derived.Test.YtlejplpkomddeaaGreatR34
import Derived.Deep.RegionHeldLaw
import Derived.Deep.RegionLaw
import Derived.Deep.AppendLies
namespace Go.Proofs.YtlejplpkomddeaaGreat
open Go.ChangeShapes Go.WideShapes Go.ChangeAt Go.RowKit
set_option linter.unusedVariables false
set_option maxHeartbeats 8000000
set_option maxRecDepth 100000
theorem Pr(v:VP)(t c n:Int)(x:VS)(ia ib ic:Int)(C:List (Value×List MC))(K:List MC)(F:List (MG×Value))(B top:Nat)(y:MG×Value)(aa:Option Addr)(ca:Nat)(ar:List MC)(w:World)(hB:B<=w.heap.size)(h:Ah w B x C K F)(hF:F.length=top+1)(hF1:top<=1048576)(hy:F[top]?=some y)(z0:MC)(hK:K.length<=1048576)(q b0 m0 w0 an:Nat)(r:Value×List MC)(z:MC)(hia:ia=q)(hib:ib=b0)(hic:ic=m0)(hr:C[q]?=some r)(hp:r.2[b0+an]?=some z)(hnr:r.2.length<=1048576)(hnc:C.length<=1048576)(hw0:z0.word=w0)(han:an=w0 &&& m0)(hw1:w0<=4294967295)(hm1:m0<=4294967295)(har:w.ownsRow B 128 2 (.slice aa ar.length ca) ar.length (ar.flatMap MC.cells))(ha0:ar[0]?=some z0)(hap:∀g,(Value.slice aa ar.length ca).ownBlock=some g->some g≠x.k.ownBlock)(hna1:ar.length<=1048576):
 Calls Tryz.prog 79 #[.agg #[v.r,v.k,v.f,v.t],.agg #[.int .i64 t,.bool false,.int .i64 c,.int .i64 n,x.c,x.k,x.f],.agg #[.int .i64 6,.int .i64 ia,.int .i64 ib,.int .i64 ic],.slice aa ar.length ca] w (Dl w B t c n C (K++[z]) F):=by
 have H:=h3 h hF hy;subst hia hib hic;have hro:w.ownsRow B 128 2 r.1 r.2.length (r.2.flatMap MC.cells):=h.fam.own r (by simp only[List.mem_append];exact .inl (.inl (mG hr)));have hpl:=(gI.1 hp).1;have hql:=(gI.1 hr).1;rcases At hro with⟨_,e⟩|⟨gl,cl,el⟩
 ·omega
 have HL:=h3 hp el hr;generalize hnl':r.2.length=nl at el hpl HL hnr;clear hro hp hr hnl' el;have HA0:Hid (ar[0]?=some z0/\0<ar.length):=⟨ha0,(gI.1 ha0).1⟩
 rcases At har with⟨_,e⟩|⟨ga,ca',ea⟩
 ·have:=HA0.out.2;omega
 simp only[sJ,true_and]at ea;obtain⟨rfl,rfl⟩:=ea;obtain⟨i0,hi,hz0,hz1,hz2⟩:=info_parts DJ
 obtain⟨gc,c1,e1⟩:∃g c,x.c=.slice (some ⟨g,0,none⟩) C.length c:=by
  rcases At h.cells with⟨_,e⟩|hh
  ·omega
  ·exact hh
 obtain⟨a2,c2,e2⟩:=Al (h.fam.own (x.k,K) (by simp));rcases At h.frames with⟨_,e⟩|⟨gf,c3,e3⟩
 ·omega
 have E0:=A7.of v t c n ⟨6,q,b0,m0⟩ h hB;obtain⟨vc,vk',vf'⟩:=x;simp only[]at e1 e2 e3;rw[hF]at e3;subst e1 e2 e3;have E1:Hid _:=E0.1;have E1':Hid _:=E0.2;have HAP:=AS hap;have HAR:=AS har;clear E0 h hy hap har ha0;generalize hna:ar.length=na at*;have HNA:Hid (ar.length=na):=hna;have hna0:0<na:=by have:=HA0.out.2;omega
 clear hna;go_enter Tryz.func79,Tryz.ntmps79;go_upto_region 1 with fail
 refine Af (fun u=>Hid (A7 w u B v t c n _ _ C K F/\Below w.heap.size w u)) ⟨E1.out,E1'.out⟩ ?_
 rintro U EE;clear E1 E1';have E1:Hid _:=EE.out.1;have E1':Hid _:=EE.out.2;clear EE;have sb6:=E1.out.sb.cell 6;have ib0:=E1.out.ib.cell 0;simp only[gA,gZ,gS]at sb6 ib0;have HAU:=AS (Ag HAR.out E1'.out lR);have hqI:(q:Int)<(C.length:Int):=by omega
 have hpI:(b0:Int)+(an:Int)<(nl:Int):=by omega
 have hbits:bits .and .i64 (w0:Int) (m0:Int)=(an:Int):=by rw[JP w0 m0 hw1 hm1,han]
 clear han;have hw64:IntKind.i64.wrap (w0:Int)=(w0:Int):=IntWalk.i64_in _ (by omega);have hsum:IntKind.i64.wrap ((b0:Int)+(an:Int))=(b0:Int)+(an:Int):=IntWalk.i64_in _ (by omega);have htn:((b0:Int)+(an:Int)).toNat=b0+an:=by omega
 have h0s:0<=(b0:Int)+(an:Int):=by omega
 have HLC:Hid (∀{u:World} {x:VS} {K':List MC},Ah u B x C K' F->x.c=.slice (some ⟨gc,0,none⟩) C.length c1->u.cell? ⟨gc,q,none⟩=some (.slice (some ⟨gl,0,none⟩) nl cl)/\u.cell? ⟨gl,(b0+an)*2,none⟩=some (.int .i64 z.type)/\u.cell? ⟨gl,(b0+an)*2+1,none⟩=some (.int .u32 z.word)):=fun ho hx=>⟨by rw[ho.celc hx HL.out.2.2,HL.out.2.1],(ho.rowc (r:=r) (by simp only[List.mem_append];exact .inl (.inl (mG HL.out.2.2))) HL.out.2.1 HL.out.1).1,(ho.rowc (r:=r) (by simp only[List.mem_append];exact .inl (.inl (mG HL.out.2.2))) HL.out.2.1 HL.out.1).2⟩
 obtain⟨lf,lt,lw⟩:=HLC.out E1.out.own rfl;have ib1:=E1.out.ib.cell 1;have ib2:=E1.out.ib.cell 2;have ib3:=E1.out.ib.cell 3;have sb4:=E1.out.sb.cell 4;simp only[gA,gZ,gS]at ib1 ib2 ib3 sb4;have aw0:U.cell? ⟨ga,1,none⟩=some (.int .u32 w0):=by rw[<-hw0];exact(Fl HAU.out HA0.out.1 HNA.out).2
 have s5:=E1.out.sb.cell 5;simp only[gA,gZ,gS]at s5;have bD:=Ad U;have bE:Below U.heap.size U (U.alloc (.cells #[.int .i64 z.type,.int .u32 z.word] 128)).drew:=Ab (Aa _ _) lR (Ad _);have s5d:=Ac bD s5;have s5e:=Ac bE s5;have KD:U.drew.cell? ⟨gc,q,none⟩=some (.slice (some ⟨gl,0,none⟩) nl cl)/\U.drew.cell? ⟨w.heap.size+1+1,1,none⟩=some (.int .i64 q)/\U.drew.cell? ⟨w.heap.size+1+1,2,none⟩=some (.int .i64 b0)/\U.drew.cell? ⟨w.heap.size+1+1,3,none⟩=some (.int .i64 m0)/\U.drew.cell? ⟨w.heap.size+1,4,none⟩=some (.slice (some ⟨gc,0,none⟩) C.length c1)/\U.drew.cell? ⟨ga,1,none⟩=some (.int .u32 w0)/\U.drew.cell? ⟨gl,(b0+an)*2,none⟩=some (.int .i64 z.type)/\U.drew.cell? ⟨gl,(b0+an)*2+1,none⟩=some (.int .u32 z.word):=⟨Ac bD lf,Ac bD ib1,Ac bD ib2,Ac bD ib3,Ac bD sb4,Ac bD aw0,Ac bD lt,Ac bD lw⟩
 have KE:(U.alloc (.cells #[.int .i64 z.type,.int .u32 z.word] 128)).drew.cell? ⟨gc,q,none⟩=some (.slice (some ⟨gl,0,none⟩) nl cl)/\(U.alloc (.cells #[.int .i64 z.type,.int .u32 z.word] 128)).drew.cell? ⟨w.heap.size+1+1,1,none⟩=some (.int .i64 q)/\(U.alloc (.cells #[.int .i64 z.type,.int .u32 z.word] 128)).drew.cell? ⟨w.heap.size+1+1,2,none⟩=some (.int .i64 b0)/\(U.alloc (.cells #[.int .i64 z.type,.int .u32 z.word] 128)).drew.cell? ⟨w.heap.size+1+1,3,none⟩=some (.int .i64 m0)/\(U.alloc (.cells #[.int .i64 z.type,.int .u32 z.word] 128)).drew.cell? ⟨w.heap.size+1,4,none⟩=some (.slice (some ⟨gc,0,none⟩) C.length c1)/\(U.alloc (.cells #[.int .i64 z.type,.int .u32 z.word] 128)).drew.cell? ⟨ga,1,none⟩=some (.int .u32 w0)/\(U.alloc (.cells #[.int .i64 z.type,.int .u32 z.word] 128)).drew.cell? ⟨gl,(b0+an)*2,none⟩=some (.int .i64 z.type)/\(U.alloc (.cells #[.int .i64 z.type,.int .u32 z.word] 128)).drew.cell? ⟨gl,(b0+an)*2+1,none⟩=some (.int .u32 z.word):=⟨Ac bE lf,Ac bE ib1,Ac bE ib2,Ac bE ib3,Ac bE sb4,Ac bE aw0,Ac bE lt,Ac bE lw⟩
 have HC:Hid ((U.alloc (.cells #[.int .i64 z.type,.int .u32 z.word] 128)).drew.ownsRow B 128 2 (.slice a2 K.length c2) K.length (K.flatMap MC.cells)/\(∀j u,(([⟨z.type,z.word⟩]:List MC).flatMap MC.cells)[j]?=some u->(U.alloc (.cells #[.int .i64 z.type,.int .u32 z.word] 128)).drew.cell? ((⟨U.heap.size,0,none⟩:Addr).add j)=some u)/\Below U.heap.size U (U.alloc (.cells #[.int .i64 z.type,.int .u32 z.word] 128)).drew/\B<=(U.alloc (.cells #[.int .i64 z.type,.int .u32 z.word] 128)).drew.heap.size):=⟨Ag (E1.out.own.fam.own (.slice a2 K.length c2,K) (by simp)) bE lR,fun j u hj=>Dv U ([⟨z.type,z.word⟩]:List MC) j u hj,bE,Nat.le_trans (Nat.le_trans E1.out.hB E1.out.le) bE.size⟩
 clear lf ib1 ib2 ib3 sb4 aw0 lt lw s5 bD bE;go_wp2_with fail
 refine wp_region_held_drew (S:=fun w'=>w'.cell? ⟨gc,q,none⟩=some (.slice (some ⟨gl,0,none⟩) nl cl)/\w'.cell? ⟨w.heap.size+1+1,1,none⟩=some (.int .i64 q)/\w'.cell? ⟨w.heap.size+1+1,2,none⟩=some (.int .i64 b0)/\w'.cell? ⟨w.heap.size+1+1,3,none⟩=some (.int .i64 m0)/\w'.cell? ⟨w.heap.size+1,4,none⟩=some (.slice (some ⟨gc,0,none⟩) C.length c1)/\w'.cell? ⟨ga,1,none⟩=some (.int .u32 w0)/\w'.cell? ⟨gl,(b0+an)*2,none⟩=some (.int .i64 z.type)/\w'.cell? ⟨gl,(b0+an)*2+1,none⟩=some (.int .u32 z.word)) (by kernel_rfl) KD (fun hHeld=> ?_)
 refine wpAnyH_take (i:=0) (v:= ?_) rfl (by kernel_rfl) (by kernel_rfl) (by kernel_rfl) (fun _ _ _ h=>h) (Or.inl ⟨by rfl,?_⟩) (by assumption) ?_;rotate_left
 ·(intro w hSw;(try dsimp only at hSw);go_simp;(try with_reducible rfl))
 refine wpAnyH_take (i:=2) (v:= ?_) rfl (by kernel_rfl) (by kernel_rfl) (by kernel_rfl) (fun _ _ _ h=>h) (Or.inl ⟨by rfl,?_⟩) (by assumption) ?_;rotate_left
 ·(intro w hSw;(try dsimp only at hSw);go_simp;(try with_reducible rfl))
 refine wpAnyH_take (i:=3) (v:= ?_) rfl (by kernel_rfl) (by kernel_rfl) (by kernel_rfl) (fun _ _ _ h=>h) (Or.inl ⟨by rfl,?_⟩) (by assumption) ?_;rotate_left
 ·(intro w hSw;(try dsimp only at hSw);go_simp;(try with_reducible rfl))
 refine wpAnyH_take (i:=4) (v:= ?_) rfl (by kernel_rfl) (by kernel_rfl) (by kernel_rfl) (fun _ _ _ h=>h) (Or.inl ⟨by rfl,?_⟩) (by assumption) ?_;rotate_left
 ·(intro w hSw;(try dsimp only at hSw);go_simp;(try with_reducible rfl))
 refine wpAnyH_take (i:=5) (v:= ?_) rfl (by kernel_rfl) (by kernel_rfl) (by kernel_rfl) (fun _ _ _ h=>h) (Or.inl ⟨by rfl,?_⟩) (by assumption) ?_;rotate_left
 ·(intro w hSw;(try dsimp only at hSw);go_simp;(try with_reducible rfl))
 refine wpAnyH_take (i:=6) (v:= ?_) rfl (by kernel_rfl) (by kernel_rfl) (by kernel_rfl) (fun _ _ _ h=>h) (Or.inl ⟨by rfl,?_⟩) (by assumption) ?_;rotate_left
 ·(intro w hSw;(try dsimp only at hSw);go_simp;(try with_reducible rfl))
 refine wpAnyH_take (i:=7) (v:= ?_) rfl (by kernel_rfl) (by kernel_rfl) (by kernel_rfl) (fun _ _ _ h=>h) (Or.inl ⟨by rfl,?_⟩) (by assumption) ?_;rotate_left
 ·(intro w hSw;(try dsimp only at hSw);go_simp;(try with_reducible rfl))
 refine wpAnyH_take (i:=8) (v:= ?_) rfl (by kernel_rfl) (by kernel_rfl) (by kernel_rfl) (fun _ _ _ h=>h) (Or.inl ⟨by rfl,?_⟩) (by assumption) ?_;rotate_left
 ·(intro w hSw;(try dsimp only at hSw);go_simp;(try with_reducible rfl))
 refine wpAnyH_take (i:=9) (v:= ?_) rfl (by kernel_rfl) (by kernel_rfl) (by kernel_rfl) (fun _ _ _ h=>h) (Or.inl ⟨by rfl,?_⟩) (by assumption) ?_;rotate_left
 ·(intro w hSw;(try dsimp only at hSw);go_simp;(try with_reducible rfl))
 refine wpAnyH_take (i:=10) (v:= ?_) rfl (by kernel_rfl) (by kernel_rfl) (by kernel_rfl) (fun _ _ _ h=>h) (Or.inl ⟨by rfl,?_⟩) (by assumption) ?_;rotate_left
 ·(intro w hSw;(try dsimp only at hSw);go_simp;(try with_reducible rfl))
 refine wpAnyH_take (i:=11) (v:= ?_) rfl (by kernel_rfl) (by kernel_rfl) (by kernel_rfl) (fun _ _ _ h=>h) (Or.inl ⟨by rfl,?_⟩) (by assumption) ?_;rotate_left
 ·(intro w hSw;(try dsimp only at hSw);go_simp;(try with_reducible rfl))
 refine wpAnyH_take (i:=12) (v:= ?_) rfl (by kernel_rfl) (by kernel_rfl) (by kernel_rfl) (fun _ _ _ h=>h) (Or.inl ⟨by rfl,?_⟩) (by assumption) ?_;rotate_left
 ·(intro w hSw;(try dsimp only at hSw);go_simp;(try with_reducible rfl))
 refine wpAnyH_take (i:=13) (v:= ?_) rfl (by kernel_rfl) (by kernel_rfl) (by kernel_rfl) (fun _ _ _ h=>h) (Or.inl ⟨by rfl,?_⟩) (by assumption) ?_;rotate_left
 ·(intro w hSw;(try dsimp only at hSw);go_simp;(try with_reducible rfl))
 refine wpAnyH_take (i:=14) (v:= ?_) rfl (by kernel_rfl) (by kernel_rfl) (by kernel_rfl) (fun _ _ _ h=>h) (Or.inl ⟨by rfl,?_⟩) (by assumption) ?_;rotate_left
 ·(intro w hSw;(try dsimp only at hSw);go_simp;(try with_reducible rfl))
 refine wpAnyH_take (i:=15) (v:= ?_) rfl (by kernel_rfl) (by kernel_rfl) (by kernel_rfl) (fun _ _ _ h=>h) (Or.inl ⟨by rfl,?_⟩) (by assumption) ?_;rotate_left
 ·(intro w hSw;(try dsimp only at hSw);go_simp;(try with_reducible rfl))
 refine wpAnyH_take (i:=16) (v:= ?_) rfl (by kernel_rfl) (by kernel_rfl) (by kernel_rfl) (fun _ _ _ h=>h) (Or.inl ⟨by rfl,?_⟩) (by assumption) ?_;rotate_left
 ·(intro w hSw;(try dsimp only at hSw);go_simp;(try with_reducible rfl))
 refine wpAnyH_take (i:=17) (v:= ?_) rfl (by kernel_rfl) (by kernel_rfl) (by kernel_rfl) (fun _ _ _ h=>h) (Or.inl ⟨by rfl,?_⟩) (by assumption) ?_;rotate_left
 ·(intro w hSw;(try dsimp only at hSw);go_simp;(try with_reducible rfl))
 refine wpAnyH_take (i:=18) (v:= ?_) rfl (by kernel_rfl) (by kernel_rfl) (by kernel_rfl) (fun _ _ _ h=>h) (Or.inl ⟨by rfl,?_⟩) (by assumption) ?_;rotate_left
 ·(intro w hSw;(try dsimp only at hSw);go_simp;(try with_reducible rfl))
 refine wpAnyH_take (i:=19) (v:= ?_) rfl (by kernel_rfl) (by kernel_rfl) (by kernel_rfl) (fun _ _ _ h=>h) (Or.inl ⟨by rfl,?_⟩) (by assumption) ?_;rotate_left
 ·(intro w hSw;(try dsimp only at hSw);go_simp;(try with_reducible rfl))
 refine wpAnyH_take (i:=20) (v:= ?_) rfl (by kernel_rfl) (by kernel_rfl) (by kernel_rfl) (fun _ _ _ h=>h) (Or.inl ⟨by rfl,?_⟩) (by assumption) ?_;rotate_left
 ·(intro w hSw;(try dsimp only at hSw);go_simp;(try with_reducible rfl))
 refine wpAnyH_ready (rs:=[1,21]) (by kernel_rfl) (by simp) ?_;refine AllReadyH.cons rfl (fun KC hKC=> ?_) (AllReadyH.cons rfl (fun KC hKC=> ?_) AllReadyH.nil)
 focus
  go_simp;refine hKC.out _ _ KD (fun hHeld=> ?_);clear hKC KC;refine wpAnyH_ready (rs:=[21]) (by kernel_rfl) (by simp) ?_;refine AllReadyH.cons rfl (fun KC hKC=> ?_) AllReadyH.nil;go_simp;refine hKC.out _ _ KE (fun hHeld=> ?_);clear hKC KC;refine wpAnyH_ready (rs:=[22]) (by kernel_rfl) (by simp) ?_;refine AllReadyH.cons rfl (fun KC hKC=> ?_) AllReadyH.nil
 rotate_left
 focus
  go_simp;refine hKC.out _ _ KE (fun hHeld=> ?_);clear hKC KC;refine wpAnyH_ready (rs:=[1]) (by kernel_rfl) (by simp) ?_;refine AllReadyH.cons rfl (fun KC hKC=> ?_) AllReadyH.nil;go_simp;refine hKC.out _ _ KE (fun hHeld=> ?_);clear hKC KC;refine wpAnyH_ready (rs:=[22]) (by kernel_rfl) (by simp) ?_;refine AllReadyH.cons rfl (fun KC hKC=> ?_) AllReadyH.nil
 all_goals
  refine step_append_lies _ rfl (.tmp 145) (.tmp 165) 36 rfl B 128 i0 (.agg #[.int .i64 0,.int .u32 0]) 2 16 Tryz.underlying36 hi hz0 hz1 hz2 rfl (by decide) (.slice a2 K.length c2) K.length (K.flatMap MC.cells) (by simp[Act.eval]) HC.out.1 ⟨U.heap.size,0,none⟩ 1 1 (([⟨z.type,z.word⟩]:List MC).flatMap MC.cells) (by simp[Act.eval]) rfl HC.out.2.1 (Cm _) (by omega) (by unfold maxLen;omega) (by omega) HC.out.2.2.2 _ rfl ?_;intro gg cap u8 hown hgrow hat hlt8;have HN:Hid (A7 w (u8.setCell ⟨w.heap.size+1,5,none⟩ (.slice (some ⟨gg,0,none⟩) (K.length+1) cap)) B v t c n ⟨.slice (some ⟨gc,0,none⟩) C.length c1,.slice (some ⟨gg,0,none⟩) (K.length+1) cap,.slice (some ⟨gf,0,none⟩) (top+1) c3⟩ ⟨6,q,b0,m0⟩ C (K++[⟨z.type,z.word⟩]) F):=E1.out.push HC.out.2.2.1 (K':=K++([⟨z.type,z.word⟩]:List MC)) hgrow (by rw[List.flatMap_append];exact hown) (by simp) hat;have st8:=(E1.out.keep HC.out.2.2.1).sb.grown hgrow HC.out.1 (by decide);have y0:=st8.cell 5;have y1:=st8.frozen 5;simp only[gA,gZ,gS]at y0;have p8:=(E1.out.keep HC.out.2.2.1).pb.grown hgrow HC.out.1 (by decide);have i8:=(E1.out.keep HC.out.2.2.1).ib.grown hgrow HC.out.1 (by decide);have b9:Below B w u8:=(E1.out.keep HC.out.2.2.1).bel.low.grown hgrow HC.out.2.2.2 (fun j hj=>(HC.out.1.lt j hj).1);have O8:=E1.out.pushOwn HC.out.2.2.1 (K':=K++([⟨z.type,z.word⟩]:List MC)) hgrow (by rw[List.flatMap_append];exact hown) (by simp) hat;have A8:=Bn (Ag HAU.out HC.out.2.2.1 lR) hgrow HAP.out;have A9:=ownsRow_setCell_other A8 (a:=⟨w.heap.size+1,5,none⟩) (fun e=>AJ A8 st8 (by decide) _ e rfl) (.slice (some ⟨gg,0,none⟩) (K.length+1) cap);have KU:u8.cell? ⟨gc,q,none⟩=some (.slice (some ⟨gl,0,none⟩) nl cl)/\u8.cell? ⟨w.heap.size+1+1,1,none⟩=some (.int .i64 q)/\u8.cell? ⟨w.heap.size+1+1,2,none⟩=some (.int .i64 b0)/\u8.cell? ⟨w.heap.size+1+1,3,none⟩=some (.int .i64 m0)/\u8.cell? ⟨w.heap.size+1,4,none⟩=some (.slice (some ⟨gc,0,none⟩) C.length c1)/\u8.cell? ⟨ga,1,none⟩=some (.int .u32 w0)/\u8.cell? ⟨gl,(b0+an)*2,none⟩=some (.int .i64 z.type)/\u8.cell? ⟨gl,(b0+an)*2+1,none⟩=some (.int .u32 z.word):=⟨(HLC.out O8 rfl).1,i8.cell 1,i8.cell 2,i8.cell 3,st8.cell 4,by rw[<-hw0];exact(Fl A8 HA0.out.1 HNA.out).2,(HLC.out O8 rfl).2.1,(HLC.out O8 rfl).2.2⟩;have KV:(u8.setCell ⟨w.heap.size+1,5,none⟩ (.slice (some ⟨gg,0,none⟩) (K.length+1) cap)).cell? ⟨gc,q,none⟩=some (.slice (some ⟨gl,0,none⟩) nl cl)/\(u8.setCell ⟨w.heap.size+1,5,none⟩ (.slice (some ⟨gg,0,none⟩) (K.length+1) cap)).cell? ⟨w.heap.size+1+1,1,none⟩=some (.int .i64 q)/\(u8.setCell ⟨w.heap.size+1,5,none⟩ (.slice (some ⟨gg,0,none⟩) (K.length+1) cap)).cell? ⟨w.heap.size+1+1,2,none⟩=some (.int .i64 b0)/\(u8.setCell ⟨w.heap.size+1,5,none⟩ (.slice (some ⟨gg,0,none⟩) (K.length+1) cap)).cell? ⟨w.heap.size+1+1,3,none⟩=some (.int .i64 m0)/\(u8.setCell ⟨w.heap.size+1,5,none⟩ (.slice (some ⟨gg,0,none⟩) (K.length+1) cap)).cell? ⟨w.heap.size+1,4,none⟩=some (.slice (some ⟨gc,0,none⟩) C.length c1)/\(u8.setCell ⟨w.heap.size+1,5,none⟩ (.slice (some ⟨gg,0,none⟩) (K.length+1) cap)).cell? ⟨ga,1,none⟩=some (.int .u32 w0)/\(u8.setCell ⟨w.heap.size+1,5,none⟩ (.slice (some ⟨gg,0,none⟩) (K.length+1) cap)).cell? ⟨gl,(b0+an)*2,none⟩=some (.int .i64 z.type)/\(u8.setCell ⟨w.heap.size+1,5,none⟩ (.slice (some ⟨gg,0,none⟩) (K.length+1) cap)).cell? ⟨gl,(b0+an)*2+1,none⟩=some (.int .u32 z.word):=⟨(HLC.out HN.out.own rfl).1,HN.out.ib.cell 1,HN.out.ib.cell 2,HN.out.ib.cell 3,HN.out.sb.cell 4,by rw[<-hw0];exact(Fl A9 HA0.out.1 HNA.out).2,(HLC.out HN.out.own rfl).2.1,(HLC.out HN.out.own rfl).2.2⟩;clear hown hgrow hat hlt8 st8 A8 A9 p8 i8 b9 O8
  refine hKC.out _ _ KU (fun hHeld=> ?_);clear hKC KC;refine wpAnyH_take (i:=23) (v:= ?_) rfl (by kernel_rfl) (by kernel_rfl) (by kernel_rfl) (fun _ _ _ h=>h) (Or.inl ⟨by rfl,?_⟩) (by assumption) ?_;rotate_left
  ·(intro w hSw;(try dsimp only at hSw);go_simp;(try with_reducible rfl))
  refine wpAnyH_ready (rs:=[24]) (by kernel_rfl) (by simp) ?_;refine AllReadyH.cons rfl (fun KC hKC=> ?_) AllReadyH.nil;go_simp;refine hKC.out _ _ KV (fun hHeld=> ?_);clear hKC KC;refine wpAnyH_done (by kernel_rfl) ?_ _;clear KD s5d s5e ib0 sb6;go_upto_region 40 with fail
  refine Af (fun u=>Hid (A7 w u B v t c n _ _ C _ F)) HN ?_;rintro U2 E2;clear HN;obtain⟨m0,m1,m2,m3,m4,m5,m6⟩:=E2.out.sb.c7;try dsimp only at m0 m1 m2 m3 m4 m5 m6
  obtain⟨r0,r1,r2,r3,r4,r5,r6⟩:=E2.out.rb.c7;obtain⟨rz0,rz1,rz2,rz3,rz4,rz5,rz6⟩:=E2.out.rb.z7;try dsimp only at r0 r1 r2 r3 r4 r5 r6
  go_wp2_with fail
  have hBw:=E2.out.hB;exact bodyPost_ret (results_cell_row Tryz.results79 _ _ _ 39 _ (0,0) _ rfl (E2.out.rb.w7 _ _ _ _ _ _ _) Tryz.underlying39 rfl (by kernel_rfl)) rfl ⟨⟨.slice (some ⟨gc,0,none⟩) C.length c1,.slice (some ⟨gg,0,none⟩) (K.length+1) cap,.slice (some ⟨gf,0,none⟩) (top+1) c3⟩,rfl,E2.out.own.o7 E2.out.rb _ _ _ _ _ _ _,E2.out.bel.s7 (by omega) _ _ _ _ _ _ _⟩
end Go.Proofs.YtlejplpkomddeaaGreat
