import Derived.Test.YtlejplpkomddeaaGreatR0
import Derived.Test.YtlejplpkomddeaaGreatR4
import Derived.Test.YtlejplpkomddeaaGreatR11
import Derived.Test.YtlejplpkomddeaaGreatR34
import Derived.Deep.RegionHeldLaw
import Derived.Deep.RegionLaw
import Derived.Deep.AppendLies
namespace Go.Proofs.YtlejplpkomddeaaGreat
open Go.ChangeShapes Go.WideShapes Go.ChangeAt Go.RowKit
set_option linter.unusedVariables false
set_option maxHeartbeats 8000000
set_option maxRecDepth 100000
theorem Oy(v:VP)(t c n:Int)(x:VS)(ia ib ic:Int)(C:List (Value×List MC))(K:List MC)(F:List (MG×Value))(B top:Nat)(y:MG×Value)(aa:Option Addr)(ca:Nat)(ar:List MC)(w:World)(hB:B<=w.heap.size)(h:Ah w B x C K F)(hF:F.length=top+1)(hF1:top<=1048576)(hy:F[top]?=some y)(hK:K.length<=1048576)(har:w.ownsRow B 128 2 (.slice aa ar.length ca) ar.length (ar.flatMap MC.cells))(z0:MC)(ha0:ar[0]?=some z0)(hap:∀g,(Value.slice aa ar.length ca).ownBlock=some g->some g≠x.k.ownBlock)(hna1:ar.length<=1048576):
 Calls Tryz.prog 79 #[.agg #[v.r,v.k,v.f,v.t],.agg #[.int .i64 t,.bool false,.int .i64 c,.int .i64 n,x.c,x.k,x.f],.agg #[.int .i64 22,.int .i64 ia,.int .i64 ib,.int .i64 ic],.slice aa ar.length ca] w (Dl w B t c n C (K++[⟨ib,Eo ia ib z0.word⟩]) F):=by
 have H:=h3 h hF hy;have HA0:Hid (ar[0]?=some z0/\0<ar.length):=⟨ha0,(gI.1 ha0).1⟩
 rcases At har with⟨_,e⟩|⟨ga,ca',ea⟩
 ·have:=HA0.out.2;omega
 simp only[sJ,true_and]at ea;obtain⟨rfl,rfl⟩:=ea;obtain⟨i0,hi,hz0,hz1,hz2⟩:=info_parts DJ;obtain⟨a1,c1,e1⟩:=Al h.cells;obtain⟨a2,c2,e2⟩:=Al (h.fam.own (x.k,K) (by simp));rcases At h.frames with⟨_,e⟩|⟨gf,c3,e3⟩
 ·omega
 have E0:=A7.of v t c n ⟨22,ia,ib,ic⟩ h hB;obtain⟨vc,vk',vf'⟩:=x;simp only[]at e1 e2 e3;rw[hF]at e3;subst e1 e2 e3;have E1:Hid _:=E0.1;have E1':Hid _:=E0.2;have HAP:=AS hap;have HAR:=AS har;clear E0 h hy hap har ha0;generalize hna:ar.length=na at*;have HNA:Hid (ar.length=na):=hna;have hna0:0<na:=by have:=HA0.out.2;omega
 clear hna;go_enter Tryz.func79,Tryz.ntmps79;go_upto_region 1 with fail
 refine Af (fun u=>Hid (A7 w u B v t c n _ _ C K F/\Below w.heap.size w u)) ⟨E1.out,E1'.out⟩ ?_
 rintro U EE;clear E1 E1';have E1:Hid _:=EE.out.1;have E1':Hid _:=EE.out.2;clear EE;have sb6:=E1.out.sb.cell 6;have ib0:=E1.out.ib.cell 0;simp only[gA,gZ,gS]at sb6 ib0;have HAU:=AS (Ag HAR.out E1'.out lR);have aw0:U.cell? ⟨ga,1,none⟩=some (.int .u32 z0.word):=(Fl HAU.out HA0.out.1 HNA.out).2;have ib1:=E1.out.ib.cell 1;have ib2:=E1.out.ib.cell 2;simp only[gA,gZ,gS]at ib1 ib2;have s5:=E1.out.sb.cell 5;simp only[gA,gZ,gS]at s5;have bD:=Ad U;have bE:Below U.heap.size U (U.alloc (.cells #[.int .i64 ib,.int .u32 (Eo ia ib z0.word)] 128)).drew:=Ab (Aa _ _) lR (Ad _);have s5d:=Ac bD s5;have s5e:=Ac bE s5;have KD:U.drew.cell? ⟨ga,1,none⟩=some (.int .u32 z0.word)/\U.drew.cell? ⟨w.heap.size+1+1,1,none⟩=some (.int .i64 ia)/\U.drew.cell? ⟨w.heap.size+1+1,2,none⟩=some (.int .i64 ib):=⟨Ac bD aw0,Ac bD ib1,Ac bD ib2⟩
 have KE:(U.alloc (.cells #[.int .i64 ib,.int .u32 (Eo ia ib z0.word)] 128)).drew.cell? ⟨ga,1,none⟩=some (.int .u32 z0.word)/\(U.alloc (.cells #[.int .i64 ib,.int .u32 (Eo ia ib z0.word)] 128)).drew.cell? ⟨w.heap.size+1+1,1,none⟩=some (.int .i64 ia)/\(U.alloc (.cells #[.int .i64 ib,.int .u32 (Eo ia ib z0.word)] 128)).drew.cell? ⟨w.heap.size+1+1,2,none⟩=some (.int .i64 ib):=⟨Ac bE aw0,Ac bE ib1,Ac bE ib2⟩
 have HC:Hid ((U.alloc (.cells #[.int .i64 ib,.int .u32 (Eo ia ib z0.word)] 128)).drew.ownsRow B 128 2 (.slice a2 K.length c2) K.length (K.flatMap MC.cells)/\(∀j u,(([⟨ib,(Eo ia ib z0.word)⟩]:List MC).flatMap MC.cells)[j]?=some u->(U.alloc (.cells #[.int .i64 ib,.int .u32 (Eo ia ib z0.word)] 128)).drew.cell? ((⟨U.heap.size,0,none⟩:Addr).add j)=some u)/\Below U.heap.size U (U.alloc (.cells #[.int .i64 ib,.int .u32 (Eo ia ib z0.word)] 128)).drew/\B<=(U.alloc (.cells #[.int .i64 ib,.int .u32 (Eo ia ib z0.word)] 128)).drew.heap.size):=⟨Ag (E1.out.own.fam.own (.slice a2 K.length c2,K) (by simp)) bE lR,fun j u hj=>Dv U ([⟨ib,(Eo ia ib z0.word)⟩]:List MC) j u hj,bE,Nat.le_trans (Nat.le_trans E1.out.hB E1.out.le) bE.size⟩
 clear aw0 ib1 ib2 s5 bD bE;go_wp2_with fail
 refine wp_region_held_drew (S:=fun w'=>w'.cell? ⟨ga,1,none⟩=some (.int .u32 z0.word)/\w'.cell? ⟨w.heap.size+1+1,1,none⟩=some (.int .i64 ia)/\w'.cell? ⟨w.heap.size+1+1,2,none⟩=some (.int .i64 ib)) (by kernel_rfl) KD (fun hHeld=> ?_)
 refine wpAnyH_take (i:=0) (v:= ?_) rfl (by kernel_rfl) (by kernel_rfl) (by kernel_rfl) (fun _ _ _ h=>h) (Or.inl ⟨by rfl,?_⟩) (by assumption) ?_;rotate_left
 ·(intro w hSw;(try dsimp only at hSw);go_simp;(try with_reducible rfl))
 refine wpAnyH_take (i:=2) (v:= ?_) rfl (by kernel_rfl) (by kernel_rfl) (by kernel_rfl) (fun _ _ _ h=>h) (Or.inl ⟨by rfl,?_⟩) (by assumption) ?_;rotate_left
 ·(intro w hSw;(try dsimp only at hSw);go_simp;(try with_reducible rfl))
 refine wpAnyH_take (i:=3) (v:= ?_) rfl (by kernel_rfl) (by kernel_rfl) (by kernel_rfl) (fun _ _ _ h=>h) (Or.inl ⟨by rfl,?_⟩) (by assumption) ?_;rotate_left
 ·(intro w hSw;(try dsimp only at hSw);go_simp;(try with_reducible rfl))
 refine wpAnyH_take (i:=4) (v:= ?_) rfl (by kernel_rfl) (by kernel_rfl) (by kernel_rfl) (fun _ _ _ h=>h) (Or.inl ⟨by rfl,?_⟩) (by assumption) ?_;rotate_left
 ·(intro w hSw;(try dsimp only at hSw);go_simp;(try with_reducible rfl))
 refine wpAnyH_take (i:=5) (v:= ?_) rfl (by kernel_rfl) (by kernel_rfl) (by kernel_rfl) (fun _ _ _ h=>h) (Or.inl ⟨by rfl,?_⟩) (by assumption) ?_;rotate_left
 ·(intro w hSw;(try dsimp only at hSw);go_simp;(try with_reducible rfl))
 refine wpAnyH_take (i:=6) (v:= ?_) rfl (by kernel_rfl) (by kernel_rfl) (by kernel_rfl) (fun _ _ _ h=>h) (Or.inl ⟨by rfl,?_⟩) (by assumption) ?_;rotate_left
 ·(intro w hSw;(try dsimp only at hSw);go_simp;(try with_reducible rfl))
 refine wpAnyH_take (i:=7) (v:= ?_) rfl (by kernel_rfl) (by kernel_rfl) (by kernel_rfl) (fun _ _ _ h=>h) (Or.inl ⟨by rfl,?_⟩) (by assumption) ?_;rotate_left
 ·(intro w hSw;(try dsimp only at hSw);go_simp;(try with_reducible rfl))
 refine wpAnyH_take (i:=8) (v:= ?_) rfl (by kernel_rfl) (by kernel_rfl) (by kernel_rfl) (fun _ _ _ h=>h) (Or.inl ⟨by rfl,?_⟩) (by assumption) ?_;rotate_left
 ·(intro w hSw;(try dsimp only at hSw);go_simp;(try with_reducible rfl))
 refine wpAnyH_take (i:=9) (v:= ?_) rfl (by kernel_rfl) (by kernel_rfl) (by kernel_rfl) (fun _ _ _ h=>h) (Or.inl ⟨by rfl,?_⟩) (by assumption) ?_;rotate_left
 ·(intro w hSw;(try dsimp only at hSw);go_simp;(try with_reducible rfl))
 refine wpAnyH_take (i:=10) (v:= ?_) rfl (by kernel_rfl) (by kernel_rfl) (by kernel_rfl) (fun _ _ _ h=>h) (Or.inl ⟨by rfl,?_⟩) (by assumption) ?_;rotate_left
 ·(intro w hSw;(try dsimp only at hSw);go_simp;(try with_reducible rfl))
 refine wpAnyH_take (i:=11) (v:= ?_) rfl (by kernel_rfl) (by kernel_rfl) (by kernel_rfl) (fun _ _ _ h=>h) (Or.inl ⟨by rfl,?_⟩) (by assumption) ?_;rotate_left
 ·(intro w hSw;(try dsimp only at hSw);go_simp;(try with_reducible rfl))
 refine wpAnyH_ready (rs:=[1,12]) (by kernel_rfl) (by simp) ?_;refine AllReadyH.cons rfl (fun KC hKC=> ?_) (AllReadyH.cons rfl (fun KC hKC=> ?_) AllReadyH.nil)
 focus
  go_simp;refine hKC.out _ _ KD (fun hHeld=> ?_);clear hKC KC;refine wpAnyH_ready (rs:=[12]) (by kernel_rfl) (by simp) ?_;refine AllReadyH.cons rfl (fun KC hKC=> ?_) AllReadyH.nil;go_simp;go_wp2_with (go_at_call 124;refine(Gz ia ib z0.word _).mono ?_;rintro e w' ⟨rfl,rfl⟩);refine hKC.out _ _ KD (fun hHeld=> ?_);clear hKC KC;refine wpAnyH_take (i:=13) (v:= ?_) rfl (by kernel_rfl) (by kernel_rfl) (by kernel_rfl) (fun _ _ _ h=>h) (Or.inl ⟨by rfl,?_⟩) (by assumption) ?_;rotate_left
  ·(intro w hSw;(try dsimp only at hSw);go_simp;(try with_reducible rfl))
  refine wpAnyH_ready (rs:=[14]) (by kernel_rfl) (by simp) ?_;refine AllReadyH.cons rfl (fun KC hKC=> ?_) AllReadyH.nil;go_simp;refine hKC.out _ _ KE (fun hHeld=> ?_);clear hKC KC;refine wpAnyH_ready (rs:=[15]) (by kernel_rfl) (by simp) ?_;refine AllReadyH.cons rfl (fun KC hKC=> ?_) AllReadyH.nil
 rotate_left
 focus
  go_simp;go_wp2_with (go_at_call 124;refine(Gz ia ib z0.word _).mono ?_;rintro e w' ⟨rfl,rfl⟩);refine hKC.out _ _ KD (fun hHeld=> ?_);clear hKC KC;refine wpAnyH_take (i:=13) (v:= ?_) rfl (by kernel_rfl) (by kernel_rfl) (by kernel_rfl) (fun _ _ _ h=>h) (Or.inl ⟨by rfl,?_⟩) (by assumption) ?_;rotate_left
  ·(intro w hSw;(try dsimp only at hSw);go_simp;(try with_reducible rfl))
  refine wpAnyH_ready (rs:=[1,14]) (by kernel_rfl) (by simp) ?_;refine AllReadyH.cons rfl (fun KC hKC=> ?_) (AllReadyH.cons rfl (fun KC hKC=> ?_) AllReadyH.nil)
  focus
   go_simp;refine hKC.out _ _ KD (fun hHeld=> ?_);clear hKC KC;refine wpAnyH_ready (rs:=[14]) (by kernel_rfl) (by simp) ?_;refine AllReadyH.cons rfl (fun KC hKC=> ?_) AllReadyH.nil;go_simp;refine hKC.out _ _ KE (fun hHeld=> ?_);clear hKC KC;refine wpAnyH_ready (rs:=[15]) (by kernel_rfl) (by simp) ?_;refine AllReadyH.cons rfl (fun KC hKC=> ?_) AllReadyH.nil
  rotate_left
  focus
   go_simp;refine hKC.out _ _ KE (fun hHeld=> ?_);clear hKC KC;refine wpAnyH_ready (rs:=[1]) (by kernel_rfl) (by simp) ?_;refine AllReadyH.cons rfl (fun KC hKC=> ?_) AllReadyH.nil;go_simp;refine hKC.out _ _ KE (fun hHeld=> ?_);clear hKC KC;refine wpAnyH_ready (rs:=[15]) (by kernel_rfl) (by simp) ?_;refine AllReadyH.cons rfl (fun KC hKC=> ?_) AllReadyH.nil
 all_goals
  refine step_append_lies _ rfl (.tmp 255) (.tmp 268) 36 rfl B 128 i0 (.agg #[.int .i64 0,.int .u32 0]) 2 16 Tryz.underlying36 hi hz0 hz1 hz2 rfl (by decide) (.slice a2 K.length c2) K.length (K.flatMap MC.cells) (by simp[Act.eval]) HC.out.1 ⟨U.heap.size,0,none⟩ 1 1 (([⟨ib,(Eo ia ib z0.word)⟩]:List MC).flatMap MC.cells) (by simp[Act.eval]) rfl HC.out.2.1 (Cm _) (by omega) (by unfold maxLen;omega) (by omega) HC.out.2.2.2 _ rfl ?_;intro gg cap u8 hown hgrow hat hlt8;have HN:Hid (A7 w (u8.setCell ⟨w.heap.size+1,5,none⟩ (.slice (some ⟨gg,0,none⟩) (K.length+1) cap)) B v t c n ⟨.slice a1 C.length c1,.slice (some ⟨gg,0,none⟩) (K.length+1) cap,.slice (some ⟨gf,0,none⟩) (top+1) c3⟩ ⟨22,ia,ib,ic⟩ C (K++[⟨ib,(Eo ia ib z0.word)⟩]) F):=E1.out.push HC.out.2.2.1 (K':=K++([⟨ib,(Eo ia ib z0.word)⟩]:List MC)) hgrow (by rw[List.flatMap_append];exact hown) (by simp) hat;have st8:=(E1.out.keep HC.out.2.2.1).sb.grown hgrow HC.out.1 (by decide);have y0:=st8.cell 5;have y1:=st8.frozen 5;simp only[gA,gZ,gS]at y0;have p8:=(E1.out.keep HC.out.2.2.1).pb.grown hgrow HC.out.1 (by decide);have i8:=(E1.out.keep HC.out.2.2.1).ib.grown hgrow HC.out.1 (by decide);have b9:Below B w u8:=(E1.out.keep HC.out.2.2.1).bel.low.grown hgrow HC.out.2.2.2 (fun j hj=>(HC.out.1.lt j hj).1);have O8:=E1.out.pushOwn HC.out.2.2.1 (K':=K++([⟨ib,(Eo ia ib z0.word)⟩]:List MC)) hgrow (by rw[List.flatMap_append];exact hown) (by simp) hat;have A8:=Bn (Ag HAU.out HC.out.2.2.1 lR) hgrow HAP.out;have A9:=ownsRow_setCell_other A8 (a:=⟨w.heap.size+1,5,none⟩) (fun e=>AJ A8 st8 (by decide) _ e rfl) (.slice (some ⟨gg,0,none⟩) (K.length+1) cap);have KU:u8.cell? ⟨ga,1,none⟩=some (.int .u32 z0.word)/\u8.cell? ⟨w.heap.size+1+1,1,none⟩=some (.int .i64 ia)/\u8.cell? ⟨w.heap.size+1+1,2,none⟩=some (.int .i64 ib):=⟨(Fl A8 HA0.out.1 HNA.out).2,i8.cell 1,i8.cell 2⟩;have KV:(u8.setCell ⟨w.heap.size+1,5,none⟩ (.slice (some ⟨gg,0,none⟩) (K.length+1) cap)).cell? ⟨ga,1,none⟩=some (.int .u32 z0.word)/\(u8.setCell ⟨w.heap.size+1,5,none⟩ (.slice (some ⟨gg,0,none⟩) (K.length+1) cap)).cell? ⟨w.heap.size+1+1,1,none⟩=some (.int .i64 ia)/\(u8.setCell ⟨w.heap.size+1,5,none⟩ (.slice (some ⟨gg,0,none⟩) (K.length+1) cap)).cell? ⟨w.heap.size+1+1,2,none⟩=some (.int .i64 ib):=⟨(Fl A9 HA0.out.1 HNA.out).2,HN.out.ib.cell 1,HN.out.ib.cell 2⟩;clear hown hgrow hat hlt8 st8 A8 A9 p8 i8 b9 O8
  refine hKC.out _ _ KU (fun hHeld=> ?_);clear hKC KC;refine wpAnyH_take (i:=16) (v:= ?_) rfl (by kernel_rfl) (by kernel_rfl) (by kernel_rfl) (fun _ _ _ h=>h) (Or.inl ⟨by rfl,?_⟩) (by assumption) ?_;rotate_left
  ·(intro w hSw;(try dsimp only at hSw);go_simp;(try with_reducible rfl))
  refine wpAnyH_ready (rs:=[17]) (by kernel_rfl) (by simp) ?_;refine AllReadyH.cons rfl (fun KC hKC=> ?_) AllReadyH.nil;go_simp;refine hKC.out _ _ KV (fun hHeld=> ?_);clear hKC KC;refine wpAnyH_done (by kernel_rfl) ?_ _;clear KD s5d s5e ib0 sb6;go_upto_region 40 with fail
  refine Af (fun u=>Hid (A7 w u B v t c n _ _ C _ F)) HN ?_;rintro U2 E2;clear HN;obtain⟨m0,m1,m2,m3,m4,m5,m6⟩:=E2.out.sb.c7;try dsimp only at m0 m1 m2 m3 m4 m5 m6
  obtain⟨r0,r1,r2,r3,r4,r5,r6⟩:=E2.out.rb.c7;obtain⟨rz0,rz1,rz2,rz3,rz4,rz5,rz6⟩:=E2.out.rb.z7;try dsimp only at r0 r1 r2 r3 r4 r5 r6
  go_wp2_with fail
  have hBw:=E2.out.hB;exact bodyPost_ret (results_cell_row Tryz.results79 _ _ _ 39 _ (0,0) _ rfl (E2.out.rb.w7 _ _ _ _ _ _ _) Tryz.underlying39 rfl (by kernel_rfl)) rfl ⟨⟨.slice a1 C.length c1,.slice (some ⟨gg,0,none⟩) (K.length+1) cap,.slice (some ⟨gf,0,none⟩) (top+1) c3⟩,rfl,E2.out.own.o7 E2.out.rb _ _ _ _ _ _ _,E2.out.bel.s7 (by omega) _ _ _ _ _ _ _⟩
end Go.Proofs.YtlejplpkomddeaaGreat
