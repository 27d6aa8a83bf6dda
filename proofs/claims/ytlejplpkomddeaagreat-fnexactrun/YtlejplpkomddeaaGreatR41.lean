import Derived.Test.YtlejplpkomddeaaGreatR0
import Derived.Test.YtlejplpkomddeaaGreatR4
import Derived.Test.YtlejplpkomddeaaGreatR11
import Derived.Test.YtlejplpkomddeaaGreatR34
import Derived.Test.YtlejplpkomddeaaGreatR2
import Derived.Deep.RegionHeldLaw
import Derived.Deep.RegionLaw
import Derived.Deep.AppendLies
import Derived.Test.YtlejplpkomddeaaGreatR35
import Derived.Test.YtlejplpkomddeaaGreatR16
import Derived.Test.YtlejplpkomddeaaGreatR14
import Derived.Test.YtlejplpkomddeaaGreatR20
import Derived.Test.YtlejplpkomddeaaGreatR25
import Derived.Test.YtlejplpkomddeaaGreatR24
namespace Go.Proofs.YtlejplpkomddeaaGreat
open Go.ChangeShapes Go.WideShapes Go.ChangeAt Go.RowKit
set_option linter.unusedVariables false
set_option maxHeartbeats 8000000
set_option maxRecDepth 100000
theorem L4(v:VP)(t c n:Int)(x:VS)(ia ib ic:Int)(C:List (Value×List MC))(K:List MC)(F:List (MG×Value))(B top:Nat)(y:MG×Value)(aa:Option Addr)(ca:Nat)(ar:List MC)(w:World)(hB:B<=w.heap.size)(h:Ah w B x C K F)(hF:F.length=top+1)(hF1:top<=1048576)(hy:F[top]?=some y)(op:Int)(hop:8<=op/\op<=19)(hK:K.length<=1048576)(hal:ar.length=1)(har:w.ownsRow B 128 2 (.slice aa ar.length ca) ar.length (ar.flatMap MC.cells))(z0:MC)(ha0:ar[0]?=some z0)(hap:∀g,(Value.slice aa ar.length ca).ownBlock=some g->some g≠x.k.ownBlock)(hna1:ar.length<=1048576):
 Calls Tryz.prog 79 #[.agg #[v.r,v.k,v.f,v.t],.agg #[.int .i64 t,.bool false,.int .i64 c,.int .i64 n,x.c,x.k,x.f],.agg #[.int .i64 op,.int .i64 ia,.int .i64 ib,.int .i64 ic],.slice aa ar.length ca] w (Dl w B t c n C (K++[⟨z0.type,AD op z0.type z0.word 0⟩]) F):=by
 have H:=h3 h hF hy;have HA0:Hid (ar[0]?=some z0/\0<ar.length):=⟨ha0,(gI.1 ha0).1⟩
 rcases At har with⟨_,e⟩|⟨ga,ca',ea⟩
 ·have:=HA0.out.2;omega
 simp only[sJ,true_and]at ea;obtain⟨rfl,rfl⟩:=ea;obtain⟨i0,hi,hz0,hz1,hz2⟩:=info_parts DJ;obtain⟨a1,c1,e1⟩:=Al h.cells;obtain⟨a2,c2,e2⟩:=Al (h.fam.own (x.k,K) (by simp));rcases At h.frames with⟨_,e⟩|⟨gf,c3,e3⟩
 ·omega
 have E0:=A7.of v t c n ⟨op,ia,ib,ic⟩ h hB;obtain⟨vc,vk',vf'⟩:=x;simp only[]at e1 e2 e3;rw[hF]at e3;subst e1 e2 e3;have E1:Hid _:=E0.1;have E1':Hid _:=E0.2;have HAP:=AS hap;have HAR:=AS har;clear E0 h hy hap har ha0;generalize hna:ar.length=na at*;have HNA:Hid (ar.length=na):=hna;have hna0:0<na:=by have:=HA0.out.2;omega
 clear hna;go_enter Tryz.func79,Tryz.ntmps79;go_upto_region 1 with fail
 refine Af (fun u=>Hid (A7 w u B v t c n _ _ C K F/\Below w.heap.size w u)) ⟨E1.out,E1'.out⟩ ?_
 rintro U EE;clear E1 E1';have E1:Hid _:=EE.out.1;have E1':Hid _:=EE.out.2;clear EE;have sb6:=E1.out.sb.cell 6;have ib0:=E1.out.ib.cell 0;simp only[gA,gZ,gS]at sb6 ib0;have HAU:=AS (Ag HAR.out E1'.out lR);have hna1:na=1:=by have:=HNA.out;omega
 subst hna1;have n0:(op==0)=false:=by simp;omega
 have n24:(op==24)=false:=by simp;omega
 have n1:(op==1)=false:=by simp;omega
 have n2:(op==2)=false:=by simp;omega
 have n3:(op==3)=false:=by simp;omega
 have n4:(op==4)=false:=by simp;omega
 have n5:(op==5)=false:=by simp;omega
 have n6:(op==6)=false:=by simp;omega
 have n7:(op==7)=false:=by simp;omega
 have n23:(op==23)=false:=by simp;omega
 have n25:(op==25)=false:=by simp;omega
 have n26:(op==26)=false:=by simp;omega
 have n27:(op==27)=false:=by simp;omega
 have n22:(op==22)=false:=by simp;omega
 have n20:(op==20)=false:=by simp;omega
 have n21:(op==21)=false:=by simp;omega
 have at0:U.cell? ⟨ga,0,none⟩=some (.int .i64 z0.type):=(Fl HAU.out HA0.out.1 HNA.out).1;have aw0:U.cell? ⟨ga,1,none⟩=some (.int .u32 z0.word):=(Fl HAU.out HA0.out.1 HNA.out).2;go_upto_region 7 with fail
 have bD:=Ad U;have bE:Below U.heap.size U (U.alloc (.cells #[.int .i64 0,.int .u32 0] 128)).drew:=Ab (Aa _ _) lR (Ad _);have KD:U.drew.cell? ⟨w.heap.size+1+1,0,none⟩=some (.int .i64 op)/\U.drew.cell? ⟨ga,1,none⟩=some (.int .u32 z0.word):=⟨Ac bD ib0,Ac bD aw0⟩
 have KE:(U.alloc (.cells #[.int .i64 0,.int .u32 0] 128)).drew.cell? ⟨w.heap.size+1+1,0,none⟩=some (.int .i64 op)/\(U.alloc (.cells #[.int .i64 0,.int .u32 0] 128)).drew.cell? ⟨ga,1,none⟩=some (.int .u32 z0.word):=⟨Ac bE ib0,Ac bE aw0⟩
 have ltA:w.heap.size+1+1<U.heap.size:=E1.out.ib.lt;have ltG:ga<U.heap.size:=bL aw0;have BE:Hid (Ap (U.alloc (.cells #[.int .i64 0,.int .u32 0] 128)).drew U.heap.size #[.int .i64 0,.int .u32 0] 128):=(Ap.new U #[.int .i64 0,.int .u32 0] 128).keep (Ad _)
 go_region_held_law (fun w'=>w'.cell? ⟨w.heap.size+1+1,0,none⟩=some (.int .i64 op)/\w'.cell? ⟨ga,1,none⟩=some (.int .u32 z0.word)) (first|exact KD|exact KE|exact KX|exact KW|go_keep) (first
  |(go_at_call 125;refine(DX op z0.type z0.word 0 _ (by omega) (by omega)).mono ?_;rintro e w1 ⟨rfl,b1⟩;have KW:w1.cell? ⟨w.heap.size+1+1,0,none⟩=some (.int .i64 op)/\w1.cell? ⟨ga,1,none⟩=some (.int .u32 z0.word):=(by first|exact⟨Ac b1 KD.1,Ac b1 KD.2⟩|exact⟨Ac b1 KE.1,Ac b1 KE.2⟩);(first|(have BB:Ap w1 U.heap.size #[.int .i64 0,.int .u32 0] 128:=BE.out.keep b1;have yy0:=BB.cell 0;have yy1:=BB.cell 1;have yz0:=BB.frozen 0;have yz1:=BB.frozen 1;have BS:=BB.set 0 (.int .i64 z0.type);have ys1:=BS.cell 1;have ysz:=BS.frozen 1;simp only[sA,List.set_cons_zero,gA,gZ,gS]at yy0 yy1 ys1;have bS0:Below U.heap.size w1 (w1.setCell ⟨U.heap.size,0,none⟩ (.int .i64 z0.type)):=(Below.refl U.heap.size w1).setCell (by simp) _;have bS:Below U.heap.size w1 ((w1.setCell ⟨U.heap.size,0,none⟩ (.int .i64 z0.type)).setCell ⟨U.heap.size,1,none⟩ (.int .u32 (AD op z0.type z0.word 0))):=bS0.setCell (by simp) _;have BT:Hid (Ap ((w1.setCell ⟨U.heap.size,0,none⟩ (.int .i64 z0.type)).setCell ⟨U.heap.size,1,none⟩ (.int .u32 (AD op z0.type z0.word 0))) U.heap.size #[.int .i64 z0.type,.int .u32 (AD op z0.type z0.word 0)] 128):=BS.set 1 (.int .u32 (AD op z0.type z0.word 0));have KX:((w1.setCell ⟨U.heap.size,0,none⟩ (.int .i64 z0.type)).setCell ⟨U.heap.size,1,none⟩ (.int .u32 (AD op z0.type z0.word 0))).cell? ⟨w.heap.size+1+1,0,none⟩=some (.int .i64 op)/\((w1.setCell ⟨U.heap.size,0,none⟩ (.int .i64 z0.type)).setCell ⟨U.heap.size,1,none⟩ (.int .u32 (AD op z0.type z0.word 0))).cell? ⟨ga,1,none⟩=some (.int .u32 z0.word):=⟨(bS.cell (p:=⟨w.heap.size+1+1,0,none⟩) ltA).trans KW.1,(bS.cell (p:=⟨ga,1,none⟩) ltG).trans KW.2⟩)|skip)))
 focus
  have HB1:Hid (Below U.heap.size U w1):=(by first|exact As b1 lR|exact Ab bE lR b1);clear b1 KW bD bE KD KE at0 aw0 ib0 sb6;go_upto_region 8 with fail
  refine Af (fun u=>Hid (Below U.heap.size U u/\Ap u w1.heap.size #[.int .i64 z0.type,.int .u32 (AD op z0.type z0.word 0)] 128/\U.heap.size<=w1.heap.size)) ⟨Ab HB1.out lR (Aa _ _),Ap.new _ _ _,HB1.out.size⟩ ?_
  rintro V1 EV;generalize hX:w1.heap.size=Xb at⊢;have EV:Hid (Below U.heap.size U V1/\Ap V1 Xb #[.int .i64 z0.type,.int .u32 (AD op z0.type z0.word 0)] 128/\U.heap.size<=Xb):=by rw[<-hX];exact EV
  clear hX
 rotate_left
 focus
  have HB1:Hid (Below U.heap.size U w1):=(by first|exact As b1 lR|exact Ab bE lR b1);clear b1 KW bD bE KD KE at0 aw0 ib0 sb6;go_upto_region 8 with fail
  refine Af (fun u=>Hid (Below U.heap.size U u/\Ap u U.heap.size _ _/\U.heap.size<=U.heap.size)) ⟨(HB1.out.setCell (by simp) _).setCell (by simp) _,BT.out,Nat.le_refl _⟩ ?_
  rintro V1 EV;generalize hX:U.heap.size=Xb at⊢;have EV:Hid (Below U.heap.size U V1/\Ap V1 Xb #[.int .i64 z0.type,.int .u32 (AD op z0.type z0.word 0)] 128/\U.heap.size<=Xb):=by rw[<-hX];exact EV
  clear hX
 all_goals
  have v0:=(E1.out.keep EV.out.1).ib.cell 0;simp only[gA,gZ]at v0;go_upto_region 10 with fail
  refine Af (fun u=>Hid (Below U.heap.size U u/\Ap u Xb _ _/\U.heap.size<=Xb)) EV ?_
  rintro V2 EW;clear EV v0;have ED:=AS (E1.out.keep EW.out.1);have s5:=ED.out.sb.cell 5;obtain⟨x0,x1⟩:=EW.out.2.1.c2;simp only[gA,gZ,gS]at s5;try dsimp only at x0 x1
  have HC:Hid ((V2.alloc (.cells #[.int .i64 z0.type,.int .u32 (AD op z0.type z0.word 0)] 128)).ownsRow B 128 2 (.slice a2 K.length c2) K.length (K.flatMap MC.cells)/\Below V2.heap.size V2 (V2.alloc (.cells #[.int .i64 z0.type,.int .u32 (AD op z0.type z0.word 0)] 128))/\B<=(V2.alloc (.cells #[.int .i64 z0.type,.int .u32 (AD op z0.type z0.word 0)] 128)).heap.size):=⟨Ag (ED.out.own.fam.own (.slice a2 K.length c2,K) (by simp)) (Aa _ _) lR,Aa _ _,Nat.le_trans (Nat.le_trans ED.out.hB ED.out.le) (Aa _ _).size⟩
  go_wp2_with (at_builtin;refine wpList_append_own_at _ rfl _ _ 36 rfl B 128 i0 (.agg #[.int .i64 0,.int .u32 0]) 2 16 Tryz.underlying36 hi hz0 hz1 hz2 rfl (by decide) _ K.length (K.flatMap MC.cells) rfl HC.out.1 ⟨V2.heap.size,0,none⟩ 1 1 (MC.cells ⟨z0.type,AD op z0.type z0.word 0⟩) rfl rfl (CA V2 ⟨z0.type,AD op z0.type z0.word 0⟩ 128) (Be _) ?c1 ?c2 HC.out.2.2 ?_)
  case c1=>unfold maxLen;omega
  case c2=>omega
  all_goals
   intro v' u8 hown hgrow hnil hat;rcases At hown with⟨_,e⟩|⟨g9,c9,rfl⟩
   ·omega
   have hat2:(Value.slice a2 K.length c2).ownBlock=some g9\/g9=(V2.alloc (.cells #[.int .i64 z0.type,.int .u32 (AD op z0.type z0.word 0)] 128)).heap.size:=by
    rcases hat with hat|hat
    ·exact .inl hat.symm
    ·exact .inr (by rw[World.size_alloc];exact Option.some.inj hat)
   have HN:Hid (A7 w (u8.setCell ⟨w.heap.size+1,5,none⟩ (.slice (some ⟨g9,0,none⟩) (K.length+1) c9)) B v t c n _ _ C _ F):=ED.out.push HC.out.2.1 (K':=K++([⟨z0.type,AD op z0.type z0.word 0⟩]:List MC)) hgrow (by rw[List.flatMap_append];simpa using hown) (by simp) hat2;have st8:=(ED.out.keep HC.out.2.1).sb.grown hgrow HC.out.1 (by decide);have y0:=st8.cell 5;have y1:=st8.frozen 5;simp only[gA,gZ,gS]at y0;clear hown hgrow hnil hat hat2 st8 s5 x0 x1;go_upto_region 40 with fail
   refine Af (fun u=>Hid (A7 w u B v t c n _ _ C _ F)) HN ?_;rintro U2 E2;clear HN y0 y1;obtain⟨m0,m1,m2,m3,m4,m5,m6⟩:=E2.out.sb.c7;try dsimp only at m0 m1 m2 m3 m4 m5 m6
   obtain⟨r0,r1,r2,r3,r4,r5,r6⟩:=E2.out.rb.c7;obtain⟨rz0,rz1,rz2,rz3,rz4,rz5,rz6⟩:=E2.out.rb.z7;try dsimp only at r0 r1 r2 r3 r4 r5 r6
   go_wp2_with fail
   have hBw:=E2.out.hB;exact bodyPost_ret (results_cell_row Tryz.results79 _ _ _ 39 _ (0,0) _ rfl (E2.out.rb.w7 _ _ _ _ _ _ _) Tryz.underlying39 rfl (by kernel_rfl)) rfl ⟨⟨.slice a1 C.length c1,.slice (some ⟨g9,0,none⟩) (K.length+1) c9,.slice (some ⟨gf,0,none⟩) (top+1) c3⟩,rfl,E2.out.own.o7 E2.out.rb _ _ _ _ _ _ _,E2.out.bel.s7 (by omega) _ _ _ _ _ _ _⟩
theorem Pf(v:VP)(t c n:Int)(x:VS)(ia ib ic:Int)(C:List (Value×List MC))(K:List MC)(F:List (MG×Value))(B top:Nat)(y:MG×Value)(aa:Option Addr)(ca:Nat)(ar:List MC)(w:World)(hB:B<=w.heap.size)(h:Ah w B x C K F)(hF:F.length=top+1)(hF1:top<=1048576)(hy:F[top]?=some y)(hK:K.length<=1048576)(hal:ar.length=2)(z1:MC)(ha1:ar[1]?=some z1)(hz10:0<=z1.word)(hz11:z1.word<4294967296)(har:w.ownsRow B 128 2 (.slice aa ar.length ca) ar.length (ar.flatMap MC.cells))(z0:MC)(ha0:ar[0]?=some z0)(hap:∀g,(Value.slice aa ar.length ca).ownBlock=some g->some g≠x.k.ownBlock)(hna1:ar.length<=1048576):
 Calls Tryz.prog 79 #[.agg #[v.r,v.k,v.f,v.t],.agg #[.int .i64 t,.bool false,.int .i64 c,.int .i64 n,x.c,x.k,x.f],.agg #[.int .i64 20,.int .i64 ia,.int .i64 ib,.int .i64 ic],.slice aa ar.length ca] w (Dl w B t c n C (K++[⟨1,AD 20 z0.type z0.word z1.word⟩]) F):=by
 have H:=h3 h hF hy;have HA1:Hid (ar[1]?=some z1):=ha1;clear ha1;have HA0:Hid (ar[0]?=some z0/\0<ar.length):=⟨ha0,(gI.1 ha0).1⟩
 rcases At har with⟨_,e⟩|⟨ga,ca',ea⟩
 ·have:=HA0.out.2;omega
 simp only[sJ,true_and]at ea;obtain⟨rfl,rfl⟩:=ea;obtain⟨i0,hi,hz0,hz1,hz2⟩:=info_parts DJ;obtain⟨a1,c1,e1⟩:=Al h.cells;obtain⟨a2,c2,e2⟩:=Al (h.fam.own (x.k,K) (by simp));rcases At h.frames with⟨_,e⟩|⟨gf,c3,e3⟩
 ·omega
 have E0:=A7.of v t c n ⟨20,ia,ib,ic⟩ h hB;obtain⟨vc,vk',vf'⟩:=x;simp only[]at e1 e2 e3;rw[hF]at e3;subst e1 e2 e3;have E1:Hid _:=E0.1;have E1':Hid _:=E0.2;have HAP:=AS hap;have HAR:=AS har;clear E0 h hy hap har ha0;generalize hna:ar.length=na at*;have HNA:Hid (ar.length=na):=hna;have hna0:0<na:=by have:=HA0.out.2;omega
 clear hna;go_enter Tryz.func79,Tryz.ntmps79;go_upto_region 1 with fail
 refine Af (fun u=>Hid (A7 w u B v t c n _ _ C K F/\Below w.heap.size w u)) ⟨E1.out,E1'.out⟩ ?_
 rintro U EE;clear E1 E1';have E1:Hid _:=EE.out.1;have E1':Hid _:=EE.out.2;clear EE;have sb6:=E1.out.sb.cell 6;have ib0:=E1.out.ib.cell 0;simp only[gA,gZ,gS]at sb6 ib0;have HAU:=AS (Ag HAR.out E1'.out lR);have hna1:na=2:=by have:=HNA.out;omega
 subst hna1;have at0:U.cell? ⟨ga,0,none⟩=some (.int .i64 z0.type):=(Fl HAU.out HA0.out.1 HNA.out).1;have aw0:U.cell? ⟨ga,1,none⟩=some (.int .u32 z0.word):=(Fl HAU.out HA0.out.1 HNA.out).2;have aw1:U.cell? ⟨ga,3,none⟩=some (.int .u32 z1.word):=(Fl HAU.out HA1.out HNA.out).2;go_upto_region 7 with fail
 have bD:=Ad U;have bE:Below U.heap.size U (U.alloc (.cells #[.int .i64 0,.int .u32 0] 128)).drew:=Ab (Aa _ _) lR (Ad _);have KD:U.drew.cell? ⟨w.heap.size+1+1,0,none⟩=some (.int .i64 20)/\U.drew.cell? ⟨ga,1,none⟩=some (.int .u32 z0.word):=⟨Ac bD ib0,Ac bD aw0⟩
 have KE:(U.alloc (.cells #[.int .i64 0,.int .u32 0] 128)).drew.cell? ⟨w.heap.size+1+1,0,none⟩=some (.int .i64 20)/\(U.alloc (.cells #[.int .i64 0,.int .u32 0] 128)).drew.cell? ⟨ga,1,none⟩=some (.int .u32 z0.word):=⟨Ac bE ib0,Ac bE aw0⟩
 have ltA:w.heap.size+1+1<U.heap.size:=E1.out.ib.lt;have ltG:ga<U.heap.size:=bL aw0;have BE:Hid (Ap (U.alloc (.cells #[.int .i64 0,.int .u32 0] 128)).drew U.heap.size #[.int .i64 0,.int .u32 0] 128):=(Ap.new U #[.int .i64 0,.int .u32 0] 128).keep (Ad _)
 go_region_held_law (fun w'=>w'.cell? ⟨w.heap.size+1+1,0,none⟩=some (.int .i64 20)/\w'.cell? ⟨ga,1,none⟩=some (.int .u32 z0.word)) (first|exact KD|exact KE|exact KX|exact KW|go_keep) (first
  |(go_at_call 125;refine(DX 20 z0.type z0.word z1.word _ (by omega) (by omega)).mono ?_;rintro e w1 ⟨rfl,b1⟩;have KW:w1.cell? ⟨w.heap.size+1+1,0,none⟩=some (.int .i64 20)/\w1.cell? ⟨ga,1,none⟩=some (.int .u32 z0.word):=(by first|exact⟨Ac b1 KD.1,Ac b1 KD.2⟩|exact⟨Ac b1 KE.1,Ac b1 KE.2⟩);(first|(have BB:Ap w1 U.heap.size #[.int .i64 0,.int .u32 0] 128:=BE.out.keep b1;have yy0:=BB.cell 0;have yy1:=BB.cell 1;have yz0:=BB.frozen 0;have yz1:=BB.frozen 1;have BS:=BB.set 0 (.int .i64 z0.type);have ys1:=BS.cell 1;have ysz:=BS.frozen 1;simp only[sA,List.set_cons_zero,gA,gZ,gS]at yy0 yy1 ys1;have bS0:Below U.heap.size w1 (w1.setCell ⟨U.heap.size,0,none⟩ (.int .i64 z0.type)):=(Below.refl U.heap.size w1).setCell (by simp) _;have bS:Below U.heap.size w1 ((w1.setCell ⟨U.heap.size,0,none⟩ (.int .i64 z0.type)).setCell ⟨U.heap.size,1,none⟩ (.int .u32 (AD 20 z0.type z0.word z1.word))):=bS0.setCell (by simp) _;have BT:Hid (Ap ((w1.setCell ⟨U.heap.size,0,none⟩ (.int .i64 z0.type)).setCell ⟨U.heap.size,1,none⟩ (.int .u32 (AD 20 z0.type z0.word z1.word))) U.heap.size #[.int .i64 z0.type,.int .u32 (AD 20 z0.type z0.word z1.word)] 128):=BS.set 1 (.int .u32 (AD 20 z0.type z0.word z1.word));have KX:((w1.setCell ⟨U.heap.size,0,none⟩ (.int .i64 z0.type)).setCell ⟨U.heap.size,1,none⟩ (.int .u32 (AD 20 z0.type z0.word z1.word))).cell? ⟨w.heap.size+1+1,0,none⟩=some (.int .i64 20)/\((w1.setCell ⟨U.heap.size,0,none⟩ (.int .i64 z0.type)).setCell ⟨U.heap.size,1,none⟩ (.int .u32 (AD 20 z0.type z0.word z1.word))).cell? ⟨ga,1,none⟩=some (.int .u32 z0.word):=⟨(bS.cell (p:=⟨w.heap.size+1+1,0,none⟩) ltA).trans KW.1,(bS.cell (p:=⟨ga,1,none⟩) ltG).trans KW.2⟩)|skip)))
 focus
  have HB1:Hid (Below U.heap.size U w1):=(by first|exact As b1 lR|exact Ab bE lR b1);clear b1 KW bD bE KD KE at0 aw0 ib0 sb6;go_upto_region 8 with fail
  refine Af (fun u=>Hid (Below U.heap.size U u/\Ap u w1.heap.size #[.int .i64 z0.type,.int .u32 (AD 20 z0.type z0.word z1.word)] 128/\U.heap.size<=w1.heap.size)) ⟨Ab HB1.out lR (Aa _ _),Ap.new _ _ _,HB1.out.size⟩ ?_
  rintro V1 EV;generalize hX:w1.heap.size=Xb at⊢;have EV:Hid (Below U.heap.size U V1/\Ap V1 Xb #[.int .i64 z0.type,.int .u32 (AD 20 z0.type z0.word z1.word)] 128/\U.heap.size<=Xb):=by rw[<-hX];exact EV
  clear hX
 rotate_left
 focus
  have HB1:Hid (Below U.heap.size U w1):=(by first|exact As b1 lR|exact Ab bE lR b1);clear b1 KW bD bE KD KE at0 aw0 ib0 sb6;go_upto_region 8 with fail
  refine Af (fun u=>Hid (Below U.heap.size U u/\Ap u U.heap.size _ _/\U.heap.size<=U.heap.size)) ⟨(HB1.out.setCell (by simp) _).setCell (by simp) _,BT.out,Nat.le_refl _⟩ ?_
  rintro V1 EV;generalize hX:U.heap.size=Xb at⊢;have EV:Hid (Below U.heap.size U V1/\Ap V1 Xb #[.int .i64 z0.type,.int .u32 (AD 20 z0.type z0.word z1.word)] 128/\U.heap.size<=Xb):=by rw[<-hX];exact EV
  clear hX
 all_goals
  have v0:=(E1.out.keep EV.out.1).ib.cell 0;simp only[gA,gZ]at v0;have f0:=EV.out.2.1.frozen 0;have d0:=EV.out.2.1.cell 0;simp only[gA,gZ]at d0;have BV:Hid (Below U.heap.size U (V1.setCell ⟨Xb,0,none⟩ (.int .i64 1))/\Ap (V1.setCell ⟨Xb,0,none⟩ (.int .i64 1)) Xb _ _/\U.heap.size<=Xb):=⟨EV.out.1.setCell (by simp only[];exact EV.out.2.2) _,EV.out.2.1.set 0 _,EV.out.2.2⟩
  go_upto_region 10 with fail
  refine Af (fun u=>Hid (Below U.heap.size U u/\Ap u Xb _ _/\U.heap.size<=Xb)) BV ?_
  rintro V2 EW;clear EV BV v0 f0 d0;have ED:=AS (E1.out.keep EW.out.1);have s5:=ED.out.sb.cell 5;obtain⟨x0,x1⟩:=EW.out.2.1.c2;simp only[gA,gZ,gS]at s5;try dsimp only at x0 x1
  have HC:Hid ((V2.alloc (.cells #[.int .i64 1,.int .u32 (AD 20 z0.type z0.word z1.word)] 128)).ownsRow B 128 2 (.slice a2 K.length c2) K.length (K.flatMap MC.cells)/\Below V2.heap.size V2 (V2.alloc (.cells #[.int .i64 1,.int .u32 (AD 20 z0.type z0.word z1.word)] 128))/\B<=(V2.alloc (.cells #[.int .i64 1,.int .u32 (AD 20 z0.type z0.word z1.word)] 128)).heap.size):=⟨Ag (ED.out.own.fam.own (.slice a2 K.length c2,K) (by simp)) (Aa _ _) lR,Aa _ _,Nat.le_trans (Nat.le_trans ED.out.hB ED.out.le) (Aa _ _).size⟩
  go_wp2_with (at_builtin;refine wpList_append_own_at _ rfl _ _ 36 rfl B 128 i0 (.agg #[.int .i64 0,.int .u32 0]) 2 16 Tryz.underlying36 hi hz0 hz1 hz2 rfl (by decide) _ K.length (K.flatMap MC.cells) rfl HC.out.1 ⟨V2.heap.size,0,none⟩ 1 1 (MC.cells ⟨1,AD 20 z0.type z0.word z1.word⟩) rfl rfl (CA V2 ⟨1,AD 20 z0.type z0.word z1.word⟩ 128) (Be _) ?c1 ?c2 HC.out.2.2 ?_)
  case c1=>unfold maxLen;omega
  case c2=>omega
  all_goals
   intro v' u8 hown hgrow hnil hat;rcases At hown with⟨_,e⟩|⟨g9,c9,rfl⟩
   ·omega
   have hat2:(Value.slice a2 K.length c2).ownBlock=some g9\/g9=(V2.alloc (.cells #[.int .i64 1,.int .u32 (AD 20 z0.type z0.word z1.word)] 128)).heap.size:=by
    rcases hat with hat|hat
    ·exact .inl hat.symm
    ·exact .inr (by rw[World.size_alloc];exact Option.some.inj hat)
   have HN:Hid (A7 w (u8.setCell ⟨w.heap.size+1,5,none⟩ (.slice (some ⟨g9,0,none⟩) (K.length+1) c9)) B v t c n _ _ C _ F):=ED.out.push HC.out.2.1 (K':=K++([⟨1,AD 20 z0.type z0.word z1.word⟩]:List MC)) hgrow (by rw[List.flatMap_append];simpa using hown) (by simp) hat2;have st8:=(ED.out.keep HC.out.2.1).sb.grown hgrow HC.out.1 (by decide);have y0:=st8.cell 5;have y1:=st8.frozen 5;simp only[gA,gZ,gS]at y0;clear hown hgrow hnil hat hat2 st8 s5 x0 x1;go_upto_region 40 with fail
   refine Af (fun u=>Hid (A7 w u B v t c n _ _ C _ F)) HN ?_;rintro U2 E2;clear HN y0 y1;obtain⟨m0,m1,m2,m3,m4,m5,m6⟩:=E2.out.sb.c7;try dsimp only at m0 m1 m2 m3 m4 m5 m6
   obtain⟨r0,r1,r2,r3,r4,r5,r6⟩:=E2.out.rb.c7;obtain⟨rz0,rz1,rz2,rz3,rz4,rz5,rz6⟩:=E2.out.rb.z7;try dsimp only at r0 r1 r2 r3 r4 r5 r6
   go_wp2_with fail
   have hBw:=E2.out.hB;exact bodyPost_ret (results_cell_row Tryz.results79 _ _ _ 39 _ (0,0) _ rfl (E2.out.rb.w7 _ _ _ _ _ _ _) Tryz.underlying39 rfl (by kernel_rfl)) rfl ⟨⟨.slice a1 C.length c1,.slice (some ⟨g9,0,none⟩) (K.length+1) c9,.slice (some ⟨gf,0,none⟩) (top+1) c3⟩,rfl,E2.out.own.o7 E2.out.rb _ _ _ _ _ _ _,E2.out.bel.s7 (by omega) _ _ _ _ _ _ _⟩
theorem MR(v:VP)(t c n:Int)(x:VS)(ia ib ic:Int)(C:List (Value×List MC))(K:List MC)(F:List (MG×Value))(B top:Nat)(y:MG×Value)(aa:Option Addr)(ca:Nat)(ar:List MC)(w:World)(hB:B<=w.heap.size)(h:Ah w B x C K F)(hF:F.length=top+1)(hF1:top<=1048576)(hy:F[top]?=some y)(hK:K.length<=1048576)(hal:ar.length=2)(z1:MC)(ha1:ar[1]?=some z1)(hz10:0<=z1.word)(hz11:z1.word<4294967296)(har:w.ownsRow B 128 2 (.slice aa ar.length ca) ar.length (ar.flatMap MC.cells))(z0:MC)(ha0:ar[0]?=some z0)(hap:∀g,(Value.slice aa ar.length ca).ownBlock=some g->some g≠x.k.ownBlock)(hna1:ar.length<=1048576):
 Calls Tryz.prog 79 #[.agg #[v.r,v.k,v.f,v.t],.agg #[.int .i64 t,.bool false,.int .i64 c,.int .i64 n,x.c,x.k,x.f],.agg #[.int .i64 21,.int .i64 ia,.int .i64 ib,.int .i64 ic],.slice aa ar.length ca] w (Dl w B t c n C (K++[⟨1,AD 21 z0.type z0.word z1.word⟩]) F):=by
 have H:=h3 h hF hy;have HA1:Hid (ar[1]?=some z1):=ha1;clear ha1;have HA0:Hid (ar[0]?=some z0/\0<ar.length):=⟨ha0,(gI.1 ha0).1⟩
 rcases At har with⟨_,e⟩|⟨ga,ca',ea⟩
 ·have:=HA0.out.2;omega
 simp only[sJ,true_and]at ea;obtain⟨rfl,rfl⟩:=ea;obtain⟨i0,hi,hz0,hz1,hz2⟩:=info_parts DJ;obtain⟨a1,c1,e1⟩:=Al h.cells;obtain⟨a2,c2,e2⟩:=Al (h.fam.own (x.k,K) (by simp));rcases At h.frames with⟨_,e⟩|⟨gf,c3,e3⟩
 ·omega
 have E0:=A7.of v t c n ⟨21,ia,ib,ic⟩ h hB;obtain⟨vc,vk',vf'⟩:=x;simp only[]at e1 e2 e3;rw[hF]at e3;subst e1 e2 e3;have E1:Hid _:=E0.1;have E1':Hid _:=E0.2;have HAP:=AS hap;have HAR:=AS har;clear E0 h hy hap har ha0;generalize hna:ar.length=na at*;have HNA:Hid (ar.length=na):=hna;have hna0:0<na:=by have:=HA0.out.2;omega
 clear hna;go_enter Tryz.func79,Tryz.ntmps79;go_upto_region 1 with fail
 refine Af (fun u=>Hid (A7 w u B v t c n _ _ C K F/\Below w.heap.size w u)) ⟨E1.out,E1'.out⟩ ?_
 rintro U EE;clear E1 E1';have E1:Hid _:=EE.out.1;have E1':Hid _:=EE.out.2;clear EE;have sb6:=E1.out.sb.cell 6;have ib0:=E1.out.ib.cell 0;simp only[gA,gZ,gS]at sb6 ib0;have HAU:=AS (Ag HAR.out E1'.out lR);have hna1:na=2:=by have:=HNA.out;omega
 subst hna1;have at0:U.cell? ⟨ga,0,none⟩=some (.int .i64 z0.type):=(Fl HAU.out HA0.out.1 HNA.out).1;have aw0:U.cell? ⟨ga,1,none⟩=some (.int .u32 z0.word):=(Fl HAU.out HA0.out.1 HNA.out).2;have aw1:U.cell? ⟨ga,3,none⟩=some (.int .u32 z1.word):=(Fl HAU.out HA1.out HNA.out).2;go_upto_region 7 with fail
 have bD:=Ad U;have bE:Below U.heap.size U (U.alloc (.cells #[.int .i64 0,.int .u32 0] 128)).drew:=Ab (Aa _ _) lR (Ad _);have KD:U.drew.cell? ⟨w.heap.size+1+1,0,none⟩=some (.int .i64 21)/\U.drew.cell? ⟨ga,1,none⟩=some (.int .u32 z0.word):=⟨Ac bD ib0,Ac bD aw0⟩
 have KE:(U.alloc (.cells #[.int .i64 0,.int .u32 0] 128)).drew.cell? ⟨w.heap.size+1+1,0,none⟩=some (.int .i64 21)/\(U.alloc (.cells #[.int .i64 0,.int .u32 0] 128)).drew.cell? ⟨ga,1,none⟩=some (.int .u32 z0.word):=⟨Ac bE ib0,Ac bE aw0⟩
 have ltA:w.heap.size+1+1<U.heap.size:=E1.out.ib.lt;have ltG:ga<U.heap.size:=bL aw0;have BE:Hid (Ap (U.alloc (.cells #[.int .i64 0,.int .u32 0] 128)).drew U.heap.size #[.int .i64 0,.int .u32 0] 128):=(Ap.new U #[.int .i64 0,.int .u32 0] 128).keep (Ad _)
 go_region_held_law (fun w'=>w'.cell? ⟨w.heap.size+1+1,0,none⟩=some (.int .i64 21)/\w'.cell? ⟨ga,1,none⟩=some (.int .u32 z0.word)) (first|exact KD|exact KE|exact KX|exact KW|go_keep) (first
  |(go_at_call 125;refine(DX 21 z0.type z0.word z1.word _ (by omega) (by omega)).mono ?_;rintro e w1 ⟨rfl,b1⟩;have KW:w1.cell? ⟨w.heap.size+1+1,0,none⟩=some (.int .i64 21)/\w1.cell? ⟨ga,1,none⟩=some (.int .u32 z0.word):=(by first|exact⟨Ac b1 KD.1,Ac b1 KD.2⟩|exact⟨Ac b1 KE.1,Ac b1 KE.2⟩);(first|(have BB:Ap w1 U.heap.size #[.int .i64 0,.int .u32 0] 128:=BE.out.keep b1;have yy0:=BB.cell 0;have yy1:=BB.cell 1;have yz0:=BB.frozen 0;have yz1:=BB.frozen 1;have BS:=BB.set 0 (.int .i64 z0.type);have ys1:=BS.cell 1;have ysz:=BS.frozen 1;simp only[sA,List.set_cons_zero,gA,gZ,gS]at yy0 yy1 ys1;have bS0:Below U.heap.size w1 (w1.setCell ⟨U.heap.size,0,none⟩ (.int .i64 z0.type)):=(Below.refl U.heap.size w1).setCell (by simp) _;have bS:Below U.heap.size w1 ((w1.setCell ⟨U.heap.size,0,none⟩ (.int .i64 z0.type)).setCell ⟨U.heap.size,1,none⟩ (.int .u32 (AD 21 z0.type z0.word z1.word))):=bS0.setCell (by simp) _;have BT:Hid (Ap ((w1.setCell ⟨U.heap.size,0,none⟩ (.int .i64 z0.type)).setCell ⟨U.heap.size,1,none⟩ (.int .u32 (AD 21 z0.type z0.word z1.word))) U.heap.size #[.int .i64 z0.type,.int .u32 (AD 21 z0.type z0.word z1.word)] 128):=BS.set 1 (.int .u32 (AD 21 z0.type z0.word z1.word));have KX:((w1.setCell ⟨U.heap.size,0,none⟩ (.int .i64 z0.type)).setCell ⟨U.heap.size,1,none⟩ (.int .u32 (AD 21 z0.type z0.word z1.word))).cell? ⟨w.heap.size+1+1,0,none⟩=some (.int .i64 21)/\((w1.setCell ⟨U.heap.size,0,none⟩ (.int .i64 z0.type)).setCell ⟨U.heap.size,1,none⟩ (.int .u32 (AD 21 z0.type z0.word z1.word))).cell? ⟨ga,1,none⟩=some (.int .u32 z0.word):=⟨(bS.cell (p:=⟨w.heap.size+1+1,0,none⟩) ltA).trans KW.1,(bS.cell (p:=⟨ga,1,none⟩) ltG).trans KW.2⟩)|skip)))
 focus
  have HB1:Hid (Below U.heap.size U w1):=(by first|exact As b1 lR|exact Ab bE lR b1);clear b1 KW bD bE KD KE at0 aw0 ib0 sb6;go_upto_region 8 with fail
  refine Af (fun u=>Hid (Below U.heap.size U u/\Ap u w1.heap.size #[.int .i64 z0.type,.int .u32 (AD 21 z0.type z0.word z1.word)] 128/\U.heap.size<=w1.heap.size)) ⟨Ab HB1.out lR (Aa _ _),Ap.new _ _ _,HB1.out.size⟩ ?_
  rintro V1 EV;generalize hX:w1.heap.size=Xb at⊢;have EV:Hid (Below U.heap.size U V1/\Ap V1 Xb #[.int .i64 z0.type,.int .u32 (AD 21 z0.type z0.word z1.word)] 128/\U.heap.size<=Xb):=by rw[<-hX];exact EV
  clear hX
 rotate_left
 focus
  have HB1:Hid (Below U.heap.size U w1):=(by first|exact As b1 lR|exact Ab bE lR b1);clear b1 KW bD bE KD KE at0 aw0 ib0 sb6;go_upto_region 8 with fail
  refine Af (fun u=>Hid (Below U.heap.size U u/\Ap u U.heap.size _ _/\U.heap.size<=U.heap.size)) ⟨(HB1.out.setCell (by simp) _).setCell (by simp) _,BT.out,Nat.le_refl _⟩ ?_
  rintro V1 EV;generalize hX:U.heap.size=Xb at⊢;have EV:Hid (Below U.heap.size U V1/\Ap V1 Xb #[.int .i64 z0.type,.int .u32 (AD 21 z0.type z0.word z1.word)] 128/\U.heap.size<=Xb):=by rw[<-hX];exact EV
  clear hX
 all_goals
  have v0:=(E1.out.keep EV.out.1).ib.cell 0;simp only[gA,gZ]at v0;have f0:=EV.out.2.1.frozen 0;have d0:=EV.out.2.1.cell 0;simp only[gA,gZ]at d0;have BV:Hid (Below U.heap.size U (V1.setCell ⟨Xb,0,none⟩ (.int .i64 1))/\Ap (V1.setCell ⟨Xb,0,none⟩ (.int .i64 1)) Xb _ _/\U.heap.size<=Xb):=⟨EV.out.1.setCell (by simp only[];exact EV.out.2.2) _,EV.out.2.1.set 0 _,EV.out.2.2⟩
  go_upto_region 10 with fail
  refine Af (fun u=>Hid (Below U.heap.size U u/\Ap u Xb _ _/\U.heap.size<=Xb)) BV ?_
  rintro V2 EW;clear EV BV v0 f0 d0;have ED:=AS (E1.out.keep EW.out.1);have s5:=ED.out.sb.cell 5;obtain⟨x0,x1⟩:=EW.out.2.1.c2;simp only[gA,gZ,gS]at s5;try dsimp only at x0 x1
  have HC:Hid ((V2.alloc (.cells #[.int .i64 1,.int .u32 (AD 21 z0.type z0.word z1.word)] 128)).ownsRow B 128 2 (.slice a2 K.length c2) K.length (K.flatMap MC.cells)/\Below V2.heap.size V2 (V2.alloc (.cells #[.int .i64 1,.int .u32 (AD 21 z0.type z0.word z1.word)] 128))/\B<=(V2.alloc (.cells #[.int .i64 1,.int .u32 (AD 21 z0.type z0.word z1.word)] 128)).heap.size):=⟨Ag (ED.out.own.fam.own (.slice a2 K.length c2,K) (by simp)) (Aa _ _) lR,Aa _ _,Nat.le_trans (Nat.le_trans ED.out.hB ED.out.le) (Aa _ _).size⟩
  go_wp2_with (at_builtin;refine wpList_append_own_at _ rfl _ _ 36 rfl B 128 i0 (.agg #[.int .i64 0,.int .u32 0]) 2 16 Tryz.underlying36 hi hz0 hz1 hz2 rfl (by decide) _ K.length (K.flatMap MC.cells) rfl HC.out.1 ⟨V2.heap.size,0,none⟩ 1 1 (MC.cells ⟨1,AD 21 z0.type z0.word z1.word⟩) rfl rfl (CA V2 ⟨1,AD 21 z0.type z0.word z1.word⟩ 128) (Be _) ?c1 ?c2 HC.out.2.2 ?_)
  case c1=>unfold maxLen;omega
  case c2=>omega
  all_goals
   intro v' u8 hown hgrow hnil hat;rcases At hown with⟨_,e⟩|⟨g9,c9,rfl⟩
   ·omega
   have hat2:(Value.slice a2 K.length c2).ownBlock=some g9\/g9=(V2.alloc (.cells #[.int .i64 1,.int .u32 (AD 21 z0.type z0.word z1.word)] 128)).heap.size:=by
    rcases hat with hat|hat
    ·exact .inl hat.symm
    ·exact .inr (by rw[World.size_alloc];exact Option.some.inj hat)
   have HN:Hid (A7 w (u8.setCell ⟨w.heap.size+1,5,none⟩ (.slice (some ⟨g9,0,none⟩) (K.length+1) c9)) B v t c n _ _ C _ F):=ED.out.push HC.out.2.1 (K':=K++([⟨1,AD 21 z0.type z0.word z1.word⟩]:List MC)) hgrow (by rw[List.flatMap_append];simpa using hown) (by simp) hat2;have st8:=(ED.out.keep HC.out.2.1).sb.grown hgrow HC.out.1 (by decide);have y0:=st8.cell 5;have y1:=st8.frozen 5;simp only[gA,gZ,gS]at y0;clear hown hgrow hnil hat hat2 st8 s5 x0 x1;go_upto_region 40 with fail
   refine Af (fun u=>Hid (A7 w u B v t c n _ _ C _ F)) HN ?_;rintro U2 E2;clear HN y0 y1;obtain⟨m0,m1,m2,m3,m4,m5,m6⟩:=E2.out.sb.c7;try dsimp only at m0 m1 m2 m3 m4 m5 m6
   obtain⟨r0,r1,r2,r3,r4,r5,r6⟩:=E2.out.rb.c7;obtain⟨rz0,rz1,rz2,rz3,rz4,rz5,rz6⟩:=E2.out.rb.z7;try dsimp only at r0 r1 r2 r3 r4 r5 r6
   go_wp2_with fail
   have hBw:=E2.out.hB;exact bodyPost_ret (results_cell_row Tryz.results79 _ _ _ 39 _ (0,0) _ rfl (E2.out.rb.w7 _ _ _ _ _ _ _) Tryz.underlying39 rfl (by kernel_rfl)) rfl ⟨⟨.slice a1 C.length c1,.slice (some ⟨g9,0,none⟩) (K.length+1) c9,.slice (some ⟨gf,0,none⟩) (top+1) c3⟩,rfl,E2.out.own.o7 E2.out.rb _ _ _ _ _ _ _,E2.out.bel.s7 (by omega) _ _ _ _ _ _ _⟩
theorem Py(v:VP)(t c n:Int)(x:VS)(ia ib ic:Int)(C:List (Value×List MC))(K:List MC)(F:List (MG×Value))(B top:Nat)(y:MG×Value)(aa:Option Addr)(ca:Nat)(ar:List MC)(w:World)(hB:B<=w.heap.size)(h:Ah w B x C K F)(hF:F.length=top+1)(hF1:top<=1048576)(hy:F[top]?=some y)(q:Nat)(z:MC)(hia:ia=q)(hq:y.1.locals[q]?=some z)(hnl:y.1.locals.length<=1048576)(har:w.ownsRow B 128 2 (.slice aa ar.length ca) ar.length (ar.flatMap MC.cells))(z0:MC)(ha0:ar[0]?=some z0)(hap:∀r∈C++[(x.k,K)]++AL F,∀g,(Value.slice aa ar.length ca).ownBlock=some g->some g≠r.1.ownBlock)(hna1:ar.length<=1048576):
 Calls Tryz.prog 79 #[.agg #[v.r,v.k,v.f,v.t],.agg #[.int .i64 t,.bool false,.int .i64 c,.int .i64 n,x.c,x.k,x.f],.agg #[.int .i64 3,.int .i64 ia,.int .i64 ib,.int .i64 ic],.slice aa ar.length ca] w (Dl w B t c n C K (F.set top ({y.1 with locals:=y.1.locals.set q z0},y.2))):=by
 have H:=h3 h hF hy;subst hia;have hyo:w.ownsRow B 128 2 y.2 y.1.locals.length (y.1.locals.flatMap MC.cells):=h.fam.own (y.2,y.1.locals) (by simp only[List.mem_append];exact .inr (mG (Bb hy)));have hql:=(gI.1 hq).1;rcases At hyo with⟨_,e⟩|⟨gl,cl,el⟩
 ·omega
 have HL:Hid (y.1.locals[q]?=some z/\y.2=.slice (some ⟨gl,0,none⟩) y.1.locals.length cl/\(y.2,y.1.locals)∈AL F):=⟨hq,el,mG (Bb hy)⟩
 generalize hnl':y.1.locals.length=nl at el hql HL hnl;clear hyo hq hnl' el;have HA0:Hid (ar[0]?=some z0/\0<ar.length):=⟨ha0,(gI.1 ha0).1⟩
 rcases At har with⟨_,e⟩|⟨ga,ca',ea⟩
 ·have:=HA0.out.2;omega
 simp only[sJ,true_and]at ea;obtain⟨rfl,rfl⟩:=ea;obtain⟨a1,c1,e1⟩:=Al h.cells;obtain⟨a2,c2,e2⟩:=Al (h.fam.own (x.k,K) (by simp));rcases At h.frames with⟨_,e⟩|⟨gf,c3,e3⟩
 ·omega
 have E0:=A7.of v t c n ⟨3,q,ib,ic⟩ h hB;obtain⟨vc,vk',vf'⟩:=x;simp only[]at e1 e2 e3;rw[hF]at e3;subst e1 e2 e3;have E1:Hid _:=E0.1;have E1':Hid _:=E0.2;have HAP:=AS hap;have HAR:=AS har;clear E0 h hy hap har ha0;generalize hna:ar.length=na at*;have HNA:Hid (ar.length=na):=hna;have hna0:0<na:=by have:=HA0.out.2;omega
 clear hna;go_enter Tryz.func79,Tryz.ntmps79;go_upto_region 1 with fail
 refine Af (fun u=>Hid (A7 w u B v t c n _ _ C K F/\Below w.heap.size w u)) ⟨E1.out,E1'.out⟩ ?_
 rintro U EE;clear E1 E1';have E1:Hid _:=EE.out.1;have E1':Hid _:=EE.out.2;clear EE;have sb6:=E1.out.sb.cell 6;have ib0:=E1.out.ib.cell 0;simp only[gA,gZ,gS]at sb6 ib0;have HAU:=AS (Ag HAR.out E1'.out lR);have hqI:(q:Int)<(nl:Int):=by omega
 have hmem:(y.2,y.1.locals)∈C++[(Value.slice a2 K.length c2,K)]++AL F:=by simp only[List.mem_append];exact .inr HL.out.2.2
 have HGA:Hid (∀g,(Value.slice (some ⟨ga,0,none⟩) na ca).ownBlock=some g->some g≠some gl):=fun g hg e=>HAP.out _ hmem g hg (by simp only[];rw[HL.out.2.1];exact e)
 have lf:U.cell? ⟨gf,top*4+3,none⟩=some (.slice (some ⟨gl,0,none⟩) nl cl):=by rw[E1.out.own.frm rfl H.out.2.2,HL.out.2.1]
 obtain⟨lt0,lw0⟩:=E1.out.own.rowc hmem HL.out.2.1 HL.out.1;have at0:U.cell? ⟨ga,0,none⟩=some (.int .i64 z0.type):=(Fl HAU.out HA0.out.1 HNA.out).1;have aw0:U.cell? ⟨ga,1,none⟩=some (.int .u32 z0.word):=(Fl HAU.out HA0.out.1 HNA.out).2;have ib1:=E1.out.ib.cell 1;simp only[gA,gZ,gS]at ib1;have hy2:F[top]?=some (y.1,.slice (some ⟨gl,0,none⟩) nl cl):=by rw[H.out.2.2,<-HL.out.2.1]
 have hyE:(({y.1 with locals:=y.1.locals.set q z0},.slice (some ⟨gl,0,none⟩) nl cl):MG×Value)=({y.1 with locals:=y.1.locals.set q z0},y.2):=by rw[HL.out.2.1]
 have bD:=Ad U;have KD:U.drew.cell? ⟨gf,top*4+3,none⟩=some (.slice (some ⟨gl,0,none⟩) nl cl)/\U.drew.cell? ⟨w.heap.size+1+1,1,none⟩=some (.int .i64 q)/\U.drew.cell? ⟨ga,0,none⟩=some (.int .i64 z0.type)/\U.drew.cell? ⟨ga,1,none⟩=some (.int .u32 z0.word):=⟨Ac bD lf,Ac bD ib1,Ac bD at0,Ac bD aw0⟩
 obtain⟨o1,g1⟩:=E1.out.own.setL (Nat.le_trans E1.out.hB E1.out.le) hy2 HL.out.1 z0;rw[hyE]at o1;obtain⟨hBg,curl,hgl⟩:=Bq (by have:=E1.out.own.fam.own _ hmem;simp only[]at this;rw[HL.out.2.1]at this;exact(BG this)▸this);have HN:=AS (E1.out.rows g1 hgl (by decide) (by decide) (by decide) hBg o1);have A9:=Bn HAU.out g1 (HGA.out)
 have KV:((U.setCell ⟨gl,q*2,none⟩ (.int .i64 z0.type)).setCell ⟨gl,q*2+1,none⟩ (.int .u32 z0.word)).drew.cell? ⟨gf,top*4+3,none⟩=some (.slice (some ⟨gl,0,none⟩) nl cl)/\((U.setCell ⟨gl,q*2,none⟩ (.int .i64 z0.type)).setCell ⟨gl,q*2+1,none⟩ (.int .u32 z0.word)).drew.cell? ⟨w.heap.size+1+1,1,none⟩=some (.int .i64 q)/\((U.setCell ⟨gl,q*2,none⟩ (.int .i64 z0.type)).setCell ⟨gl,q*2+1,none⟩ (.int .u32 z0.word)).drew.cell? ⟨ga,0,none⟩=some (.int .i64 z0.type)/\((U.setCell ⟨gl,q*2,none⟩ (.int .i64 z0.type)).setCell ⟨gl,q*2+1,none⟩ (.int .u32 z0.word)).drew.cell? ⟨ga,1,none⟩=some (.int .u32 z0.word):=⟨by have:=HN.out.own.frm rfl (show(F.set top ({y.1 with locals:=y.1.locals.set q z0},y.2))[top]?=some ({y.1 with locals:=y.1.locals.set q z0},y.2)by rw[List.getElem?_set_self (by rw[H.out.2.1];omega)]);rw[HL.out.2.1]at this;exact this,HN.out.ib.cell 1,(Fl A9 HA0.out.1 HNA.out).1,(Fl A9 HA0.out.1 HNA.out).2⟩
 have lt1:U.drew.cell? ⟨gl,q*2,none⟩=some (.int .i64 z.type):=lt0;have lw1:U.drew.cell? ⟨gl,q*2+1,none⟩=some (.int .u32 z.word):=lw0;have zf0:U.drew.frozen? ⟨gl,q*2,none⟩=false:=frozen_of_row U gl (q*2) curl _ hgl;have zf1:U.drew.frozen? ⟨gl,q*2+1,none⟩=false:=frozen_of_row U gl (q*2+1) curl _ hgl;have hg2:=heap_setCell_same U gl (q*2) curl _ (.int .i64 z0.type) hgl
 have lw2:(U.setCell ⟨gl,q*2,none⟩ (.int .i64 z0.type)).drew.cell? ⟨gl,q*2+1,none⟩=some (.int .u32 z.word):=by
  show(U.setCell ⟨gl,q*2,none⟩ (.int .i64 z0.type)).cell? ⟨gl,q*2+1,none⟩=_;rw[cell_of_row _ _ _ _ _ _ hg2,Array.getElem?_setIfInBounds_ne (by omega),<-cell_of_row _ _ _ _ _ _ hgl];exact lw0
 have zf2:(U.setCell ⟨gl,q*2,none⟩ (.int .i64 z0.type)).drew.frozen? ⟨gl,q*2+1,none⟩=false:=frozen_of_row (U.setCell ⟨gl,q*2,none⟩ (.int .i64 z0.type)) gl (q*2+1) _ _ hg2;clear hyE hy2 o1 g1 A9 hgl hg2 bD lf ib1 at0 aw0 lt0 lw0;go_wp2_with fail
 go_region_held_law (fun w'=>w'.cell? ⟨gf,top*4+3,none⟩=some (.slice (some ⟨gl,0,none⟩) nl cl)/\w'.cell? ⟨w.heap.size+1+1,1,none⟩=some (.int .i64 q)/\w'.cell? ⟨ga,0,none⟩=some (.int .i64 z0.type)/\w'.cell? ⟨ga,1,none⟩=some (.int .u32 z0.word)) (first|exact KD|exact KV|go_keep) (fail)
 all_goals
  clear KD lt1 lw1 lw2 zf0 zf1 zf2 ib0 sb6;go_upto_region 40 with fail
  refine Af (fun u=>Hid (A7 w u B v t c n _ _ C K _)) (HN.out.keep (Ad _)) ?_;rintro U2 E2;clear HN;obtain⟨m0,m1,m2,m3,m4,m5,m6⟩:=E2.out.sb.c7;try dsimp only at m0 m1 m2 m3 m4 m5 m6
  obtain⟨r0,r1,r2,r3,r4,r5,r6⟩:=E2.out.rb.c7;obtain⟨rz0,rz1,rz2,rz3,rz4,rz5,rz6⟩:=E2.out.rb.z7;try dsimp only at r0 r1 r2 r3 r4 r5 r6
  go_wp2_with fail
  have hBw:=E2.out.hB;exact bodyPost_ret (results_cell_row Tryz.results79 _ _ _ 39 _ (0,0) _ rfl (E2.out.rb.w7 _ _ _ _ _ _ _) Tryz.underlying39 rfl (by kernel_rfl)) rfl ⟨⟨.slice a1 C.length c1,.slice a2 K.length c2,.slice (some ⟨gf,0,none⟩) (top+1) c3⟩,rfl,E2.out.own.o7 E2.out.rb _ _ _ _ _ _ _,E2.out.bel.s7 (by omega) _ _ _ _ _ _ _⟩
theorem NA(v:VP)(p:MP)(g:VF)(f:MF)(q:Nat)(fq:MF)(b c:Int)(w:World)(hs:f.small)(hps:p.small)(hP:Cx w v p)(hr:CP w g f)(hq:p.funcs[q]?=some fq):Calls Tryz.prog 169 #[.agg #[v.r,v.k,v.f,v.t,g.p,.int .i64 f.result,g.l,g.c],.agg #[.int .i64 28,.int .i64 (q:Int),.int .i64 b,.int .i64 c]] w (Dg w fq.params):=by
 obtain⟨gk,ok,ck,ef0,g',hg',fn0,fn1,fn2,fn3⟩:=NS hP.funcs hq;have hql:=(gI.1 hq).1;obtain⟨r1,r3,k1,k3,t1,t3,f1,f3,rfl⟩:=hP.sl;obtain⟨g1,g3,g4,g6,g7,g9,rfl⟩:=DU hr;have HP:=AS hP;have HR:=AS hr;clear hP hr;simp only[sJ,true_and]at ef0;obtain⟨rfl,hx⟩:=ef0;clear hx;have hfl:=hps.funcs;have hqI:(q:Int)<(p.funcs.length:Int):=by omega
 have E0:Hid (EI w ((w.alloc (.cells #[.slice r1 p.regions.length r3,.slice k1 p.consts.length k3,.slice (some ⟨gk,ok,none⟩) p.funcs.length f3,.slice t1 p.certs.length t3,.slice g1 f.params.length g3,.int .i64 f.result,.slice g4 f.locals.length g6,.slice g7 f.code.length g9] 164)).alloc (.cells #[.int .i64 28,.int .i64 (q:Int),.int .i64 b,.int .i64 c] 134)) _ _ f 28 _ b c):=EI.of w ⟨.slice r1 p.regions.length r3,.slice k1 p.consts.length k3,.slice (some ⟨gk,ok,none⟩) p.funcs.length f3,.slice t1 p.certs.length t3⟩ ⟨.slice g1 f.params.length g3,.slice g4 f.locals.length g6,.slice g7 f.code.length g9⟩ f 28 (q:Int) b c;go_enter Tryz.func169,Tryz.ntmps169;go_upto_region 1 with fail
 refine Af (fun u=>Hid (EI w u _ _ f 28 _ b c)) E0 ?_;rintro U E1;clear E0;obtain⟨i0,i1,i2,i3⟩:=E1.out.ib.c4;obtain⟨s0,s1,s2,s3,s4,s5,s6,s7⟩:=E1.out.sb.c8;try dsimp only at i0 i1 i2 i3 s0 s1 s2 s3 s4 s5 s6 s7
 have c0:=Ac E1.out.bel fn0;obtain⟨pa,pc,ep⟩:=hg'.1.is_slice;have HE:Hid (Dg w fq.params (.returned g'.p) U):=⟨g'.p,rfl,hg'.1.keep E1.out.bel lR,E1.out.bel⟩;rw[ep]at c0 HE;clear fn0 fn1 fn2 fn3;go_wp2_with fail
 go_ret
 exact HE.out
theorem NO(v:VP)(p:MP)(g:VF)(f:MF)(q:Nat)(fq:MF)(b c:Int)(w:World)(hs:f.small)(hps:p.small)(hP:Cx w v p)(hr:CP w g f)(hq:p.funcs[q]?=some fq):Calls Tryz.prog 173 #[.agg #[v.r,v.k,v.f,v.t,g.p,.int .i64 f.result,g.l,g.c],.agg #[.int .i64 28,.int .i64 (q:Int),.int .i64 b,.int .i64 c]] w (Dg w (AR fq)):=by
 obtain⟨gk,ok,ck,ef0,g',hg',fn0,fn1,fn2,fn3⟩:=NS hP.funcs hq;have hql:=(gI.1 hq).1;obtain⟨r1,r3,k1,k3,t1,t3,f1,f3,rfl⟩:=hP.sl;obtain⟨g1,g3,g4,g6,g7,g9,rfl⟩:=DU hr;have HP:=AS hP;have HR:=AS hr;clear hP hr;simp only[sJ,true_and]at ef0;obtain⟨rfl,hx⟩:=ef0;clear hx;have hfl:=hps.funcs;have hqI:(q:Int)<(p.funcs.length:Int):=by omega
 have E0:Hid (EI w ((w.alloc (.cells #[.slice r1 p.regions.length r3,.slice k1 p.consts.length k3,.slice (some ⟨gk,ok,none⟩) p.funcs.length f3,.slice t1 p.certs.length t3,.slice g1 f.params.length g3,.int .i64 f.result,.slice g4 f.locals.length g6,.slice g7 f.code.length g9] 164)).alloc (.cells #[.int .i64 28,.int .i64 (q:Int),.int .i64 b,.int .i64 c] 134)) _ _ f 28 _ b c):=EI.of w ⟨.slice r1 p.regions.length r3,.slice k1 p.consts.length k3,.slice (some ⟨gk,ok,none⟩) p.funcs.length f3,.slice t1 p.certs.length t3⟩ ⟨.slice g1 f.params.length g3,.slice g4 f.locals.length g6,.slice g7 f.code.length g9⟩ f 28 (q:Int) b c;go_enter Tryz.func173,Tryz.ntmps173;go_upto_region 1 with fail
 refine Af (fun u=>Hid (EI w u _ _ f 28 _ b c)) E0 ?_;rintro U E1;clear E0;obtain⟨i0,i1,i2,i3⟩:=E1.out.ib.c4;obtain⟨s0,s1,s2,s3,s4,s5,s6,s7⟩:=E1.out.sb.c8;try dsimp only at i0 i1 i2 i3 s0 s1 s2 s3 s4 s5 s6 s7
 have c0:=Ac E1.out.bel fn0;have c1:=Ac E1.out.bel fn1;have c2:=Ac E1.out.bel fn2;have c3:=Ac E1.out.bel fn3;obtain⟨pa,pc,ep⟩:=hg'.1.is_slice;obtain⟨la,lc,el⟩:=hg'.2.1.is_slice;obtain⟨ca,cc,ec⟩:=hg'.2.2.is_slice;rw[ep]at c0;rw[el]at c2;rw[ec]at c3;clear fn0 fn1 fn2 fn3 ep el ec;go_wp2_with fail
 refine(KT ⟨.slice pa fq.params.length pc,.slice la fq.locals.length lc,.slice ca fq.code.length cc⟩ fq U).mono ?_;rintro e u1 ⟨s,rfl,hrd,b1⟩;have HE:Hid (Dg w (AR fq) (.returned s) u1):=⟨s,rfl,hrd,Ab E1.out.bel lR b1⟩;obtain⟨sa,sc,rfl⟩:=hrd.is_slice;clear hrd b1;go_wp2_with fail
 go_ret
 exact HE.out
theorem OJ(v:VP)(p:MP)(g:VF)(f:MF)(q:Nat)(z:MC)(b c:Int)(w:World)(hs:f.small)(hps:p.small)(hP:Cx w v p)(hr:CP w g f)(hq:p.consts[q]?=some z):Calls Tryz.prog 173 #[.agg #[v.r,v.k,v.f,v.t,g.p,.int .i64 f.result,g.l,g.c],.agg #[.int .i64 1,.int .i64 (q:Int),.int .i64 b,.int .i64 c]] w (Dg w [z.type]):=by
 have hql:=(gI.1 hq).1
 obtain⟨gk,ok,ck,ek0,kc0⟩:∃gk ok ck,v.k=.slice (some ⟨gk,ok,none⟩) p.consts.length ck/\w.cell? ⟨gk,ok+q*2,none⟩=some (.int .i64 z.type):=by
  rcases hP.consts.2 with⟨e,_⟩|⟨gk,ok,ck,e,hc⟩
  ·omega
  ·exact⟨gk,ok,ck,e,Rd.elem MC.cells_length hc q z hq 0 _ rfl⟩
 obtain⟨r1,r3,k1,k3,t1,t3,f1,f3,rfl⟩:=hP.sl;obtain⟨g1,g3,g4,g6,g7,g9,rfl⟩:=DU hr;have HP:=AS hP;have HR:=AS hr;clear hP hr;simp only[sJ,true_and]at ek0;obtain⟨rfl,hx⟩:=ek0;clear hx;have hfl:=hps.consts;have hqI:(q:Int)<(p.consts.length:Int):=by omega
 have E0:Hid (EI w ((w.alloc (.cells #[.slice r1 p.regions.length r3,.slice (some ⟨gk,ok,none⟩) p.consts.length k3,.slice f1 p.funcs.length f3,.slice t1 p.certs.length t3,.slice g1 f.params.length g3,.int .i64 f.result,.slice g4 f.locals.length g6,.slice g7 f.code.length g9] 164)).alloc (.cells #[.int .i64 1,.int .i64 (q:Int),.int .i64 b,.int .i64 c] 134)) _ _ f 1 _ b c):=EI.of w ⟨.slice r1 p.regions.length r3,.slice (some ⟨gk,ok,none⟩) p.consts.length k3,.slice f1 p.funcs.length f3,.slice t1 p.certs.length t3⟩ ⟨.slice g1 f.params.length g3,.slice g4 f.locals.length g6,.slice g7 f.code.length g9⟩ f 1 (q:Int) b c;go_enter Tryz.func173,Tryz.ntmps173;go_upto_region 1 with fail
 refine Af (fun u=>Hid (EI w u _ _ f 1 _ b c)) E0 ?_;rintro U E1;clear E0;obtain⟨i0,i1,i2,i3⟩:=E1.out.ib.c4;obtain⟨s0,s1,s2,s3,s4,s5,s6,s7⟩:=E1.out.sb.c8;try dsimp only at i0 i1 i2 i3 s0 s1 s2 s3 s4 s5 s6 s7
 have c0:=Ac E1.out.bel kc0;clear kc0;go_wp2_with fail
 go_ret
 exact Da E1.out.bel [z.type] 1 1 rfl
theorem Nd(v:VP)(p:MP)(g:VF)(f:MF)(x:MI)(w:World)(hps:p.small)(h3:p.regions.length=3)(hs:f.small)(hP:Cx w v p)(hr:CP w g f)(hx:AN p f x):
 Calls Tryz.prog 169 #[.agg #[v.r,v.k,v.f,v.t,g.p,.int .i64 f.result,g.l,g.c],.agg #[.int .i64 x.op,.int .i64 x.a,.int .i64 x.b,.int .i64 x.c]] w (Dg w (CH p f x)):=by
 obtain⟨op,a,b,c⟩:=x;have hlo:=hx.1;have hhi:=hx.2.1;simp only[]at hlo hhi;have HX:=AS hx;by_cases hsp:op=3\/op=5\/op=7\/op=28\/op=29
 ·clear hlo hhi hx
  rcases hsp with rfl|rfl|rfl|rfl|rfl
  ·obtain⟨q,hq,ht⟩:=HX.out.local (by simp)
   simp only[]at hq ht;subst hq;rw[show CH p f ⟨3,q,b,c⟩=[Av f q]from by simp[CH,Ak]];exact OB v p g f q (Av f q) b c w hs hps hP hr ht
  ·obtain⟨q,z,r,hq,hz,hr',ht⟩:=HX.out.cell h3 (by simp)
   simp only[]at hq hz;subst hq hz;rw[show CH p f ⟨5,q,z,c⟩=[Cf p ⟨5,q,z,c⟩]from by simp[CH,Ak]];exact OR v p g f q z r _ c w hs hps hP hr hr' ht
  ·obtain⟨q,z,r,hq,hz,hr',ht⟩:=HX.out.cell h3 (by simp)
   simp only[]at hq hz;subst hq hz;rw[show CH p f ⟨7,q,z,c⟩=[3,Cf p ⟨7,q,z,c⟩]from by simp[CH,Ak]];exact O0 v p g f q z r _ c w hs hps hP hr hr' ht
  ·obtain⟨q,fq,hq,hfq⟩:=HX.out.callee rfl
   simp only[]at hq;subst hq;rw[show CH p f ⟨28,q,b,c⟩=fq.params from by simp[CH,Ak,hfq]];exact NA v p g f q fq b c w hs hps hP hr hfq
  ·rw[show CH p f ⟨29,a,b,c⟩=AR f from by simp[CH]]
   exact NW v p g f 0 a b c w hs hps hP hr
 ·have hcase:op=0\/op=1\/op=2\/op=4\/op=6\/op=8\/op=9\/op=10\/op=11\/op=12\/op=13\/op=14\/op=15\/op=16\/op=17\/op=18\/op=19\/op=20\/op=21\/op=22\/op=23\/op=24\/op=25\/op=26\/op=27:=by omega
  clear hlo hhi hx hsp;rcases hcase with rfl|rfl|rfl|rfl|rfl|rfl|rfl|rfl|rfl|rfl|rfl|rfl|rfl|rfl|rfl|rfl|rfl|rfl|rfl|rfl|rfl|rfl|rfl|rfl|rfl
  all_goals exact PM v g f _ a b c _ w (by simp[CH,Ak])
theorem M9(v:VP)(p:MP)(g:VF)(f:MF)(x:MI)(w:World)(hps:p.small)(h3:p.regions.length=3)(hs:f.small)(hP:Cx w v p)(hr:CP w g f)(hx:AN p f x):
 Calls Tryz.prog 173 #[.agg #[v.r,v.k,v.f,v.t,g.p,.int .i64 f.result,g.l,g.c],.agg #[.int .i64 x.op,.int .i64 x.a,.int .i64 x.b,.int .i64 x.c]] w (Dg w (Ay p f x)):=by
 obtain⟨op,a,b,c⟩:=x;have hlo:=hx.1;have hhi:=hx.2.1;simp only[]at hlo hhi;have HX:=AS hx;by_cases hsp:op=1\/op=2\/op=4\/op=6\/op=28
 ·clear hlo hhi hx
  rcases hsp with rfl|rfl|rfl|rfl|rfl
  ·obtain⟨q,z,hq,hz⟩:=HX.out.const rfl
   simp only[]at hq;subst hq;rw[show Ay p f ⟨1,q,b,c⟩=[z.type]from by simp[Ay,Cn,hz]];exact OJ v p g f q z b c w hs hps hP hr hz
  ·obtain⟨q,hq,ht⟩:=HX.out.local (by simp)
   simp only[]at hq ht;subst hq;rw[show Ay p f ⟨2,q,b,c⟩=[Av f q]from by simp[Ay]];exact OM v p g f q (Av f q) b c w hs hps hP hr ht
  ·obtain⟨q,z,r,hq,hz,hr',ht⟩:=HX.out.cell h3 (by simp)
   simp only[]at hq hz;subst hq hz;rw[show Ay p f ⟨4,q,z,c⟩=[Cf p ⟨4,q,z,c⟩]from by simp[Ay]];exact Oj v p g f q z r _ c w hs hps hP hr hr' ht
  ·obtain⟨q,z,r,hq,hz,hr',ht⟩:=HX.out.cell h3 (by simp)
   simp only[]at hq hz;subst hq hz;rw[show Ay p f ⟨6,q,z,c⟩=[Cf p ⟨6,q,z,c⟩]from by simp[Ay]];exact Pi v p g f q z r _ c w hs hps hP hr hr' ht
  ·obtain⟨q,fq,hq,hfq⟩:=HX.out.callee rfl
   simp only[]at hq;subst hq;rw[show Ay p f ⟨28,q,b,c⟩=AR fq from by simp[Ay,hfq]];exact NO v p g f q fq b c w hs hps hP hr hfq
 ·have hcase:op=0\/op=3\/op=5\/op=7\/op=8\/op=9\/op=10\/op=11\/op=12\/op=13\/op=14\/op=15\/op=16\/op=17\/op=18\/op=19\/op=20\/op=21\/op=22\/op=23\/op=24\/op=25\/op=26\/op=27\/op=29:=by omega
  clear hlo hhi hx hsp;rcases hcase with rfl|rfl|rfl|rfl|rfl|rfl|rfl|rfl|rfl|rfl|rfl|rfl|rfl|rfl|rfl|rfl|rfl|rfl|rfl|rfl|rfl|rfl|rfl|rfl|rfl
  all_goals exact Pz v g f _ a b c _ w (by simp[Ay])
theorem NT(v:VP)(p:MP)(g:VF)(f:MF)(x:MI)(w:World)(hs:p.small)(h3:p.regions.length=3)(hfs:f.small)(hxw:x.wf)(h:Cx w v p)(hf:CP w g f)(hx:AN p f x):
 Calls Tryz.prog 77 #[.agg #[v.r,v.k,v.f,v.t],.agg #[g.p,.int .i64 f.result,g.l,g.c],.agg #[.int .i64 x.op,.int .i64 x.a,.int .i64 x.b,.int .i64 x.c]] w (Dq w (Ak p f x) (Ay p f x)):=by
 obtain⟨op,a,b,c⟩:=x;have hlo:=hx.1;have hhi:=hx.2.1;simp only[]at hlo hhi;have HX:=AS hx;have hW:Dr a:=hxw.2.1;have hcase:op=0\/op=1\/op=2\/op=3\/op=4\/op=5\/op=6\/op=7\/op=8\/op=9\/op=10\/op=11\/op=12\/op=13\/op=14\/op=15\/op=16\/op=17\/op=18\/op=19\/op=20\/op=21\/op=22\/op=23\/op=24\/op=25\/op=26\/op=27\/op=28\/op=29:=by omega
 clear hlo hhi hx hxw;rcases hcase with rfl|rfl|rfl|rfl|rfl|rfl|rfl|rfl|rfl|rfl|rfl|rfl|rfl|rfl|rfl|rfl|rfl|rfl|rfl|rfl|rfl|rfl|rfl|rfl|rfl|rfl|rfl|rfl|rfl|rfl
 ·rw[show Ak p f ⟨0,a,b,c⟩=[]from by simp[Ak],show Ay p f ⟨0,a,b,c⟩=[]from by simp[Ay]]
  exact Cg v.r v.k v.f v.t g.p g.l g.c f _ 0 a b c _ _ w (by simp)
 ·obtain⟨q,z,hq,hz⟩:=HX.out.const rfl
  simp only[]at hq;subst hq;obtain⟨ak,ck,ek⟩:=h.consts.is_slice;rw[show Ak p f ⟨1,q,b,c⟩=[]from by simp[Ak],show Ay p f ⟨1,q,b,c⟩=[z.type]from by simp[Ay,Cn,hz],ek];exact PE v.r v.f v.t g.p g.l g.c f p.consts ak ck q z b c w hs.consts (ek▸h.consts) hz
 ·rw[show Ak p f ⟨2,a,b,c⟩=[]from by simp[Ak],show Ay p f ⟨2,a,b,c⟩=[Av f a]from by simp[Ay]]
  exact Pq v.r v.k v.f v.t g f a b c w hfs hW hf
 ·rw[show Ak p f ⟨3,a,b,c⟩=[Av f a]from by simp[Ak],show Ay p f ⟨3,a,b,c⟩=[]from by simp[Ay]]
  exact Pv v.r v.k v.f v.t g f a b c w hfs hW hf
 ·obtain⟨q,z,r,hq,hz,hr,ht⟩:=HX.out.cell h3 (by simp)
  simp only[]at hq hz;subst hq hz;obtain⟨xs,e1,e2,e3⟩:=h.regions;obtain⟨ar,cr,er⟩:=e2.is_slice;rw[show Ak p f ⟨4,q,z,c⟩=[]from by simp[Ak],show Ay p f ⟨4,q,z,c⟩=[Cf p ⟨4,q,z,c⟩]from by simp[Ay],er];exact P9 v.k v.f v.t g.p g.l g.c f p.regions ar cr q z r _ c w hs.regions (hs.region r (mG hr)) (er▸h.regions) hr ht
 ·obtain⟨q,z,r,hq,hz,hr,ht⟩:=HX.out.cell h3 (by simp)
  simp only[]at hq hz;subst hq hz;obtain⟨xs,e1,e2,e3⟩:=h.regions;obtain⟨ar,cr,er⟩:=e2.is_slice;rw[show Ak p f ⟨5,q,z,c⟩=[Cf p ⟨5,q,z,c⟩]from by simp[Ak],show Ay p f ⟨5,q,z,c⟩=[]from by simp[Ay],er];exact P6 v.k v.f v.t g.p g.l g.c f p.regions ar cr q z r _ c w hs.regions (hs.region r (mG hr)) (er▸h.regions) hr ht
 ·obtain⟨q,z,r,hq,hz,hr,ht⟩:=HX.out.cell h3 (by simp)
  simp only[]at hq hz;subst hq hz;obtain⟨xs,e1,e2,e3⟩:=h.regions;obtain⟨ar,cr,er⟩:=e2.is_slice;rw[show Ak p f ⟨6,q,z,c⟩=[3]from by simp[Ak],show Ay p f ⟨6,q,z,c⟩=[Cf p ⟨6,q,z,c⟩]from by simp[Ay],er];exact Pt v.k v.f v.t g.p g.l g.c f p.regions ar cr q z r _ c w hs.regions (hs.region r (mG hr)) (er▸h.regions) hr ht
 ·obtain⟨q,z,r,hq,hz,hr,ht⟩:=HX.out.cell h3 (by simp)
  simp only[]at hq hz;subst hq hz;obtain⟨xs,e1,e2,e3⟩:=h.regions;obtain⟨ar,cr,er⟩:=e2.is_slice;rw[show Ak p f ⟨7,q,z,c⟩=[3,Cf p ⟨7,q,z,c⟩]from by simp[Ak],show Ay p f ⟨7,q,z,c⟩=[]from by simp[Ay],er];exact PQ v.k v.f v.t g.p g.l g.c f p.regions ar cr q z r _ c w hs.regions (hs.region r (mG hr)) (er▸h.regions) hr ht
 ·rw[show Ak p f ⟨8,a,b,c⟩=[a,a]from by simp[Ak],show Ay p f ⟨8,a,b,c⟩=[a]from by simp[Ay]]
  exact Cg v.r v.k v.f v.t g.p g.l g.c f _ 5 a b c _ _ w (by simp)
 ·rw[show Ak p f ⟨9,a,b,c⟩=[a,a]from by simp[Ak],show Ay p f ⟨9,a,b,c⟩=[a]from by simp[Ay]]
  exact Cg v.r v.k v.f v.t g.p g.l g.c f _ 5 a b c _ _ w (by simp)
 ·rw[show Ak p f ⟨10,a,b,c⟩=[a,a]from by simp[Ak],show Ay p f ⟨10,a,b,c⟩=[a]from by simp[Ay]]
  exact Cg v.r v.k v.f v.t g.p g.l g.c f _ 5 a b c _ _ w (by simp)
 ·rw[show Ak p f ⟨11,a,b,c⟩=[a,a]from by simp[Ak],show Ay p f ⟨11,a,b,c⟩=[a]from by simp[Ay]]
  exact Cg v.r v.k v.f v.t g.p g.l g.c f _ 5 a b c _ _ w (by simp)
 ·rw[show Ak p f ⟨12,a,b,c⟩=[a,a]from by simp[Ak],show Ay p f ⟨12,a,b,c⟩=[a]from by simp[Ay]]
  exact Cg v.r v.k v.f v.t g.p g.l g.c f _ 5 a b c _ _ w (by simp)
 ·rw[show Ak p f ⟨13,a,b,c⟩=[a,a]from by simp[Ak],show Ay p f ⟨13,a,b,c⟩=[a]from by simp[Ay]]
  exact Cg v.r v.k v.f v.t g.p g.l g.c f _ 6 a b c _ _ w (by simp)
 ·rw[show Ak p f ⟨14,a,b,c⟩=[a,a]from by simp[Ak],show Ay p f ⟨14,a,b,c⟩=[a]from by simp[Ay]]
  exact Cg v.r v.k v.f v.t g.p g.l g.c f _ 6 a b c _ _ w (by simp)
 ·rw[show Ak p f ⟨15,a,b,c⟩=[a,a]from by simp[Ak],show Ay p f ⟨15,a,b,c⟩=[a]from by simp[Ay]]
  exact Cg v.r v.k v.f v.t g.p g.l g.c f _ 6 a b c _ _ w (by simp)
 ·rw[show Ak p f ⟨16,a,b,c⟩=[a]from by simp[Ak],show Ay p f ⟨16,a,b,c⟩=[a]from by simp[Ay]]
  exact Cg v.r v.k v.f v.t g.p g.l g.c f _ 6 a b c _ _ w (by simp)
 ·rw[show Ak p f ⟨17,a,b,c⟩=[3,3]from by simp[Ak],show Ay p f ⟨17,a,b,c⟩=[3]from by simp[Ay]]
  exact Cg v.r v.k v.f v.t g.p g.l g.c f _ 0 a b c _ _ w (by simp)
 ·rw[show Ak p f ⟨18,a,b,c⟩=[3,3]from by simp[Ak],show Ay p f ⟨18,a,b,c⟩=[3]from by simp[Ay]]
  exact Cg v.r v.k v.f v.t g.p g.l g.c f _ 0 a b c _ _ w (by simp)
 ·rw[show Ak p f ⟨19,a,b,c⟩=[2]from by simp[Ak],show Ay p f ⟨19,a,b,c⟩=[2]from by simp[Ay]]
  exact Cg v.r v.k v.f v.t g.p g.l g.c f _ 0 a b c _ _ w (by simp)
 ·rw[show Ak p f ⟨20,a,b,c⟩=[a,a]from by simp[Ak],show Ay p f ⟨20,a,b,c⟩=[1]from by simp[Ay]]
  exact Cg v.r v.k v.f v.t g.p g.l g.c f _ 7 a b c _ _ w (by simp)
 ·rw[show Ak p f ⟨21,a,b,c⟩=[a,a]from by simp[Ak],show Ay p f ⟨21,a,b,c⟩=[1]from by simp[Ay]]
  exact Cg v.r v.k v.f v.t g.p g.l g.c f _ 5 a b c _ _ w (by simp)
 ·rw[show Ak p f ⟨22,a,b,c⟩=[a]from by simp[Ak],show Ay p f ⟨22,a,b,c⟩=[b]from by simp[Ay]]
  exact Cg v.r v.k v.f v.t g.p g.l g.c f _ 8 a b c _ _ w (by simp)
 ·rw[show Ak p f ⟨23,a,b,c⟩=[0]from by simp[Ak],show Ay p f ⟨23,a,b,c⟩=[0,0]from by simp[Ay]]
  exact Cg v.r v.k v.f v.t g.p g.l g.c f _ 0 a b c _ _ w (by simp)
 ·rw[show Ak p f ⟨24,a,b,c⟩=[0]from by simp[Ak],show Ay p f ⟨24,a,b,c⟩=[]from by simp[Ay]]
  exact Cg v.r v.k v.f v.t g.p g.l g.c f _ 0 a b c _ _ w (by simp)
 ·rw[show Ak p f ⟨25,a,b,c⟩=[]from by simp[Ak],show Ay p f ⟨25,a,b,c⟩=[]from by simp[Ay]]
  exact Cg v.r v.k v.f v.t g.p g.l g.c f _ 9 a b c _ _ w (by simp)
 ·rw[show Ak p f ⟨26,a,b,c⟩=[1]from by simp[Ak],show Ay p f ⟨26,a,b,c⟩=[]from by simp[Ay]]
  exact Cg v.r v.k v.f v.t g.p g.l g.c f _ 9 a b c _ _ w (by simp)
 ·rw[show Ak p f ⟨27,a,b,c⟩=[]from by simp[Ak],show Ay p f ⟨27,a,b,c⟩=[]from by simp[Ay]]
  exact Cg v.r v.k v.f v.t g.p g.l g.c f _ 10 a b c _ _ w (by simp)
 ·obtain⟨q,fq,hq,hfq⟩:=HX.out.callee rfl
  simp only[]at hq;subst hq;obtain⟨xs,e1,e2,e3⟩:=h.funcs;obtain⟨af,cf,ef⟩:=e2.is_slice;rw[show Ak p f ⟨28,q,b,c⟩=fq.params from by simp[Ak,hfq],show Ay p f ⟨28,q,b,c⟩=AR fq from by simp[Ay,hfq],ef];exact Ox v.r v.k v.t g.p g.l g.c f p.funcs af cf q fq b c w hs.funcs (hs.func fq (mG hfq)) (ef▸h.funcs) hfq
 ·rw[show Ak p f ⟨29,a,b,c⟩=[]from by simp[Ak],show Ay p f ⟨29,a,b,c⟩=[]from by simp[Ay]]
  exact Cg v.r v.k v.f v.t g.p g.l g.c f _ 0 a b c _ _ w (by simp)
end Go.Proofs.YtlejplpkomddeaaGreat
