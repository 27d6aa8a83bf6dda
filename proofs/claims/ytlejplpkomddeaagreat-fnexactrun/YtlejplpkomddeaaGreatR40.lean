import Derived.Test.YtlejplpkomddeaaGreatR0
import Derived.Test.YtlejplpkomddeaaGreatR4
import Derived.Test.YtlejplpkomddeaaGreatR11
import Derived.Test.YtlejplpkomddeaaGreatR34
import Derived.Deep.RegionHeldLaw
import Derived.Deep.RegionLaw
import Derived.Deep.AppendLies
namespace Go.Proofs.YtlejplpkomddeaaGreat
open Go.ChangeShapes Go.WideShapes Go.ChangeAt Go.RowKit
set_option linter.unusedVariables false
set_option maxHeartbeats 8000000
set_option maxRecDepth 100000
theorem Oi(v:VP)(t c n:Int)(x:VS)(ia ib ic:Int)(C:List (Value×List MC))(K:List MC)(F:List (MG×Value))(B top:Nat)(y:MG×Value)(aa:Option Addr)(ca:Nat)(ar:List MC)(w:World)(hB:B<=w.heap.size)(h:Ah w B x C K F)(hF:F.length=top+1)(hF1:top<=1048576)(hy:F[top]?=some y)(q:Nat)(z:MC)(hia:ia=q)(hq:y.1.locals[q]?=some z)(hnl:y.1.locals.length<=1048576)(hz0:0<=z.word)(hz1:z.word<=4294967295):
 Calls Tryz.prog 79 #[.agg #[v.r,v.k,v.f,v.t],.agg #[.int .i64 t,.bool false,.int .i64 c,.int .i64 n,x.c,x.k,x.f],.agg #[.int .i64 27,.int .i64 ia,.int .i64 ib,.int .i64 ic],.slice aa ar.length ca] w (Dl w B t c n C K (if z.word=0 then F.set top ({y.1 with at_:=ic},y.2)else F.set top ({y.1 with locals:=y.1.locals.set q ⟨z.type,z.word-1⟩},y.2))):=by
 have H:Hid (Ah w B x C K F/\F.length=top+1/\F[top]?=some y):=⟨h,hF,hy⟩
 subst hia;have hyo:w.ownsRow B 128 2 y.2 y.1.locals.length (y.1.locals.flatMap MC.cells):=h.fam.own (y.2,y.1.locals) (by simp only[List.mem_append];exact .inr (mG (Bb hy)));have hql:=(gI.1 hq).1;rcases At hyo with⟨_,e⟩|⟨gl,cl,el⟩
 ·omega
 have HL:Hid (y.1.locals[q]?=some z/\y.2=.slice (some ⟨gl,0,none⟩) y.1.locals.length cl/\(y.2,y.1.locals)∈AL F):=⟨hq,el,mG (Bb hy)⟩
 generalize hnl':y.1.locals.length=nl at el hql HL hnl;clear hyo hq hnl' el;obtain⟨a1,c1,e1⟩:=Al h.cells;obtain⟨a2,c2,e2⟩:=Al (h.fam.own (x.k,K) (by simp));rcases At h.frames with⟨_,e⟩|⟨gf,c3,e3⟩
 ·omega
 have E0:=A7.of v t c n ⟨27,q,ib,ic⟩ h hB;obtain⟨vc,vk',vf'⟩:=x;simp only[]at e1 e2 e3;rw[hF]at e3;subst e1 e2 e3;have E1:Hid _:=E0.1;have E1':Hid _:=E0.2;clear E0 h hy;generalize ar.length=na at*;go_enter Tryz.func79,Tryz.ntmps79;go_upto_region 1 with fail
 refine Af (fun u=>Hid (A7 w u B v t c n ⟨.slice a1 C.length c1,.slice a2 K.length c2,.slice (some ⟨gf,0,none⟩) (top+1) c3⟩ ⟨27,q,ib,ic⟩ C K F/\Below w.heap.size w u)) ⟨E1.out,E1'.out⟩ ?_
 rintro U EE;clear E1 E1';have E1:Hid _:=EE.out.1;have E1':Hid _:=EE.out.2;clear EE;have sb6:=E1.out.sb.cell 6;have ib0:=E1.out.ib.cell 0;simp only[gA,gZ,gS]at sb6 ib0;have hqI:(q:Int)<(nl:Int):=by omega
 have hmem:(y.2,y.1.locals)∈C++[(Value.slice a2 K.length c2,K)]++AL F:=by simp only[List.mem_append];exact .inr HL.out.2.2
 have HRE:Hid (∀u,A7 w u B v t c n ⟨.slice a1 C.length c1,.slice a2 K.length c2,.slice (some ⟨gf,0,none⟩) (top+1) c3⟩ ⟨27,q,ib,ic⟩ C K F->u.cell? ⟨gf,top*4+3,none⟩=some (.slice (some ⟨gl,0,none⟩) nl cl)/\u.cell? ⟨w.heap.size+1+1,1,none⟩=some (.int .i64 q)/\u.cell? ⟨gl,q*2+1,none⟩=some (.int .u32 z.word)):=fun u E=>⟨by rw[E.own.frm rfl H.out.2.2,HL.out.2.1],E.ib.cell 1,(E.own.rowc hmem HL.out.2.1 HL.out.1).2⟩
 have KD:=HRE.out _ (E1.out.keep (Ad U));by_cases hw:z.word=0
 ·rw[if_pos hw]
  rw[hw]at KD;have HW0:Hid (z.word=0):=hw;clear hw hz0 hz1;go_wp2_with fail
  go_region_held_law (fun w'=>w'.cell? ⟨gf,top*4+3,none⟩=some (.slice (some ⟨gl,0,none⟩) nl cl)/\w'.cell? ⟨w.heap.size+1+1,1,none⟩=some (.int .i64 q)/\w'.cell? ⟨gl,q*2+1,none⟩=some (.int .u32 0)) (first|exact KD|go_keep) (fail)
  go_upto_region 36 with fail
  refine Af (fun u=>Hid (A7 w u B v t c n ⟨.slice a1 C.length c1,.slice a2 K.length c2,.slice (some ⟨gf,0,none⟩) (top+1) c3⟩ ⟨27,q,ib,ic⟩ C K F/\True)) ⟨E1.out.keep (Ad U),trivial⟩ ?_
  rintro U0 EE;clear E1 KD E1' sb6 ib0;have E1:Hid _:=EE.out.1;clear EE;have ib3:=E1.out.ib.cell 3;simp only[gA,gZ,gS]at ib3;have ho:=E1.out.own.frames;simp only[]at ho;rw[hF]at ho;have fc:=ho.cellAt (top*4+1) (by omega);have ff:=ho.frozenAt (top*4+1);rw[AF AA 4 Au F top 1 y H.out.2.2 (by omega)]at fc;obtain⟨hBg,curf,hgf⟩:=Bq ho;have HGF:Hid (B<=gf/\∃cur,Ap U0 gf cur 123):=⟨hBg,_,hgf⟩
  clear ho hgf hBg;go_upto_region 40 with fail
  refine Af (fun u=>Hid (A7 w u B v t c n ⟨.slice a1 C.length c1,.slice a2 K.length c2,.slice (some ⟨gf,0,none⟩) (top+1) c3⟩ ⟨27,q,ib,ic⟩ C K (F.set top ({y.1 with at_:=ic},y.2)))) ?_ ?_
  ·obtain⟨o1,g1⟩:=E1.out.own.setAt rfl H.out.2.2 ic
   obtain⟨hBg,cur,hgf⟩:=HGF.out;exact E1.out.rows g1 hgf (by decide) (by decide) (by decide) hBg o1
  rintro U2 E2;clear fc ff ib3;obtain⟨m0,m1,m2,m3,m4,m5,m6⟩:=E2.out.sb.c7;try dsimp only at m0 m1 m2 m3 m4 m5 m6
  obtain⟨r0,r1,r2,r3,r4,r5,r6⟩:=E2.out.rb.c7;obtain⟨rz0,rz1,rz2,rz3,rz4,rz5,rz6⟩:=E2.out.rb.z7;try dsimp only at r0 r1 r2 r3 r4 r5 r6
  go_wp2_with fail
  have hBw:=E2.out.hB;exact bodyPost_ret (results_cell_row Tryz.results79 _ _ _ 39 _ (0,0) _ rfl (E2.out.rb.w7 _ _ _ _ _ _ _) Tryz.underlying39 rfl (by kernel_rfl)) rfl ⟨⟨.slice a1 C.length c1,.slice a2 K.length c2,.slice (some ⟨gf,0,none⟩) (top+1) c3⟩,rfl,E2.out.own.o7 E2.out.rb _ _ _ _ _ _ _,E2.out.bel.s7 (by omega) _ _ _ _ _ _ _⟩
 ·rw[if_neg hw]
  have hw':(z.word==0)=false:=by simpa using hw
  have hwr:IntKind.u32.wrap (z.word-1)=z.word-1:=by rw[IntKind.wrap_u32];omega
  go_wp2_with fail
  go_region_held_law (fun w'=>w'.cell? ⟨gf,top*4+3,none⟩=some (.slice (some ⟨gl,0,none⟩) nl cl)/\w'.cell? ⟨w.heap.size+1+1,1,none⟩=some (.int .i64 q)/\w'.cell? ⟨gl,q*2+1,none⟩=some (.int .u32 z.word)) (first|exact KD|go_keep) (fail)
  go_upto_region 37 with fail
  refine Af (fun u=>Hid (A7 w u B v t c n ⟨.slice a1 C.length c1,.slice a2 K.length c2,.slice (some ⟨gf,0,none⟩) (top+1) c3⟩ ⟨27,q,ib,ic⟩ C K F/\True)) ⟨E1.out.keep (Ad U),trivial⟩ ?_
  rintro U0 EE;clear E1 KD E1' sb6 ib0;have E1:Hid _:=EE.out.1;clear EE;have KD:=HRE.out _ (E1.out.keep (Ad U0));have hy2:F[top]?=some (y.1,.slice (some ⟨gl,0,none⟩) nl cl):=by rw[H.out.2.2,<-HL.out.2.1]
  have hyE:(({y.1 with locals:=y.1.locals.set q ⟨z.type,z.word-1⟩},.slice (some ⟨gl,0,none⟩) nl cl):MG×Value)=({y.1 with locals:=y.1.locals.set q ⟨z.type,z.word-1⟩},y.2):=by rw[HL.out.2.1]
  obtain⟨o1,g1⟩:=E1.out.own.setLW (Nat.le_trans E1.out.hB E1.out.le) hy2 HL.out.1 (z.word-1);rw[hyE]at o1;obtain⟨hBg,curl,hgl⟩:=Bq (by have:=E1.out.own.fam.own _ hmem;simp only[]at this;rw[HL.out.2.1]at this;exact(BG this)▸this);have HN:=AS (E1.out.rows g1 hgl (by decide) (by decide) (by decide) hBg o1);have zf1:U0.drew.frozen? ⟨gl,q*2+1,none⟩=false:=frozen_of_row U0 gl (q*2+1) curl _ hgl;obtain⟨kd1,kd2,kd3⟩:=KD;clear hyE hy2 o1 g1;have KD:U0.drew.cell? ⟨gf,top*4+3,none⟩=some (.slice (some ⟨gl,0,none⟩) nl cl)/\U0.drew.cell? ⟨w.heap.size+1+1,1,none⟩=some (.int .i64 q)/\U0.drew.cell? ⟨gl,q*2+1,none⟩=some (.int .u32 z.word):=⟨kd1,kd2,kd3⟩
  refine wp_region_held_drew (S:=fun w'=>w'.cell? ⟨gf,top*4+3,none⟩=some (.slice (some ⟨gl,0,none⟩) nl cl)/\w'.cell? ⟨w.heap.size+1+1,1,none⟩=some (.int .i64 q)) (by kernel_rfl) ⟨kd1,kd2⟩ (fun hHeld=> ?_)
  refine wpAnyH_take (i:=0) (v:= ?_) rfl (by kernel_rfl) (by kernel_rfl) (by kernel_rfl) (fun _ _ _ h=>h) (Or.inl ⟨by rfl,?_⟩) (by assumption) ?_;rotate_left
  ·(intro w hSw;(try dsimp only at hSw);go_simp;(try with_reducible rfl))
  refine wpAnyH_take (i:=1) (v:= ?_) rfl (by kernel_rfl) (by kernel_rfl) (by kernel_rfl) (fun _ _ _ h=>h) (Or.inl ⟨by rfl,?_⟩) (by assumption) ?_;rotate_left
  ·(intro w hSw;(try dsimp only at hSw);go_simp;(try with_reducible rfl))
  refine wpAnyH_take (i:=2) (v:= ?_) rfl (by kernel_rfl) (by kernel_rfl) (by kernel_rfl) (fun _ _ _ h=>h) (Or.inl ⟨by rfl,?_⟩) (by assumption) ?_;rotate_left
  ·(intro w hSw;(try dsimp only at hSw);go_simp;(try with_reducible rfl))
  refine wpAnyH_take (i:=3) (v:= ?_) rfl (by kernel_rfl) (by kernel_rfl) (by kernel_rfl) (fun _ _ _ h=>h) (Or.inl ⟨by rfl,?_⟩) (by assumption) ?_;rotate_left
  ·(intro w hSw;(try dsimp only at hSw);go_simp;(try with_reducible rfl))
  refine wpAnyH_take (i:=4) (v:= ?_) rfl (by kernel_rfl) (by kernel_rfl) (by kernel_rfl) (fun _ _ _ h=>h) (Or.inl ⟨by rfl,?_⟩) (by assumption) ?_;rotate_left
  ·(intro w hSw;(try dsimp only at hSw);go_simp;(try with_reducible rfl))
  refine wpAnyH_take (i:=5) (v:= ?_) rfl (by kernel_rfl) (by kernel_rfl) (by kernel_rfl) (fun _ _ _ h=>h) (Or.inl ⟨by rfl,?_⟩) (by assumption) ?_;rotate_left
  ·(intro w hSw;(try dsimp only at hSw);go_simp;(try with_reducible rfl))
  refine wpAnyH_take (i:=6) (v:= ?_) rfl (by kernel_rfl) (by kernel_rfl) (by kernel_rfl) (fun _ _ _ h=>h) (Or.inl ⟨by rfl,?_⟩) (by assumption) ?_;rotate_left
  ·(intro w hSw;(try dsimp only at hSw);go_simp;(try with_reducible rfl))
  refine wpAnyH_take (i:=7) (v:= ?_) rfl (by kernel_rfl) (by kernel_rfl) (by kernel_rfl) (fun _ _ _ h=>h) (Or.inl ⟨by rfl,?_⟩) (by assumption) ?_;rotate_left
  ·(intro w hSw;(try dsimp only at hSw);go_simp;(try with_reducible rfl))
  refine wpAnyH_ready (rs:=[8]) (by kernel_rfl) (by simp) ?_;refine AllReadyH.cons rfl (fun KC hKC=> ?_) AllReadyH.nil;go_simp;refine hKC.out _ _ ⟨kd1,kd2⟩ (fun hHeld=> ?_);clear hKC KC;refine wpAnyH_take (i:=9) (v:= ?_) rfl (by kernel_rfl) (by kernel_rfl) (by kernel_rfl) (fun _ _ _ h=>h) (Or.inl ⟨by rfl,?_⟩) (by assumption) ?_;rotate_left
  ·(intro w hSw;(try dsimp only at hSw);go_simp;(try with_reducible rfl))
  refine wpAnyH_take (i:=10) (v:= ?_) rfl (by kernel_rfl) (by kernel_rfl) (by kernel_rfl) (fun _ _ _ h=>h) (Or.inl ⟨by rfl,?_⟩) (by assumption) ?_;rotate_left
  ·(intro w hSw;(try dsimp only at hSw);go_simp;(try with_reducible rfl))
  refine wpAnyH_take (i:=11) (v:= ?_) rfl (by kernel_rfl) (by kernel_rfl) (by kernel_rfl) (fun _ _ _ h=>h) (Or.inl ⟨by rfl,?_⟩) (by assumption) ?_;rotate_left
  ·(intro w hSw;(try dsimp only at hSw);go_simp;(try with_reducible rfl))
  refine wpAnyH_ready (rs:=[12]) (by kernel_rfl) (by simp) ?_;refine AllReadyH.cons rfl (fun KC hKC=> ?_) AllReadyH.nil;go_simp;refine hKC.out _ _ ⟨by have:=HN.out.own.frm rfl (show(F.set top ({y.1 with locals:=y.1.locals.set q ⟨z.type,z.word-1⟩},y.2))[top]?=some ({y.1 with locals:=y.1.locals.set q ⟨z.type,z.word-1⟩},y.2)by rw[List.getElem?_set_self (by rw[H.out.2.1];omega)]);rw[HL.out.2.1]at this;exact this,HN.out.ib.cell 1⟩ (fun hHeld=> ?_);clear hKC KC;refine wpAnyH_done (by kernel_rfl) ?_ _;clear kd1 kd2 kd3 KD zf1;go_upto_region 40 with fail
  refine Af (fun u=>Hid (A7 w u B v t c n _ _ C K _)) (HN.out.keep (Ad _)) ?_;rintro U2 E2;clear HN;obtain⟨m0,m1,m2,m3,m4,m5,m6⟩:=E2.out.sb.c7;try dsimp only at m0 m1 m2 m3 m4 m5 m6
  obtain⟨r0,r1,r2,r3,r4,r5,r6⟩:=E2.out.rb.c7;obtain⟨rz0,rz1,rz2,rz3,rz4,rz5,rz6⟩:=E2.out.rb.z7;try dsimp only at r0 r1 r2 r3 r4 r5 r6
  go_wp2_with fail
  have hBw:=E2.out.hB;exact bodyPost_ret (results_cell_row Tryz.results79 _ _ _ 39 _ (0,0) _ rfl (E2.out.rb.w7 _ _ _ _ _ _ _) Tryz.underlying39 rfl (by kernel_rfl)) rfl ⟨⟨.slice a1 C.length c1,.slice a2 K.length c2,.slice (some ⟨gf,0,none⟩) (top+1) c3⟩,rfl,E2.out.own.o7 E2.out.rb _ _ _ _ _ _ _,E2.out.bel.s7 (by omega) _ _ _ _ _ _ _⟩
end Go.Proofs.YtlejplpkomddeaaGreat
