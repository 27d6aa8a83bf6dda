import Derived.Test.YtlejplpkomddeaaGreatR0
import Derived.Test.YtlejplpkomddeaaGreatR47
import Derived.Deep.RegionHeldLaw
import Derived.Deep.RegionLaw
import Derived.Deep.DeepCutAuto
import Derived.Test.YtlejplpkomddeaaGreatR4
namespace Go.Proofs.YtlejplpkomddeaaGreat
open Go.ChangeShapes Go.WideShapes Go.ChangeAt Go.RowKit
set_option linter.unusedVariables false
set_option maxHeartbeats 4000000
set_option maxRecDepth 100000
theorem H4(x y:Int)(w:World):(Instr.field 128 (.agg #[.int .i64 x,.int .u32 y]) 1).run Tryz.prog w=.ok (.int .u32 y) w:=by kernel_rfl
def NU(w:World)(B M:Nat)(t:Int)(d:Bool)(c n:Int)(X:VS)(C:List (Value×List MC))(K:List MC)(F:List (MG×Value))(hv:Value)(ad:Addr)(e:Ending)(w':World):Prop:=e=.returned (.pointer (some ad))/\∃k',MB w' M t d c n ⟨X.c,k',X.f⟩ hv/\Ah w' B ⟨X.c,k',X.f⟩ C K F/\C9 (fun j=>j=M) w w'/\k'.ownBlock=X.k.ownBlock
theorem Hm(z0:MC)(B M:Nat)(t:Int)(d:Bool)(c n:Int)(X:VS)(C:List (Value×List MC))(K:List MC)(F:List (MG×Value))(hv:Value)(op:Int)(q b0 m0 w0 an gl nr cl:Nat)(r:Value×List MC)(w:World)(hB:B<=w.heap.size)(h:Ah w B X C (K++[z0]) F)(hm:MB w M t d c n X hv)(hK:K.length<=1048576)(hr:C[q]?=some r)(el:r.1=.slice (some ⟨gl,0,none⟩) nr cl)(hp:b0+an<nr)(hnr:nr<=1048576)(hnc:C.length<=1048576)(hw0:z0.word=w0)(han:an=w0 &&& m0)(hw1:w0<=4294967295)(hm1:m0<=4294967295):
 Calls Tryz.prog 198 #[.pointer (some ⟨M,0,none⟩),.agg #[.int .i64 op,.int .i64 (q:Int),.int .i64 (b0:Int),.int .i64 (m0:Int)]] w (NU w B M t d c n X C K F hv ⟨gl,(b0+an)*2,none⟩):=by
 have hql:=(gI.1 hr).1;rcases At h.cells with⟨_,e⟩|⟨gc,c1,ec⟩
 ·omega
 have hqI:(q:Int)<(C.length:Int):=by omega
 have hpI:(b0:Int)+(an:Int)<(nr:Int):=by omega
 have hbits:bits .and .i64 (w0:Int) (m0:Int)=(an:Int):=by rw[JP w0 m0 hw1 hm1,han]
 clear han;have hw64:IntKind.i64.wrap (w0:Int)=(w0:Int):=IntWalk.i64_in _ (by omega);have hsum:IntKind.i64.wrap ((b0:Int)+(an:Int))=(b0:Int)+(an:Int):=IntWalk.i64_in _ (by omega);have htn:((b0:Int)+(an:Int)).toNat=b0+an:=by omega
 have h0s:0<=(b0:Int)+(an:Int):=by omega
 have HR:=h3 hr el ec;have hMw:=hm.lt;have E0:Hid (MB (w.alloc (.cells #[.int .i64 op,.int .i64 (q:Int),.int .i64 (b0:Int),.int .i64 (m0:Int)] 134)) M t d c n X hv/\Ah (w.alloc (.cells #[.int .i64 op,.int .i64 (q:Int),.int .i64 (b0:Int),.int .i64 (m0:Int)] 134)) B X C _ F/\Ap (w.alloc (.cells #[.int .i64 op,.int .i64 (q:Int),.int .i64 (b0:Int),.int .i64 (m0:Int)] 134)) w.heap.size _ _/\Below w.heap.size w (w.alloc (.cells #[.int .i64 op,.int .i64 (q:Int),.int .i64 (b0:Int),.int .i64 (m0:Int)] 134))):=⟨hm.keep (Aa _ _),h.grow (Aa _ _),Ap.new _ _ _,Aa _ _⟩
 clear h hm hr el ec;go_enter Tryz.func198,Tryz.ntmps198;go_upto_region 1 with fail
 refine Af (fun u=>Hid (MB u M t d c n X hv/\Ah u B X C _ F/\Ap u w.heap.size _ _/\Below w.heap.size w u)) E0 ?_
 rintro U E1;clear E0;have i3:=E1.out.2.2.1.cell 3;simp only[gA,gZ,gS]at i3;have bD:=Ad U;have i3d:=Ac bD i3;clear i3;have hfl:=fun w=>H4 z0.type (w0:Int) w
 go_cut [5] (fun s wx=>s=.int .i64 (an:Int)/\∃k',Hid (MB wx M t d c n ⟨X.c,k',X.f⟩ hv/\Ah wx B ⟨X.c,k',X.f⟩ C K F/\Ap wx w.heap.size #[.int .i64 op,.int .i64 (q:Int),.int .i64 (b0:Int),.int .i64 (m0:Int)] 134/\C9 (fun j=>j=M) w wx/\k'.ownBlock=X.k.ownBlock))
 case first=>
  go_region_law (go_simp;go_at_call 197;refine(CC B M t d c n X C K F hv z0 _ (Nat.le_trans hB (Nat.le_trans E1.out.2.2.2.size bD.size)) (E1.out.2.1.grow bD) (E1.out.1.keep bD) hK).mono ?_;rintro e u1 ⟨rfl,k',h1,h2,h3,h4⟩;rw[hw0];have i3u:=h3.cell i3d (by simp only[];omega);have E2:Hid (MB u1 M t d c n ⟨X.c,k',X.f⟩ hv/\Ah u1 B ⟨X.c,k',X.f⟩ C K F/\Ap u1 w.heap.size #[.int .i64 op,.int .i64 (q:Int),.int .i64 (b0:Int),.int .i64 (m0:Int)] 134/\C9 (fun j=>j=M) w u1/\k'.ownBlock=X.k.ownBlock):=⟨h1,h2,h3.blk (E1.out.2.2.1.keep bD) (by omega),(C9.of (R:=fun j=>j=M) (Ab E1.out.2.2.2 lR bD)).trans h3 (fun _ _ e=>e),h4⟩;clear h1 h2 h3 h4)
  all_goals
   go_wp2_with fail
   go_meet
   exact⟨rfl,k',E2⟩
 case rest=>
  obtain⟨rfl,k',E2⟩:=hcut;clear E1 i3d bD;have m4:=E2.out.1.at.2.2.2.2.1;simp only[]at m4;rw[HR.out.2.2]at m4;have cc:=E2.out.2.1.celc (gc:=gc) (m:=C.length) (c:=c1) HR.out.2.2 HR.out.1;rw[HR.out.2.1]at cc;have i1:=E2.out.2.2.1.cell 1;have i2:=E2.out.2.2.1.cell 2;simp only[gA,gZ,gS]at i1 i2;have inst:=Aj.some wc;have J1:=fun n:Aj wc=>Aj.cell m4 n
  have J2:=fun n:Aj wc=>Aj.cell cc n
  have J3:=fun n:Aj wc=>Aj.cell i1 n
  have J4:=fun n:Aj wc=>Aj.cell i2 n
  go_wp2_with fail
  refine Am (by kernel_rfl) (by kernel_rfl) ?_;repeat(go_big_quiet_step (fail))
  refine wpQuiet_nil ?_;rintro w'' ⟨n',rfl⟩;have E3:Hid (NU w B M t d c n X C K F hv ⟨gl,(b0+an)*2,none⟩ (.returned (.pointer (some ⟨gl,(b0+an)*2,none⟩))) n'.u):=⟨rfl,k',E2.out.1.keep n'.h,E2.out.2.1.grow n'.h,E2.out.2.2.2.1.trans (.of (R:=fun _=>False) n'.h) (fun _ _ e=>e.elim),E2.out.2.2.2.2⟩;clear J1 J2 J3 J4 inst m4 cc i1 i2;go_wp2_with fail
  go_ret
  exact E3.out
theorem LN(z0:MC)(B M top:Nat)(t:Int)(d:Bool)(c n:Int)(X:VS)(C:List (Value×List MC))(K:List MC)(F:List (MG×Value))(hv:Value)(gh oh gf c3:Nat)(y:MG×Value)(op a b c':Int)(w:World)(hB:B<=w.heap.size)(h:Ah w B X C (K++[z0]) F)(hm:MB w M t d c n X hv)(hF:F.length=top+1)(hF1:top<=1048576)(hy:F[top]?=some y)(hXf:X.f=.slice (some ⟨gf,0,none⟩) (top+1) c3)(hK:K.length<=1048576)(q b0 m0 w0 an gl nr cl:Nat)(r:Value×List MC)(z:MC)(ha:a=q)(hb:b=b0)(hc:c'=m0)(hr:C[q]?=some r)(el:r.1=.slice (some ⟨gl,0,none⟩) nr cl)(hz:r.2[b0+an]?=some z)(hp:b0+an<nr)(hnr:nr<=1048576)(hnc:C.length<=1048576)(hw0:z0.word=w0)(han:an=w0 &&& m0)(hw1:w0<=4294967295)(hm1:m0<=4294967295):
 Calls Tryz.prog 156 #[.pointer (some ⟨M,0,none⟩),.agg #[.pointer (some ⟨gh,oh,none⟩),.pointer (some ⟨gf,top*4,none⟩)],.agg #[.int .i64 op,.int .i64 a,.int .i64 b,.int .i64 c']] w (BP w B M t d c n C (K++[z]) F hv X C F):=by
 subst ha hb hc;have E0:Hid (Ax w ((w.alloc (.cells #[.pointer (some ⟨gh,oh,none⟩),.pointer (some ⟨gf,top*4,none⟩)] 172)).alloc (.cells #[.int .i64 op,.int .i64 (q:Int),.int .i64 (b0:Int),.int .i64 (m0:Int)] 134)) B M top t d c n X C (K++[z0]) F hv gh oh gf op q b0 m0 X C F):=Ax.of gh oh gf op q b0 m0 hB h hm;have H:=h3 h hF hy;clear h hm hy;go_enter Tryz.func156,Tryz.ntmps156;go_upto_region 1 with fail
 refine Af (fun u=>Hid (Ax w u B M _ t d c n X C _ F hv gh oh gf op q b0 m0 X C F)/\Below w.heap.size w u) ⟨E0,Ab (Aa _ _) lR (Aa _ _)⟩ ?_
 rintro U ⟨E1,bU⟩;clear E0;obtain⟨i0,i1,i2,i3⟩:=E1.out.ib.c4;try dsimp only at i0 i1 i2 i3
 have HR:=h4 hr el hz han;clear hr el hz hXf han;go_wp2_with fail
 refine(Hm z0 B M t d c n X C K F hv op q b0 m0 w0 an gl nr cl r U (Nat.le_trans E1.out.hB E1.out.chg.size) E1.out.own E1.out.mb hK HR.out.1 HR.out.2.1 hp hnr hnc hw0 HR.out.2.2.2 hw1 hm1).mono ?_;rintro e u1 ⟨rfl,k',h1,h2,h3,h4⟩;have E2:=AS (E1.out.pop h1 h2 h3 h4);clear h1 h2 h3 h4 i0 i1 i2 i3 E1 bU;obtain⟨t1,t2⟩:=E2.out.own.rowc (r:=r) (by simp only[List.mem_append];exact .inl (.inl (mG HR.out.1))) HR.out.2.1 HR.out.2.2.1;go_wp2_with fail;refine(C5 B M t d c n ⟨X.c,k',X.f⟩ C K F hv z u1 (Nat.le_trans E2.out.hB E2.out.chg.size) E2.out.own E2.out.mb hK).mono ?_;rintro e u2 ⟨rfl,k2,h1,h2,h3,h4⟩;have E3:=AS (E2.out.push h1 h2 h3 h4);clear h1 h2 h3 h4;go_wp2_with fail;exact bodyPost_end (v:=.tuple #[]) (by kernel_rfl) rfl E3.out.res
theorem Kr(z0 z1:MC)(B M top:Nat)(t:Int)(d:Bool)(c n:Int)(X:VS)(C:List (Value×List MC))(K:List MC)(F:List (MG×Value))(hv:Value)(gh oh gf c3:Nat)(y:MG×Value)(op a b c':Int)(w:World)(hB:B<=w.heap.size)(h:Ah w B X C (K++[z0]++[z1]) F)(hm:MB w M t d c n X hv)(hF:F.length=top+1)(hF1:top<=1048576)(hy:F[top]?=some y)(hXf:X.f=.slice (some ⟨gf,0,none⟩) (top+1) c3)(hK:K.length<1048576)(q b0 m0 w0 an gl nr cl:Nat)(r:Value×List MC)(z:MC)(ha:a=q)(hb:b=b0)(hc:c'=m0)(hr:C[q]?=some r)(el:r.1=.slice (some ⟨gl,0,none⟩) nr cl)(hz:r.2[b0+an]?=some z)(hp:b0+an<nr)(hnr:nr<=1048576)(hnc:C.length<=1048576)(hw0:z0.word=w0)(han:an=w0 &&& m0)(hw1:w0<=4294967295)(hm1:m0<=4294967295):
 Calls Tryz.prog 157 #[.pointer (some ⟨M,0,none⟩),.agg #[.pointer (some ⟨gh,oh,none⟩),.pointer (some ⟨gf,top*4,none⟩)],.agg #[.int .i64 op,.int .i64 a,.int .i64 b,.int .i64 c']] w (BP w B M t d c n (C.set q (r.1,r.2.set (b0+an) z1)) K F hv X C F):=by
 subst ha hb hc;have E0:Hid (Ax w ((w.alloc (.cells #[.pointer (some ⟨gh,oh,none⟩),.pointer (some ⟨gf,top*4,none⟩)] 172)).alloc (.cells #[.int .i64 op,.int .i64 (q:Int),.int .i64 (b0:Int),.int .i64 (m0:Int)] 134)) B M top t d c n X C (K++[z0]++[z1]) F hv gh oh gf op q b0 m0 X C F):=Ax.of gh oh gf op q b0 m0 hB h hm;have H:=h3 h hF hy;clear h hm hy;go_enter Tryz.func157,Tryz.ntmps157;go_upto_region 1 with fail
 refine Af (fun u=>Hid (Ax w u B M _ t d c n X C _ F hv gh oh gf op q b0 m0 X C F)/\Below w.heap.size w u) ⟨E0,Ab (Aa _ _) lR (Aa _ _)⟩ ?_
 rintro U ⟨E1,bU⟩;clear E0;have HR:=h4 hr el hz han
 have HL2:Hid (∀u {X':VS} {K':List MC},Ah u B X' C K' F->u.ownsRow B 128 2 (.slice (some ⟨gl,0,none⟩) nr cl) nr (r.2.flatMap MC.cells)):=fun u X' K' hu=>by
  have:=hu.fam.own r (by simp only[List.mem_append];exact .inl (.inl (mG HR.out.1)));rw[HR.out.2.1]at this;have e:=BG this;rw[e];rw[e]at this;exact this
 have hMw:=E1.out.hM;clear hr el hz hXf han;go_wp2_with fail
 refine(CC B M t d c n X C (K++[z0]) F hv z1 U (Nat.le_trans E1.out.hB E1.out.chg.size) E1.out.own E1.out.mb (by simp;omega)).mono ?_;rintro e u1 ⟨rfl,k',h1,h2,h3,h4⟩;have E2:=AS (E1.out.pop h1 h2 h3 h4);clear h1 h2 h3 h4 E1 bU;have hY0:w.heap.size+1<u1.heap.size:=E2.out.ib.lt;have EN:Hid (Ax w (u1.alloc (.cells #[.int .i64 z1.type,.int .u32 z1.word] 128)) B M _ t d c n _ C _ F hv gh oh gf op q b0 m0 X C F/\Ap (u1.alloc (.cells #[.int .i64 z1.type,.int .u32 z1.word] 128)) u1.heap.size _ _):=⟨E2.out.keep (Aa _ _),Ap.new _ _ _⟩
 go_upto_region 2 with fail
 generalize u1.heap.size=Y at EN hY0⊢;refine Af (fun u=>Hid (Ax w u B M _ t d c n _ C _ F hv gh oh gf op q b0 m0 X C F/\Ap u Y _ _)) EN ?_
 rintro U2 E3;clear EN E2;clear u1;obtain⟨v0,v1⟩:=E3.out.2.c2;obtain⟨i0,i1,i2,i3⟩:=E3.out.1.ib.c4;try dsimp only at v0 v1 i0 i1 i2 i3
 have bD:=Ad U2;have v0d:=Ac bD v0;have v1d:=Ac bD v1;have i0d:=Ac bD i0;have i1d:=Ac bD i1;have i2d:=Ac bD i2;have i3d:=Ac bD i3;clear v0 v1 i0 i1 i2 i3;go_upto_region 2 with fail
 go_region_law (go_simp;go_at_call 198;refine(Hm z0 B M t d c n ⟨X.c,k',X.f⟩ C K F hv op q b0 m0 w0 an gl nr cl r _ (Nat.le_trans E3.out.1.hB (E3.out.1.keep bD).chg.size) (E3.out.1.keep bD).own (E3.out.1.keep bD).mb (by omega) HR.out.1 HR.out.2.1 hp hnr hnc hw0 HR.out.2.2.2 hw1 hm1).mono ?_;rintro e u3 ⟨rfl,k2,h1,h2,h3,h4⟩;have E4:Hid (Ax w u3 B M top t d c n ⟨X.c,k2,X.f⟩ C K F hv gh oh gf op q b0 m0 X C F):=(E3.out.1.keep bD).pop h1 h2 h3 h4;have v0u:=h3.cell v0d (by simp only[];omega);have v1u:=h3.cell v1d (by simp only[];omega);have O2:=E4.out.own.rowc (r:=r) (by simp only[List.mem_append];exact .inl (.inl (mG HR.out.1))) HR.out.2.1 HR.out.2.2.1;obtain⟨hbl,curl,hgl⟩:=Bq (HL2.out u3 E4.out.own);have T2:=GI (i:=(b0+an)*2) hgl (.int .i64 z1.type) O2.2;have t1:=O2.1;have t2:=O2.2;have t3:=T2.1;have t4:=T2.2.1;have t5:=T2.2.2;have E5:Hid (Ax w ((u3.setCell ⟨gl,(b0+an)*2,none⟩ (.int .i64 z1.type)).setCell ⟨gl,(b0+an)*2+1,none⟩ (.int .u32 z1.word)) B M top t d c n ⟨X.c,k2,X.f⟩ (C.set q (r.1,r.2.set (b0+an) z1)) K F hv gh oh gf op q b0 m0 X C F):=E4.out.setC HR.out.1 HR.out.2.1 HR.out.2.2.1 z1;clear O2 hbl hgl T2 h1 h2 h3 h4)
 all_goals
  go_wp2_with fail
  exact bodyPost_end (v:=.tuple #[]) (by kernel_rfl) rfl E5.out.res
end Go.Proofs.YtlejplpkomddeaaGreat
