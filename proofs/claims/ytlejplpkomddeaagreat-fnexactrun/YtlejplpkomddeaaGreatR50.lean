import Derived.Test.YtlejplpkomddeaaGreatR0
import Derived.Test.YtlejplpkomddeaaGreatR48
import Derived.Test.YtlejplpkomddeaaGreatR6
import Derived.Test.YtlejplpkomddeaaGreatR8
import Derived.Test.YtlejplpkomddeaaGreatR4
import Derived.Deep.DeepCutAuto
import Derived.Deep.RegionHeldLaw
import Derived.Deep.RegionLaw
import Derived.Laws.CopyOwn
import Derived.Test.YtlejplpkomddeaaGreatR11
import Derived.Lib.SlBuf
import Derived.Deep.AppendLies
namespace Go.Proofs.YtlejplpkomddeaaGreat
open Go.ChangeShapes Go.WideShapes Go.ChangeAt Go.RowKit
set_option linter.unusedVariables false
set_option maxHeartbeats 4000000
set_option maxRecDepth 100000
theorem Lr(z0:MC)(B M top:Nat)(t:Int)(d:Bool)(c n:Int)(X:VS)(C:List (Value×List MC))(K:List MC)(F:List (MG×Value))(hv:Value)(gh oh gf c3:Nat)(y:MG×Value)(op a b c':Int)(w:World)(hB:B<=w.heap.size)(h:Ah w B X C (K++[z0]) F)(hm:MB w M t d c n X hv)(hF:F.length=top+1)(hF1:top<=1048576)(hy:F[top]?=some y)(hXf:X.f=.slice (some ⟨gf,0,none⟩) (top+1) c3)(hK:K.length<=1048576):
 Calls Tryz.prog 161 #[.pointer (some ⟨M,0,none⟩),.agg #[.pointer (some ⟨gh,oh,none⟩),.pointer (some ⟨gf,top*4,none⟩)],.agg #[.int .i64 op,.int .i64 a,.int .i64 b,.int .i64 c']] w (BP w B M t d c n C (K++[⟨b,Eo a b z0.word⟩]) F hv X C F):=by
 have E0:Hid (Ax w ((w.alloc (.cells #[.pointer (some ⟨gh,oh,none⟩),.pointer (some ⟨gf,top*4,none⟩)] 172)).alloc (.cells #[.int .i64 op,.int .i64 a,.int .i64 b,.int .i64 c'] 134)) B M top t d c n X C (K++[z0]) F hv gh oh gf op a b c' X C F):=Ax.of gh oh gf op a b c' hB h hm;have H:=h3 h hF hy;clear h hm hy;go_enter Tryz.func161,Tryz.ntmps161;go_upto_region 1 with fail
 refine Af (fun u=>Hid (Ax w u B M _ t d c n X C _ F hv gh oh gf op a b c' X C F)/\Below w.heap.size w u) ⟨E0,Ab (Aa _ _) lR (Aa _ _)⟩ ?_
 rintro U ⟨E1,bU⟩;clear E0;have hMw:=E1.out.hM;have i1:=E1.out.ib.cell 1;have i2:=E1.out.ib.cell 2;simp only[gA,gZ,gS]at i1 i2;have hfl:=fun w=>H4 z0.type z0.word w
 have bD:=Ad U;have KD:U.drew.cell? ⟨w.heap.size+1,1,none⟩=some (.int .i64 a)/\U.drew.cell? ⟨w.heap.size+1,2,none⟩=some (.int .i64 b):=⟨Ac bD i1,Ac bD i2⟩
 clear i1 i2 hXf;go_upto_region 1 with fail
 go_region_held_law (fun w'=>w'.cell? ⟨w.heap.size+1,1,none⟩=some (.int .i64 a)/\w'.cell? ⟨w.heap.size+1,2,none⟩=some (.int .i64 b)) (first|exact KD|exact KP|exact KW|go_keep) (first
  |(go_simp;go_at_call 197;refine(CC B M t d c n X C K F hv z0 _ (Nat.le_trans E1.out.hB (E1.out.keep bD).chg.size) (E1.out.keep bD).own (E1.out.keep bD).mb hK).mono ?_;rintro e u1 ⟨rfl,k',h1,h2,h3,h4⟩;have E2:Hid (Ax w u1 B M top t d c n ⟨X.c,k',X.f⟩ C K F hv gh oh gf op a b c' X C F):=(E1.out.keep bD).pop h1 h2 h3 h4;have KP:u1.cell? ⟨w.heap.size+1,1,none⟩=some (.int .i64 a)/\u1.cell? ⟨w.heap.size+1,2,none⟩=some (.int .i64 b):=⟨h3.cell KD.1 (by simp only[];omega),h3.cell KD.2 (by simp only[];omega)⟩;clear h1 h2 h3 h4)
  |(go_simp;go_at_call 199;refine(Lo a b z0.word _).mono ?_;rintro e u2 ⟨rfl,rfl⟩)
  |(go_simp;go_at_call 196;refine(C5 B M t d c n ⟨X.c,k',X.f⟩ C K F hv ⟨b,Eo a b z0.word⟩ _ (Nat.le_trans E2.out.hB E2.out.chg.size) E2.out.own E2.out.mb hK).mono ?_;rintro e u5 ⟨rfl,k9,h1,h2,h3,h4⟩;have E5:Hid (Ax w u5 B M top t d c n ⟨X.c,k9,X.f⟩ C (K++[⟨b,Eo a b z0.word⟩]) F hv gh oh gf op a b c' X C F):=E2.out.push h1 h2 h3 h4;have KW:u5.cell? ⟨w.heap.size+1,1,none⟩=some (.int .i64 a)/\u5.cell? ⟨w.heap.size+1,2,none⟩=some (.int .i64 b):=⟨(E5.out.ib.cell 1),(E5.out.ib.cell 2)⟩;clear h1 h2 h3 h4))
 all_goals
  go_wp2_with fail
  exact bodyPost_end (v:=.tuple #[]) (by kernel_rfl) rfl E5.out.res
theorem LV(z0:MC)(B M top:Nat)(t:Int)(d:Bool)(c n:Int)(X:VS)(C:List (Value×List MC))(K:List MC)(F:List (MG×Value))(hv:Value)(gh oh gf c3:Nat)(y:MG×Value)(op a b c':Int)(w:World)(hB:B<=w.heap.size)(h:Ah w B X C (K++[z0]) F)(hm:MB w M t d c n X hv)(hF:F.length=top+1)(hF1:top<=1048576)(hy:F[top]?=some y)(hXf:X.f=.slice (some ⟨gf,0,none⟩) (top+1) c3)(hK:K.length<=1048576)(hty:z0.type=1)(hz:z0.word=0):
 Calls Tryz.prog 165 #[.pointer (some ⟨M,0,none⟩),.agg #[.pointer (some ⟨gh,oh,none⟩),.pointer (some ⟨gf,top*4,none⟩)],.agg #[.int .i64 op,.int .i64 a,.int .i64 b,.int .i64 c']] w (BP w B M t d c n C K (F.set top ({y.1 with at_:=c'},y.2)) hv X C F):=by
 have E0:Hid (Ax w ((w.alloc (.cells #[.pointer (some ⟨gh,oh,none⟩),.pointer (some ⟨gf,top*4,none⟩)] 172)).alloc (.cells #[.int .i64 op,.int .i64 a,.int .i64 b,.int .i64 c'] 134)) B M top t d c n X C (K++[z0]) F hv gh oh gf op a b c' X C F):=Ax.of gh oh gf op a b c' hB h hm;have H:=h3 h hF hy;clear h hm hy;go_enter Tryz.func165,Tryz.ntmps165;go_upto_region 1 with fail
 refine Af (fun u=>Hid (Ax w u B M _ t d c n X C _ F hv gh oh gf op a b c' X C F)/\Below w.heap.size w u) ⟨E0,Ab (Aa _ _) lR (Aa _ _)⟩ ?_
 rintro U ⟨E1,bU⟩;clear E0;have HXF:=AS hXf;have hMw:=E1.out.hM;have e0:∀w,(binOp .eql 128 (.agg #[.int .i64 1,.int .u32 z0.word]) (.agg #[.int .i64 1,.int .u32 0])).run Tryz.prog w=.ok (.bool (decide (1=(1:Int)/\z0.word=0))) w:=D9 1 z0.word 1 0
 have e2:decide (1=(1:Int)/\z0.word=0)=true:=by simp[hz]
 rw[e2]at e0;clear hXf hz e2;go_wp2_with fail
 refine(CC B M t d c n X C K F hv z0 U (Nat.le_trans E1.out.hB E1.out.chg.size) E1.out.own E1.out.mb hK).mono ?_;rintro e u1 ⟨rfl,k',h1,h2,h3,h4⟩;have E2:=AS (E1.out.pop h1 h2 h3 h4);clear h1 h2 h3 h4 E1 bU;go_wp2_with fail
 refine(Ef 1 u1).mono ?_;rintro e u2 ⟨rfl,b2⟩;have E3:=AS (E2.out.keep b2);clear E2 b2;clear u1;go_upto_region 2 with fail
 have f1:=E3.out.fb.cell 1;have i3:=E3.out.ib.cell 3;simp only[gA,gZ,gS]at f1 i3;obtain⟨fc1,fz1,_⟩:=E3.out.frc HXF.out H.out.2.2;have E9:=AS (E3.out.jump HXF.out H.out.2.2 c');go_wp2_with fail
 exact bodyPost_end (v:=.tuple #[]) (by kernel_rfl) rfl E9.out.res
theorem LQ(z0:MC)(B M top:Nat)(t:Int)(d:Bool)(c n:Int)(X:VS)(C:List (Value×List MC))(K:List MC)(F:List (MG×Value))(hv:Value)(gh oh gf c3:Nat)(y:MG×Value)(op a b c':Int)(w:World)(hB:B<=w.heap.size)(h:Ah w B X C (K++[z0]) F)(hm:MB w M t d c n X hv)(hF:F.length=top+1)(hF1:top<=1048576)(hy:F[top]?=some y)(hXf:X.f=.slice (some ⟨gf,0,none⟩) (top+1) c3)(hK:K.length<=1048576)(hty:z0.type=1)(hz:¬z0.word=0):
 Calls Tryz.prog 165 #[.pointer (some ⟨M,0,none⟩),.agg #[.pointer (some ⟨gh,oh,none⟩),.pointer (some ⟨gf,top*4,none⟩)],.agg #[.int .i64 op,.int .i64 a,.int .i64 b,.int .i64 c']] w (BP w B M t d c n C K F hv X C F):=by
 have E0:Hid (Ax w ((w.alloc (.cells #[.pointer (some ⟨gh,oh,none⟩),.pointer (some ⟨gf,top*4,none⟩)] 172)).alloc (.cells #[.int .i64 op,.int .i64 a,.int .i64 b,.int .i64 c'] 134)) B M top t d c n X C (K++[z0]) F hv gh oh gf op a b c' X C F):=Ax.of gh oh gf op a b c' hB h hm;have H:=h3 h hF hy;clear h hm hy;go_enter Tryz.func165,Tryz.ntmps165;go_upto_region 1 with fail
 refine Af (fun u=>Hid (Ax w u B M _ t d c n X C _ F hv gh oh gf op a b c' X C F)/\Below w.heap.size w u) ⟨E0,Ab (Aa _ _) lR (Aa _ _)⟩ ?_
 rintro U ⟨E1,bU⟩;clear E0;have HXF:=AS hXf;have hMw:=E1.out.hM;have e0:∀w,(binOp .eql 128 (.agg #[.int .i64 1,.int .u32 z0.word]) (.agg #[.int .i64 1,.int .u32 0])).run Tryz.prog w=.ok (.bool (decide (1=(1:Int)/\z0.word=0))) w:=D9 1 z0.word 1 0
 have e2:decide (1=(1:Int)/\z0.word=0)=false:=by simp[hz]
 rw[e2]at e0;clear hXf hz e2;go_wp2_with fail
 refine(CC B M t d c n X C K F hv z0 U (Nat.le_trans E1.out.hB E1.out.chg.size) E1.out.own E1.out.mb hK).mono ?_;rintro e u1 ⟨rfl,k',h1,h2,h3,h4⟩;have E2:=AS (E1.out.pop h1 h2 h3 h4);clear h1 h2 h3 h4 E1 bU;go_wp2_with fail
 refine(Ef 1 u1).mono ?_;rintro e u2 ⟨rfl,b2⟩;have E3:=AS (E2.out.keep b2);clear E2 b2;clear u1;go_wp2_with fail
 exact bodyPost_end (v:=.tuple #[]) (by kernel_rfl) rfl E3.out.res
theorem Ax.setLW{w u:World}{B M top:Nat}{t:Int}{d:Bool}{c n:Int}{X:VS}{C:List (Value×List MC)}{K:List MC}{F:List (MG×Value)}{hv:Value}{gh oh gf:Nat}{op a b c':Int}{X0:VS}{C0:List (Value×List MC)}{F0:List (MG×Value)}(h:Ax w u B M top t d c n X C K F hv gh oh gf op a b c' X0 C0 F0){y:MG×Value}{gl nl cl q:Nat}{zo:MC}(hy:F[top]?=some y)(el:y.2=.slice (some ⟨gl,0,none⟩) nl cl)(hq:y.1.locals[q]?=some zo)(z:Int):Ax w (u.setCell ⟨gl,q*2+1,none⟩ (.int .u32 z)) B M top t d c n X C K (F.set top ({y.1 with locals:=y.1.locals.set q ⟨zo.type,z⟩},y.2)) hv gh oh gf op a b c' X0 C0 F0:=by
 have hy2:F[top]?=some (y.1,.slice (some ⟨gl,0,none⟩) nl cl):=by rw[hy,<-el]
 obtain⟨o1,g1⟩:=h.own.setLW (Nat.le_trans h.hB h.chg.size) hy2 hq z;rw[<-el]at o1;have ho:=h.own.fam.own (y.2,y.1.locals) (by simp only[List.mem_append];exact .inr (mG (Bb hy)));simp only[]at ho;rw[el]at ho;have hl:=BG ho;subst hl;obtain⟨hb,cur,hg⟩:=Bq ho;exact h.rows g1 o1 (.inr (.inr (.inr (.inr ⟨_,mG (Bb hy),by simp only[];rw[el];rfl⟩)))) hg (by decide) (fun j hj=>hj.loc hy)
theorem Oo(B M top:Nat)(t:Int)(d:Bool)(c n:Int)(X:VS)(C:List (Value×List MC))(K:List MC)(F:List (MG×Value))(hv:Value)(gh oh gf c3:Nat)(y:MG×Value)(op a b c':Int)(w:World)(hB:B<=w.heap.size)(h:Ah w B X C K F)(hm:MB w M t d c n X hv)(hF:F.length=top+1)(hF1:top<=1048576)(hy:F[top]?=some y)(hXf:X.f=.slice (some ⟨gf,0,none⟩) (top+1) c3)(q:Nat)(z:MC)(ha:a=q)(hz:y.1.locals[q]?=some z)(hnl:y.1.locals.length<=1048576)(hty:z.type=3)(hw0:0<=z.word)(hw1:z.word<=4294967295)(hzz:z.word=0):
 Calls Tryz.prog 166 #[.pointer (some ⟨M,0,none⟩),.agg #[.pointer (some ⟨gh,oh,none⟩),.pointer (some ⟨gf,top*4,none⟩)],.agg #[.int .i64 op,.int .i64 a,.int .i64 b,.int .i64 c']] w (BP w B M t d c n C K (F.set top ({y.1 with at_:=c'},y.2)) hv X C F):=by
 subst ha
 have E0:Hid (Ax w ((w.alloc (.cells #[.pointer (some ⟨gh,oh,none⟩),.pointer (some ⟨gf,top*4,none⟩)] 172)).alloc (.cells #[.int .i64 op,.int .i64 (q:Int),.int .i64 b,.int .i64 c'] 134)) B M top t d c n X C K F hv gh oh gf op q b c' X C F):=Ax.of gh oh gf op q b c' hB h hm
 have H:=h3 h hF hy
 clear h hm hy
 go_enter Tryz.func166,Tryz.ntmps166
 go_upto_region 1 with fail
 refine Af (fun u=>Hid (Ax w u B M _ t d c n X C K F hv gh oh gf op q b c' X C F)/\Below w.heap.size w u) ⟨E0,Ab (Aa _ _) lR (Aa _ _)⟩ ?_
 rintro U ⟨E1,bU⟩
 clear E0
 have HXF:=AS hXf
 have f1:=E1.out.fb.cell 1
 have i1:=E1.out.ib.cell 1
 simp only[gA,gZ,gS]at f1 i1
 obtain⟨_,_,fc3⟩:=E1.out.frc hXf H.out.2.2
 have hmem:(y.2,y.1.locals)∈C++[(X.k,K)]++AL F:=by simp only[List.mem_append];exact .inr (mG (Bb H.out.2.2))
 have hql:=(gI.1 hz).1
 rcases At (E1.out.own.fam.own _ hmem)with⟨_,e⟩|⟨gl,cl,el⟩
 ·simp only[]at e
  omega
 simp only[]at el
 obtain⟨lt0,lw0⟩:=E1.out.own.rowc hmem el hz
 have HL:=h2 el hz
 have HL2:Hid (∀u {X':VS} {K':List MC},Ah u B X' C K' F->u.ownsRow B 128 2 (.slice (some ⟨gl,0,none⟩) y.1.locals.length cl) y.1.locals.length (y.1.locals.flatMap MC.cells)):=fun u X' K' hu=>by
  have:=hu.fam.own (y.2,y.1.locals) (by simp only[List.mem_append];exact .inr (mG (Bb H.out.2.2)))
  simp only[]at this
  rw[HL.out.1]at this
  exact this
 rw[el]at fc3
 have hqI:(q:Int)<(y.1.locals.length:Int):=by omega
 generalize y.1.locals.length=nl at fc3 hqI hnl HL HL2
 rw[hty]at lt0
 have inst:=Aj.some U
 have J1:=fun n:Aj U=>Aj.cell f1 n
 have J2:=fun n:Aj U=>Aj.cell i1 n
 have J3:=fun n:Aj U=>Aj.cell fc3 n
 have J4:=fun n:Aj U=>Aj.cell lt0 n
 have J5:=fun n:Aj U=>Aj.cell lw0 n
 clear hXf hmem el hz hql hty
 have e0:∀w,(binOp .eql 128 (.agg #[.int .i64 3,.int .u32 z.word]) (.agg #[.int .i64 3,.int .u32 0])).run Tryz.prog w=.ok (.bool (decide (3=(3:Int)/\z.word=0))) w:=D9 3 z.word 3 0
 have e2:decide (3=(3:Int)/\z.word=0)=true:=by simp[hzz]
 rw[e2]at e0
 have HW:=h2 hw0 hw1
 clear e2 hzz hw0 hw1
 go_wp2_with fail
 refine Am (by kernel_rfl) (by kernel_rfl) ?_
 repeat(go_big_quiet_step ((go_at_call 178;rename_i n';exact(Ef 3 n'.u).mono fun e w'' h=>⟨h.1,⟨⟨w'',Ab n'.h lR h.2⟩,rfl⟩⟩)))
 refine wpQuiet_nil ?_
 rintro w'' ⟨n',rfl⟩
 have E3:=AS (E1.out.keep n'.h)
 clear J1 J2 J3 J4 J5 inst f1 i1 fc3 lt0 lw0 e0
 have f1:=E3.out.fb.cell 1
 have i3:=E3.out.ib.cell 3
 simp only[gA,gZ,gS]at f1 i3
 obtain⟨fc1,fz1,_⟩:=E3.out.frc HXF.out H.out.2.2
 have E9:=AS (E3.out.jump HXF.out H.out.2.2 c')
 go_wp2_with fail
 exact bodyPost_ret (v:=.tuple #[]) (by kernel_rfl) rfl E9.out.res
theorem Om(B M top:Nat)(t:Int)(d:Bool)(c n:Int)(X:VS)(C:List (Value×List MC))(K:List MC)(F:List (MG×Value))(hv:Value)(gh oh gf c3:Nat)(y:MG×Value)(op a b c':Int)(w:World)(hB:B<=w.heap.size)(h:Ah w B X C K F)(hm:MB w M t d c n X hv)(hF:F.length=top+1)(hF1:top<=1048576)(hy:F[top]?=some y)(hXf:X.f=.slice (some ⟨gf,0,none⟩) (top+1) c3)(q:Nat)(z:MC)(ha:a=q)(hz:y.1.locals[q]?=some z)(hnl:y.1.locals.length<=1048576)(hty:z.type=3)(hw0:0<=z.word)(hw1:z.word<=4294967295)(hzz:¬z.word=0):
 Calls Tryz.prog 166 #[.pointer (some ⟨M,0,none⟩),.agg #[.pointer (some ⟨gh,oh,none⟩),.pointer (some ⟨gf,top*4,none⟩)],.agg #[.int .i64 op,.int .i64 a,.int .i64 b,.int .i64 c']] w (BP w B M t d c n C K (F.set top ({y.1 with locals:=y.1.locals.set q ⟨z.type,z.word-1⟩},y.2)) hv X C F):=by
 subst ha
 have E0:Hid (Ax w ((w.alloc (.cells #[.pointer (some ⟨gh,oh,none⟩),.pointer (some ⟨gf,top*4,none⟩)] 172)).alloc (.cells #[.int .i64 op,.int .i64 (q:Int),.int .i64 b,.int .i64 c'] 134)) B M top t d c n X C K F hv gh oh gf op q b c' X C F):=Ax.of gh oh gf op q b c' hB h hm
 have H:=h3 h hF hy
 clear h hm hy
 go_enter Tryz.func166,Tryz.ntmps166
 go_upto_region 1 with fail
 refine Af (fun u=>Hid (Ax w u B M _ t d c n X C K F hv gh oh gf op q b c' X C F)/\Below w.heap.size w u) ⟨E0,Ab (Aa _ _) lR (Aa _ _)⟩ ?_
 rintro U ⟨E1,bU⟩
 clear E0
 have HXF:=AS hXf
 have f1:=E1.out.fb.cell 1
 have i1:=E1.out.ib.cell 1
 simp only[gA,gZ,gS]at f1 i1
 obtain⟨_,_,fc3⟩:=E1.out.frc hXf H.out.2.2
 have hmem:(y.2,y.1.locals)∈C++[(X.k,K)]++AL F:=by simp only[List.mem_append];exact .inr (mG (Bb H.out.2.2))
 have hql:=(gI.1 hz).1
 rcases At (E1.out.own.fam.own _ hmem)with⟨_,e⟩|⟨gl,cl,el⟩
 ·simp only[]at e
  omega
 simp only[]at el
 obtain⟨lt0,lw0⟩:=E1.out.own.rowc hmem el hz
 have HL:=h2 el hz
 have HL2:Hid (∀u {X':VS} {K':List MC},Ah u B X' C K' F->u.ownsRow B 128 2 (.slice (some ⟨gl,0,none⟩) y.1.locals.length cl) y.1.locals.length (y.1.locals.flatMap MC.cells)):=fun u X' K' hu=>by
  have:=hu.fam.own (y.2,y.1.locals) (by simp only[List.mem_append];exact .inr (mG (Bb H.out.2.2)))
  simp only[]at this
  rw[HL.out.1]at this
  exact this
 rw[el]at fc3
 have hqI:(q:Int)<(y.1.locals.length:Int):=by omega
 generalize y.1.locals.length=nl at fc3 hqI hnl HL HL2
 rw[hty]at lt0
 have inst:=Aj.some U
 have J1:=fun n:Aj U=>Aj.cell f1 n
 have J2:=fun n:Aj U=>Aj.cell i1 n
 have J3:=fun n:Aj U=>Aj.cell fc3 n
 have J4:=fun n:Aj U=>Aj.cell lt0 n
 have J5:=fun n:Aj U=>Aj.cell lw0 n
 clear hXf hmem el hz hql hty
 have e0:∀w,(binOp .eql 128 (.agg #[.int .i64 3,.int .u32 z.word]) (.agg #[.int .i64 3,.int .u32 0])).run Tryz.prog w=.ok (.bool (decide (3=(3:Int)/\z.word=0))) w:=D9 3 z.word 3 0
 have e2:decide (3=(3:Int)/\z.word=0)=false:=by simp[hzz]
 rw[e2]at e0
 have HW:Hid (0<=z.word/\z.word<=4294967295/\1<=z.word):=⟨hw0,hw1,by omega⟩
 clear e2 hzz hw0 hw1
 go_wp2_with fail
 refine Am (by kernel_rfl) (by kernel_rfl) ?_
 repeat(go_big_quiet_step ((go_at_call 178;rename_i n';exact(Ef 3 n'.u).mono fun e w'' h=>⟨h.1,⟨⟨w'',Ab n'.h lR h.2⟩,rfl⟩⟩)))
 refine wpQuiet_nil ?_
 rintro w'' ⟨n',rfl⟩
 have E3:=AS (E1.out.keep n'.h)
 clear J1 J2 J3 J4 J5 inst f1 i1 fc3 lt0 lw0 e0
 go_upto_region 3 with fail
 generalize n'.u=V at E3⊢
 clear n' E1 bU
 have f1:=E3.out.fb.cell 1
 have i1:=E3.out.ib.cell 1
 simp only[gA,gZ,gS]at f1 i1
 obtain⟨_,_,fc3⟩:=E3.out.frc HXF.out H.out.2.2
 rw[HL.out.1]at fc3
 obtain⟨lt0,lw0⟩:=E3.out.own.rowc (r:=(y.2,y.1.locals)) (by simp only[List.mem_append];exact .inr (mG (Bb H.out.2.2))) HL.out.1 HL.out.2
 obtain⟨hbl,curl,hgl⟩:=Bq (HL2.out V E3.out.own)
 have lz:V.frozen? ⟨gl,q*2+1,none⟩=false:=frozen_of_row V gl (q*2+1) curl _ hgl
 have bD:=Ad V
 have f1d:=Ac bD f1
 have i1d:=Ac bD i1
 have fcd:=Ac bD fc3
 have lwd:=Ac bD lw0
 have lzd:V.drew.frozen? ⟨gl,q*2+1,none⟩=false:=lz
 have hws:IntKind.u32.wrap (z.word-1)=z.word-1:=IntWalk.u32_in _ (by have:=HW.out;omega)
 have E4:Hid (Ax w (V.drew.setCell ⟨gl,q*2+1,none⟩ (.int .u32 (z.word-1))) B M _ t d c n X C K _ hv gh oh gf op q b c' X C F):=(E3.out.keep bD).setLW H.out.2.2 HL.out.1 HL.out.2 (z.word-1)
 clear f1 i1 fc3 lt0 lw0 hbl hgl lz
 go_upto_region 3 with fail
 go_region_law (fail)
 all_goals
  go_wp2_with fail
  exact bodyPost_end (v:=.tuple #[]) (by kernel_rfl) rfl E4.out.res
theorem IH{P:Program}(w:World)(dT sT ty elem:TypeId)(g o dLen dCap:Nat)(a:Addr)(sLen sCap:Nat)(cur:Array Value)(t:TypeId)(cs:List Value)
 (hu:P.underlying dT=some (.slice elem)) (hs:(P.info? elem).map (·.size)=some 2)
 (hg:w.heap[g]?=some (.cells cur t (0,0))) (hn:cs.length=Nat.min sLen dLen*2)
 (hsrc:∀j v,cs[j]?=some v->w.cell? (a.add j)=some v) (hfit:o+cs.length<=cur.size) (h1:∀v∈cs,v.oneCell'=true):
 (Builtin.copy_ #[dT,sT] ty #[.slice (some ⟨g,o,none⟩) dLen dCap,.slice (some a) sLen sCap]).run P w=
  .ok (goInt (Nat.min sLen dLen)) (w.setRow g (cur.toList.take o++cs++cur.toList.drop (o+cs.length)).toArray):=by
 have hl:=run_loadCells_list (P:=P) w a cs hsrc;have hst:=run_storeCells_at P g o t cs 0 cur w hg (by simpa using hfit) h1;cases hq:P.info? elem with
 |none=>simp[hq]at hs
 |some i=>
  have hi:i.size=2:=by simpa[hq]using hs
  simp[Builtin.copy_,run_underlying hu,Builtin.lenOf,Builtin.firstCells,sizeOf,typeInfo,hq,hi,<-hn,hl,hst]
theorem Em{P:Program}(w:World)(dT sT ty elem:TypeId)(d a:Option Addr)(dLen dCap sLen sCap:Nat)(hu:P.underlying dT=some (.slice elem))(hs:(P.info? elem).map (·.size)=some 2)(hn:Nat.min sLen dLen=0):
 (Builtin.copy_ #[dT,sT] ty #[.slice d dLen dCap,.slice a sLen sCap]).run P w=.ok (goInt 0) w:=by
 cases hq:P.info? elem with
 |none=>simp[hq]at hs
 |some i=>
  have hl:∀(x:Addr),(loadCells x 0).run P w=.ok #[] w:=fun x=>by simpa using run_loadCells_list (P:=P) w x [] (by simp)
  cases d<;>cases a<;>simp[Builtin.copy_,run_underlying hu,Builtin.lenOf,Builtin.firstCells,sizeOf,typeInfo,hq,hn,storeCells,hl]
theorem Hk{F:List (MG×Value)}{m:Nat}{r:Value×List MC}(h:r∈AL (F.take m)):r∈AL F:=by
 unfold AL at*;rw[List.map_take]at h;exact List.mem_of_mem_take h
theorem Ax.popF{w u:World}{B M top:Nat}{t:Int}{d:Bool}{c n:Int}{X:VS}{C:List (Value×List MC)}{K:List MC}{F:List (MG×Value)}{hv:Value}{gh oh gf:Nat}{op a b c':Int}{X0:VS}{C0:List (Value×List MC)}{F0:List (MG×Value)}(h:Ax w u B M top t d c n X C K F hv gh oh gf op a b c' X0 C0 F0){m m' c3:Nat}(hXf:X.f=.slice (some ⟨gf,0,none⟩) m' c3)(hm:m<=F.length):Ax w (u.setCell ⟨M,6,none⟩ (.slice (some ⟨gf,0,none⟩) m c3)) B M top t d c n ⟨X.c,X.k,.slice (some ⟨gf,0,none⟩) m c3⟩ C K (F.take m) hv gh oh gf op a b c' X0 C0 F0:=by
 have hM:=h.hM;have h1:=h.own.popF hXf hm
 have hin:∀j,C8 ⟨X.c,X.k,.slice (some ⟨gf,0,none⟩) m c3⟩ C (F.take m) j->C8 X C F j:=fun j hj=>by
  rcases hj with e|e|e|e|⟨r,hr,e⟩
  ·exact .inl e
  ·exact .inr (.inl e)
  ·exact .inr (.inr (.inl (by rw[hXf];exact e)))
  ·exact .inr (.inr (.inr (.inl e)))
  ·exact .inr (.inr (.inr (.inr ⟨r,Hk hr,e⟩)))
 have m1:=h.mb.setF (.slice (some ⟨gf,0,none⟩) m c3);exact⟨m1,Fc h1 h.mb,h.fb.other (by simp only[];omega) _,h.ib.other (by simp only[];omega) _,h.chg.setCell (.inl (.inl rfl)) _,fun j hj=>h.inn j (hin j hj),fun j hj=>h.far j (hin j hj),h.hB,h.hM⟩
theorem Ax.setD{w u:World}{B M top:Nat}{t:Int}{d:Bool}{c n:Int}{X:VS}{C:List (Value×List MC)}{K:List MC}{F:List (MG×Value)}{hv:Value}{gh oh gf:Nat}{op a b c':Int}{X0:VS}{C0:List (Value×List MC)}{F0:List (MG×Value)}(h:Ax w u B M top t d c n X C K F hv gh oh gf op a b c' X0 C0 F0)(d':Bool):Ax w (u.setCell ⟨M,1,none⟩ (.bool d')) B M top t d' c n X C K F hv gh oh gf op a b c' X0 C0 F0:=by
 have hM:=h.hM;exact⟨h.mb.setD d',Fc h.own h.mb,h.fb.other (by simp only[];omega) _,h.ib.other (by simp only[];omega) _,h.chg.setCell (.inl (.inl rfl)) _,h.inn,h.far,h.hB,h.hM⟩
theorem Lz(B M top:Nat)(t:Int)(d:Bool)(c n:Int)(X:VS)(C:List (Value×List MC))(K:List MC)(F:List (MG×Value))(hv:Value)(gh oh gf c3:Nat)(y:MG×Value)(op a b c':Int)(w:World)(hB:B<=w.heap.size)(h:Ah w B X C K F)(hm:MB w M t d c n X hv)(hF:F.length=top+1)(hF1:top<=1048576)(hy:F[top]?=some y)(hXf:X.f=.slice (some ⟨gf,0,none⟩) (top+1) c3)(hz:top=0):
 Calls Tryz.prog 168 #[.pointer (some ⟨M,0,none⟩),.agg #[.pointer (some ⟨gh,oh,none⟩),.pointer (some ⟨gf,top*4,none⟩)],.agg #[.int .i64 op,.int .i64 a,.int .i64 b,.int .i64 c']] w (BP w B M t true c n C K (F.take top) hv X C F):=by
 have HZ:Hid (top=0):=hz;clear hz;have E0:Hid (Ax w ((w.alloc (.cells #[.pointer (some ⟨gh,oh,none⟩),.pointer (some ⟨gf,top*4,none⟩)] 172)).alloc (.cells #[.int .i64 op,.int .i64 a,.int .i64 b,.int .i64 c'] 134)) B M top t d c n X C K F hv gh oh gf op a b c' X C F):=Ax.of gh oh gf op a b c' hB h hm;have H:Hid (Ah w B X C K F/\F.length=top+1/\F[top]?=some y):=⟨h,hF,hy⟩
 clear h hm hy;go_enter Tryz.func168,Tryz.ntmps168;go_upto_region 1 with fail
 refine Af (fun u=>Hid (Ax w u B M top t d c n X C K F hv gh oh gf op a b c' X C F)/\Below w.heap.size w u) ⟨E0,Ab (Aa _ _) lR (Aa _ _)⟩ ?_
 rintro U ⟨E1,bU⟩;clear E0;have hMw:=E1.out.hM;have m6:=E1.out.mb.at.2.2.2.2.2.2.1;rw[hXf]at m6;have bD:=Ad U;have m6d:=Ac bD m6;have mz6:=(E1.out.mb.keep bD).frozen 6;have htB:((top:Int)==0)=true:=by have:=HZ.out;simp;omega
 have hwt:IntKind.i64.wrap (top:Int)=(top:Int):=IntWalk.i64_in _ (by omega)
 have htc:(top:Int)<=(c3:Int):=by
  have ho:=E1.out.own.frames;rw[hXf]at ho;have:=CR ho;omega
 have E2:Hid (Ax w (U.drew.setCell ⟨M,6,none⟩ (.slice (some ⟨gf,0,none⟩) top c3)) B M top t d c n ⟨X.c,X.k,.slice (some ⟨gf,0,none⟩) top c3⟩ C K (F.take top) hv gh oh gf op a b c' X C F):=(E1.out.keep bD).popF hXf (by omega);clear hXf m6;go_upto_region 1 with fail
 go_region_law (fail)
 all_goals
  go_upto_region 2 with fail
  refine Af (fun u=>Hid (Ax w u B M top t d c n ⟨X.c,X.k,.slice (some ⟨gf,0,none⟩) top c3⟩ C K (F.take top) hv gh oh gf op a b c' X C F)) E2 ?_;rintro V E3;clear E2;have n6:=E3.out.mb.at.2.2.2.2.2.2.1;have n1:=E3.out.mb.at.2.1;have nz1:=E3.out.mb.frozen 1;simp only[]at n6;have E4:Hid (Ax w (V.setCell ⟨M,1,none⟩ (.bool true)) B M top t true c n ⟨X.c,X.k,.slice (some ⟨gf,0,none⟩) top c3⟩ C K (F.take top) hv gh oh gf op a b c' X C F):=E3.out.setD true;go_wp2_with fail
  exact bodyPost_end (v:=.tuple #[]) (by kernel_rfl) rfl E4.out.res
theorem Ly(B M top:Nat)(t:Int)(d:Bool)(c n:Int)(X:VS)(C:List (Value×List MC))(K:List MC)(F:List (MG×Value))(hv:Value)(gh oh gf c3:Nat)(y:MG×Value)(op a b c':Int)(w:World)(hB:B<=w.heap.size)(h:Ah w B X C K F)(hm:MB w M t d c n X hv)(hF:F.length=top+1)(hF1:top<=1048576)(hy:F[top]?=some y)(hXf:X.f=.slice (some ⟨gf,0,none⟩) (top+1) c3)(hz:¬top=0):
 Calls Tryz.prog 168 #[.pointer (some ⟨M,0,none⟩),.agg #[.pointer (some ⟨gh,oh,none⟩),.pointer (some ⟨gf,top*4,none⟩)],.agg #[.int .i64 op,.int .i64 a,.int .i64 b,.int .i64 c']] w (BP w B M t false c n C K (F.take top) hv X C F):=by
 have HZ:Hid (¬top=0):=hz;clear hz;have E0:Hid (Ax w ((w.alloc (.cells #[.pointer (some ⟨gh,oh,none⟩),.pointer (some ⟨gf,top*4,none⟩)] 172)).alloc (.cells #[.int .i64 op,.int .i64 a,.int .i64 b,.int .i64 c'] 134)) B M top t d c n X C K F hv gh oh gf op a b c' X C F):=Ax.of gh oh gf op a b c' hB h hm;have H:Hid (Ah w B X C K F/\F.length=top+1/\F[top]?=some y):=⟨h,hF,hy⟩
 clear h hm hy;go_enter Tryz.func168,Tryz.ntmps168;go_upto_region 1 with fail
 refine Af (fun u=>Hid (Ax w u B M top t d c n X C K F hv gh oh gf op a b c' X C F)/\Below w.heap.size w u) ⟨E0,Ab (Aa _ _) lR (Aa _ _)⟩ ?_
 rintro U ⟨E1,bU⟩;clear E0;have hMw:=E1.out.hM;have m6:=E1.out.mb.at.2.2.2.2.2.2.1;rw[hXf]at m6;have bD:=Ad U;have m6d:=Ac bD m6;have mz6:=(E1.out.mb.keep bD).frozen 6;have htB:((top:Int)==0)=false:=by have:=HZ.out;simp;omega
 have hwt:IntKind.i64.wrap (top:Int)=(top:Int):=IntWalk.i64_in _ (by omega)
 have htc:(top:Int)<=(c3:Int):=by
  have ho:=E1.out.own.frames;rw[hXf]at ho;have:=CR ho;omega
 have E2:Hid (Ax w (U.drew.setCell ⟨M,6,none⟩ (.slice (some ⟨gf,0,none⟩) top c3)) B M top t d c n ⟨X.c,X.k,.slice (some ⟨gf,0,none⟩) top c3⟩ C K (F.take top) hv gh oh gf op a b c' X C F):=(E1.out.keep bD).popF hXf (by omega);clear hXf m6;go_upto_region 1 with fail
 go_region_law (fail)
 all_goals
  go_upto_region 2 with fail
  refine Af (fun u=>Hid (Ax w u B M top t d c n ⟨X.c,X.k,.slice (some ⟨gf,0,none⟩) top c3⟩ C K (F.take top) hv gh oh gf op a b c' X C F)) E2 ?_;rintro V E3;clear E2;have n6:=E3.out.mb.at.2.2.2.2.2.2.1;have n1:=E3.out.mb.at.2.1;have nz1:=E3.out.mb.frozen 1;simp only[]at n6;have E4:Hid (Ax w (V.setCell ⟨M,1,none⟩ (.bool false)) B M top t false c n ⟨X.c,X.k,.slice (some ⟨gf,0,none⟩) top c3⟩ C K (F.take top) hv gh oh gf op a b c' X C F):=E3.out.setD false;go_wp2_with fail
  exact bodyPost_end (v:=.tuple #[]) (by kernel_rfl) rfl E4.out.res
theorem L2{w:World}{base:Nat}{e:TypeId}{k n g c:Nat}{xs cs:List Value}{cur:Array Value}(h:w.ownsRow base e k (.slice (some ⟨g,0,none⟩) n c) n xs)(hg:w.heap[g]?=some (.cells cur e (0,0)))(hl:cs.length<=n*k):(w.setRow g (cur.toList.take 0++cs++cur.toList.drop (0+cs.length)).toArray).ownsRow base e k (.slice (some ⟨g,0,none⟩) n c) n (cs++xs.drop cs.length):=by
 rcases h.2 with⟨e1,_⟩|⟨g',cap,cur',e1,hb,hg',hnc,hcm,hcs,ht⟩
 ·cases e1
 ·simp only[sJ,Option.some.injEq,Addr.mk.injEq,true_and,and_true]at e1
  obtain⟨rfl,rfl⟩:=e1;rw[hg]at hg';simp only[Option.some.injEq,Obj.cells.injEq,and_true]at hg';obtain rfl:=hg';have hx:=h.1;have hcl:n*k<=cur.toList.length:=by rw[Array.length_toList,hcs];exact Nat.mul_le_mul_right k hnc
  refine⟨by rw[List.length_append,List.length_drop,hx];omega,.inr ⟨g,c,_,rfl,hb,setRow_heap w g cur _ e _ hg,hnc,hcm,?_,?_⟩⟩
  ·simp only[List.size_toArray,List.take_zero,List.nil_append,List.length_append,List.length_drop,Nat.zero_add,Array.length_toList]at*
   omega
  ·simp only[List.take_zero,List.nil_append,Nat.zero_add]
   rw[List.take_append,List.take_of_length_le hl,<-ht,List.drop_take]
theorem LY{R:Nat->Prop}{u:World}(g:Nat)(cs:Array Value)(h:R g):C9 R u (u.setRow g cs):=⟨rfl,rfl,rfl,by simp,fun k hk hn=>setRow_other u g k cs (fun e=>hn (e▸h))⟩
theorem Ku(ps ls:List Int)(ar:List MC)(h:ar.length=ps.length):ar.flatMap MC.cells++((Aq (ps++ls)).flatMap MC.cells).drop (ar.flatMap MC.cells).length=(ar++Aq ls).flatMap MC.cells:=by
 have e1:(ar.flatMap MC.cells).length=((Aq ps).flatMap MC.cells).length:=by rw[Az MC.cells 2 MC.cells_length,Az MC.cells 2 MC.cells_length,h];simp[Aq]
 have e2:Aq (ps++ls)=Aq ps++Aq ls:=by simp[Aq]
 rw[e1,e2,List.flatMap_append,List.drop_left,<-List.flatMap_append]
theorem Ah.pushF2{w1 w2:World}{B Y:Nat}{v:VS}{C:List (Value×List MC)}{K:List MC}{F:List (MG×Value)}(h1:Ah w1 B v C K F)(hB:B<=Y)(hY:∀j,C8 v C F j->j<Y){x:MG×Value}(hl:w1.ownsRow Y 128 2 x.2 x.1.locals.length (x.1.locals.flatMap MC.cells)){b:Value}(hg:w1.grownBy w2 v.f.ownBlock)(ho:w2.ownsRow B 123 4 b (F.length+1) (F.flatMap AA++AA x)):Ah w2 B {v with f:=b} C K (F++[x]):=by
 have apart:∀{e:TypeId} {s:Value} {k n:Nat} {xs:List Value} {B':Nat},w1.ownsRow B' e k s n xs->e≠123->w2.ownsRow B' e k s n xs:=by
  intro e s k n xs B' ho' hne;refine Bn ho' hg (fun g hgs e'=> ?_);rcases h1.frames.2 with⟨e1,_⟩|⟨g1,cap,cur,e1,_,hg1,_⟩
  ·rw[e1]at e';cases e'
  ·rw[e1]at e'
   simp only[Value.ownBlock,Option.some.injEq]at e';subst e';exact AJ ho' hg1 hne g hgs rfl
 refine⟨apart h1.cells (by decide),?_,?_,?_⟩
 ·rw[List.length_append,List.flatMap_append]
  simpa using ho
 ·intro r hr
  simp only[AL,List.map_append,List.map_cons,List.map_nil,List.mem_append,List.mem_cons,List.not_mem_nil,or_false]at hr;rcases hr with(hr|rfl)|hr|rfl
  ·exact apart (h1.fam.own r (by simp[hr])) (by decide)
  ·exact apart (h1.fam.own (v.k,K) (by simp)) (by decide)
  ·exact apart (h1.fam.own r (by simp only[AL,List.mem_append];exact .inr hr)) (by decide)
  ·exact apart (AK hl hB) (by decide)
 ·rw[show C++[(v.k,K)]++AL (F++[x])=(C++[(v.k,K)]++AL F)++[(x.2,x.1.locals)]by simp[AL]]
  refine List.pairwise_append.2 ⟨h1.fam.sep,by simp,fun a ha r hr=> ?_⟩;simp only[List.mem_cons,List.not_mem_nil,or_false]at hr;subst hr;intro g hga e;have h3:=hl.lt g e
  have h2:C8 v C F g:=by
   simp only[List.mem_append,List.mem_singleton]at ha;rcases ha with(ha|rfl)|ha
   ·exact .inr (.inr (.inr (.inl ⟨a,ha,hga⟩)))
   ·exact .inr (.inl hga)
   ·exact .inr (.inr (.inr (.inr ⟨a,ha,hga⟩)))
  have:=hY g h2;omega
theorem Ax.farRow{w u:World}{B M top:Nat}{t:Int}{d:Bool}{c n:Int}{X:VS}{C:List (Value×List MC)}{K:List MC}{F:List (MG×Value)}{hv:Value}{gh oh gf:Nat}{op a b c':Int}{X0:VS}{C0:List (Value×List MC)}{F0:List (MG×Value)}(h:Ax w u B M top t d c n X C K F hv gh oh gf op a b c' X0 C0 F0){u':World}{g:Nat}(hc:C9 (fun j=>j=g) u u')(hg:w.heap.size+1<g)(hn:∀j,C8 X C F j->j<g):Ax w u' B M top t d c n X C K F hv gh oh gf op a b c' X0 C0 F0:=by
 have hM:=h.hM;exact⟨h.mb.chg hc (by omega),h.own.chg hc (fun j hj e=>by have:=hn j hj;omega),hc.blk h.fb (by omega),hc.blk h.ib (by omega),h.chg.trans hc (fun j hj e=>by omega),h.inn,h.far,h.hB,h.hM⟩
theorem Ax.popK{w u:World}{B M top:Nat}{t:Int}{d:Bool}{c n:Int}{X:VS}{C:List (Value×List MC)}{K:List MC}{F:List (MG×Value)}{hv:Value}{gh oh gf:Nat}{op a b c':Int}{X0:VS}{C0:List (Value×List MC)}{F0:List (MG×Value)}(h:Ax w u B M top t d c n X C K F hv gh oh gf op a b c' X0 C0 F0){a2:Option Addr}{m kl c2:Nat}(hk:X.k=.slice a2 m c2)(hl:kl<=K.length):Ax w (u.setCell ⟨M,5,none⟩ (.slice a2 kl c2)) B M top t d c n ⟨X.c,.slice a2 kl c2,X.f⟩ C (K.take kl) F hv gh oh gf op a b c' X0 C0 F0:=
 h.pop (h.mb.setK _) (Fc (h.own.popK (Nat.le_trans h.hB h.chg.size) hk hl) h.mb) (C9.setCell (R:=fun j=>j=M) (C9.refl _ u) (.inl rfl) _) (by rw[hk];cases a2<;>rfl)
theorem Ax.pushF{w u:World}{B M top:Nat}{t:Int}{d:Bool}{c n:Int}{X:VS}{C:List (Value×List MC)}{K:List MC}{F:List (MG×Value)}{hv:Value}{gh oh gf:Nat}{op a b c':Int}{X0:VS}{C0:List (Value×List MC)}{F0:List (MG×Value)}(h:Ax w u B M top t d c n X C K F hv gh oh gf op a b c' X0 C0 F0){u8:World}{Y:Nat}(hY1:w.heap.size+1<Y)(hY:∀j,C8 X C F j->j<Y){x:MG×Value}(hl:u.ownsRow Y 128 2 x.2 x.1.locals.length (x.1.locals.flatMap MC.cells)){v:Value}(hg:u.grownBy u8 X.f.ownBlock)(ho:u8.ownsRow B 123 4 v (F.length+1) (F.flatMap AA++AA x))(hat:v.ownBlock=X.f.ownBlock\/∀g,v.ownBlock=some g->Y<=g):Ax w (u8.setCell ⟨M,6,none⟩ v) B M top t d c n ⟨X.c,X.k,v⟩ C K (F++[x]) hv gh oh gf op a b c' X0 C0 F0:=by
 have hM:=h.hM;have hB:=h.hB;have o1:=h.own.pushF2 (by omega) hY hl hg ho;have hcg:C9 (fun j=>X.f.ownBlock=some j) u u8:=⟨hg.os,hg.tape,hg.output,hg.size,fun k hk hn=>hg.block k hk (fun e=>hn e.symm)⟩;have nM:=h.own.neM h.mb;have m1:=h.mb.chg hcg (fun e=>nM (.inr (.inr (.inl e))))
 have nf:∀j,j=w.heap.size\/j=w.heap.size+1->¬X.f.ownBlock=some j:=fun j hj e=>by
  have:=h.far j (.inr (.inr (.inl e)));omega
 have hin:∀j,C8 ⟨X.c,X.k,v⟩ C (F++[x]) j->C8 X C F j\/Y<=j:=fun j hj=>by
  rcases hj with e|e|e|e|⟨r,hr,e⟩
  ·exact .inl (.inl e)
  ·exact .inl (.inr (.inl e))
  ·rcases hat with hat|hat
   ·exact .inl (.inr (.inr (.inl (by rw[<-hat];exact e))))
   ·exact .inr (hat j e)
  ·exact .inl (.inr (.inr (.inr (.inl e))))
  ·simp only[AL,List.map_append,List.map_cons,List.map_nil,List.mem_append,List.mem_cons,List.not_mem_nil,or_false]at hr
   rcases hr with hr|rfl
   ·exact .inl (.inr (.inr (.inr (.inr ⟨r,hr,e⟩))))
   ·exact .inr (hl.lt j e).1
 refine⟨m1.setF v,Fc o1 m1,(hcg.blk h.fb (nf _ (.inl rfl))).other (by simp only[];omega) _,(hcg.blk h.ib (nf _ (.inr rfl))).other (by simp only[];omega) _,(h.chg.trans hcg (fun j hj e=>.inr (h.inn j (.inr (.inr (.inl e))) hj))).setCell (.inl (.inl rfl)) _,fun j hj hlt=> ?_,fun j hj=> ?_,h.hB,h.hM⟩
 ·rcases hin j hj with e|e
  ·exact h.inn j e hlt
  ·omega
 ·rcases hin j hj with e|e
  ·exact h.far j e
  ·omega
theorem Ax.pushM{w u:World}{B M top:Nat}{t:Int}{d:Bool}{c n:Int}{X:VS}{C:List (Value×List MC)}{K:List MC}{F:List (MG×Value)}{hv:Value}{gh oh gf:Nat}{op a b c':Int}{X0:VS}{C0:List (Value×List MC)}{F0:List (MG×Value)}(h:Ax w u B M top t d c n X C K F hv gh oh gf op a b c' X0 C0 F0){u8:World}(hg:u.grownBy u8 X.f.ownBlock):MB u8 M t d c n X hv:=
 h.mb.chg (R:=fun j=>X.f.ownBlock=some j) ⟨hg.os,hg.tape,hg.output,hg.size,fun k hk hn=>hg.block k hk (fun e=>hn e.symm)⟩ (fun e=>h.own.neM h.mb (.inr (.inr (.inl e))))
theorem My(t:Value)(ts:List Int)(m:Nat)(hm:ts.length=m)(w:World)(hn:m<=4194304)(h':Rd w 1 t m (ts.flatMap Ae)):
 Calls Tryz.prog 113 #[t] w fun e w'=>∃a c,e=.returned (.slice a m c)/\w'.ownsRow w.heap.size 128 2 (.slice a m c) m ((Aq ts).flatMap MC.cells)/\Below w.heap.size w w':=by
 subst hm;exact GR t ts w hn h'
theorem N7(ar:List MC)(B M top:Nat)(t:Int)(d:Bool)(c n:Int)(X:VS)(C:List (Value×List MC))(K:List MC)(F:List (MG×Value))(hv:Value)(gh oh gf c3:Nat)(y:MG×Value)(op a b c':Int)(w:World)(hB:B<=w.heap.size)(h:Ah w B X C (K++ar) F)(hm:MB w M t d c n X hv)(hF:F.length=top+1)(hF1:top<=1048576)(hy:F[top]?=some y)(hXf:X.f=.slice (some ⟨gf,0,none⟩) (top+1) c3)(hKa:K.length+ar.length<=1048576)(q:Nat)(ha:a=q)(ps ls:List Int)(har:ar.length=ps.length)(gH nf ch:Nat)(hhv:hv=.slice (some ⟨gH,0,none⟩) nf ch)(hq:q<nf)(hnf:nf<=1048576)(nz:Nat)(hnz:(ps++ls).length=nz)(pp tp:Option Addr)(pc tc:Nat)(hp:w.cell? ⟨gH,q*9+4,none⟩=some (.slice pp ps.length pc))(ht:w.cell? ⟨gH,q*9+8,none⟩=some (.slice tp nz tc))(hrd:Rd w 1 (.slice tp nz tc) nz ((ps++ls).flatMap Ae))(hpl:nz<=1048576):
 Calls Tryz.prog 167 #[.pointer (some ⟨M,0,none⟩),.agg #[.pointer (some ⟨gh,oh,none⟩),.pointer (some ⟨gf,top*4,none⟩)],.agg #[.int .i64 op,.int .i64 a,.int .i64 b,.int .i64 c']] w (fun e w'=>∃vl,BP w B M t d c n C K (F++[(⟨(q:Int),0,((K.length:Nat):Int),ar++Aq ls⟩,vl)]) hv X C F e w'):=by
 subst ha hhv;obtain⟨x1,x2,x3⟩:=X;simp only[]at hXf;subst hXf;obtain⟨a2,c2,e2⟩:=Al (h.fam.own (x2,K++ar) (by simp));simp only[]at e2
 have hcap:(K++ar).length<=c2:=by
  have h2:=h.fam.own (x2,K++ar) (by simp);simp only[]at h2;rw[e2]at h2;exact CR h2
 subst e2;obtain⟨kl,hkl⟩:∃kl,K.length=kl:=⟨_,rfl⟩;have hKA:(K++ar).length=kl+ps.length:=by rw[List.length_append,hkl,har]
 rw[hKA]at h hm hcap⊢;rw[hkl]at hKa⊢;have HK:Hid (K.length=kl/\ar.length=ps.length/\(K++ar).length=kl+ps.length):=⟨hkl,har,hKA⟩
 have hKa2:kl+ps.length<=1048576:=by omega
 have HNZ:Hid ((ps++ls).length=nz):=hnz;have hnz2:ps.length<=nz:=by rw[<-hnz,List.length_append];omega
 clear hkl har hKA hKa hnz;have E0:Hid (Ax w ((w.alloc (.cells #[.pointer (some ⟨gh,oh,none⟩),.pointer (some ⟨gf,top*4,none⟩)] 172)).alloc (.cells #[.int .i64 op,.int .i64 (q:Int),.int .i64 b,.int .i64 c'] 134)) B M top t d c n ⟨x1,.slice a2 (kl+ps.length) c2,.slice (some ⟨gf,0,none⟩) (top+1) c3⟩ C (K++ar) F (.slice (some ⟨gH,0,none⟩) nf ch) gh oh gf op q b c' ⟨x1,.slice a2 (kl+ps.length) c2,.slice (some ⟨gf,0,none⟩) (top+1) c3⟩ C F):=Ax.of gh oh gf op q b c' hB h hm;have H:Hid (Ah w B ⟨x1,.slice a2 (kl+ps.length) c2,.slice (some ⟨gf,0,none⟩) (top+1) c3⟩ C (K++ar) F/\F.length=top+1/\F[top]?=some y):=⟨h,hF,hy⟩
 clear h hm hy;go_enter Tryz.func167,Tryz.ntmps167;go_upto_region 1 with fail
 refine Af (fun u=>Hid (Ax w u B M top t d c n ⟨x1,.slice a2 (kl+ps.length) c2,.slice (some ⟨gf,0,none⟩) (top+1) c3⟩ C (K++ar) F (.slice (some ⟨gH,0,none⟩) nf ch) gh oh gf op q b c' ⟨x1,.slice a2 (kl+ps.length) c2,.slice (some ⟨gf,0,none⟩) (top+1) c3⟩ C F)/\Below w.heap.size w u) ⟨E0,Ab (Aa _ _) lR (Aa _ _)⟩ ?_
 rintro U ⟨E1,bU⟩;clear E0;have hMw:=E1.out.hM;have HPT:Hid (w.cell? ⟨gH,q*9+4,none⟩=some (.slice pp ps.length pc)/\w.cell? ⟨gH,q*9+8,none⟩=some (.slice tp nz tc)/\Rd w 1 (.slice tp nz tc) nz ((ps++ls).flatMap Ae)):=⟨hp,ht,hrd⟩
 clear hp ht hrd;have hqI:(q:Int)<(nf:Int):=by omega
 have hsub:IntKind.i64.wrap ((kl:Int)+(ps.length:Int)-(ps.length:Int))=(kl:Int):=by rw[IntWalk.i64_in _ (by omega)];omega
 have hsb2:(kl:Int)+(ps.length:Int)-(ps.length:Int)=(kl:Int):=by omega
 have m7:=E1.out.mb.at.2.2.2.2.2.2.2;have i1:=E1.out.ib.cell 1;simp only[gA,gZ,gS]at i1;have inst:=Aj.some U;have J0:=fun n:Aj U=>Aj.cell m7 n
 have J1:=fun n:Aj U=>Aj.cell i1 n
 go_wp2_with fail
 refine Am (by kernel_rfl) (by kernel_rfl) ?_;repeat(go_big_quiet_step (fail))
 refine wpQuiet_nil ?_;rintro w'' ⟨n',rfl⟩;have E2:Hid (Ax w n'.u B M top t d c n ⟨x1,.slice a2 (kl+ps.length) c2,.slice (some ⟨gf,0,none⟩) (top+1) c3⟩ C (K++ar) F (.slice (some ⟨gH,0,none⟩) nf ch) gh oh gf op q b c' ⟨x1,.slice a2 (kl+ps.length) c2,.slice (some ⟨gf,0,none⟩) (top+1) c3⟩ C F/\Below w.heap.size w n'.u):=⟨E1.out.keep n'.h,Ab bU lR n'.h⟩
 clear J0 J1 inst m7 i1 E1 bU;go_upto_region 2 with fail
 generalize n'.u=U2 at E2⊢;clear n';clear U;have m5:=E2.out.1.mb.at.2.2.2.2.2.1;have hp:=Ac E2.out.2 HPT.out.1;simp only[]at m5;have inst:=Aj.some U2;have J0:=fun n:Aj U2=>Aj.cell m5 n
 have J1:=fun n:Aj U2=>Aj.cell hp n
 go_wp2_with fail
 refine Am (by kernel_rfl) (by kernel_rfl) ?_;repeat(go_big_quiet_step (fail))
 refine wpQuiet_nil ?_;rintro w'' ⟨n',rfl⟩;have E3:Hid (Ax w n'.u B M top t d c n ⟨x1,.slice a2 (kl+ps.length) c2,.slice (some ⟨gf,0,none⟩) (top+1) c3⟩ C (K++ar) F (.slice (some ⟨gH,0,none⟩) nf ch) gh oh gf op q b c' ⟨x1,.slice a2 (kl+ps.length) c2,.slice (some ⟨gf,0,none⟩) (top+1) c3⟩ C F/\Below w.heap.size w n'.u):=⟨E2.out.1.keep n'.h,Ab E2.out.2 lR n'.h⟩
 clear J0 J1 inst m5 hp E2;go_upto_region 3 with fail
 generalize n'.u=U3 at E3⊢;clear n';clear U2;have ht:=Ac E3.out.2 HPT.out.2.1;go_wp2_with fail
 refine(My (.slice tp nz tc) (ps++ls) nz HNZ.out U3 (by omega) (HPT.out.2.2.keep E3.out.2 lR)).mono ?_;rintro e u4 ⟨az,cz,rfl,ownz,b4⟩;have E4:Hid (Ax w u4 B M top t d c n ⟨x1,.slice a2 (kl+ps.length) c2,.slice (some ⟨gf,0,none⟩) (top+1) c3⟩ C (K++ar) F (.slice (some ⟨gH,0,none⟩) nf ch) gh oh gf op q b c' ⟨x1,.slice a2 (kl+ps.length) c2,.slice (some ⟨gf,0,none⟩) (top+1) c3⟩ C F/\u4.ownsRow U3.heap.size 128 2 (.slice az nz cz) nz ((Aq (ps++ls)).flatMap MC.cells)/\∀j,C8 ⟨x1,.slice a2 (kl+ps.length) c2,.slice (some ⟨gf,0,none⟩) (top+1) c3⟩ C F j->j<U3.heap.size):=⟨E3.out.1.keep b4,ownz,fun j hj=>(E3.out.1.own.ltOf hj).2⟩
 have hY:w.heap.size+1<U3.heap.size:=E3.out.1.ib.lt;have hY4:U3.heap.size<=u4.heap.size:=b4.size;clear ownz b4 ht E3;go_upto_region 4 with fail
 generalize U3.heap.size=Y at E4 hY hY4;have m5:=E4.out.1.mb.at.2.2.2.2.2.1;simp only[]at m5;have hlen:kl+ps.length-kl=ps.length:=by omega
 have hk1:(kl:Int)<=(kl:Int)+(ps.length:Int):=by omega
 have hk2:(kl:Int)+(ps.length:Int)<=(c2:Int):=by omega
 have hk3:(kl:Int)<=(c2:Int):=by omega
 go_cut [] (fun wx=>Hid (Ax w wx B M top t d c n ⟨x1,.slice a2 (kl+ps.length) c2,.slice (some ⟨gf,0,none⟩) (top+1) c3⟩ C (K++ar) F (.slice (some ⟨gH,0,none⟩) nf ch) gh oh gf op q b c' ⟨x1,.slice a2 (kl+ps.length) c2,.slice (some ⟨gf,0,none⟩) (top+1) c3⟩ C F/\wx.ownsRow Y 128 2 (.slice az nz cz) nz ((ar++Aq ls).flatMap MC.cells)/\(∀j,C8 ⟨x1,.slice a2 (kl+ps.length) c2,.slice (some ⟨gf,0,none⟩) (top+1) c3⟩ C F j->j<Y)/\Y<=wx.heap.size))
 case first=>
  by_cases hnp:ps.length=0
  ·have HNP:Hid (ps.length=0):=hnp
   have HE:Hid (Aq (ps++ls)=ar++Aq ls):=by
    have e1:=List.eq_nil_of_length_eq_zero hnp;have e2:=List.eq_nil_of_length_eq_zero (HK.out.2.1.trans hnp);show Aq (ps++ls)=ar++Aq ls;rw[e1,e2];rfl
   clear hnp;have E5:Hid (Ax w u4 B M top t d c n ⟨x1,.slice a2 (kl+ps.length) c2,.slice (some ⟨gf,0,none⟩) (top+1) c3⟩ C (K++ar) F (.slice (some ⟨gH,0,none⟩) nf ch) gh oh gf op q b c' ⟨x1,.slice a2 (kl+ps.length) c2,.slice (some ⟨gf,0,none⟩) (top+1) c3⟩ C F/\u4.ownsRow Y 128 2 (.slice az nz cz) nz ((ar++Aq ls).flatMap MC.cells)/\(∀j,C8 ⟨x1,.slice a2 (kl+ps.length) c2,.slice (some ⟨gf,0,none⟩) (top+1) c3⟩ C F j->j<Y)/\Y<=u4.heap.size):=⟨E4.out.1,by have:=E4.out.2.1;rw[HE.out]at this;exact this,E4.out.2.2,hY4⟩
   rcases At (E4.out.1.own.fam.own (.slice a2 (kl+ps.length) c2,K++ar) (by simp))with⟨e,e0⟩|⟨g2,c2',e⟩
   ·simp only[sJ]at e
    obtain⟨rfl,hK0,rfl⟩:=e;clear e0 hK0;have hrun:=fun ty=>Em (P:=Tryz.prog) u4 36 36 ty 128 az none nz cz ps.length 0 Tryz.underlying36 (by kernel_rfl) (by have:=HNP.out;simp[this])
    go_wp2_with fail
    go_meet
    exact E5
   ·simp only[sJ]at e
    obtain⟨rfl,hx,rfl⟩:=e;clear hx;by_cases hne:c2=kl
    ·have hneI:((c2:Int)==(kl:Int))=true:=by simp;omega
     have hneN:(c2==kl)=true:=by simp;omega
     have hneZ:c2-kl=0:=by omega
     clear hne;have hrun:=fun ty=>Em (P:=Tryz.prog) u4 36 36 ty 128 az (some ⟨g2,0,none⟩) nz cz ps.length 0 Tryz.underlying36 (by kernel_rfl) (by have:=HNP.out;simp[this])
     go_wp2_with fail
     go_meet
     exact E5
    ·have hrun:=fun ty=>Em (P:=Tryz.prog) u4 36 36 ty 128 az (some ⟨g2,kl*2,none⟩) nz cz ps.length (c2-kl) Tryz.underlying36 (by kernel_rfl) (by have:=HNP.out;simp[this])
     go_wp2_with fail
     go_meet
     exact E5
  ·have hrow:=E4.out.1.own.fam.own (.slice a2 (kl+ps.length) c2,K++ar) (by simp)
   rcases At hrow with⟨e,e0⟩|⟨g2,c2',e⟩
   ·have:=HK.out.2.2
    simp only[]at e0;omega
   simp only[sJ]at e;obtain⟨rfl,hx,rfl⟩:=e;clear hx;simp only[HK.out.2.2]at hrow;rcases At E4.out.2.1 with⟨e,e0⟩|⟨gz,cz',e⟩
   ·omega
   simp only[sJ,true_and]at e;obtain⟨rfl,rfl⟩:=e;obtain⟨hYz,curz,hgz⟩:=Bq E4.out.2.1;have hcz:=CR E4.out.2.1;have hne:¬c2=kl:=by omega
   have hcs:(ar.flatMap MC.cells).length=ps.length*2:=by rw[Az MC.cells 2 MC.cells_length,HK.out.2.1]
   have hrt:=Jy (kl:=kl) (m:=ps.length) (c':=c2-kl) (Rd.of_own hrow) HK.out.2.2 rfl;rw[show(K++ar).drop kl=ar by rw[<-HK.out.1];exact List.drop_left]at hrt
   have hsrc:∀j v,(ar.flatMap MC.cells)[j]?=some v->u4.cell? ((⟨g2,kl*2,none⟩:Addr).add j)=some v:=fun j v hj=>by
    rcases hrt.2 with⟨e,_⟩|⟨g',o',c'',e,hc⟩
    ·exact absurd e hnp
    ·simp only[sJ,Option.some.injEq,Addr.mk.injEq,true_and,and_true]at e
     obtain⟨⟨rfl,rfl⟩,_⟩:=e;rw[CW];exact hc j v hj
   have hsz:ps.length*2<=curz.size:=by
    rcases E4.out.2.1.2 with⟨e,_⟩|⟨g',cap,cur',e,_,hg',hnc,hcm,hcs',_⟩
    ·cases e
    ·simp only[sJ,Option.some.injEq,Addr.mk.injEq,true_and,and_true]at e
     obtain⟨rfl,rfl⟩:=e;rw[hgz]at hg';simp only[Option.some.injEq,Obj.cells.injEq,and_true]at hg';obtain rfl:=hg';rw[hcs'];exact Nat.mul_le_mul_right 2 (by omega)
   have hmin:Nat.min ps.length nz=ps.length:=Nat.min_eq_left hnz2;have hrun:=fun ty=>IH (P:=Tryz.prog) u4 36 36 ty 128 gz 0 nz cz ⟨g2,kl*2,none⟩ ps.length (c2-kl) curz 128 (ar.flatMap MC.cells) Tryz.underlying36 (by kernel_rfl) hgz (by rw[hmin];exact hcs) hsrc (by rw[hcs];omega) (Cm ar)
   have E5:Hid (Ax w (u4.setRow gz (curz.toList.take 0++ar.flatMap MC.cells++curz.toList.drop (0+(ar.flatMap MC.cells).length)).toArray) B M top t d c n ⟨x1,.slice (some ⟨g2,0,none⟩) (kl+ps.length) c2,.slice (some ⟨gf,0,none⟩) (top+1) c3⟩ C (K++ar) F (.slice (some ⟨gH,0,none⟩) nf ch) gh oh gf op q b c' ⟨x1,.slice (some ⟨g2,0,none⟩) (kl+ps.length) c2,.slice (some ⟨gf,0,none⟩) (top+1) c3⟩ C F/\(u4.setRow gz (curz.toList.take 0++ar.flatMap MC.cells++curz.toList.drop (0+(ar.flatMap MC.cells).length)).toArray).ownsRow Y 128 2 (.slice (some ⟨gz,0,none⟩) nz cz) nz ((ar++Aq ls).flatMap MC.cells)/\(∀j,C8 ⟨x1,.slice (some ⟨g2,0,none⟩) (kl+ps.length) c2,.slice (some ⟨gf,0,none⟩) (top+1) c3⟩ C F j->j<Y)/\Y<=(u4.setRow gz (curz.toList.take 0++ar.flatMap MC.cells++curz.toList.drop (0+(ar.flatMap MC.cells).length)).toArray).heap.size):=⟨E4.out.1.farRow (LY gz _ rfl) (by omega) (fun j hj=>by have:=E4.out.2.2 j hj;omega),by
    have h1:=L2 (cs:=ar.flatMap MC.cells) E4.out.2.1 hgz (by rw[hcs];exact Nat.mul_le_mul_right 2 hnz2);rw[Ku ps ls ar HK.out.2.1]at h1;exact h1,E4.out.2.2,by rw[setRow_size];exact hY4⟩
   generalize u4.setRow gz (curz.toList.take 0++ar.flatMap MC.cells++curz.toList.drop (0+(ar.flatMap MC.cells).length)).toArray=u5 at hrun E5;clear hsrc hsz hrt hcs hgz hYz hrow;rw[hmin]at hrun;clear hmin;go_wp2_with fail
   go_meet
   exact E5
 case rest=>
  have E5:Hid (Ax w wc B M top t d c n ⟨x1,.slice a2 (kl+ps.length) c2,.slice (some ⟨gf,0,none⟩) (top+1) c3⟩ C (K++ar) F (.slice (some ⟨gH,0,none⟩) nf ch) gh oh gf op q b c' ⟨x1,.slice a2 (kl+ps.length) c2,.slice (some ⟨gf,0,none⟩) (top+1) c3⟩ C F/\wc.ownsRow Y 128 2 (.slice az nz cz) nz ((ar++Aq ls).flatMap MC.cells)/\(∀j,C8 ⟨x1,.slice a2 (kl+ps.length) c2,.slice (some ⟨gf,0,none⟩) (top+1) c3⟩ C F j->j<Y)/\Y<=wc.heap.size):=hcut
  clear hcut E4 m5;have hkK:kl<=(K++ar).length:=by rw[HK.out.2.2];omega
  have m5:=E5.out.1.mb.at.2.2.2.2.2.1;have mz5:=E5.out.1.mb.frozen 5;simp only[]at m5
  have E6:Hid (Ax w (wc.setCell ⟨M,5,none⟩ (.slice a2 kl c2)) B M top t d c n ⟨x1,.slice a2 kl c2,.slice (some ⟨gf,0,none⟩) (top+1) c3⟩ C K F (.slice (some ⟨gH,0,none⟩) nf ch) gh oh gf op q b c' ⟨x1,.slice a2 (kl+ps.length) c2,.slice (some ⟨gf,0,none⟩) (top+1) c3⟩ C F/\(wc.setCell ⟨M,5,none⟩ (.slice a2 kl c2)).ownsRow Y 128 2 (.slice az nz cz) nz ((ar++Aq ls).flatMap MC.cells)/\(∀j,C8 ⟨x1,.slice a2 kl c2,.slice (some ⟨gf,0,none⟩) (top+1) c3⟩ C F j->j<Y)/\Y<=(wc.setCell ⟨M,5,none⟩ (.slice a2 kl c2)).heap.size):=by
   have h1:=E5.out.1.popK (kl:=kl) rfl hkK;have h2:(K++ar).take kl=K:=by rw[<-HK.out.1];exact List.take_left
   rw[h2]at h1;refine⟨h1,ownsRow_setCell_other E5.out.2.1 (fun e=>by have:=(E5.out.2.1.lt _ e).1;simp only[]at this;omega) _,fun j hj=>E5.out.2.2.1 j (hj.stack (by cases a2<;>rfl)),by rw[World.size_setCell];exact E5.out.2.2.2⟩
  go_upto_region 6 with fail
  refine Af (fun u=>Hid (Ax w u B M top t d c n ⟨x1,.slice a2 kl c2,.slice (some ⟨gf,0,none⟩) (top+1) c3⟩ C K F (.slice (some ⟨gH,0,none⟩) nf ch) gh oh gf op q b c' ⟨x1,.slice a2 (kl+ps.length) c2,.slice (some ⟨gf,0,none⟩) (top+1) c3⟩ C F/\u.ownsRow Y 128 2 (.slice az nz cz) nz ((ar++Aq ls).flatMap MC.cells)/\(∀j,C8 ⟨x1,.slice a2 kl c2,.slice (some ⟨gf,0,none⟩) (top+1) c3⟩ C F j->j<Y)/\Y<=u.heap.size)) E6 ?_
  rintro V E7;clear E6 E5 m5 mz5;obtain⟨j0,hj,hy0,hy1,hy2⟩:=info_parts Mg;have m6:=E7.out.1.mb.at.2.2.2.2.2.2.1;have i1:=E7.out.1.ib.cell 1;simp only[]at m6;simp only[gA,gZ,gS]at i1;have bD:=Ad V;have bE:Below V.heap.size V (V.alloc (.cells #[.int .i64 (q:Int),.int .i64 0,.int .i64 (kl:Int),.slice az nz cz] 123)).drew:=Ab (Aa _ _) lR (Ad _);have m6d:=Ac bD m6;have m6e:=Ac bE m6;have i1d:=Ac bD i1;have i1e:=Ac bE i1
  have HC:Hid ((V.alloc (.cells #[.int .i64 (q:Int),.int .i64 0,.int .i64 (kl:Int),.slice az nz cz] 123)).drew.ownsRow B 123 4 (.slice (some ⟨gf,0,none⟩) (top+1) c3) (top+1) (F.flatMap AA)/\(∀j u,(AA (⟨(q:Int),0,(kl:Int),ar++Aq ls⟩,.slice az nz cz))[j]?=some u->(V.alloc (.cells #[.int .i64 (q:Int),.int .i64 0,.int .i64 (kl:Int),.slice az nz cz] 123)).drew.cell? ((⟨V.heap.size,0,none⟩:Addr).add j)=some u)/\B<=(V.alloc (.cells #[.int .i64 (q:Int),.int .i64 0,.int .i64 (kl:Int),.slice az nz cz] 123)).drew.heap.size/\Ax w (V.alloc (.cells #[.int .i64 (q:Int),.int .i64 0,.int .i64 (kl:Int),.slice az nz cz] 123)).drew B M top t d c n ⟨x1,.slice a2 kl c2,.slice (some ⟨gf,0,none⟩) (top+1) c3⟩ C K F (.slice (some ⟨gH,0,none⟩) nf ch) gh oh gf op q b c' ⟨x1,.slice a2 (kl+ps.length) c2,.slice (some ⟨gf,0,none⟩) (top+1) c3⟩ C F/\(V.alloc (.cells #[.int .i64 (q:Int),.int .i64 0,.int .i64 (kl:Int),.slice az nz cz] 123)).drew.ownsRow Y 128 2 (.slice az nz cz) nz ((ar++Aq ls).flatMap MC.cells)):=⟨by have h1:=Ag E7.out.1.own.frames bE lR;simp only[]at h1;rw[H.out.2.1]at h1;exact h1,fun j u hj=>by
   have:=cell_of_row _ V.heap.size (0+j) _ _ _ (Ck V #[.int .i64 (q:Int),.int .i64 0,.int .i64 (kl:Int),.slice az nz cz] 123);rw[CW];show(V.alloc (.cells #[.int .i64 (q:Int),.int .i64 0,.int .i64 (kl:Int),.slice az nz cz] 123)).cell? ⟨V.heap.size,0+j,none⟩=some u;rw[this,Nat.zero_add];simpa[AA]using hj,Nat.le_trans hB (Nat.le_trans E7.out.1.chg.size bE.size),E7.out.1.keep bE,Ag E7.out.2.1 bE lR⟩
  have HLN:Hid ((ar++Aq ls).length=nz/\Y<=(V.alloc (.cells #[.int .i64 (q:Int),.int .i64 0,.int .i64 (kl:Int),.slice az nz cz] 123)).drew.heap.size):=⟨by rw[List.length_append,HK.out.2.1,<-HNZ.out,List.length_append];simp[Aq],Nat.le_trans E7.out.2.2.2 bE.size⟩
  clear m6 i1 bD bE;go_upto_region 6 with fail
  go_region_law (refine step_append_lies _ rfl (.tmp 60) (.tmp 66) 37 rfl B 123 j0 (.agg #[.int .i64 0,.int .i64 0,.int .i64 0,.slice none 0 0]) 4 48 Tryz.underlying37 hj hy0 hy1 hy2 rfl (by decide) (.slice (some ⟨gf,0,none⟩) (top+1) c3) (top+1) (F.flatMap AA) (by simp[Act.eval]) HC.out.1 ⟨V.heap.size,0,none⟩ 1 1 (AA (⟨(q:Int),0,(kl:Int),ar++Aq ls⟩,.slice az nz cz)) (by simp[Act.eval]) rfl HC.out.2.1 (fun u hu=>by simp[AA]at hu;rcases hu with rfl|rfl|rfl|rfl<;>rfl) (by omega) (by unfold maxLen;omega) (by omega) HC.out.2.2.1 _ rfl ?_;intro gg cap u8 hown hgrow hat' hlt8;have HN:Hid (Ax w (u8.setCell ⟨M,6,none⟩ (.slice (some ⟨gg,0,none⟩) (top+1+1) cap)) B M top t d c n ⟨x1,.slice a2 kl c2,.slice (some ⟨gg,0,none⟩) (top+1+1) cap⟩ C K (F++[(⟨(q:Int),0,(kl:Int),ar++Aq ls⟩,.slice az nz cz)]) (.slice (some ⟨gH,0,none⟩) nf ch) gh oh gf op q b c' ⟨x1,.slice a2 (kl+ps.length) c2,.slice (some ⟨gf,0,none⟩) (top+1) c3⟩ C F/\MB u8 M t d c n ⟨x1,.slice a2 kl c2,.slice (some ⟨gf,0,none⟩) (top+1) c3⟩ (.slice (some ⟨gH,0,none⟩) nf ch)):=⟨HC.out.2.2.2.1.pushF (x:=(⟨(q:Int),0,(kl:Int),ar++Aq ls⟩,.slice az nz cz)) hY E7.out.2.2.1 (by simp only[HLN.out.1];exact HC.out.2.2.2.2) hgrow (by rw[H.out.2.1];exact hown) (hat'.elim (fun e=>.inl e.symm) (fun e=>.inr (fun g hg=>by simp only[Value.ownBlock,Option.some.injEq]at hg;have:=HLN.out.2;omega))),HC.out.2.2.2.1.pushM hgrow⟩;have y0:=HN.out.2.at.2.2.2.2.2.2.1;have y1:=HN.out.2.frozen 6;simp only[]at y0;clear hown hgrow hat' hlt8)
  all_goals
   go_wp2_with fail
   exact bodyPost_end (v:=.tuple #[]) (by kernel_rfl) rfl ⟨_,HN.out.1.res⟩
theorem OT(B M top:Nat)(t:Int)(d:Bool)(c n:Int)(X:VS)(C:List (Value×List MC))(K:List MC)(F:List (MG×Value))(hv:Value)(gf c3 gH nf ch kf:Nat)(y:MG×Value)(w:World)(h:Ah w B X C K F)(hm:MB w M t d c n X hv)(hF:F.length=top+1)(hF1:top<=1048576)(hy:F[top]?=some y)(hXf:X.f=.slice (some ⟨gf,0,none⟩) (top+1) c3)(hhv:hv=(.slice (some ⟨gH,0,none⟩) nf ch))(hkf:y.1.func=kf)(hk:kf<nf)(hnf:nf<=1048576):
 Calls Tryz.prog 98 #[.pointer (some ⟨M,0,none⟩)] w fun e w'=>e=.returned (.agg #[.pointer (some ⟨gH,kf*9,none⟩),.pointer (some ⟨gf,top*4,none⟩)])/\Below w.heap.size w w':=by
 subst hhv;obtain⟨x1,x2,x3⟩:=X;simp only[]at hXf;subst hXf;have E0:Hid (MB (w.alloc (.cells #[.pointer none,.pointer none] 172)) M t d c n _ _/\Ah (w.alloc (.cells #[.pointer none,.pointer none] 172)) B _ C K F/\Ap (w.alloc (.cells #[.pointer none,.pointer none] 172)) w.heap.size _ _/\Below w.heap.size w (w.alloc (.cells #[.pointer none,.pointer none] 172))):=⟨hm.keep (Aa _ _),h.grow (Aa _ _),Ap.new _ _ _,Aa _ _⟩
 have H:=h3 hF hy hkf;have hkI:(kf:Int)<(nf:Int):=by omega
 have hwt:IntKind.i64.wrap (top:Int)=(top:Int):=IntWalk.i64_in _ (by omega);clear h hm hy hkf;go_enter Tryz.func98,Tryz.ntmps98;go_upto_region 1 with fail
 refine Af (fun u=>Hid (MB u M t d c n _ _/\Ah u B _ C K F/\Ap u w.heap.size _ _/\Below w.heap.size w u)) E0 ?_
 rintro U E1;clear E0;have m6:=E1.out.1.at.2.2.2.2.2.2.1;simp only[]at m6;have inst:=Aj.some U;have J0:=fun n:Aj U=>Aj.cell m6 n
 go_wp2_with fail
 refine Am (by kernel_rfl) (by kernel_rfl) ?_;repeat(go_big_quiet_step (fail))
 refine wpQuiet_nil ?_;rintro w'' ⟨n',rfl⟩;have E2:=h4 (E1.out.1.keep n'.h) (E1.out.2.1.grow n'.h) (E1.out.2.2.1.keep n'.h) (Ab E1.out.2.2.2 lR n'.h);clear J0 inst m6 E1;go_upto_region 2 with fail
 generalize n'.u=V at E2⊢;clear n';have m7:=E2.out.1.at.2.2.2.2.2.2.2;have ho:=E2.out.2.1.frames;simp only[]at ho;rw[H.out.1]at ho;have fc0:=ho.cellAt (top*4+0) (by omega);rw[AF AA 4 Au F top 0 _ H.out.2.1 (by omega)]at fc0;simp only[AA,gZ,H.out.2.2,Nat.add_zero]at fc0;clear ho;obtain⟨r0,r1⟩:=E2.out.2.2.1.c2;obtain⟨rz0,rz1⟩:=E2.out.2.2.1.z2;try dsimp only at r0 r1
 have bD:=Ad V;have m7d:=Ac bD m7;have fcd:=Ac bD fc0;have r0d:=Ac bD r0;have r1d:=Ac bD r1;have R1:=E2.out.2.2.1.set 0 (.pointer (some ⟨gH,kf*9,none⟩));have q1:=R1.cell 1;have R2:=R1.set 1 (.pointer (some ⟨gf,top*4,none⟩));obtain⟨q3,q4⟩:=R2.c2;simp only[sA,List.set_cons_zero,gA,gZ,gS]at q1 q3 q4;have q1d:(V.setCell ⟨w.heap.size,0,none⟩ (.pointer (some ⟨gH,kf*9,none⟩))).drew.cell? ⟨w.heap.size,1,none⟩=some (.pointer none):=q1;have q2d:(V.setCell ⟨w.heap.size,0,none⟩ (.pointer (some ⟨gH,kf*9,none⟩))).drew.frozen? ⟨w.heap.size,1,none⟩=false:=R1.frozen 1;have q0d:V.drew.frozen? ⟨w.heap.size,0,none⟩=false:=rz0;have q3d:((V.setCell ⟨w.heap.size,0,none⟩ (.pointer (some ⟨gH,kf*9,none⟩))).setCell ⟨w.heap.size,1,none⟩ (.pointer (some ⟨gf,top*4,none⟩))).drew.cell? ⟨w.heap.size,0,none⟩=some (.pointer (some ⟨gH,kf*9,none⟩)):=q3;have q4d:((V.setCell ⟨w.heap.size,0,none⟩ (.pointer (some ⟨gH,kf*9,none⟩))).setCell ⟨w.heap.size,1,none⟩ (.pointer (some ⟨gf,top*4,none⟩))).drew.cell? ⟨w.heap.size,1,none⟩=some (.pointer (some ⟨gf,top*4,none⟩)):=q4
 have HB:Hid (Below w.heap.size w ((V.drew.setCell ⟨w.heap.size,0,none⟩ (.pointer (some ⟨gH,kf*9,none⟩))).setCell ⟨w.heap.size,1,none⟩ (.pointer (some ⟨gf,top*4,none⟩)))):=((Ab E2.out.2.2.2 lR bD).setCell (by simp) _).setCell (by simp) _;clear m7 fc0 r0 r1 rz0 rz1 bD R1 R2;go_upto_region 2 with fail
 go_region_law (fail)
 all_goals
  go_wp2_with fail
  exact bodyPost_ret (v:=.agg #[.pointer (some ⟨gH,kf*9,none⟩),.pointer (some ⟨gf,top*4,none⟩)]) (by simp[results,Tryz.results98,go_sem,q3d,q4d]) rfl ⟨rfl,HB.out⟩
end Go.Proofs.YtlejplpkomddeaaGreat
