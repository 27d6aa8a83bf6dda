import Derived.Test.YtlejplpkomddeaaGreatR0
import Derived.Test.YtlejplpkomddeaaGreatR4
import Derived.Test.YtlejplpkomddeaaGreatR48
import Derived.Deep.RegionHeldLaw
import Derived.Deep.RegionLaw
namespace Go.Proofs.YtlejplpkomddeaaGreat
open Go.ChangeShapes Go.WideShapes Go.ChangeAt Go.RowKit
set_option linter.unusedVariables false
set_option maxHeartbeats 4000000
set_option maxRecDepth 100000
theorem Bo(fv:Int)(kk Fk:Nat)(z0 z1:MC)(B M top:Nat)(t:Int)(d:Bool)(c n:Int)(X:VS)(C:List (Value×List MC))(K:List MC)(F:List (MG×Value))(hv:Value)(gh oh gf c3:Nat)(y:MG×Value)(op a b c':Int)(w:World)(hB:B<=w.heap.size)(h:Ah w B X C (K++[z0]++[z1]) F)(hm:MB w M t d c n X hv)(hF:F.length=top+1)(hF1:top<=1048576)(hy:F[top]?=some y)(hXf:X.f=.slice (some ⟨gf,0,none⟩) (top+1) c3)(hK:K.length<1048576)(hop:op=(kk:Int))(hkk:kk<30)(hrow:BF[kk*4+3]?=some (.func (.func Fk) #[] #[]))(hcl:∀w,Calls Tryz.prog Fk #[.int .i64 z0.type,.int .u32 z0.word,.int .u32 z1.word] w fun e w'=>e=.returned (.int .u32 fv)/\w'=w)(hcf:∀args w,(callFunc Fk args).run Tryz.prog w=.ok (.enter Fk args) w):
 Calls Tryz.prog 158 #[.pointer (some ⟨M,0,none⟩),.agg #[.pointer (some ⟨gh,oh,none⟩),.pointer (some ⟨gf,top*4,none⟩)],.agg #[.int .i64 op,.int .i64 a,.int .i64 b,.int .i64 c']] w (BP w B M t d c n C (K++[⟨z0.type,fv⟩]) F hv X C F):=by
 subst hop;have HCL:Hid (∀w,Calls Tryz.prog Fk #[.int .i64 z0.type,.int .u32 z0.word,.int .u32 z1.word] w fun e w'=>e=.returned (.int .u32 fv)/\w'=w):=hcl
 have HCF:Hid (∀args w,(callFunc Fk args).run Tryz.prog w=.ok (.enter Fk args) w):=hcf;have HRO:Hid (BF[kk*4+3]?=some (.func (.func Fk) #[] #[])):=hrow;have hkI:(kk:Int)<30:=by omega
 clear hcl hcf hrow;have E0:Hid (Ax w ((w.alloc (.cells #[.pointer (some ⟨gh,oh,none⟩),.pointer (some ⟨gf,top*4,none⟩)] 172)).alloc (.cells #[.int .i64 (kk:Int),.int .i64 a,.int .i64 b,.int .i64 c'] 134)) B M top t d c n X C (K++[z0]++[z1]) F hv gh oh gf (kk:Int) a b c' X C F):=Ax.of gh oh gf (kk:Int) a b c' hB h hm;have H:Hid (Ah w B X C (K++[z0]++[z1]) F/\F.length=top+1/\F[top]?=some y):=⟨h,hF,hy⟩
 clear h hm hy;go_enter Tryz.func158,Tryz.ntmps158;go_upto_region 1 with fail
 refine Af (fun u=>Hid (Ax w u B M top t d c n X C (K++[z0]++[z1]) F hv gh oh gf (kk:Int) a b c' X C F)/\Below w.heap.size w u) ⟨E0,Ab (Aa _ _) lR (Aa _ _)⟩ ?_
 rintro U ⟨E1,bU⟩;clear E0;clear hXf;have hMw:=E1.out.hM;go_wp2_with fail
 refine(CC B M t d c n X C (K++[z0]) F hv z1 U (Nat.le_trans E1.out.hB E1.out.chg.size) E1.out.own E1.out.mb (by simp;omega)).mono ?_;rintro e u1 ⟨rfl,k',h1,h2,h3,h4⟩;have E2:Hid (Ax w u1 B M top t d c n ⟨X.c,k',X.f⟩ C (K++[z0]) F hv gh oh gf (kk:Int) a b c' X C F):=E1.out.pop h1 h2 h3 h4;clear h1 h2 h3 h4 E1 bU;go_wp2_with fail;refine(CC B M t d c n ⟨X.c,k',X.f⟩ C K F hv z0 u1 (Nat.le_trans E2.out.hB E2.out.chg.size) E2.out.own E2.out.mb (by omega)).mono ?_;rintro e u2 ⟨rfl,k2,h1,h2,h3,h4⟩;have E3:Hid (Ax w u2 B M top t d c n ⟨X.c,k2,X.f⟩ C K F hv gh oh gf (kk:Int) a b c' X C F):=E2.out.pop h1 h2 h3 h4;have hYo:∀j,C8 ⟨X.c,k2,X.f⟩ C F j->j<u2.heap.size:=fun j hj=>(h2.ltOf hj).2
 clear h1 h2 h3 h4 E2;clear u1;have hY0:w.heap.size+1<u2.heap.size:=E3.out.ib.lt
 have EN:Hid (Ax w ((u2.alloc (.cells #[.int .i64 z1.type,.int .u32 z1.word] 128)).alloc (.cells #[.int .i64 z0.type,.int .u32 z0.word] 128)) B M top t d c n ⟨X.c,k2,X.f⟩ C K F hv gh oh gf (kk:Int) a b c' X C F/\Ap ((u2.alloc (.cells #[.int .i64 z1.type,.int .u32 z1.word] 128)).alloc (.cells #[.int .i64 z0.type,.int .u32 z0.word] 128)) u2.heap.size #[.int .i64 z1.type,.int .u32 z1.word] 128/\Ap ((u2.alloc (.cells #[.int .i64 z1.type,.int .u32 z1.word] 128)).alloc (.cells #[.int .i64 z0.type,.int .u32 z0.word] 128)) (u2.heap.size+1) #[.int .i64 z0.type,.int .u32 z0.word] 128):=by
  have b1:=Aa u2 (.cells #[.int .i64 z1.type,.int .u32 z1.word] 128);have k1:=Ap.new u2 #[.int .i64 z1.type,.int .u32 z1.word] 128;have k2:=Ap.new (u2.alloc (.cells #[.int .i64 z1.type,.int .u32 z1.word] 128)) #[.int .i64 z0.type,.int .u32 z0.word] 128;rw[World.size_alloc]at k2;exact⟨(E3.out.keep b1).keep (Aa _ _),k1.keep (Aa _ _),k2⟩
 go_upto_region 2 with fail
 generalize u2.heap.size=Y at EN hYo hY0⊢;refine Af (fun u=>Hid (Ax w u B M top t d c n ⟨X.c,k2,X.f⟩ C K F hv gh oh gf (kk:Int) a b c' X C F/\Ap u Y #[.int .i64 z1.type,.int .u32 z1.word] 128/\Ap u (Y+1) #[.int .i64 z0.type,.int .u32 z0.word] 128)) EN ?_
 rintro U2 E4;clear EN E3;clear u2;have HYO:Hid (∀j,C8 ⟨X.c,k2,X.f⟩ C F j->j<Y):=hYo;clear hYo;obtain⟨x0,x1⟩:=E4.out.2.2.c2;have y1:=E4.out.2.1.cell 1;have i0:=E4.out.1.ib.cell 0;simp only[gA,gZ,gS]at y1 i0;try dsimp only at x0 x1
 have rf:=E4.out.1.mb.row (kk*4+3) _ HRO.out;rw[<-Nat.add_assoc]at rf;have bD:=Ad U2;have KD:U2.drew.cell? ⟨Y+1,0,none⟩=some (.int .i64 z0.type)/\U2.drew.cell? ⟨Y+1,1,none⟩=some (.int .u32 z0.word)/\U2.drew.cell? ⟨Y,1,none⟩=some (.int .u32 z1.word)/\U2.drew.cell? ⟨w.heap.size+1,0,none⟩=some (.int .i64 (kk:Int))/\U2.drew.cell? ⟨M,8+kk*4+3,none⟩=some (.func (.func Fk) #[] #[]):=⟨Ac bD x0,Ac bD x1,Ac bD y1,Ac bD i0,Ac bD rf⟩
 clear x0 x1 y1 i0 rf
 have neR:∀j,(j=w.heap.size+1\/j=Y\/j=Y+1)->¬(j=M\/(⟨X.c,k2,X.f⟩:VS).k.ownBlock=some j):=fun j hj e=>by
  rcases e with e|e
  ·omega
  ·have h1:=HYO.out j (.inr (.inl e))
   have h2:=E4.out.1.far j (.inr (.inl e));omega
 go_upto_region 2 with fail
 go_region_held_law (fun w'=>w'.cell? ⟨Y+1,0,none⟩=some (.int .i64 z0.type)/\w'.cell? ⟨Y+1,1,none⟩=some (.int .u32 z0.word)/\w'.cell? ⟨Y,1,none⟩=some (.int .u32 z1.word)/\w'.cell? ⟨w.heap.size+1,0,none⟩=some (.int .i64 (kk:Int))/\w'.cell? ⟨M,8+kk*4+3,none⟩=some (.func (.func Fk) #[] #[])) (first|exact KD|exact KW|go_keep) (first
  |(go_simp;go_at_call 196;refine(C5 B M t d c n ⟨X.c,k2,X.f⟩ C K F hv ⟨z0.type,fv⟩ _ (Nat.le_trans E4.out.1.hB (E4.out.1.keep bD).chg.size) (E4.out.1.keep bD).own (E4.out.1.keep bD).mb (by omega)).mono ?_;rintro e u5 ⟨rfl,k9,h1,h2,h3,h4⟩;have E5:Hid (Ax w u5 B M top t d c n ⟨X.c,k9,X.f⟩ C (K++[⟨z0.type,fv⟩]) F hv gh oh gf (kk:Int) a b c' X C F):=(E4.out.1.keep bD).push h1 h2 h3 h4;have KW:u5.cell? ⟨Y+1,0,none⟩=some (.int .i64 z0.type)/\u5.cell? ⟨Y+1,1,none⟩=some (.int .u32 z0.word)/\u5.cell? ⟨Y,1,none⟩=some (.int .u32 z1.word)/\u5.cell? ⟨w.heap.size+1,0,none⟩=some (.int .i64 (kk:Int))/\u5.cell? ⟨M,8+kk*4+3,none⟩=some (.func (.func Fk) #[] #[]):=⟨h3.cell KD.1 (neR _ (by simp)),h3.cell KD.2.1 (neR _ (by simp)),h3.cell KD.2.2.1 (neR _ (by simp)),h3.cell KD.2.2.2.1 (neR _ (by simp)),(by have:=E5.out.mb.row (kk*4+3) _ HRO.out;rw[<-Nat.add_assoc]at this;exact this)⟩;clear h1 h2 h3 h4)
  |(go_simp;rw[HCF.out];refine(HCL.out _).mono ?_;rintro e u6 ⟨rfl,rfl⟩))
 all_goals
  go_wp2_with fail
  exact bodyPost_end (v:=.tuple #[]) (by kernel_rfl) rfl E5.out.res
theorem GX(fv:Int)(kk Fk:Nat)(z0 z1:MC)(B M top:Nat)(t:Int)(d:Bool)(c n:Int)(X:VS)(C:List (Value×List MC))(K:List MC)(F:List (MG×Value))(hv:Value)(gh oh gf c3:Nat)(y:MG×Value)(op a b c':Int)(w:World)(hB:B<=w.heap.size)(h:Ah w B X C (K++[z0]++[z1]) F)(hm:MB w M t d c n X hv)(hF:F.length=top+1)(hF1:top<=1048576)(hy:F[top]?=some y)(hXf:X.f=.slice (some ⟨gf,0,none⟩) (top+1) c3)(hK:K.length<1048576)(hop:op=(kk:Int))(hkk:kk<30)(hrow:BF[kk*4+3]?=some (.func (.func Fk) #[] #[]))(hcl:∀w,Calls Tryz.prog Fk #[.int .i64 z0.type,.int .u32 z0.word,.int .u32 z1.word] w fun e w'=>e=.returned (.int .u32 fv)/\w'=w)(hcf:∀args w,(callFunc Fk args).run Tryz.prog w=.ok (.enter Fk args) w):
 Calls Tryz.prog 160 #[.pointer (some ⟨M,0,none⟩),.agg #[.pointer (some ⟨gh,oh,none⟩),.pointer (some ⟨gf,top*4,none⟩)],.agg #[.int .i64 op,.int .i64 a,.int .i64 b,.int .i64 c']] w (BP w B M t d c n C (K++[⟨1,fv⟩]) F hv X C F):=by
 subst hop;have HCL:Hid (∀w,Calls Tryz.prog Fk #[.int .i64 z0.type,.int .u32 z0.word,.int .u32 z1.word] w fun e w'=>e=.returned (.int .u32 fv)/\w'=w):=hcl
 have HCF:Hid (∀args w,(callFunc Fk args).run Tryz.prog w=.ok (.enter Fk args) w):=hcf;have HRO:Hid (BF[kk*4+3]?=some (.func (.func Fk) #[] #[])):=hrow;have hkI:(kk:Int)<30:=by omega
 clear hcl hcf hrow;have E0:Hid (Ax w ((w.alloc (.cells #[.pointer (some ⟨gh,oh,none⟩),.pointer (some ⟨gf,top*4,none⟩)] 172)).alloc (.cells #[.int .i64 (kk:Int),.int .i64 a,.int .i64 b,.int .i64 c'] 134)) B M top t d c n X C (K++[z0]++[z1]) F hv gh oh gf (kk:Int) a b c' X C F):=Ax.of gh oh gf (kk:Int) a b c' hB h hm;have H:Hid (Ah w B X C (K++[z0]++[z1]) F/\F.length=top+1/\F[top]?=some y):=⟨h,hF,hy⟩
 clear h hm hy;go_enter Tryz.func160,Tryz.ntmps160;go_upto_region 1 with fail
 refine Af (fun u=>Hid (Ax w u B M top t d c n X C (K++[z0]++[z1]) F hv gh oh gf (kk:Int) a b c' X C F)/\Below w.heap.size w u) ⟨E0,Ab (Aa _ _) lR (Aa _ _)⟩ ?_
 rintro U ⟨E1,bU⟩;clear E0;clear hXf;have hMw:=E1.out.hM;go_wp2_with fail
 refine(CC B M t d c n X C (K++[z0]) F hv z1 U (Nat.le_trans E1.out.hB E1.out.chg.size) E1.out.own E1.out.mb (by simp;omega)).mono ?_;rintro e u1 ⟨rfl,k',h1,h2,h3,h4⟩;have E2:Hid (Ax w u1 B M top t d c n ⟨X.c,k',X.f⟩ C (K++[z0]) F hv gh oh gf (kk:Int) a b c' X C F):=E1.out.pop h1 h2 h3 h4;clear h1 h2 h3 h4 E1 bU;go_wp2_with fail;refine(CC B M t d c n ⟨X.c,k',X.f⟩ C K F hv z0 u1 (Nat.le_trans E2.out.hB E2.out.chg.size) E2.out.own E2.out.mb (by omega)).mono ?_;rintro e u2 ⟨rfl,k2,h1,h2,h3,h4⟩;have E3:Hid (Ax w u2 B M top t d c n ⟨X.c,k2,X.f⟩ C K F hv gh oh gf (kk:Int) a b c' X C F):=E2.out.pop h1 h2 h3 h4;have hYo:∀j,C8 ⟨X.c,k2,X.f⟩ C F j->j<u2.heap.size:=fun j hj=>(h2.ltOf hj).2
 clear h1 h2 h3 h4 E2;clear u1;have hY0:w.heap.size+1<u2.heap.size:=E3.out.ib.lt
 have EN:Hid (Ax w ((u2.alloc (.cells #[.int .i64 z1.type,.int .u32 z1.word] 128)).alloc (.cells #[.int .i64 z0.type,.int .u32 z0.word] 128)) B M top t d c n ⟨X.c,k2,X.f⟩ C K F hv gh oh gf (kk:Int) a b c' X C F/\Ap ((u2.alloc (.cells #[.int .i64 z1.type,.int .u32 z1.word] 128)).alloc (.cells #[.int .i64 z0.type,.int .u32 z0.word] 128)) u2.heap.size #[.int .i64 z1.type,.int .u32 z1.word] 128/\Ap ((u2.alloc (.cells #[.int .i64 z1.type,.int .u32 z1.word] 128)).alloc (.cells #[.int .i64 z0.type,.int .u32 z0.word] 128)) (u2.heap.size+1) #[.int .i64 z0.type,.int .u32 z0.word] 128):=by
  have b1:=Aa u2 (.cells #[.int .i64 z1.type,.int .u32 z1.word] 128);have k1:=Ap.new u2 #[.int .i64 z1.type,.int .u32 z1.word] 128;have k2:=Ap.new (u2.alloc (.cells #[.int .i64 z1.type,.int .u32 z1.word] 128)) #[.int .i64 z0.type,.int .u32 z0.word] 128;rw[World.size_alloc]at k2;exact⟨(E3.out.keep b1).keep (Aa _ _),k1.keep (Aa _ _),k2⟩
 go_upto_region 2 with fail
 generalize u2.heap.size=Y at EN hYo hY0⊢;refine Af (fun u=>Hid (Ax w u B M top t d c n ⟨X.c,k2,X.f⟩ C K F hv gh oh gf (kk:Int) a b c' X C F/\Ap u Y #[.int .i64 z1.type,.int .u32 z1.word] 128/\Ap u (Y+1) #[.int .i64 z0.type,.int .u32 z0.word] 128)) EN ?_
 rintro U2 E4;clear EN E3;clear u2;have HYO:Hid (∀j,C8 ⟨X.c,k2,X.f⟩ C F j->j<Y):=hYo;clear hYo;obtain⟨x0,x1⟩:=E4.out.2.2.c2;have y1:=E4.out.2.1.cell 1;have i0:=E4.out.1.ib.cell 0;simp only[gA,gZ,gS]at y1 i0;try dsimp only at x0 x1
 have rf:=E4.out.1.mb.row (kk*4+3) _ HRO.out;rw[<-Nat.add_assoc]at rf;have bD:=Ad U2;have KD:U2.drew.cell? ⟨Y+1,0,none⟩=some (.int .i64 z0.type)/\U2.drew.cell? ⟨Y+1,1,none⟩=some (.int .u32 z0.word)/\U2.drew.cell? ⟨Y,1,none⟩=some (.int .u32 z1.word)/\U2.drew.cell? ⟨w.heap.size+1,0,none⟩=some (.int .i64 (kk:Int))/\U2.drew.cell? ⟨M,8+kk*4+3,none⟩=some (.func (.func Fk) #[] #[]):=⟨Ac bD x0,Ac bD x1,Ac bD y1,Ac bD i0,Ac bD rf⟩
 clear x0 x1 y1 i0 rf
 have neR:∀j,(j=w.heap.size+1\/j=Y\/j=Y+1)->¬(j=M\/(⟨X.c,k2,X.f⟩:VS).k.ownBlock=some j):=fun j hj e=>by
  rcases e with e|e
  ·omega
  ·have h1:=HYO.out j (.inr (.inl e))
   have h2:=E4.out.1.far j (.inr (.inl e));omega
 go_upto_region 2 with fail
 go_region_held_law (fun w'=>w'.cell? ⟨Y+1,0,none⟩=some (.int .i64 z0.type)/\w'.cell? ⟨Y+1,1,none⟩=some (.int .u32 z0.word)/\w'.cell? ⟨Y,1,none⟩=some (.int .u32 z1.word)/\w'.cell? ⟨w.heap.size+1,0,none⟩=some (.int .i64 (kk:Int))/\w'.cell? ⟨M,8+kk*4+3,none⟩=some (.func (.func Fk) #[] #[])) (first|exact KD|exact KW|go_keep) (first
  |(go_simp;go_at_call 196;refine(C5 B M t d c n ⟨X.c,k2,X.f⟩ C K F hv ⟨1,fv⟩ _ (Nat.le_trans E4.out.1.hB (E4.out.1.keep bD).chg.size) (E4.out.1.keep bD).own (E4.out.1.keep bD).mb (by omega)).mono ?_;rintro e u5 ⟨rfl,k9,h1,h2,h3,h4⟩;have E5:Hid (Ax w u5 B M top t d c n ⟨X.c,k9,X.f⟩ C (K++[⟨1,fv⟩]) F hv gh oh gf (kk:Int) a b c' X C F):=(E4.out.1.keep bD).push h1 h2 h3 h4;have KW:u5.cell? ⟨Y+1,0,none⟩=some (.int .i64 z0.type)/\u5.cell? ⟨Y+1,1,none⟩=some (.int .u32 z0.word)/\u5.cell? ⟨Y,1,none⟩=some (.int .u32 z1.word)/\u5.cell? ⟨w.heap.size+1,0,none⟩=some (.int .i64 (kk:Int))/\u5.cell? ⟨M,8+kk*4+3,none⟩=some (.func (.func Fk) #[] #[]):=⟨h3.cell KD.1 (neR _ (by simp)),h3.cell KD.2.1 (neR _ (by simp)),h3.cell KD.2.2.1 (neR _ (by simp)),h3.cell KD.2.2.2.1 (neR _ (by simp)),(by have:=E5.out.mb.row (kk*4+3) _ HRO.out;rw[<-Nat.add_assoc]at this;exact this)⟩;clear h1 h2 h3 h4)
  |(go_simp;rw[HCF.out];refine(HCL.out _).mono ?_;rintro e u6 ⟨rfl,rfl⟩))
 all_goals
  go_wp2_with fail
  exact bodyPost_end (v:=.tuple #[]) (by kernel_rfl) rfl E5.out.res
theorem Kt(fv:Int)(kk Fk:Nat)(z0:MC)(B M top:Nat)(t:Int)(d:Bool)(c n:Int)(X:VS)(C:List (Value×List MC))(K:List MC)(F:List (MG×Value))(hv:Value)(gh oh gf c3:Nat)(y:MG×Value)(op a b c':Int)(w:World)(hB:B<=w.heap.size)(h:Ah w B X C (K++[z0]) F)(hm:MB w M t d c n X hv)(hF:F.length=top+1)(hF1:top<=1048576)(hy:F[top]?=some y)(hXf:X.f=.slice (some ⟨gf,0,none⟩) (top+1) c3)(hK:K.length<1048576)(hop:op=(kk:Int))(hkk:kk<30)(hrow:BF[kk*4+3]?=some (.func (.func Fk) #[] #[]))(hcl:∀w,Calls Tryz.prog Fk #[.int .i64 z0.type,.int .u32 z0.word,.int .u32 0] w fun e w'=>e=.returned (.int .u32 fv)/\w'=w)(hcf:∀args w,(callFunc Fk args).run Tryz.prog w=.ok (.enter Fk args) w):
 Calls Tryz.prog 159 #[.pointer (some ⟨M,0,none⟩),.agg #[.pointer (some ⟨gh,oh,none⟩),.pointer (some ⟨gf,top*4,none⟩)],.agg #[.int .i64 op,.int .i64 a,.int .i64 b,.int .i64 c']] w (BP w B M t d c n C (K++[⟨z0.type,fv⟩]) F hv X C F):=by
 subst hop;have HCL:=AS hcl;have HCF:Hid (∀args w,(callFunc Fk args).run Tryz.prog w=.ok (.enter Fk args) w):=hcf;have HRO:Hid (BF[kk*4+3]?=some (.func (.func Fk) #[] #[])):=hrow;have hkI:(kk:Int)<30:=by omega
 clear hcl hcf hrow;have E0:Hid (Ax w ((w.alloc (.cells #[.pointer (some ⟨gh,oh,none⟩),.pointer (some ⟨gf,top*4,none⟩)] 172)).alloc (.cells #[.int .i64 (kk:Int),.int .i64 a,.int .i64 b,.int .i64 c'] 134)) B M _ t d c n X C _ F hv gh oh gf _ a b c' X C F):=Ax.of gh oh gf (kk:Int) a b c' hB h hm;have H:=h3 h hF hy;clear h hm hy;go_enter Tryz.func159,Tryz.ntmps159;go_upto_region 1 with fail
 refine Af (fun u=>Hid (Ax w u B M _ t d c n X C _ F hv gh oh gf _ a b c' X C F)/\Below w.heap.size w u) ⟨E0,Ab (Aa _ _) lR (Aa _ _)⟩ ?_
 rintro U ⟨E1,bU⟩;clear E0;clear hXf;have hMw:=E1.out.hM;go_wp2_with fail
 refine(CC B M t d c n X C K F hv z0 U (Nat.le_trans E1.out.hB E1.out.chg.size) E1.out.own E1.out.mb (by omega)).mono ?_;rintro e u1 ⟨rfl,k',h1,h2,h3,h4⟩;have E2:=AS (E1.out.pop h1 h2 h3 h4);have hYo:∀j,C8 ⟨X.c,k',X.f⟩ C F j->j<u1.heap.size:=fun j hj=>(h2.ltOf hj).2
 clear h1 h2 h3 h4 E1 bU;have hY0:w.heap.size+1<u1.heap.size:=E2.out.ib.lt;have EN:Hid (Ax w (u1.alloc (.cells #[.int .i64 z0.type,.int .u32 z0.word] 128)) B M _ t d c n _ C K F hv gh oh gf _ a b c' X C F/\Ap (u1.alloc (.cells #[.int .i64 z0.type,.int .u32 z0.word] 128)) u1.heap.size _ _):=⟨E2.out.keep (Aa _ _),Ap.new _ _ _⟩
 go_upto_region 2 with fail
 generalize u1.heap.size=Y at EN hYo hY0⊢;refine Af (fun u=>Hid (Ax w u B M _ t d c n _ C K F hv gh oh gf _ a b c' X C F/\Ap u Y _ _)) EN ?_
 rintro U2 E4;clear EN E2;clear u1;have HYO:=AS hYo;clear hYo;obtain⟨x0,x1⟩:=E4.out.2.c2;have i0:=E4.out.1.ib.cell 0;simp only[gA,gZ]at i0;try dsimp only at x0 x1
 have rf:=E4.out.1.mb.row (kk*4+3) _ HRO.out;rw[<-Nat.add_assoc]at rf;have bD:=Ad U2;have KD:U2.drew.cell? ⟨Y,0,none⟩=some (.int .i64 z0.type)/\U2.drew.cell? ⟨Y,1,none⟩=some (.int .u32 z0.word)/\U2.drew.cell? ⟨w.heap.size+1,0,none⟩=some (.int .i64 (kk:Int))/\U2.drew.cell? ⟨M,8+kk*4+3,none⟩=some (.func (.func Fk) #[] #[]):=⟨Ac bD x0,Ac bD x1,Ac bD i0,Ac bD rf⟩
 clear x0 x1 i0 rf
 have neR:∀j,(j=w.heap.size+1\/j=Y\/j=Y+1)->¬(j=M\/(⟨X.c,k',X.f⟩:VS).k.ownBlock=some j):=fun j hj e=>by
  rcases e with e|e
  ·omega
  ·have h1:=HYO.out j (.inr (.inl e))
   have h2:=E4.out.1.far j (.inr (.inl e));omega
 go_upto_region 2 with fail
 go_region_held_law (fun w'=>w'.cell? ⟨Y,0,none⟩=some (.int .i64 z0.type)/\w'.cell? ⟨Y,1,none⟩=some (.int .u32 z0.word)/\w'.cell? ⟨w.heap.size+1,0,none⟩=some (.int .i64 (kk:Int))/\w'.cell? ⟨M,8+kk*4+3,none⟩=some (.func (.func Fk) #[] #[])) (first|exact KD|exact KW|go_keep) (first
  |(go_simp;go_at_call 196;refine(C5 B M t d c n ⟨X.c,k',X.f⟩ C K F hv ⟨z0.type,fv⟩ _ (Nat.le_trans E4.out.1.hB (E4.out.1.keep bD).chg.size) (E4.out.1.keep bD).own (E4.out.1.keep bD).mb (by omega)).mono ?_;rintro e u5 ⟨rfl,k9,h1,h2,h3,h4⟩;have E5:Hid (Ax w u5 B M top t d c n ⟨X.c,k9,X.f⟩ C (K++[⟨z0.type,fv⟩]) F hv gh oh gf (kk:Int) a b c' X C F):=(E4.out.1.keep bD).push h1 h2 h3 h4;have KW:u5.cell? ⟨Y,0,none⟩=some (.int .i64 z0.type)/\u5.cell? ⟨Y,1,none⟩=some (.int .u32 z0.word)/\u5.cell? ⟨w.heap.size+1,0,none⟩=some (.int .i64 (kk:Int))/\u5.cell? ⟨M,8+kk*4+3,none⟩=some (.func (.func Fk) #[] #[]):=⟨h3.cell KD.1 (neR _ (by simp)),h3.cell KD.2.1 (neR _ (by simp)),h3.cell KD.2.2.1 (neR _ (by simp)),(by have:=E5.out.mb.row (kk*4+3) _ HRO.out;rw[<-Nat.add_assoc]at this;exact this)⟩;clear h1 h2 h3 h4)
  |(go_simp;rw[HCF.out];refine(HCL.out _).mono ?_;rintro e u6 ⟨rfl,rfl⟩))
 all_goals
  go_wp2_with fail
  exact bodyPost_end (v:=.tuple #[]) (by kernel_rfl) rfl E5.out.res
end Go.Proofs.YtlejplpkomddeaaGreat
