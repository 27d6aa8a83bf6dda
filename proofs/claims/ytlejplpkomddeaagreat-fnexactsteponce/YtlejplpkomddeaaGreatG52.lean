import Derived.Test.YtlejplpkomddeaaGreatG0
import Derived.Test.YtlejplpkomddeaaGreatG5
import Derived.Test.YtlejplpkomddeaaGreatG51
import Derived.Test.YtlejplpkomddeaaGreatG50
import Derived.Test.YtlejplpkomddeaaGreatG33
import Derived.Test.YtlejplpkomddeaaGreatG49
import Derived.Test.YtlejplpkomddeaaGreatG15
import Derived.Test.YtlejplpkomddeaaGreatG28
import Derived.Test.YtlejplpkomddeaaGreatG29
import Derived.Test.YtlejplpkomddeaaGreatG43
import Derived.Test.YtlejplpkomddeaaGreatG21
import Derived.Test.YtlejplpkomddeaaGreatG10
import Derived.Test.YtlejplpkomddeaaGreatG4
namespace Go.Proofs.YtlejplpkomddeaaGreat
open Go.ChangeShapes Go.WideShapes Go.ChangeAt Go.RowKit
set_option linter.unusedVariables false
set_option maxHeartbeats 8000000
set_option maxRecDepth 100000
theorem DW.at2{u:World}{B gH nf ch:Nat}{v:VP}{p:MP}(h:DW u B v p (.slice (some ⟨gH,0,none⟩) nf ch)){q:Nat}{f:MF}(hq:p.funcs[q]?=some f):∃(g:VF) (tp:Option Addr) (tc:Nat),(∀u',Below B u u'->CK u' g f)/\u.cell? ⟨gH,q*9,none⟩=some v.r/\u.cell? ⟨gH,q*9+1,none⟩=some v.k/\u.cell? ⟨gH,q*9+2,none⟩=some v.f/\u.cell? ⟨gH,q*9+3,none⟩=some v.t/\u.cell? ⟨gH,q*9+4,none⟩=some g.p/\u.cell? ⟨gH,q*9+5,none⟩=some (.int .i64 f.result)/\u.cell? ⟨gH,q*9+6,none⟩=some g.l/\u.cell? ⟨gH,q*9+7,none⟩=some g.c/\u.cell? ⟨gH,q*9+8,none⟩=some (.slice tp (f.params++f.locals).length tc)/\Rd u 1 (.slice tp (f.params++f.locals).length tc) (f.params++f.locals).length ((f.params++f.locals).flatMap Af):=by
 obtain⟨gH',ch',e,h2⟩:=h.at hq;simp only[sJ,Option.some.injEq,Addr.mk.injEq]at e;obtain⟨⟨rfl,_⟩,_⟩:=e;exact h2
theorem I9(k:Nat)(hk:k<30)(args:Array Value)(w:World):(callFunc (GF k) args).run Tryz.prog w=.ok (.enter (GF k) args) w:=by
 have h:k=0\/k=1\/k=2\/k=3\/k=4\/k=5\/k=6\/k=7\/k=8\/k=9\/k=10\/k=11\/k=12\/k=13\/k=14\/k=15\/k=16\/k=17\/k=18\/k=19\/k=20\/k=21\/k=22\/k=23\/k=24\/k=25\/k=26\/k=27\/k=28\/k=29:=by omega
 clear hk;rcases h with rfl|rfl|rfl|rfl|rfl|rfl|rfl|rfl|rfl|rfl|rfl|rfl|rfl|rfl|rfl|rfl|rfl|rfl|rfl|rfl|rfl|rfl|rfl|rfl|rfl|rfl|rfl|rfl|rfl|rfl<;>(show Sem.run _ _ _=Result.ok _ _;kernel_rfl)
theorem Mh(k:Nat)(hk:k<30):BA[k*4+1]?=some (.int .i64 (BN k)):=by
 have h:k=0\/k=1\/k=2\/k=3\/k=4\/k=5\/k=6\/k=7\/k=8\/k=9\/k=10\/k=11\/k=12\/k=13\/k=14\/k=15\/k=16\/k=17\/k=18\/k=19\/k=20\/k=21\/k=22\/k=23\/k=24\/k=25\/k=26\/k=27\/k=28\/k=29:=by omega
 rcases h with rfl|rfl|rfl|rfl|rfl|rfl|rfl|rfl|rfl|rfl|rfl|rfl|rfl|rfl|rfl|rfl|rfl|rfl|rfl|rfl|rfl|rfl|rfl|rfl|rfl|rfl|rfl|rfl|rfl|rfl<;>rfl
theorem Ni(v:VP)(p:MP)(c n:Int)(X:VS)(C:List (Value×List MC))(K:List MC)(F:List (MG×Value))(hv:Value)(B M:Nat)(w:World)(hB:B<=w.heap.size)(hBM:B<=M)(h:Aj w B X C K F)(hm:MB w M 0 false c n X hv)(hd:DW w B v p hv)(hsh:BM p (Av 0 false c n C K F))(hwf:(Av 0 false c n C K F).wf)(hps:p.small)(hpw:p.wf)(hP:∀u,Below B w u->Cx u v p):
  Calls Tryz.prog 44 #[.pointer (some ⟨M,0,none⟩)] w (Np w B M p (Av 0 false c n C K F) hv X C F):=by
 have hK:K.length<=64:=hsh.high
 have hF32:F.length<=32:=by have:=hsh.deep;simpa[Av]using this
 obtain⟨top,htop⟩:∃top,F.length=top+1:=⟨F.length-1,by
  have:=hsh.some
  cases F with
  |nil=>exact absurd rfl this
  |cons a r=>simp⟩
 obtain⟨⟨fg,vl⟩,hy⟩:∃y,F[top]?=some y:=⟨_,gE (by omega)⟩
 have hfgm:fg∈(Av 0 false c n C K F).frames:=List.mem_map_of_mem (f:=Prod.fst) (mG hy)
 have hfr:=hsh.frames fg hfgm
 obtain⟨f,hf,hfl⟩:=hfr.locals
 have hb0:=IL hsh.bases fg hfgm
 obtain⟨b,hb⟩:=Int.eq_ofNat_of_zero_le hb0
 obtain⟨qf,hqf⟩:=Int.eq_ofNat_of_zero_le hfr.lo
 have hbK:b<=K.length:=by have:=hfr.base;rw[hb]at this;simp only[Av]at this;omega
 have hlast:(Av 0 false c n C K F).frames.getLast?=some fg:=Mm htop hy
 have hfn:p.funcs[fg.func.toNat]?=some f:=hf
 rw[hqf,Int.toNat_natCast]at hf
 have hql:=(gI.1 hf).1
 have hfs:f.small:=hps.func f (mG hf)
 have hcode:f.code.length<=1048576:=hfs.2.2
 have hnf:p.funcs.length<=1048576:=hps.funcs
 have hat64:Dn fg.at_:=(hwf.frames fg hfgm).at_
 obtain⟨hatl,hath⟩:=DN hat64
 obtain⟨hc0,hc1⟩:=hsh.cost
 obtain⟨hn0,hn1⟩:=hsh.steps
 simp only[Av]at hc0 hc1 hn0 hn1
 have h3:p.regions.length=3:=hsh.prog.parts.1.1
 rcases Au h.frames with⟨_,e⟩|⟨gf,c3,e3⟩
 ·omega
 have hlo:fg.locals.length<=32:=by
  have h1:=hfl.1
  have h2:fg.locals.length=(f.params++f.locals).length:=by rw[<-h1,List.length_map]
  have h4:Ch f:=hsh.prog.parts.2.2.1.2.2.1 qf hql f hf
  have:=h4.loc
  rw[h2,List.length_append]
  exact this
 rw[htop]at e3
 obtain⟨vc,vk',vf'⟩:=X
 simp only[]at e3
 subst e3
 obtain⟨gH,ch,eh,_⟩:=hd.at hf
 subst eh
 have hKw:∀z∈K,0<=z.word:=fun z hz=>FY (hwf.stack z hz)
 have hXo:∀j,C1 ⟨vc,vk',.slice (some ⟨gf,0,none⟩) (top+1) c3⟩ C F j->B<=j/\j<w.heap.size:=fun j hj=>h.ltOf hj
 have hMl:=hm.lt
 have H:Hid (BM p (Av 0 false c n C K F)/\(Av 0 false c n C K F).wf/\p.small/\p.wf/\F[top]?=some (fg,vl)/\fg.base=(b:Int)/\fg.func=(qf:Int)/\(∀z∈K,0<=z.word)/\p.regions.length=3):=⟨hsh,hwf,hps,hpw,hy,hb,hqf,hKw,h3⟩
 have HP:Hid (∀u,Below B w u->Cx u v p):=hP
 have HF:Hid ((Av 0 false c n C K F).frames.getLast?=some fg/\p.funcs[fg.func.toNat]?=some f/\p.funcs[qf]?=some f/\f.small/\Cu fg.locals (f.params++f.locals)/\F.length=top+1/\fg.locals.length<=32):=⟨hlast,hfn,hf,hfs,hfl,htop,hlo⟩
 have HXO:Hid (∀j,C1 ⟨vc,vk',.slice (some ⟨gf,0,none⟩) (top+1) c3⟩ C F j->B<=j/\j<w.heap.size):=hXo
 have HW:Hid (Aj w B ⟨vc,vk',.slice (some ⟨gf,0,none⟩) (top+1) c3⟩ C K F/\MB w M 0 false c n ⟨vc,vk',.slice (some ⟨gf,0,none⟩) (top+1) c3⟩ (.slice (some ⟨gH,0,none⟩) p.funcs.length ch)/\DW w B v p (.slice (some ⟨gH,0,none⟩) p.funcs.length ch)):=⟨h,hm,hd⟩
 have htl:top+1<=32:=by omega
 clear h hm hd hsh hwf hps hpw hP hlast hfn hf hfs hfl hfr hy hb hqf hfgm hb0 hat64 hKw h3 hXo hlo htop
 go_enter Tryz.func44,Tryz.ntmps44
 go_wp2_with fail
 refine(Oh B M top 0 false c n ⟨vc,vk',.slice (some ⟨gf,0,none⟩) (top+1) c3⟩ C K F (.slice (some ⟨gH,0,none⟩) p.funcs.length ch) gf c3 gH p.funcs.length ch qf (fg,vl) w HW.out.1 HW.out.2.1 HF.out.2.2.2.2.2.1 (by omega) H.out.2.2.2.2.1 rfl rfl H.out.2.2.2.2.2.2.1 hql hnf).mono ?_
 rintro e u1 ⟨rfl,b1⟩
 have E0:Hid (Dp w (u1.alloc (.cells #[.pointer (some ⟨gH,qf*9,none⟩),.pointer (some ⟨gf,top*4,none⟩)] 172)) B M top v p 0 c n ⟨vc,vk',.slice (some ⟨gf,0,none⟩) (top+1) c3⟩ C K F (.slice (some ⟨gH,0,none⟩) p.funcs.length ch) gH qf gf u1.heap.size):=by
  have b2:=Ac b1 lR (Aa u1 (.cells #[.pointer (some ⟨gH,qf*9,none⟩),.pointer (some ⟨gf,top*4,none⟩)] 172))
  exact⟨HW.out.2.1.keep b2,HW.out.1.grow b2,HW.out.2.2.keep hB b2,Aq.new _ _ _,C5.of b2,hB,hMl,hBM,b1.size,HXO.out⟩
 clear b1
 go_upto_region 1 with fail
 generalize u1.heap.size=Y at E0⊢
 refine Ag (fun u=>Hid (Dp w u B M top v p 0 c n ⟨vc,vk',.slice (some ⟨gf,0,none⟩) (top+1) c3⟩ C K F (.slice (some ⟨gH,0,none⟩) p.funcs.length ch) gH qf gf Y)) E0 ?_
 rintro U E1
 clear E0
 clear u1
 obtain⟨y0,y1⟩:=E1.out.fb.c2
 try dsimp only at y0 y1
 obtain⟨fc1,-⟩:=E1.out.frc rfl H.out.2.2.2.2.1
 simp only[]at fc1
 obtain⟨g,tp,tc,hRF,-,-,-,-,-,-,-,hg7,-,-⟩:=E1.out.hd.at2 HF.out.2.2.1
 obtain⟨gi0,g9,eg3⟩:=(hRF U (Below.refl B U)).2.2.is_slice
 rw[eg3]at hg7
 by_cases hat:0<=fg.at_/\fg.at_<(f.code.length:Int)
 ·have hdi:decide (0<=fg.at_/\fg.at_<(f.code.length:Int))=true:=decide_eq_true hat
  have inst:=Ae.some U
  have J0:=fun n:Ae U=>Ae.cell y0 n
  have J1:=fun n:Ae U=>Ae.cell y1 n
  have J2:=fun n:Ae U=>Ae.cell fc1 n
  have J3:=fun n:Ae U=>Ae.cell hg7 n
  go_wp2_with fail
  refine Ak (by kernel_rfl) (by kernel_rfl) ?_
  repeat(go_big_quiet_step ((go_at_call 99;rename_i n';exact(AJ fg.at_ (f.code.length:Int) n'.u).mono fun e w'' h=>⟨by rw[h.1,hdi],⟨n',h.2⟩⟩)))
  refine wpQuiet_nil ?_
  rintro w'' ⟨n',rfl⟩
  have E2:Hid (Dp w n'.u B M top v p 0 c n ⟨vc,vk',.slice (some ⟨gf,0,none⟩) (top+1) c3⟩ C K F (.slice (some ⟨gH,0,none⟩) p.funcs.length ch) gH qf gf Y):=E1.out.keep n'.h
  clear J0 J1 J2 J3 inst y0 y1 fc1 hg7 eg3 hRF E1
  go_upto_region 3 with fail
  generalize n'.u=V at E2⊢
  clear n'
  clear U
  obtain⟨ia,hia⟩:=Int.eq_ofNat_of_zero_le hat.1
  obtain⟨x,hx⟩:∃x,f.code[ia]?=some x:=⟨_,gE (by omega)⟩
  obtain⟨g',tp',tc',hRF,-,-,-,-,-,-,-,hg7,-,-⟩:=E2.out.hd.at2 HF.out.2.2.1
  obtain⟨gi,oi,g9',eg3,ic0,ic1,ic2,ic3⟩:=OK (hRF V (Below.refl B V)).2.2 hx
  rw[eg3]at hg7
  obtain⟨y0,y1⟩:=E2.out.fb.c2
  try dsimp only at y0 y1
  obtain⟨fc1,-⟩:=E2.out.frc rfl H.out.2.2.2.2.1
  simp only[]at fc1
  rw[hia]at fc1
  have bD:=Ad V
  have KD:V.drew.cell? ⟨Y,0,none⟩=some (.pointer (some ⟨gH,qf*9,none⟩))/\V.drew.cell? ⟨Y,1,none⟩=some (.pointer (some ⟨gf,top*4,none⟩))/\V.drew.cell? ⟨gH,qf*9+7,none⟩=some (.slice (some ⟨gi,oi,none⟩) f.code.length g9')/\V.drew.cell? ⟨gf,top*4+1,none⟩=some (.int .i64 (ia:Int))/\V.drew.cell? ⟨gi,oi+ia*4,none⟩=some (.int .i64 x.op)/\V.drew.cell? ⟨gi,oi+ia*4+1,none⟩=some (.int .i64 x.a)/\V.drew.cell? ⟨gi,oi+ia*4+2,none⟩=some (.int .i64 x.b)/\V.drew.cell? ⟨gi,oi+ia*4+3,none⟩=some (.int .i64 x.c):=⟨Ab bD y0,Ab bD y1,Ab bD hg7,Ab bD fc1,Ab bD ic0,Ab bD ic1,Ab bD ic2,Ab bD ic3⟩
  have HC:Hid (∀u,Below V.heap.size V u->u.cell? ⟨Y,0,none⟩=some (.pointer (some ⟨gH,qf*9,none⟩))/\u.cell? ⟨Y,1,none⟩=some (.pointer (some ⟨gf,top*4,none⟩))/\u.cell? ⟨gH,qf*9+7,none⟩=some (.slice (some ⟨gi,oi,none⟩) f.code.length g9')/\u.cell? ⟨gf,top*4+1,none⟩=some (.int .i64 (ia:Int))/\u.cell? ⟨gi,oi+ia*4,none⟩=some (.int .i64 x.op)/\u.cell? ⟨gi,oi+ia*4+1,none⟩=some (.int .i64 x.a)/\u.cell? ⟨gi,oi+ia*4+2,none⟩=some (.int .i64 x.b)/\u.cell? ⟨gi,oi+ia*4+3,none⟩=some (.int .i64 x.c)):=fun u bD=>⟨Ab bD y0,Ab bD y1,Ab bD hg7,Ab bD fc1,Ab bD ic0,Ab bD ic1,Ab bD ic2,Ab bD ic3⟩
  have KE0:=HC.out (V.alloc (.cells #[.int .i64 0,.int .i64 0,.int .i64 0,.int .i64 0] 134)).drew (Ac (Aa _ _) lR (Ad _))
  have KE1:=HC.out (V.alloc (.cells #[.int .i64 x.op,.int .i64 x.a,.int .i64 x.b,.int .i64 x.c] 134)).drew (Ac (Aa _ _) lR (Ad _))
  have HX:Hid (f.code[ia]?=some x/\fg.at_=(ia:Int)):=⟨hx,hia⟩
  have hiaI:(ia:Int)<(f.code.length:Int):=by omega
  clear y0 y1 fc1 hg7 ic0 ic1 ic2 ic3 eg3 hRF hx hia hat hdi
  go_region_held_law (fun w'=>w'.cell? ⟨Y,0,none⟩=some (.pointer (some ⟨gH,qf*9,none⟩))/\w'.cell? ⟨Y,1,none⟩=some (.pointer (some ⟨gf,top*4,none⟩))/\w'.cell? ⟨gH,qf*9+7,none⟩=some (.slice (some ⟨gi,oi,none⟩) f.code.length g9')/\w'.cell? ⟨gf,top*4+1,none⟩=some (.int .i64 (ia:Int))/\w'.cell? ⟨gi,oi+ia*4,none⟩=some (.int .i64 x.op)/\w'.cell? ⟨gi,oi+ia*4+1,none⟩=some (.int .i64 x.a)/\w'.cell? ⟨gi,oi+ia*4+2,none⟩=some (.int .i64 x.b)/\w'.cell? ⟨gi,oi+ia*4+3,none⟩=some (.int .i64 x.c)) (first|exact KD|exact KE0|exact KE1) (fail)
  have hZ:w.heap.size<=V.heap.size:=E2.out.chg.size
  have hYZ:Y<V.heap.size:=E2.out.fb.lt
  have E3:Hid (Dp w (V.alloc (.cells #[.int .i64 x.op,.int .i64 x.a,.int .i64 x.b,.int .i64 x.c] 134)).drew B M top v p 0 c n ⟨vc,vk',.slice (some ⟨gf,0,none⟩) (top+1) c3⟩ C K F (.slice (some ⟨gH,0,none⟩) p.funcs.length ch) gH qf gf Y/\Aq (V.alloc (.cells #[.int .i64 x.op,.int .i64 x.a,.int .i64 x.b,.int .i64 x.c] 134)).drew V.heap.size #[.int .i64 x.op,.int .i64 x.a,.int .i64 x.b,.int .i64 x.c] 134):=⟨E2.out.keep (Ac (Aa _ _) lR (Ad _)),(Aq.new _ _ _).keep (Ad _)⟩
  clear KD KE0 KE1 HC bD E2
  go_upto_region 4 with fail
  generalize V.heap.size=Z at E3 hZ hYZ⊢
  refine Ag (fun u=>Hid (Dp w u B M top v p 0 c n ⟨vc,vk',.slice (some ⟨gf,0,none⟩) (top+1) c3⟩ C K F (.slice (some ⟨gH,0,none⟩) p.funcs.length ch) gH qf gf Y/\Aq u Z #[.int .i64 x.op,.int .i64 x.a,.int .i64 x.b,.int .i64 x.c] 134)) E3 ?_
  rintro U3 E4
  clear E3
  have hin:AR p f x:=H.out.1.prog.instr HF.out.2.2.1 HX.out.1
  have hop0:0<=x.op:=hin.1
  have hop1:x.op<=29:=hin.2.1
  have HIN:Hid (AR p f x):=hin
  obtain⟨co,hco⟩:∃co,BN x.op=co:=⟨_,rfl⟩
  have hcb:0<=co/\co<=8:=by rw[<-hco];exact IJ hop0 hop1
  obtain⟨hcb0,hcb1⟩:=hcb
  have HCO:Hid (BN x.op=co):=hco
  clear hin hco
  have m3:=E4.out.1.mb.at.2.2.2.1
  have z3:=E4.out.1.mb.frozen 3
  have E5:Hid (Dp w (U3.setCell ⟨M,3,none⟩ (.int .i64 (n+1))) B M top v p 0 c (n+1) ⟨vc,vk',.slice (some ⟨gf,0,none⟩) (top+1) c3⟩ C K F (.slice (some ⟨gH,0,none⟩) p.funcs.length ch) gH qf gf Y/\Aq (U3.setCell ⟨M,3,none⟩ (.int .i64 (n+1))) Z #[.int .i64 x.op,.int .i64 x.a,.int .i64 x.b,.int .i64 x.c] 134):=⟨E4.out.1.setM (E4.out.1.mb.setN _),E4.out.1.instr E4.out.2 hZ _ _⟩
  clear E4
  go_upto_region 5 with fail
  refine Ag (fun u=>Hid (Dp w u B M top v p 0 c (n+1) ⟨vc,vk',.slice (some ⟨gf,0,none⟩) (top+1) c3⟩ C K F (.slice (some ⟨gH,0,none⟩) p.funcs.length ch) gH qf gf Y/\Aq u Z #[.int .i64 x.op,.int .i64 x.a,.int .i64 x.b,.int .i64 x.c] 134)) E5 ?_
  rintro U4 E6
  clear E5 m3 z3
  clear U3
  obtain⟨kk,hkk⟩:=Int.eq_ofNat_of_zero_le hop0
  have hk30:kk<30:=by omega
  have m2:=E6.out.1.mb.at.2.2.1
  have i0:=E6.out.2.cell 0
  simp only[gA,gZ]at i0
  rw[hkk]at i0
  have rc:=E6.out.1.mb.row (kk*4+1) _ (Mh kk hk30)
  rw[show BN (kk:Int)=co by rw[<-hkk];exact HCO.out,<-Nat.add_assoc]at rc
  have bD:=Ad U4
  have m2d:=Ab bD m2
  have z2d:U4.drew.frozen? ⟨M,2,none⟩=false:=E6.out.1.mb.frozen 2
  have hkI:(kk:Int)<30:=by omega
  have hwc:IntKind.i64.wrap (c+co)=c+co:=IntWalk.i64_in _ (by omega)
  have E7:Hid (Dp w (U4.setCell ⟨M,2,none⟩ (.int .i64 (c+co))).drew B M top v p 0 (c+co) (n+1) ⟨vc,vk',.slice (some ⟨gf,0,none⟩) (top+1) c3⟩ C K F (.slice (some ⟨gH,0,none⟩) p.funcs.length ch) gH qf gf Y/\Aq (U4.setCell ⟨M,2,none⟩ (.int .i64 (c+co))).drew Z #[.int .i64 x.op,.int .i64 x.a,.int .i64 x.b,.int .i64 x.c] 134):=⟨(E6.out.1.setM (E6.out.1.mb.setCo _)).keep (Ad _),(E6.out.1.instr E6.out.2 hZ _ _).keep (Ad _)⟩
  have KD:U4.drew.cell? ⟨Z,0,none⟩=some (.int .i64 (kk:Int))/\U4.drew.cell? ⟨M,8+kk*4+1,none⟩=some (.int .i64 co):=⟨Ab bD i0,Ab bD rc⟩
  have KV:(U4.setCell ⟨M,2,none⟩ (.int .i64 (c+co))).drew.cell? ⟨Z,0,none⟩=some (.int .i64 (kk:Int))/\(U4.setCell ⟨M,2,none⟩ (.int .i64 (c+co))).drew.cell? ⟨M,8+kk*4+1,none⟩=some (.int .i64 co):=by
   have h1:=E7.out.2.cell 0
   have h2:=E7.out.1.mb.row (kk*4+1) _ (Mh kk hk30)
   simp only[gA,gZ]at h1
   rw[hkk]at h1
   rw[show BN (kk:Int)=co by rw[<-hkk];exact HCO.out,<-Nat.add_assoc]at h2
   exact⟨h1,h2⟩
  have HKK:Hid (x.op=(kk:Int)):=hkk
  clear m2 i0 rc E6 bD hkk
  go_upto_region 5 with fail
  refine wp_region_held_drew (S:=fun w'=>w'.cell? ⟨Z,0,none⟩=some (.int .i64 (kk:Int))/\w'.cell? ⟨M,8+kk*4+1,none⟩=some (.int .i64 co)) (by kernel_rfl) KD (fun hHeld=> ?_)
  refine wpAnyH_take (i:=0) (v:= ?_) rfl (by kernel_rfl) (by kernel_rfl) (by kernel_rfl) (fun _ _ _ h=>h) (Or.inl ⟨by rfl,?_⟩) (by assumption) ?_
  rotate_left
  ·(intro w hSw;(try dsimp only at hSw);go_simp;(try with_reducible rfl))
  refine wpAnyH_take (i:=1) (v:= ?_) rfl (by kernel_rfl) (by kernel_rfl) (by kernel_rfl) (fun _ _ _ h=>h) (Or.inl ⟨by rfl,?_⟩) (by assumption) ?_
  rotate_left
  ·(intro w hSw;(try dsimp only at hSw);go_simp;(try with_reducible rfl))
  refine wpAnyH_take (i:=2) (v:= ?_) rfl (by kernel_rfl) (by kernel_rfl) (by kernel_rfl) (fun _ _ _ h=>h) (Or.inl ⟨by rfl,?_⟩) (by assumption) ?_
  rotate_left
  ·(intro w hSw;(try dsimp only at hSw);go_simp;(try with_reducible rfl))
  refine wpAnyH_take (i:=3) (v:= ?_) rfl (by kernel_rfl) (by kernel_rfl) (by kernel_rfl) (fun _ _ _ h=>h) (Or.inl ⟨by rfl,?_⟩) (by assumption) ?_
  rotate_left
  ·(intro w hSw;(try dsimp only at hSw);go_simp;(try with_reducible rfl))
  refine wpAnyH_take (i:=5) (v:= ?_) rfl (by kernel_rfl) (by kernel_rfl) (by kernel_rfl) (fun _ _ _ h=>h) (Or.inl ⟨by rfl,?_⟩) (by assumption) ?_
  rotate_left
  ·(intro w hSw;(try dsimp only at hSw);go_simp;(try with_reducible rfl))
  refine wpAnyH_take (i:=6) (v:= ?_) rfl (by kernel_rfl) (by kernel_rfl) (by kernel_rfl) (fun _ _ _ h=>h) (Or.inl ⟨by rfl,?_⟩) (by assumption) ?_
  rotate_left
  ·(intro w hSw;(try dsimp only at hSw);go_simp;(try with_reducible rfl))
  refine wpAnyH_take (i:=7) (v:= ?_) rfl (by kernel_rfl) (by kernel_rfl) (by kernel_rfl) (fun _ _ _ h=>h) (Or.inl ⟨by rfl,?_⟩) (by assumption) ?_
  rotate_left
  ·(intro w hSw;(try dsimp only at hSw);go_simp;(try with_reducible rfl))
  refine wpAnyH_take (i:=8) (v:= ?_) rfl (by kernel_rfl) (by kernel_rfl) (by kernel_rfl) (fun _ _ _ h=>h) (Or.inl ⟨by rfl,?_⟩) (by assumption) ?_
  rotate_left
  ·(intro w hSw;(try dsimp only at hSw);go_simp;(try with_reducible rfl))
  refine wpAnyH_take (i:=9) (v:= ?_) rfl (by kernel_rfl) (by kernel_rfl) (by kernel_rfl) (fun _ _ _ h=>h) (Or.inl ⟨by rfl,?_⟩) (by assumption) ?_
  rotate_left
  ·(intro w hSw;(try dsimp only at hSw);go_simp;(try with_reducible rfl))
  refine wpAnyH_take (i:=10) (v:= ?_) rfl (by kernel_rfl) (by kernel_rfl) (by kernel_rfl) (fun _ _ _ h=>h) (Or.inl ⟨by rfl,?_⟩) (by assumption) ?_
  rotate_left
  ·(intro w hSw;(try dsimp only at hSw);go_simp;(try with_reducible rfl))
  refine wpAnyH_take (i:=11) (v:= ?_) rfl (by kernel_rfl) (by kernel_rfl) (by kernel_rfl) (fun _ _ _ h=>h) (Or.inl ⟨by rfl,?_⟩) (by assumption) ?_
  rotate_left
  ·(intro w hSw;(try dsimp only at hSw);go_simp;(try with_reducible rfl))
  refine wpAnyH_take (i:=12) (v:= ?_) rfl (by kernel_rfl) (by kernel_rfl) (by kernel_rfl) (fun _ _ _ h=>h) (Or.inl ⟨by rfl,?_⟩) (by assumption) ?_
  rotate_left
  ·(intro w hSw;(try dsimp only at hSw);go_simp;(try with_reducible rfl))
  refine wpAnyH_take (i:=13) (v:= ?_) rfl (by kernel_rfl) (by kernel_rfl) (by kernel_rfl) (fun _ _ _ h=>h) (Or.inl ⟨by rfl,?_⟩) (by assumption) ?_
  rotate_left
  ·(intro w hSw;(try dsimp only at hSw);go_simp;(try with_reducible rfl))
  refine wpAnyH_ready (rs:=[4]) (by kernel_rfl) (by simp) ?_
  refine AllReadyH.cons rfl (fun KC hKC=> ?_) AllReadyH.nil
  go_simp
  refine hKC.out _ _ KD (fun hHeld=> ?_)
  clear hKC KC
  refine wpAnyH_take (i:=14) (v:= ?_) rfl (by kernel_rfl) (by kernel_rfl) (by kernel_rfl) (fun _ _ _ h=>h) (Or.inl ⟨by rfl,?_⟩) (by assumption) ?_
  rotate_left
  ·(intro w hSw;(try dsimp only at hSw);go_simp;(try with_reducible rfl))
  refine wpAnyH_take (i:=15) (v:= ?_) rfl (by kernel_rfl) (by kernel_rfl) (by kernel_rfl) (fun _ _ _ h=>h) (Or.inl ⟨by rfl,?_⟩) (by assumption) ?_
  rotate_left
  ·(intro w hSw;(try dsimp only at hSw);go_simp;(try with_reducible rfl))
  refine wpAnyH_take (i:=16) (v:= ?_) rfl (by kernel_rfl) (by kernel_rfl) (by kernel_rfl) (fun _ _ _ h=>h) (Or.inl ⟨by rfl,?_⟩) (by assumption) ?_
  rotate_left
  ·(intro w hSw;(try dsimp only at hSw);go_simp;(try with_reducible rfl))
  refine wpAnyH_take (i:=17) (v:= ?_) rfl (by kernel_rfl) (by kernel_rfl) (by kernel_rfl) (fun _ _ _ h=>h) (Or.inl ⟨by rfl,?_⟩) (by assumption) ?_
  rotate_left
  ·(intro w hSw;(try dsimp only at hSw);go_simp;(try with_reducible rfl))
  refine wpAnyH_ready (rs:=[18]) (by kernel_rfl) (by simp) ?_
  refine AllReadyH.cons rfl (fun KC hKC=> ?_) AllReadyH.nil
  go_simp
  refine hKC.out _ _ KV (fun hHeld=> ?_)
  clear hKC KC
  refine wpAnyH_done (by kernel_rfl) ?_ _
  clear KD KV m2d z2d hwc
  go_upto_region 6 with fail
  refine Ag (fun u=>Hid (Dp w u B M top v p 0 (c+co) (n+1) ⟨vc,vk',.slice (some ⟨gf,0,none⟩) (top+1) c3⟩ C K F (.slice (some ⟨gH,0,none⟩) p.funcs.length ch) gH qf gf Y/\Aq u Z #[.int .i64 x.op,.int .i64 x.a,.int .i64 x.b,.int .i64 x.c] 134)) E7 ?_
  rintro U5 E8
  clear E7
  obtain⟨tr,htr⟩:∃tr,DY p f fg (Av 0 false (c+co) (n+1) C K F) x=tr:=⟨_,rfl⟩
  have HTR:Hid (DY p f fg (Av 0 false c n C K F) x=tr):=htr
  obtain⟨g2,tp2,tc2,hRF,hg0,hg1,hg2,hg3,hg4,hg5,hg6,hg7,-,-⟩:=E8.out.1.hd.at2 HF.out.2.2.1
  have HCL:Hid (Calls Tryz.prog 100 #[.pointer (some ⟨M,0,none⟩),.agg #[.pointer (some ⟨gH,qf*9,none⟩),.pointer (some ⟨gf,top*4,none⟩)],.agg #[.int .i64 x.op,.int .i64 x.a,.int .i64 x.b,.int .i64 x.c]] U5 fun e w'=>e=.returned (.int .i64 tr)/\Below U5.heap.size U5 w'):=by
   have h5:=Lr B M top 0 false (c+co) (n+1) ⟨vc,vk',.slice (some ⟨gf,0,none⟩) (top+1) c3⟩ C K F (.slice (some ⟨gH,0,none⟩) p.funcs.length ch) gH (qf*9) gf c3 b (fg,vl) v p g2 f x U5 (Nat.le_trans hB E8.out.1.chg.size) E8.out.1.own E8.out.1.mb HF.out.2.2.2.2.2.1 hF32 H.out.2.2.2.2.1 rfl H.out.2.2.2.2.2.1 hbK hK H.out.2.2.2.2.2.2.2.1 H.out.2.2.1 H.out.2.2.2.2.2.2.2.2 HF.out.2.2.2.1 (HP.out U5 E8.out.1.low) (hRF U5 (Below.refl B U5)) HIN.out H.out.1.prog hg0 hg1 hg2 hg3 hg4 hg5 hg6 hg7
   rw[htr]at h5
   exact h5
  clear hRF hg0 hg1 hg2 hg3 hg4 hg5 hg6 hg7 htr
  obtain⟨y0,y1⟩:=E8.out.1.fb.c2
  obtain⟨i0,i1,i2,i3⟩:=E8.out.2.c4
  try dsimp only at y0 y1 i0 i1 i2 i3
  go_wp2_with fail
  refine HCL.out.mono ?_
  rintro e u6 ⟨rfl,b6⟩
  have E9:Hid (Dp w (u6.setCell ⟨M,0,none⟩ (.int .i64 tr)) B M top v p tr (c+co) (n+1) ⟨vc,vk',.slice (some ⟨gf,0,none⟩) (top+1) c3⟩ C K F (.slice (some ⟨gH,0,none⟩) p.funcs.length ch) gH qf gf Y/\Aq (u6.setCell ⟨M,0,none⟩ (.int .i64 tr)) Z #[.int .i64 x.op,.int .i64 x.a,.int .i64 x.b,.int .i64 x.c] 134):=⟨(E8.out.1.keep b6).setM ((E8.out.1.keep b6).mb.setT _),(E8.out.1.keep b6).instr (E8.out.2.keep b6) hZ _ _⟩
  have m0:=(E8.out.1.keep b6).mb.at.1
  have z0:=(E8.out.1.keep b6).mb.frozen 0
  clear y0 y1 i0 i1 i2 i3 E8 HCL b6
  go_upto_region 7 with fail
  refine Ag (fun u=>Hid (Dp w u B M top v p tr (c+co) (n+1) ⟨vc,vk',.slice (some ⟨gf,0,none⟩) (top+1) c3⟩ C K F (.slice (some ⟨gH,0,none⟩) p.funcs.length ch) gH qf gf Y/\Aq u Z #[.int .i64 x.op,.int .i64 x.a,.int .i64 x.b,.int .i64 x.c] 134)) E9 ?_
  rintro U7 EA
  clear E9 m0 z0
  clear u6
  clear U5
  have m0:=EA.out.1.mb.at.1
  by_cases ht0:tr=0
  ·subst ht0
   obtain⟨fc1,fz1⟩:=EA.out.1.frc rfl H.out.2.2.2.2.1
   simp only[]at fc1
   have y1:=EA.out.1.fb.cell 1
   simp only[gA,gZ,gS]at y1
   have hat0:0<=fg.at_:=by rw[HX.out.2];omega
   have hat1:fg.at_<(f.code.length:Int):=by rw[HX.out.2];exact hiaI
   have EB:Hid (JM w (U7.setCell ⟨gf,top*4+1,none⟩ (.int .i64 (fg.at_+1))) B M top v p (c+co) (n+1) ⟨vc,vk',.slice (some ⟨gf,0,none⟩) (top+1) c3⟩ C K F (F.set top ({fg with at_:=fg.at_+1},vl)) (.slice (some ⟨gH,0,none⟩) p.funcs.length ch) gH qf gf Y Z x):=EA.out.1.jump EA.out.2 hZ rfl H.out.2.2.2.2.1 (fg.at_+1)
   clear EA
   go_upto_region 9 with fail
   refine Ag (fun u=>Hid (JM w u B M top v p (c+co) (n+1) ⟨vc,vk',.slice (some ⟨gf,0,none⟩) (top+1) c3⟩ C K F (F.set top ({fg with at_:=fg.at_+1},vl)) (.slice (some ⟨gH,0,none⟩) p.funcs.length ch) gH qf gf Y Z x)) EB ?_
   rintro U8 EC
   clear EB y1 fc1 fz1 m0
   clear U7
   obtain⟨y0,y1⟩:=EC.out.fb.c2
   obtain⟨i0,i1,i2,i3⟩:=EC.out.ib.c4
   try dsimp only at y0 y1 i0 i1 i2 i3
   have acc:=EC.out.mb.act x.op.toNat (by omega)
   have HU:Hid (B<=U8.heap.size):=Nat.le_trans hB EC.out.chg.size
   clear acc
   have acc:=EC.out.mb.act kk hk30
   have hkk:x.op=(kk:Int):=HKK.out
   rw[hkk]at i0
   clear hkk
   have bD:=Ad U8
   have KD:U8.drew.cell? ⟨Y,0,none⟩=some (.pointer (some ⟨gH,qf*9,none⟩))/\U8.drew.cell? ⟨Y,1,none⟩=some (.pointer (some ⟨gf,top*4,none⟩))/\U8.drew.cell? ⟨Z,0,none⟩=some (.int .i64 (kk:Int))/\U8.drew.cell? ⟨Z,1,none⟩=some (.int .i64 x.a)/\U8.drew.cell? ⟨Z,2,none⟩=some (.int .i64 x.b)/\U8.drew.cell? ⟨Z,3,none⟩=some (.int .i64 x.c)/\U8.drew.cell? ⟨M,128+kk,none⟩=some (.func (.func (GF kk)) #[.pointer (some ⟨M,0,none⟩)] #[]):=⟨Ab bD y0,Ab bD y1,Ab bD i0,Ab bD i1,Ab bD i2,Ab bD i3,Ab bD acc⟩
   have ED:Hid (JM w U8.drew B M top v p (c+co) (n+1) ⟨vc,vk',.slice (some ⟨gf,0,none⟩) (top+1) c3⟩ C K F (F.set top ({fg with at_:=fg.at_+1},vl)) (.slice (some ⟨gH,0,none⟩) p.funcs.length ch) gH qf gf Y Z x):=EC.out.keep bD
   clear y0 y1 i0 i1 i2 i3 acc EC
   have HC:Hid (Calls Tryz.prog (GF kk) #[.pointer (some ⟨M,0,none⟩),.agg #[.pointer (some ⟨gH,qf*9,none⟩),.pointer (some ⟨gf,top*4,none⟩)],.agg #[.int .i64 (kk:Int),.int .i64 x.a,.int .i64 x.b,.int .i64 x.c]] U8.drew (GT U8.drew B M 0 (c+co) (n+1) (.slice (some ⟨gH,0,none⟩) p.funcs.length ch) ⟨vc,vk',.slice (some ⟨gf,0,none⟩) (top+1) c3⟩ C (F.set top ({fg with at_:=fg.at_+1},vl)) (C8 p f fg (Av 0 false (c+co) (n+1) C K F) x))):=by
    have hkk:=HKK.out
    have hU:B<=U8.drew.heap.size:=Nat.le_trans hB ED.out.chg.size
    show Calls _ _ _ _ _
    rw[<-hkk]
    rcases(show x.op<28\/x.op=28\/x.op=29 by omega)with hop|hop|hop
    ·obtain⟨K1,ar,hKe,hal,hfit,hgd⟩:=IB (by omega) H.out.2.2.2.2.2.1 hbK HTR.out
     obtain⟨g3,tp3,tc3,hRF,hg0,hg1,hg2,hg3,hg4,hg5,hg6,hg7,hg8,hgt⟩:=ED.out.hd.at2 HF.out.2.2.1
     have own:=ED.out.own
     rw[hKe]at own
     have hK2:=hK
     rw[hKe,List.length_append]at hK2
     have hdk:Dc p f fg x C ar:=⟨H.out.1.prog,HIN.out,by have:=H.out.1.three;simpa[Av]using this,fun i r rt hr hrt=>(H.out.1.cells i r.2 rt (by simp only[Av,List.getElem?_map,hr,Option.map_some]) hrt).1,HF.out.2.2.2.2.1.1,(H.out.2.1.frames fg (List.mem_map_of_mem (f:=Prod.fst) (mG H.out.2.2.2.2.1))).locals,fun z hz=>H.out.2.1.stack z (by show z∈K;rw[hKe];exact List.mem_append_right _ hz),hal⟩
     have h9:=N1 v p f x B M top 0 (c+co) (n+1) ⟨vc,vk',.slice (some ⟨gf,0,none⟩) (top+1) c3⟩ C K1 ar F (.slice (some ⟨gH,0,none⟩) p.funcs.length ch) gH (qf*9) gf c3 (fg,vl) U8.drew hU own ED.out.mb HF.out.2.2.2.2.2.1 (by omega) H.out.2.2.2.2.1 rfl hdk hfit hgd hK2 HF.out.2.2.2.2.2.2 (HP.out U8.drew ED.out.low).consts H.out.2.2.1.consts hg1 kk hkk (by omega)
     rw[<-hKe]at h9
     exact h9
    ·obtain⟨q,fq,hq,hfq⟩:=HIN.out.callee hop
     have hfql:=(gI.1 hfq).1
     obtain⟨g5,tp5,tc5,hRF5,-,-,-,-,hp5,-,-,-,ht5,hr5⟩:=ED.out.hd.at2 hfq
     obtain⟨pp,pc,ep⟩:=(hRF5 U8.drew (Below.refl B U8.drew)).1.is_slice
     rw[ep]at hp5
     obtain⟨K1,ar,hKe,hal,hfit,hgd⟩:=IB (by omega) H.out.2.2.2.2.2.1 hbK HTR.out
     have own:=ED.out.own
     rw[hKe]at own
     have hK2:=hK
     rw[hKe,List.length_append]at hK2
     have hnz:(fq.params++fq.locals).length<=1048576:=by
      have h4:Ch fq:=H.out.1.prog.parts.2.2.1.2.2.1 q hfql fq hfq
      have:=h4.loc
      rw[List.length_append]
      omega
     have h9:=Pe p f fq x B M top (c+co) (n+1) ⟨vc,vk',.slice (some ⟨gf,0,none⟩) (top+1) c3⟩ C K1 ar F (.slice (some ⟨gH,0,none⟩) p.funcs.length ch) gH (qf*9) gf c3 (fg,vl) U8.drew hU own ED.out.mb HF.out.2.2.2.2.2.1 (by omega) H.out.2.2.2.2.1 rfl hop hK2 hal q gH p.funcs.length ch (fq.params++fq.locals).length hq hfq rfl hfql hnf rfl pp tp5 pc tc5 hp5 ht5 hr5 hnz
     rw[<-hKe]at h9
     have hk28:kk=28:=by omega
     subst hk28
     exact h9
    ·have h9:=Pi p f x B M top (c+co) (n+1) ⟨vc,vk',.slice (some ⟨gf,0,none⟩) (top+1) c3⟩ C K F (.slice (some ⟨gH,0,none⟩) p.funcs.length ch) gH (qf*9) gf c3 (fg,vl) U8.drew hU ED.out.own ED.out.mb HF.out.2.2.2.2.2.1 (by omega) H.out.2.2.2.2.1 rfl hop
     have hk29:kk=29:=by omega
     subst hk29
     exact h9
   refine wp_region_held_drew (S:=fun w'=>w'.cell? ⟨Y,0,none⟩=some (.pointer (some ⟨gH,qf*9,none⟩))/\w'.cell? ⟨Y,1,none⟩=some (.pointer (some ⟨gf,top*4,none⟩))/\w'.cell? ⟨Z,0,none⟩=some (.int .i64 (kk:Int))/\w'.cell? ⟨Z,1,none⟩=some (.int .i64 x.a)/\w'.cell? ⟨Z,2,none⟩=some (.int .i64 x.b)/\w'.cell? ⟨Z,3,none⟩=some (.int .i64 x.c)/\w'.cell? ⟨M,128+kk,none⟩=some (.func (.func (GF kk)) #[.pointer (some ⟨M,0,none⟩)] #[])) (by kernel_rfl) KD (fun hHeld=> ?_)
   refine wpAnyH_take (i:=0) (v:= ?_) rfl (by kernel_rfl) (by kernel_rfl) (by kernel_rfl) (fun _ _ _ h=>h) (Or.inl ⟨by rfl,?_⟩) (by assumption) ?_
   rotate_left
   ·(intro w hSw;(try dsimp only at hSw);go_simp;(try with_reducible rfl))
   refine wpAnyH_take (i:=1) (v:= ?_) rfl (by kernel_rfl) (by kernel_rfl) (by kernel_rfl) (fun _ _ _ h=>h) (Or.inl ⟨by rfl,?_⟩) (by assumption) ?_
   rotate_left
   ·(intro w hSw;(try dsimp only at hSw);go_simp;(try with_reducible rfl))
   refine wpAnyH_take (i:=2) (v:= ?_) rfl (by kernel_rfl) (by kernel_rfl) (by kernel_rfl) (fun _ _ _ h=>h) (Or.inl ⟨by rfl,?_⟩) (by assumption) ?_
   rotate_left
   ·(intro w hSw;(try dsimp only at hSw);go_simp;(try with_reducible rfl))
   refine wpAnyH_take (i:=3) (v:= ?_) rfl (by kernel_rfl) (by kernel_rfl) (by kernel_rfl) (fun _ _ _ h=>h) (Or.inl ⟨by rfl,?_⟩) (by assumption) ?_
   rotate_left
   ·(intro w hSw;(try dsimp only at hSw);go_simp;(try with_reducible rfl))
   refine wpAnyH_take (i:=4) (v:= ?_) rfl (by kernel_rfl) (by kernel_rfl) (by kernel_rfl) (fun _ _ _ h=>h) (Or.inl ⟨by rfl,?_⟩) (by assumption) ?_
   rotate_left
   ·(intro w hSw;(try dsimp only at hSw);go_simp;(try with_reducible rfl))
   refine wpAnyH_take (i:=5) (v:= ?_) rfl (by kernel_rfl) (by kernel_rfl) (by kernel_rfl) (fun _ _ _ h=>h) (Or.inl ⟨by rfl,?_⟩) (by assumption) ?_
   rotate_left
   ·(intro w hSw;(try dsimp only at hSw);go_simp;(try with_reducible rfl))
   refine wpAnyH_take (i:=6) (v:= ?_) rfl (by kernel_rfl) (by kernel_rfl) (by kernel_rfl) (fun _ _ _ h=>h) (Or.inl ⟨by rfl,?_⟩) (by assumption) ?_
   rotate_left
   ·(intro w hSw;(try dsimp only at hSw);go_simp;(try with_reducible rfl))
   refine wpAnyH_take (i:=7) (v:= ?_) rfl (by kernel_rfl) (by kernel_rfl) (by kernel_rfl) (fun _ _ _ h=>h) (Or.inl ⟨by rfl,?_⟩) (by assumption) ?_
   rotate_left
   ·(intro w hSw;(try dsimp only at hSw);go_simp;(try with_reducible rfl))
   refine wpAnyH_take (i:=8) (v:= ?_) rfl (by kernel_rfl) (by kernel_rfl) (by kernel_rfl) (fun _ _ _ h=>h) (Or.inl ⟨by rfl,?_⟩) (by assumption) ?_
   rotate_left
   ·(intro w hSw;(try dsimp only at hSw);go_simp;(try with_reducible rfl))
   refine wpAnyH_ready (rs:=[9]) (by kernel_rfl) (by simp) ?_
   refine AllReadyH.cons rfl (fun KC hKC=> ?_) AllReadyH.nil
   go_simp
   rw[I9 kk hk30]
   refine HC.out.mono ?_
   rintro e u9 ⟨d2,C2,K2,F2,⟨rfl,X2,mb2,own2,chg2⟩,heq⟩
   have HJ:Hid (Bu p (Av 0 false c n C K F) (Av 0 d2 (c+co) (n+1) C2 K2 F2)):=Ge HF.out.1 HF.out.2.1 HX.out.2 HX.out.1 HCO.out HTR.out heq
   have KW:u9.cell? ⟨Y,0,none⟩=some (.pointer (some ⟨gH,qf*9,none⟩))/\u9.cell? ⟨Y,1,none⟩=some (.pointer (some ⟨gf,top*4,none⟩))/\u9.cell? ⟨Z,0,none⟩=some (.int .i64 (kk:Int))/\u9.cell? ⟨Z,1,none⟩=some (.int .i64 x.a)/\u9.cell? ⟨Z,2,none⟩=some (.int .i64 x.b)/\u9.cell? ⟨Z,3,none⟩=some (.int .i64 x.c)/\u9.cell? ⟨M,128+kk,none⟩=some (.func (.func (GF kk)) #[.pointer (some ⟨M,0,none⟩)] #[]):=by
    obtain⟨h1,h2⟩:=ED.out.late chg2
    have h3:=h2.cell 0
    simp only[gA,gZ]at h3
    rw[HKK.out]at h3
    exact⟨h1.cell 0,h1.cell 1,h3,h2.cell 1,h2.cell 2,h2.cell 3,mb2.act kk hk30⟩
   have HZ:Hid (Np w B M p (Av 0 false c n C K F) (.slice (some ⟨gH,0,none⟩) p.funcs.length ch) ⟨vc,vk',.slice (some ⟨gf,0,none⟩) (top+1) c3⟩ C F (.returned (.tuple #[])) u9):=⟨rfl,0,d2,c+co,n+1,X2,C2,K2,F2,mb2,own2,HJ.out,ED.out.chg.trans chg2 (fun k hk e=>e.imp_right (fun h=>h.at_ H.out.2.2.2.2.1))⟩
   clear heq mb2 own2 chg2 KD HC HJ
   refine hKC.out _ _ KW (fun hHeld=> ?_)
   clear hKC KC
   refine wpAnyH_done (by kernel_rfl) ?_ _
   go_wp2_with fail
   exact bodyPost_end (v:=.tuple #[]) (by kernel_rfl) rfl HZ.out
  ·have htb:(tr==0)=false:=by simpa using ht0
   have HJ:Hid (Bu p (Av 0 false c n C K F) (Av tr false (c+co) (n+1) C K F)):=DO HF.out.1 HF.out.2.1 HX.out.2 HX.out.1 HCO.out HTR.out ht0
   clear ht0
   go_wp2_with fail
   exact bodyPost_end (v:=.tuple #[]) (by kernel_rfl) rfl ⟨rfl,tr,false,c+co,n+1,_,C,K,F,EA.out.1.mb,EA.out.1.own,HJ.out,EA.out.1.chg⟩
 ·have hdi:decide (0<=fg.at_/\fg.at_<(f.code.length:Int))=false:=decide_eq_false hat
  have HJ:Hid (Bu p (Av 0 false c n C K F) (Av 4 false c n C K F)):=.jump HF.out.1 HF.out.2.1 (by omega)
  have inst:=Ae.some U
  have J0:=fun n:Ae U=>Ae.cell y0 n
  have J1:=fun n:Ae U=>Ae.cell y1 n
  have J2:=fun n:Ae U=>Ae.cell fc1 n
  have J3:=fun n:Ae U=>Ae.cell hg7 n
  go_wp2_with fail
  refine Ak (by kernel_rfl) (by kernel_rfl) ?_
  repeat(go_big_quiet_step ((go_at_call 99;rename_i n';exact(AJ fg.at_ (f.code.length:Int) n'.u).mono fun e w'' h=>⟨by rw[h.1,hdi],⟨n',h.2⟩⟩)))
  refine wpQuiet_nil ?_
  rintro w'' ⟨n',rfl⟩
  have E2:Hid (Dp w n'.u B M top v p 0 c n ⟨vc,vk',.slice (some ⟨gf,0,none⟩) (top+1) c3⟩ C K F (.slice (some ⟨gH,0,none⟩) p.funcs.length ch) gH qf gf Y):=E1.out.keep n'.h
  clear J0 J1 J2 J3 inst y0 y1 fc1 hg7 eg3 hRF E1
  have m0:=E2.out.mb.at.1
  have z0:=E2.out.mb.frozen 0
  go_wp2_with fail
  exact bodyPost_ret (v:=.tuple #[]) (by kernel_rfl) rfl ⟨rfl,4,false,c,n,_,C,K,F,E2.out.mb.setT 4,EM E2.out.own E2.out.mb,HJ.out,E2.out.chg.setCell (.inl (.inl rfl)) _⟩
theorem PB{w u:World}{B b:Nat}{V:VS}{C:List (Value×List MC)}{K:List MC}{F:List (MG×Value)}(ho:Aj u B V C K F)(hb:Aq u b #[.int .i64 0,.bool false,.int .i64 0,.int .i64 0,.slice none 0 0,.slice none 0 0,.slice none 0 0] 39)(hbel:Below B w u)(hB:B<=b)(x0 x1 x2 x3 x4 x5 x6:Value):Aq (((((((u.setCell ⟨b,0,none⟩ x0).setCell ⟨b,1,none⟩ x1).setCell ⟨b,2,none⟩ x2).setCell ⟨b,3,none⟩ x3).setCell ⟨b,4,none⟩ x4).setCell ⟨b,5,none⟩ x5).setCell ⟨b,6,none⟩ x6) b #[x0,x1,x2,x3,x4,x5,x6] 39/\Aj (((((((u.setCell ⟨b,0,none⟩ x0).setCell ⟨b,1,none⟩ x1).setCell ⟨b,2,none⟩ x2).setCell ⟨b,3,none⟩ x3).setCell ⟨b,4,none⟩ x4).setCell ⟨b,5,none⟩ x5).setCell ⟨b,6,none⟩ x6) B V C K F/\Below B w (((((((u.setCell ⟨b,0,none⟩ x0).setCell ⟨b,1,none⟩ x1).setCell ⟨b,2,none⟩ x2).setCell ⟨b,3,none⟩ x3).setCell ⟨b,4,none⟩ x4).setCell ⟨b,5,none⟩ x5).setCell ⟨b,6,none⟩ x6):=⟨Pd hb _ _ _ _ _ _ _,ho.seven hb _ _ _ _ _ _ _,((((((hbel.setCell hB _).setCell hB _).setCell hB _).setCell hB _).setCell hB _).setCell hB _).setCell hB _⟩
theorem Ko(M k:Nat)(hk:k<30):(BF M)[k]?=some (OP M k):=by
 have h:k=0\/k=1\/k=2\/k=3\/k=4\/k=5\/k=6\/k=7\/k=8\/k=9\/k=10\/k=11\/k=12\/k=13\/k=14\/k=15\/k=16\/k=17\/k=18\/k=19\/k=20\/k=21\/k=22\/k=23\/k=24\/k=25\/k=26\/k=27\/k=28\/k=29:=by omega
 rcases h with rfl|rfl|rfl|rfl|rfl|rfl|rfl|rfl|rfl|rfl|rfl|rfl|rfl|rfl|rfl|rfl|rfl|rfl|rfl|rfl|rfl|rfl|rfl|rfl|rfl|rfl|rfl|rfl|rfl|rfl<;>rfl
theorem MB.made{u:World}{M:Nat}{cur:Array Value}{t:Int}{d:Bool}{c n:Int}{X:VS}{hv:Value}(hb:Aq u M cur 94)(h:Nb cur t d c n X hv)(ha:∀k,k<30->cur[128+k]?=(BF M)[k]?):MB u M t d c n X hv:=⟨cur,hb,⟨h.c0,h.c1,h.c2,h.c3,h.c4,h.c5,h.c6,h.c7,h.rows,fun k hk=>(ha k hk).trans (Ko M k hk),h.size⟩⟩
theorem IY(v:VP)(p:MP)(x:VS)(s:MS)(w:World)(hps:p.small)(hpw:p.wf)(hP:Cx w v p)(hcap:Ex w v.r p.regions)(hfp:EI w v.f p.funcs)(hss:s.small)(hsw:s.wf)(hS:Fc w x s):
  Calls Tryz.prog 10 #[.agg #[v.r,v.k,v.f,v.t],.agg #[.int .i64 s.trap,.bool s.done,.int .i64 s.cost,.int .i64 s.steps,x.c,x.k,x.f]] w (GS w p s):=by
 obtain⟨r1,r3,er⟩:=(show∃a c,v.r=.slice a p.regions.length c from by obtain⟨_,_,h2,_⟩:=hP.regions;exact h2.is_slice);obtain⟨k1,k3,ek⟩:=hP.consts.is_slice;obtain⟨t1,t3,et⟩:=hP.certs.is_slice;obtain⟨f1,f3,ef⟩:=(show∃a c,v.f=.slice a p.funcs.length c from by obtain⟨_,_,h2,_⟩:=hP.funcs;exact h2.is_slice);obtain⟨a1,c1,e1⟩:=(show∃a c,x.c=.slice a s.cells.length c from by obtain⟨_,_,h2,_⟩:=hS.cells;exact h2.is_slice);obtain⟨a2,c2,e2⟩:=hS.stack.is_slice;obtain⟨a3,c3,e3⟩:=(show∃a c,x.f=.slice a s.frames.length c from by obtain⟨_,_,h2,_⟩:=hS.frames;exact h2.is_slice);obtain⟨vr,vk,vf,vt⟩:=v;obtain⟨xc,xk,xf⟩:=x;simp only[]at er ek et ef e1 e2 e3;subst er ek et ef e1 e2 e3;have H:Hid (p.small/\p.wf/\Cx w ⟨.slice r1 p.regions.length r3,.slice k1 p.consts.length k3,.slice f1 p.funcs.length f3,.slice t1 p.certs.length t3⟩ p/\Ex w (.slice r1 p.regions.length r3) p.regions/\EI w (.slice f1 p.funcs.length f3) p.funcs/\s.small/\s.wf/\Fc w ⟨.slice a1 s.cells.length c1,.slice a2 s.stack.length c2,.slice a3 s.frames.length c3⟩ s):=⟨hps,hpw,hP,hcap,hfp,hss,hsw,hS⟩
 clear hps hpw hP hcap hfp hss hsw hS;have E0:Hid (DH w _ ⟨.slice r1 p.regions.length r3,.slice k1 p.consts.length k3,.slice f1 p.funcs.length f3,.slice t1 p.certs.length t3⟩ s.trap s.done s.cost s.steps ⟨.slice a1 s.cells.length c1,.slice a2 s.stack.length c2,.slice a3 s.frames.length c3⟩):=DH.of w ⟨.slice r1 p.regions.length r3,.slice k1 p.consts.length k3,.slice f1 p.funcs.length f3,.slice t1 p.certs.length t3⟩ s.trap s.done s.cost s.steps ⟨.slice a1 s.cells.length c1,.slice a2 s.stack.length c2,.slice a3 s.frames.length c3⟩;go_enter Tryz.func10,Tryz.ntmps10;go_upto_region 1 with fail
 refine Ag (fun u=>Hid (DH w u ⟨.slice r1 p.regions.length r3,.slice k1 p.consts.length k3,.slice f1 p.funcs.length f3,.slice t1 p.certs.length t3⟩ s.trap s.done s.cost s.steps ⟨.slice a1 s.cells.length c1,.slice a2 s.stack.length c2,.slice a3 s.frames.length c3⟩)) E0 ?_;rintro U0 E1;clear E0;obtain⟨m0,m1,m2,m3,m4,m5,m6⟩:=E1.out.sb.c7;try dsimp only at m0 m1 m2 m3 m4 m5 m6
 go_wp2_with fail
 refine(Iz ⟨.slice a1 s.cells.length c1,.slice a2 s.stack.length c2,.slice a3 s.frames.length c3⟩ s U0 H.out.2.2.2.2.2.1 (H.out.2.2.2.2.2.2.2.keep E1.out.bel lR)).mono ?_;rintro e u1 ⟨C,F,V',rfl,hst,own1,b1⟩;obtain⟨x1,x2,x3⟩:=V';obtain⟨g1,h1,eb1⟩:=An own1.cells;obtain⟨g2,h2,eb2⟩:=An (own1.fam.own (x2,s.stack) (by simp));obtain⟨g3,h3,eb3⟩:=An own1.frames;simp only[]at eb1 eb2 eb3;subst eb1 eb2 eb3;have HST:Hid (s=Av s.trap s.done s.cost s.steps C s.stack F):=hst;have hN0:w.heap.size+1+1<u1.heap.size:=Nat.lt_of_lt_of_le E1.out.rb.lt b1.size
 have E2:Hid (DH w (u1.alloc (.cells #[.int .i64 s.trap,.bool s.done,.int .i64 s.cost,.int .i64 s.steps,.slice g1 C.length h1,.slice g2 s.stack.length h2,.slice g3 F.length h3] 39)) ⟨.slice r1 p.regions.length r3,.slice k1 p.consts.length k3,.slice f1 p.funcs.length f3,.slice t1 p.certs.length t3⟩ s.trap s.done s.cost s.steps ⟨.slice a1 s.cells.length c1,.slice a2 s.stack.length c2,.slice a3 s.frames.length c3⟩/\Aj (u1.alloc (.cells #[.int .i64 s.trap,.bool s.done,.int .i64 s.cost,.int .i64 s.steps,.slice g1 C.length h1,.slice g2 s.stack.length h2,.slice g3 F.length h3] 39)) w.heap.size ⟨.slice g1 C.length h1,.slice g2 s.stack.length h2,.slice g3 F.length h3⟩ C s.stack F/\Aq (u1.alloc (.cells #[.int .i64 s.trap,.bool s.done,.int .i64 s.cost,.int .i64 s.steps,.slice g1 C.length h1,.slice g2 s.stack.length h2,.slice g3 F.length h3] 39)) u1.heap.size #[.int .i64 s.trap,.bool s.done,.int .i64 s.cost,.int .i64 s.steps,.slice g1 C.length h1,.slice g2 s.stack.length h2,.slice g3 F.length h3] 39):=⟨(E1.out.keep b1).keep (Aa _ _),(own1.base E1.out.bel.size).grow (Aa _ _),Aq.new _ _ _⟩
 clear hst own1 b1 E1 m0 m1 m2 m3 m4 m5 m6;go_upto_region 2 with fail
 generalize u1.heap.size=N at E2 hN0⊢;refine Ag (fun u=>Hid (DH w u ⟨.slice r1 p.regions.length r3,.slice k1 p.consts.length k3,.slice f1 p.funcs.length f3,.slice t1 p.certs.length t3⟩ s.trap s.done s.cost s.steps ⟨.slice a1 s.cells.length c1,.slice a2 s.stack.length c2,.slice a3 s.frames.length c3⟩/\Aj u w.heap.size ⟨.slice g1 C.length h1,.slice g2 s.stack.length h2,.slice g3 F.length h3⟩ C s.stack F/\Aq u N #[.int .i64 s.trap,.bool s.done,.int .i64 s.cost,.int .i64 s.steps,.slice g1 C.length h1,.slice g2 s.stack.length h2,.slice g3 F.length h3] 39)) E2 ?_
 rintro U1 E3;clear E2;clear u1;clear U0;obtain⟨m0,m1,m2,m3,m4,m5,m6⟩:=E3.out.1.sb.c7;try dsimp only at m0 m1 m2 m3 m4 m5 m6
 go_wp2_with fail
 refine(Lp s.trap s.cost s.steps s.done a1 a2 a3 s.cells.length c1 s.stack.length c2 s.frames.length c3 U1).mono ?_;rintro e u2 ⟨he,b2⟩;have E4:Hid (DH w u2 ⟨.slice r1 p.regions.length r3,.slice k1 p.consts.length k3,.slice f1 p.funcs.length f3,.slice t1 p.certs.length t3⟩ s.trap s.done s.cost s.steps ⟨.slice a1 s.cells.length c1,.slice a2 s.stack.length c2,.slice a3 s.frames.length c3⟩/\Aj u2 w.heap.size ⟨.slice g1 C.length h1,.slice g2 s.stack.length h2,.slice g3 F.length h3⟩ C s.stack F/\Aq u2 N #[.int .i64 s.trap,.bool s.done,.int .i64 s.cost,.int .i64 s.steps,.slice g1 C.length h1,.slice g2 s.stack.length h2,.slice g3 F.length h3] 39):=⟨E3.out.1.keep b2,E3.out.2.1.grow b2,E3.out.2.2.keep b2⟩
 clear b2 E3 m0 m1 m2 m3 m4 m5 m6;clear U1;by_cases hov:s.trap≠0\/s.done=true
 ·obtain rfl:=he.true hov
  have HJ:Hid (BU p s (Av s.trap s.done s.cost s.steps C s.stack F)):=.inl ⟨hov,HST.out.symm⟩;clear he hov;obtain⟨m0,m1,m2,m3,m4,m5,m6⟩:=E4.out.2.2.c7;try dsimp only at m0 m1 m2 m3 m4 m5 m6
  obtain⟨r0,r1,r2,r3,r4,r5,r6⟩:=E4.out.1.rb.c7;obtain⟨rz0,rz1,rz2,rz3,rz4,rz5,rz6⟩:=E4.out.1.rb.z7;try dsimp only at r0 r1 r2 r3 r4 r5 r6
  go_wp2_with fail
  obtain⟨RB,OW,BW⟩:=PB E4.out.2.1 E4.out.1.rb E4.out.1.bel (by omega) (.int .i64 s.trap) (.bool s.done) (.int .i64 s.cost) (.int .i64 s.steps) (.slice g1 C.length h1) (.slice g2 s.stack.length h2) (.slice g3 F.length h3);obtain⟨q0,q1,q2,q3,q4,q5,q6⟩:=RB.c7;try dsimp only at q0 q1 q2 q3 q4 q5 q6
  exact bodyPost_ret (v:=.agg #[.int .i64 s.trap,.bool s.done,.int .i64 s.cost,.int .i64 s.steps,.slice g1 C.length h1,.slice g2 s.stack.length h2,.slice g3 F.length h3]) (by simp[results,Tryz.results10,go_sem,q0,q1,q2,q3,q4,q5,q6]) rfl ⟨_,_,_,_,⟨.slice g1 C.length h1,.slice g2 s.stack.length h2,.slice g3 F.length h3⟩,_,_,_,rfl,OW,HJ.out,BW⟩
 ·obtain rfl:=he.false hov
  have HTR:Hid (s.trap=0/\s.done=false):=by
   refine⟨Classical.byContradiction fun e=>hov (.inl e),?_⟩;cases hd:s.done with
   |false=>rfl
   |true=>exact absurd (.inr hd) hov
  have HST2:Hid (s=Av 0 false s.cost s.steps C s.stack F):=by
   have h5:=HST.out;rw[HTR.out.1,HTR.out.2]at h5;exact h5
  clear he hov;obtain⟨m0,m1,m2,m3,m4,m5,m6⟩:=E4.out.1.sb.c7;try dsimp only at m0 m1 m2 m3 m4 m5 m6
  obtain⟨p0,p1,p2,p3⟩:=E4.out.1.pb.c4;try dsimp only at p0 p1 p2 p3
  go_wp2_with fail
  refine(JU ⟨.slice r1 p.regions.length r3,.slice k1 p.consts.length k3,.slice f1 p.funcs.length f3,.slice t1 p.certs.length t3⟩ p ⟨.slice a1 s.cells.length c1,.slice a2 s.stack.length c2,.slice a3 s.frames.length c3⟩ s u2 H.out.1 H.out.2.1 (H.out.2.2.1.keep E4.out.1.bel lR) (H.out.2.2.2.1.keep E4.out.1.bel lR) (H.out.2.2.2.2.1.keep E4.out.1.bel lR) H.out.2.2.2.2.2.1 H.out.2.2.2.2.2.2.1 (H.out.2.2.2.2.2.2.2.keep E4.out.1.bel lR)).mono ?_;rintro e u3 ⟨he,b3⟩;have E5:Hid (DH w u3 ⟨.slice r1 p.regions.length r3,.slice k1 p.consts.length k3,.slice f1 p.funcs.length f3,.slice t1 p.certs.length t3⟩ s.trap s.done s.cost s.steps ⟨.slice a1 s.cells.length c1,.slice a2 s.stack.length c2,.slice a3 s.frames.length c3⟩/\Aj u3 w.heap.size ⟨.slice g1 C.length h1,.slice g2 s.stack.length h2,.slice g3 F.length h3⟩ C s.stack F/\Aq u3 N #[.int .i64 s.trap,.bool s.done,.int .i64 s.cost,.int .i64 s.steps,.slice g1 C.length h1,.slice g2 s.stack.length h2,.slice g3 F.length h3] 39):=⟨E4.out.1.keep b3,E4.out.2.1.grow b3,E4.out.2.2.keep b3⟩
  clear b3 E4 m0 m1 m2 m3 m4 m5 m6 p0 p1 p2 p3;clear u2;by_cases hin:BM p s
  ·obtain rfl:=he.true hin
   have HIN:Hid (BM p s):=hin;clear he hin;obtain⟨ys,hy1,hy2,hy3⟩:=H.out.2.2.2.2.1;have HY:Hid (ys.map Prod.fst=p.funcs/\(∀u,Below w.heap.size u3 u->Rd u 4 (.slice f1 p.funcs.length f3) p.funcs.length (ys.flatMap BC))/\∀x∈ys,(∀u,Below w.heap.size u3 u->CK u x.2 x.1)/\Cg x.2.p/\Cg x.2.l):=⟨hy1,fun u hu=>hy2.keep (E5.out.1.bel.trans hu) lR,fun x hx=>⟨fun u hu=>(hy3 x hx).1.keep (E5.out.1.bel.trans hu) lR,(hy3 x hx).2⟩⟩
   clear hy1 hy2 hy3;obtain⟨m0,m1,m2,m3,m4,m5,m6⟩:=E5.out.2.2.c7;try dsimp only at m0 m1 m2 m3 m4 m5 m6
   obtain⟨p0,p1,p2,p3⟩:=E5.out.1.pb.c4;try dsimp only at p0 p1 p2 p3
   go_wp2_with fail
   refine(Hb ⟨.slice r1 p.regions.length r3,.slice k1 p.consts.length k3,.slice f1 p.funcs.length f3,.slice t1 p.certs.length t3⟩ p w.heap.size s.trap s.done s.cost s.steps ⟨.slice g1 C.length h1,.slice g2 s.stack.length h2,.slice g3 F.length h3⟩ u3 E5.out.1.bel.size H.out.1 (H.out.2.2.1.keep E5.out.1.bel lR) ys HY.out.1 HY.out.2.1 HY.out.2.2).mono ?_;rintro e u4 ⟨M,hv,cur,HH,rfl,hM,hbk,hnc,hac,hhd,b4⟩;have hM2:w.heap.size+1+1<M:=Nat.lt_of_lt_of_le E5.out.1.rb.lt hM
   have E6:Hid ((DH w u4 ⟨.slice r1 p.regions.length r3,.slice k1 p.consts.length k3,.slice f1 p.funcs.length f3,.slice t1 p.certs.length t3⟩ s.trap s.done s.cost s.steps ⟨.slice a1 s.cells.length c1,.slice a2 s.stack.length c2,.slice a3 s.frames.length c3⟩/\Aj u4 w.heap.size ⟨.slice g1 C.length h1,.slice g2 s.stack.length h2,.slice g3 F.length h3⟩ C s.stack F/\Aq u4 N #[.int .i64 s.trap,.bool s.done,.int .i64 s.cost,.int .i64 s.steps,.slice g1 C.length h1,.slice g2 s.stack.length h2,.slice g3 F.length h3] 39)/\MB u4 M 0 false s.cost s.steps ⟨.slice g1 C.length h1,.slice g2 s.stack.length h2,.slice g3 F.length h3⟩ hv/\DW u4 w.heap.size ⟨.slice r1 p.regions.length r3,.slice k1 p.consts.length k3,.slice f1 p.funcs.length f3,.slice t1 p.certs.length t3⟩ p hv):=by
    have hmb:=MB.made hbk hnc hac;rw[HTR.out.1,HTR.out.2]at hmb;exact⟨⟨E5.out.1.keep b4,E5.out.2.1.grow b4,E5.out.2.2.keep b4⟩,hmb,⟨HH,hhd⟩⟩
   clear hM hbk hnc hac hhd b4 E5 m0 m1 m2 m3 m4 m5 m6 p0 p1 p2 p3 HY;clear u3;go_wp2_with fail
   refine(Ni ⟨.slice r1 p.regions.length r3,.slice k1 p.consts.length k3,.slice f1 p.funcs.length f3,.slice t1 p.certs.length t3⟩ p s.cost s.steps ⟨.slice g1 C.length h1,.slice g2 s.stack.length h2,.slice g3 F.length h3⟩ C s.stack F hv w.heap.size M u4 E6.out.1.1.bel.size (by omega) E6.out.1.2.1 E6.out.2.1 E6.out.2.2 (by rw[<-HST2.out];exact HIN.out) (by rw[<-HST2.out];exact H.out.2.2.2.2.2.2.1) H.out.1 H.out.2.1 (fun u hu=>H.out.2.2.1.keep (E6.out.1.1.bel.trans hu) lR)).mono ?_;rintro e u5 ⟨rfl,t',d',c',n',X',C',K',F',mb5,own5,hst5,chg5⟩;obtain⟨z1,z2,z3⟩:=X';obtain⟨g4,h4,eb4⟩:=An own5.cells;obtain⟨g5,h5,eb5⟩:=An (own5.fam.own (z2,K') (by simp));obtain⟨g6,h6,eb6⟩:=An own5.frames;simp only[]at eb4 eb5 eb6;subst eb4 eb5 eb6;have HJ:Hid (BU p s (Av t' d' c' n' C' K' F')):=.inr (.inr ⟨HTR.out.1,HTR.out.2,HIN.out,by rw[<-HST2.out]at hst5;exact hst5⟩)
   have HB:Hid (Below w.heap.size w u5):=E6.out.1.1.bel.trans (chg5.below E6.out.1.1.bel.size (fun k hk e=>by
    rcases e with e|e
    ·omega
    ·have:=(E6.out.1.2.1.ltOf e).1
     omega))
   have HRB:Hid (Aq u5 (w.heap.size+1+1) #[.int .i64 0,.bool false,.int .i64 0,.int .i64 0,.slice none 0 0,.slice none 0 0,.slice none 0 0] 39):=chg5.blk E6.out.1.1.rb (fun e=>by
    rcases e with e|e
    ·omega
    ·rcases E6.out.1.2.1.ty e E6.out.1.1.rb with e|e|e<;>exact absurd e (by decide))
   have HO:Hid (Aj u5 w.heap.size ⟨.slice g4 C'.length h4,.slice g5 K'.length h5,.slice g6 F'.length h6⟩ C' K' F'):=own5;obtain⟨m0,m1,m2,m3,m4,m5,m6,_⟩:=mb5.at;simp only[]at m4 m5 m6;clear hst5 own5 chg5 E6 mb5;clear u4;obtain⟨r0,r1,r2,r3,r4,r5,r6⟩:=HRB.out.c7;obtain⟨rz0,rz1,rz2,rz3,rz4,rz5,rz6⟩:=HRB.out.z7;try dsimp only at r0 r1 r2 r3 r4 r5 r6
   go_wp2_with fail
   obtain⟨RB,OW,BW⟩:=PB HO.out HRB.out HB.out (by omega) (.int .i64 t') (.bool d') (.int .i64 c') (.int .i64 n') (.slice g4 C'.length h4) (.slice g5 K'.length h5) (.slice g6 F'.length h6);obtain⟨q0,q1,q2,q3,q4,q5,q6⟩:=RB.c7;try dsimp only at q0 q1 q2 q3 q4 q5 q6
   exact bodyPost_ret (v:=.agg #[.int .i64 t',.bool d',.int .i64 c',.int .i64 n',.slice g4 C'.length h4,.slice g5 K'.length h5,.slice g6 F'.length h6]) (by simp[results,Tryz.results10,go_sem,q0,q1,q2,q3,q4,q5,q6]) rfl ⟨_,_,_,_,⟨.slice g4 C'.length h4,.slice g5 K'.length h5,.slice g6 F'.length h6⟩,_,_,_,rfl,OW,HJ.out,BW⟩
  ·obtain rfl:=he.false hin
   have HJ:Hid (BU p s (Av 7 false s.cost s.steps C s.stack F)):=.inr (.inl ⟨HTR.out.1,HTR.out.2,hin,st7 HST2.out⟩);clear he hin;have hd7:s.done=false:=HTR.out.2;have nz:=E5.out.2.2.frozen 0;have n0:=E5.out.2.2.cell 0;simp only[gA,gZ]at n0;have E6:Hid (DH w (u3.setCell ⟨N,0,none⟩ (.int .i64 7)) ⟨.slice r1 p.regions.length r3,.slice k1 p.consts.length k3,.slice f1 p.funcs.length f3,.slice t1 p.certs.length t3⟩ s.trap s.done s.cost s.steps ⟨.slice a1 s.cells.length c1,.slice a2 s.stack.length c2,.slice a3 s.frames.length c3⟩/\Aj (u3.setCell ⟨N,0,none⟩ (.int .i64 7)) w.heap.size ⟨.slice g1 C.length h1,.slice g2 s.stack.length h2,.slice g3 F.length h3⟩ C s.stack F/\Aq (u3.setCell ⟨N,0,none⟩ (.int .i64 7)) N #[.int .i64 7,.bool s.done,.int .i64 s.cost,.int .i64 s.steps,.slice g1 C.length h1,.slice g2 s.stack.length h2,.slice g3 F.length h3] 39):=⟨⟨E5.out.1.pb.other (by simp only[];omega) _,E5.out.1.sb.other (by simp only[];omega) _,E5.out.1.rb.other (by simp only[];omega) _,E5.out.1.bel.setCell (by simp only[];omega) _⟩,E5.out.2.1.other E5.out.2.2 (by decide) (by decide) (by decide) 0 _,E5.out.2.2.set 0 _⟩
   clear E5;go_upto_region 6 with fail
   refine Ag (fun u=>Hid (DH w u ⟨.slice r1 p.regions.length r3,.slice k1 p.consts.length k3,.slice f1 p.funcs.length f3,.slice t1 p.certs.length t3⟩ s.trap s.done s.cost s.steps ⟨.slice a1 s.cells.length c1,.slice a2 s.stack.length c2,.slice a3 s.frames.length c3⟩/\Aj u w.heap.size ⟨.slice g1 C.length h1,.slice g2 s.stack.length h2,.slice g3 F.length h3⟩ C s.stack F/\Aq u N #[.int .i64 7,.bool s.done,.int .i64 s.cost,.int .i64 s.steps,.slice g1 C.length h1,.slice g2 s.stack.length h2,.slice g3 F.length h3] 39)) E6 ?_
   rintro U6 E7;clear E6 nz n0;clear u3;obtain⟨m0,m1,m2,m3,m4,m5,m6⟩:=E7.out.2.2.c7;try dsimp only at m0 m1 m2 m3 m4 m5 m6
   rw[hd7]at m1;obtain⟨r0,r1,r2,r3,r4,r5,r6⟩:=E7.out.1.rb.c7;obtain⟨rz0,rz1,rz2,rz3,rz4,rz5,rz6⟩:=E7.out.1.rb.z7;try dsimp only at r0 r1 r2 r3 r4 r5 r6
   go_wp2_with fail
   obtain⟨RB,OW,BW⟩:=PB E7.out.2.1 E7.out.1.rb E7.out.1.bel (by omega) (.int .i64 7) (.bool false) (.int .i64 s.cost) (.int .i64 s.steps) (.slice g1 C.length h1) (.slice g2 s.stack.length h2) (.slice g3 F.length h3);obtain⟨q0,q1,q2,q3,q4,q5,q6⟩:=RB.c7;try dsimp only at q0 q1 q2 q3 q4 q5 q6
   exact bodyPost_ret (v:=.agg #[.int .i64 7,.bool false,.int .i64 s.cost,.int .i64 s.steps,.slice g1 C.length h1,.slice g2 s.stack.length h2,.slice g3 F.length h3]) (by simp[results,Tryz.results10,go_sem,q0,q1,q2,q3,q4,q5,q6]) rfl ⟨_,_,_,_,⟨.slice g1 C.length h1,.slice g2 s.stack.length h2,.slice g3 F.length h3⟩,_,_,_,rfl,OW,HJ.out,BW⟩
theorem Df(u:World):Below u.heap.size u u:=Below.refl _ _
theorem JX{u:World}{X:Nat}{x0 x1 x2 x3 x4 x5 x6:Value}{t:TypeId}(h:Aq u X #[x0,x1,x2,x3,x4,x5,x6] t):u.cell? ⟨X,0,none⟩=some x0/\u.cell? ⟨X,1,none⟩=some x1/\u.cell? ⟨X,2,none⟩=some x2/\u.cell? ⟨X,3,none⟩=some x3/\u.cell? ⟨X,4,none⟩=some x4/\u.cell? ⟨X,5,none⟩=some x5/\u.cell? ⟨X,6,none⟩=some x6:=
 ⟨h.cell 0,h.cell 1,h.cell 2,h.cell 3,h.cell 4,h.cell 5,h.cell 6⟩
structure L2(w u:World)(v:VP)(x:VS)(s:MS):Prop where
 p:C6 u w.heap.size v.r v.k v.f v.t
 m:Aq u (w.heap.size+1) #[.int .i64 s.trap,.bool s.done,.int .i64 s.cost,.int .i64 s.steps,x.c,x.k,x.f] 32
 bel:Below w.heap.size w u
theorem L2.keep{w u u':World}{v:VP}{x:VS}{s:MS}(h:L2 w u v x s)(hb:Below u.heap.size u u'):L2 w u' v x s:=⟨h.p.keep hb,h.m.keep hb,Ac h.bel lR hb⟩
theorem L2.all{w u:World}{v:VP}{x:VS}{s:MS}(h:L2 w u v x s):u.cell? ⟨w.heap.size,0,none⟩=some v.r/\u.cell? ⟨w.heap.size,1,none⟩=some v.k/\u.cell? ⟨w.heap.size,2,none⟩=some v.f/\u.cell? ⟨w.heap.size,3,none⟩=some v.t/\u.cell? ⟨w.heap.size+1,0,none⟩=some (.int .i64 s.trap)/\u.cell? ⟨w.heap.size+1,1,none⟩=some (.bool s.done)/\u.cell? ⟨w.heap.size+1,2,none⟩=some (.int .i64 s.cost)/\u.cell? ⟨w.heap.size+1,3,none⟩=some (.int .i64 s.steps)/\u.cell? ⟨w.heap.size+1,4,none⟩=some x.c/\u.cell? ⟨w.heap.size+1,5,none⟩=some x.k/\u.cell? ⟨w.heap.size+1,6,none⟩=some x.f:=
 ⟨h.p.c0,h.p.c1,h.p.c2,h.p.c3,JX h.m⟩
theorem Aj.rdS{u:World}{B:Nat}{v:VS}{C:List (Value×List MC)}{K:List MC}{F:List (MG×Value)}{s:MS}(h:Aj u B v C K F)(hs:s=Av s.trap s.done s.cost s.steps C K F):Fc u v s:=by
 have k:=h.own s.trap s.done s.cost s.steps;rw[<-hs]at k;exact k.rd
structure NS(u:World)(X:Nat)(s:MS)(a1 a2 a3:Option Addr)(c1 c2 c3:Nat):Prop where
 blk:Aq u X #[.int .i64 s.trap,.bool s.done,.int .i64 s.cost,.int .i64 s.steps,.slice a1 s.cells.length c1,.slice a2 s.stack.length c2,.slice a3 s.frames.length c3] 39
 rd:Fc u ⟨.slice a1 s.cells.length c1,.slice a2 s.stack.length c2,.slice a3 s.frames.length c3⟩ s
theorem NS.keep{u u':World}{X:Nat}{s:MS}{a1 a2 a3:Option Addr}{c1 c2 c3:Nat}(h:NS u X s a1 a2 a3 c1 c2 c3)(hb:Below u.heap.size u u'):NS u' X s a1 a2 a3 c1 c2 c3:=⟨h.blk.keep hb,h.rd.keep hb lR⟩
def Jf(p:MP)(s0:MS)(w:World)(e:Ending)(w':World):Prop:=∃(C:List (Value×List MC)) (K:List MC) (F:List (MG×Value)) (s:MS) (a1:Option Addr) (c1:Nat) (a2:Option Addr) (c2:Nat) (a3:Option Addr) (c3:Nat),e=.returned (.agg #[.int .i64 s.trap,.bool s.done,.int .i64 s.cost,.int .i64 s.steps,.slice a1 s.cells.length c1,.slice a2 s.stack.length c2,.slice a3 s.frames.length c3])/\BU p s0 s/\s=Av s.trap s.done s.cost s.steps C K F/\Eb C K F/\Aj w' w.heap.size ⟨.slice a1 s.cells.length c1,.slice a2 s.stack.length c2,.slice a3 s.frames.length c3⟩ C K F/\Below w.heap.size w w'
theorem GS.to{w w':World}{p:MP}{s:MS}{e:Ending}(h:GS w p s e w')(hs:s.small):Jf p s w e w':=by
 obtain⟨t,d,c,n,X,C,K,F,rfl,own,hst,bl⟩:=h;obtain⟨x1,x2,x3⟩:=X;obtain⟨g1,h1,eb1⟩:=An own.cells;obtain⟨g2,h2,eb2⟩:=An (own.fam.own (x2,K) (by simp));obtain⟨g3,h3,eb3⟩:=An own.frames;simp only[]at eb1 eb2 eb3;subst eb1 eb2 eb3;have e1:(Av t d c n C K F).cells.length=C.length:=by simp[Av]
 have e3:(Av t d c n C K F).frames.length=F.length:=by simp[Av]
 refine⟨C,K,F,Av t d c n C K F,g1,h1,g2,h2,g3,h3,?_,hst,rfl,MS.smallSE (hst.small hs),?_,bl⟩
 ·rw[e1,e3]
  rfl
 ·rw[e1,e3]
  exact own
theorem KI(v:VP)(p:MP)(x:VS)(s:MS)(w:World)(hps:p.small)(hpw:p.wf)(hss:s.small)(hsw:s.wf)(h:Cx w v p/\Ex w v.r p.regions/\EI w v.f p.funcs)(hS:Fc w x s):
  Calls Tryz.prog 7 #[.agg #[v.r,v.k,v.f,v.t],.agg #[.int .i64 s.trap,.bool s.done,.int .i64 s.cost,.int .i64 s.steps,x.c,x.k,x.f]] w (Jf p s w):=(JD v p x s w hps hpw h.1 hss hsw hS).mono fun _ _ h=>h.to hss
theorem GK(v:VP)(p:MP)(x:VS)(s:MS)(w:World)(hps:p.small)(hpw:p.wf)(hss:s.small)(hsw:s.wf)(h:Cx w v p/\Ex w v.r p.regions/\EI w v.f p.funcs)(hS:Fc w x s):
  Calls Tryz.prog 10 #[.agg #[v.r,v.k,v.f,v.t],.agg #[.int .i64 s.trap,.bool s.done,.int .i64 s.cost,.int .i64 s.steps,x.c,x.k,x.f]] w (Jf p s w):=(IY v p x s w hps hpw h.1 h.2.1 h.2.2 hss hsw hS).mono fun _ _ h=>h.to hss
def Ib(p:MP)(s0:MS)(u wx:World)(X:Nat):Prop:=∃s a1 c1 a2 c2 a3 c3,BU p s0 s/\NS wx X s a1 a2 a3 c1 c2 c3/\Below u.heap.size u wx
theorem Ib.late{p:MP}{s0:MS}{u0 u:World}{s:MS}{a1 a2 a3:Option Addr}{c1 c2 c3 B:Nat}{C:List (Value×List MC)}{K:List MC}{F:List (MG×Value)}(h:BU p s0 s)(hs:s=Av s.trap s.done s.cost s.steps C K F)(ho:Aj u B ⟨.slice a1 s.cells.length c1,.slice a2 s.stack.length c2,.slice a3 s.frames.length c3⟩ C K F)(hb:Below u0.heap.size u0 u):Hid (Ib p s0 u0 (u.alloc (.cells #[.int .i64 s.trap,.bool s.done,.int .i64 s.cost,.int .i64 s.steps,.slice a1 s.cells.length c1,.slice a2 s.stack.length c2,.slice a3 s.frames.length c3] 39)) u.heap.size):=
 ⟨s,a1,c1,a2,c2,a3,c3,h,⟨Aq.new _ _ _,(ho.rdS hs).keep (Aa _ _) lR⟩,Ac hb lR (Aa _ _)⟩
theorem Ib.early{p:MP}{s0:MS}{u0 u:World}{X:Nat}{s:MS}{a1 a2 a3:Option Addr}{c1 c2 c3 B:Nat}{C:List (Value×List MC)}{K:List MC}{F:List (MG×Value)}(h:BU p s0 s)(hs:s=Av s.trap s.done s.cost s.steps C K F)(ho:Aj u B ⟨.slice a1 s.cells.length c1,.slice a2 s.stack.length c2,.slice a3 s.frames.length c3⟩ C K F)(hb:Below u0.heap.size u0 u)(hk:Aq u X #[.int .i64 0,.bool false,.int .i64 0,.int .i64 0,.slice none 0 0,.slice none 0 0,.slice none 0 0] 39)(hX:u0.heap.size<=X):Hid (Ib p s0 u0 (((((((u.setCell ⟨X,0,none⟩ (.int .i64 s.trap)).setCell ⟨X,1,none⟩ (.bool s.done)).setCell ⟨X,2,none⟩ (.int .i64 s.cost)).setCell ⟨X,3,none⟩ (.int .i64 s.steps)).setCell ⟨X,4,none⟩ (.slice a1 s.cells.length c1)).setCell ⟨X,5,none⟩ (.slice a2 s.stack.length c2)).setCell ⟨X,6,none⟩ (.slice a3 s.frames.length c3)) X):=
 ⟨s,a1,c1,a2,c2,a3,c3,h,⟨Pd hk _ _ _ _ _ _ _,(ho.seven hk _ _ _ _ _ _ _).rdS hs⟩,((((((hb.setCell hX _).setCell hX _).setCell hX _).setCell hX _).setCell hX _).setCell hX _).setCell hX _⟩
theorem Aj.marks{u u':World}{B lo hi:Nat}{v:VS}{C:List (Value×List MC)}{K:List MC}{F:List (MG×Value)}(h:Aj u B v C K F)(mg:Ds lo hi u u')(hB:hi<=B):Aj u' B v C K F:=⟨mg.own h.cells hB,mg.own h.frames hB,⟨fun x hx=>mg.own (h.fam.own x hx) hB,h.fam.sep⟩⟩
theorem Aq.marks{u u':World}{b lo hi:Nat}{cur:Array Value}{t:TypeId}(h:Aq u b cur t)(mg:Ds lo hi u u')(hb:hi<=b):Aq u' b cur t:=by
 have k:=mg.out b h.lt (.inr hb);unfold Aq at*;rw[k];exact h
theorem Nf{C:List (Value×List MC)}{K:List MC}{F:List (MG×Value)}(h:Eb C K F):¬Di (ET C K) F<0:=by
 have h1:=Gh 1 C h.cell;have h2:=GR (ET C K) F h.frame;unfold ET at*;omega
end Go.Proofs.YtlejplpkomddeaaGreat
