import Derived.Test.YtlejplpkomddeaaGreatR0
import Derived.Test.YtlejplpkomddeaaGreatR4
import Derived.Test.YtlejplpkomddeaaGreatR11
import Derived.Test.YtlejplpkomddeaaGreatR34
import Derived.Test.YtlejplpkomddeaaGreatR6
import Derived.Deep.RegionLaw
import Derived.Deep.DeepCutAuto
import Derived.Test.YtlejplpkomddeaaGreatR41
import Derived.Test.YtlejplpkomddeaaGreatR42
namespace Go.Proofs.YtlejplpkomddeaaGreat
open Go.ChangeShapes Go.WideShapes Go.ChangeAt Go.RowKit
set_option linter.unusedVariables false
set_option maxHeartbeats 8000000
set_option maxRecDepth 100000
theorem Im(v:VP)(p:MP)(c n:Int)(X:VS)(C:List (Value×List MC))(K:List MC)(F:List (MG×Value))(B:Nat)(w:World)(hB:B<=w.heap.size)(h:Ah w B X C K F)(hsh:FA p (Ao 0 false c n C K F))(hwf:(Ao 0 false c n C K F).wf)(hps:p.small)(hpw:p.wf)(hP:∀u,Below B w u->Cx u v p):
 Calls Tryz.prog 32 #[.agg #[v.r,v.k,v.f,v.t],.agg #[.int .i64 0,.bool false,.int .i64 c,.int .i64 n,X.c,X.k,X.f]] w (Ph w B p (Ao 0 false c n C K F)):=by
 have hK:K.length<=64:=hsh.high
 have hF32:F.length<=32:=by have:=hsh.deep;simpa[Ao]using this
 obtain⟨top,htop⟩:∃top,F.length=top+1:=⟨F.length-1,by
  have:=hsh.some
  cases F with
  |nil=>exact absurd rfl this
  |cons a r=>simp⟩
 obtain⟨⟨fg,vl⟩,hy⟩:∃y,F[top]?=some y:=⟨_,gE (by omega)⟩
 have hfgm:fg∈(Ao 0 false c n C K F).frames:=List.mem_map_of_mem (f:=Prod.fst) (mG hy)
 have hfr:=hsh.frames fg hfgm
 obtain⟨f,hf,hfl⟩:=hfr.locals
 have hb0:=Jc hsh.bases fg hfgm
 obtain⟨b,hb⟩:=Int.eq_ofNat_of_zero_le hb0
 obtain⟨qf,hqf⟩:=Int.eq_ofNat_of_zero_le hfr.lo
 have hbK:b<=K.length:=by have:=hfr.base;rw[hb]at this;simp only[Ao]at this;omega
 have hlast:(Ao 0 false c n C K F).frames.getLast?=some fg:=Mm htop hy
 have hfn:p.funcs[fg.func.toNat]?=some f:=hf
 rw[hqf,Int.toNat_natCast]at hf
 have hql:=(gI.1 hf).1
 have hfs:f.small:=hps.func f (mG hf)
 have hcode:f.code.length<=1048576:=hfs.2.2
 have hat64:Dr fg.at_:=(hwf.frames fg hfgm).at_
 obtain⟨hatl,hath⟩:=Dz hat64
 obtain⟨hc0,hc1⟩:=hsh.cost
 obtain⟨hn0,hn1⟩:=hsh.steps
 simp only[Ao]at hc0 hc1 hn0 hn1
 have h3:Hid (p.regions.length=3):=hsh.prog.parts.1.1
 obtain⟨a1,c1,e1⟩:=Al h.cells
 obtain⟨a2,c2,e2⟩:=Al (h.fam.own (X.k,K) (by simp))
 simp only[]at e2
 have hcap:K.length<=c2:=by
  have h2:=h.fam.own (X.k,K) (by simp)
  simp only[]at h2
  rw[e2]at h2
  exact CR h2
 rcases At h.frames with⟨_,e⟩|⟨gf,c3,e3⟩
 ·omega
 obtain⟨al,cl,el⟩:=Al (h.fam.own (vl,fg.locals) (by simp only[List.mem_append];exact .inr (mG (Bb hy))))
 have hlo:fg.locals.length<=32:=by
  have h1:=hfl.1
  have h2:fg.locals.length=(f.params++f.locals).length:=by rw[<-h1,List.length_map]
  have h4:BO f:=hsh.prog.parts.2.2.1.2.2.1 qf hql f hf
  have:=h4.loc
  rw[h2,List.length_append]
  exact this
 rw[htop]at e3
 obtain⟨vc,vk',vf'⟩:=X
 simp only[]at e1 e2 e3 el hcap
 subst e1 e2 e3 el
 have hR0:=hP w (Below.refl B w)
 obtain⟨r1,r3,er⟩:=(show∃a c,v.r=.slice a p.regions.length c from by obtain⟨_,_,h2,_⟩:=hR0.regions;exact h2.is_slice)
 obtain⟨k1,k3,ek⟩:=hR0.consts.is_slice
 obtain⟨t1,t3,et⟩:=hR0.certs.is_slice
 obtain⟨gk,ok,ck,ef,g,hg,fn0,fn1,fn2,fn3⟩:=NS hR0.funcs hf
 obtain⟨g1,g3,eg1⟩:=hg.1.is_slice
 obtain⟨g4,g6,eg2⟩:=hg.2.1.is_slice
 obtain⟨g7,g9,eg3⟩:=hg.2.2.is_slice
 obtain⟨gp,gl,gc⟩:=g
 obtain⟨vr,vk,vf,vt⟩:=v
 simp only[]at er ek et ef eg1 eg2 eg3 fn0 fn2 fn3
 subst er ek et ef eg1 eg2 eg3
 have HG:Hid (CP w ⟨.slice g1 f.params.length g3,.slice g4 f.locals.length g6,.slice g7 f.code.length g9⟩ f):=hg
 have H:Hid (Ah w B ⟨.slice a1 C.length c1,.slice a2 K.length c2,.slice (some ⟨gf,0,none⟩) (top+1) c3⟩ C K F/\FA p (Ao 0 false c n C K F)/\(Ao 0 false c n C K F).wf/\p.small/\p.wf/\F[top]?=some (fg,.slice al fg.locals.length cl)/\fg.base=(b:Int)/\fg.func=(qf:Int)):=⟨h,hsh,hwf,hps,hpw,hy,hb,hqf⟩
 have HP:Hid (∀u,Below B w u->Cx u ⟨.slice r1 p.regions.length r3,.slice k1 p.consts.length k3,.slice (some ⟨gk,ok,none⟩) p.funcs.length ck,.slice t1 p.certs.length t3⟩ p):=hP
 have HF:Hid ((Ao 0 false c n C K F).frames.getLast?=some fg/\p.funcs[fg.func.toNat]?=some f/\p.funcs[qf]?=some f/\f.small/\CQ fg.locals (f.params++f.locals)/\F.length=top+1):=⟨hlast,hfn,hf,hfs,hfl,htop⟩
 have HR:Hid (Cx w ⟨.slice r1 p.regions.length r3,.slice k1 p.consts.length k3,.slice (some ⟨gk,ok,none⟩) p.funcs.length ck,.slice t1 p.certs.length t3⟩ p):=hP w (Below.refl B w)
 generalize hnl:fg.locals.length=nl at*
 have HNL:Hid (fg.locals.length=nl):=hnl
 have htl:top+1<=32:=by omega
 clear hR0 hg
 clear h hsh hwf hps hpw hP hlast hfn hf hfs hfl hfr hy hb hqf hfgm hb0 hat64 htop hnl
 have E0:Hid (Cd w (((w.alloc (.cells #[.slice r1 p.regions.length r3,.slice k1 p.consts.length k3,.slice (some ⟨gk,ok,none⟩) p.funcs.length ck,.slice t1 p.certs.length t3] 45)).alloc (.cells #[.int .i64 0,.bool false,.int .i64 c,.int .i64 n,.slice a1 C.length c1,.slice a2 K.length c2,.slice (some ⟨gf,0,none⟩) (top+1) c3] 39)).alloc (.cells #[.int .i64 0,.bool false,.int .i64 0,.int .i64 0,.slice none 0 0,.slice none 0 0,.slice none 0 0] 39)) ⟨.slice r1 p.regions.length r3,.slice k1 p.consts.length k3,.slice (some ⟨gk,ok,none⟩) p.funcs.length ck,.slice t1 p.certs.length t3⟩ c n ⟨.slice a1 C.length c1,.slice a2 K.length c2,.slice (some ⟨gf,0,none⟩) (top+1) c3⟩):=Cd.of w ⟨.slice r1 p.regions.length r3,.slice k1 p.consts.length k3,.slice (some ⟨gk,ok,none⟩) p.funcs.length ck,.slice t1 p.certs.length t3⟩ c n ⟨.slice a1 C.length c1,.slice a2 K.length c2,.slice (some ⟨gf,0,none⟩) (top+1) c3⟩
 go_enter Tryz.func32,Tryz.ntmps32
 go_upto_region 1 with fail
 refine Af (fun u=>Hid (Cd w u ⟨.slice r1 p.regions.length r3,.slice k1 p.consts.length k3,.slice (some ⟨gk,ok,none⟩) p.funcs.length ck,.slice t1 p.certs.length t3⟩ c n ⟨.slice a1 C.length c1,.slice a2 K.length c2,.slice (some ⟨gf,0,none⟩) (top+1) c3⟩)) E0 ?_
 rintro U0 E1
 clear E0
 have hfo:=(H.out.1.grow E1.out.bel).frames
 simp only[]at hfo
 rw[HF.out.2.2.2.2.2]at hfo
 have fc0:=hfo.cellAt (top*4+0) (by omega)
 have fc1:=hfo.cellAt (top*4+1) (by omega)
 have fc2:=hfo.cellAt (top*4+2) (by omega)
 have fc3:=hfo.cellAt (top*4+3) (by omega)
 rw[AF AA 4 Au F top 0 _ H.out.2.2.2.2.2.1 (by omega)]at fc0
 rw[AF AA 4 Au F top 1 _ H.out.2.2.2.2.2.1 (by omega)]at fc1
 rw[AF AA 4 Au F top 2 _ H.out.2.2.2.2.2.1 (by omega)]at fc2
 rw[AF AA 4 Au F top 3 _ H.out.2.2.2.2.2.1 (by omega)]at fc3
 simp only[AA,gZ,gS,H.out.2.2.2.2.2.2.1,H.out.2.2.2.2.2.2.2,Nat.add_zero]at fc0 fc1 fc2 fc3
 have m6:=E1.out.sb.cell 6
 simp only[gA,gZ,gS]at m6
 clear hfo
 have EN:Hid (Cd w (U0.alloc (.cells #[.int .i64 (qf:Int),.int .i64 fg.at_,.int .i64 (b:Int),.slice al nl cl] 123)) ⟨.slice r1 p.regions.length r3,.slice k1 p.consts.length k3,.slice (some ⟨gk,ok,none⟩) p.funcs.length ck,.slice t1 p.certs.length t3⟩ c n ⟨.slice a1 C.length c1,.slice a2 K.length c2,.slice (some ⟨gf,0,none⟩) (top+1) c3⟩/\Ap (U0.alloc (.cells #[.int .i64 (qf:Int),.int .i64 fg.at_,.int .i64 (b:Int),.slice al nl cl] 123)) U0.heap.size #[.int .i64 (qf:Int),.int .i64 fg.at_,.int .i64 (b:Int),.slice al nl cl] 123):=⟨E1.out.keep (Aa _ _),Ap.new _ _ _⟩
 have hY1:w.heap.size+1+1<U0.heap.size:=E1.out.rb.lt
 go_upto_region 3 with fail
 clear fc0 fc1 fc2 fc3 m6 E1
 generalize U0.heap.size=Y1 at EN hY1⊢
 refine Af (fun u=>Hid (Cd w u ⟨.slice r1 p.regions.length r3,.slice k1 p.consts.length k3,.slice (some ⟨gk,ok,none⟩) p.funcs.length ck,.slice t1 p.certs.length t3⟩ c n ⟨.slice a1 C.length c1,.slice a2 K.length c2,.slice (some ⟨gf,0,none⟩) (top+1) c3⟩/\Ap u Y1 #[.int .i64 (qf:Int),.int .i64 fg.at_,.int .i64 (b:Int),.slice al nl cl] 123)) EN ?_
 rintro U1 E1
 clear EN
 clear U0
 have fn0':=Ac E1.out.1.bel fn0
 have fn1':=Ac E1.out.1.bel fn1
 have fn2':=Ac E1.out.1.bel fn2
 have fn3':=Ac E1.out.1.bel fn3
 have m2:=E1.out.1.pb.cell 2
 have y0:=E1.out.2.cell 0
 simp only[gA,gZ,gS]at m2 y0
 have EN:Hid ((Cd w (U1.alloc (.cells #[.slice g1 f.params.length g3,.int .i64 f.result,.slice g4 f.locals.length g6,.slice g7 f.code.length g9] 131)) ⟨.slice r1 p.regions.length r3,.slice k1 p.consts.length k3,.slice (some ⟨gk,ok,none⟩) p.funcs.length ck,.slice t1 p.certs.length t3⟩ c n ⟨.slice a1 C.length c1,.slice a2 K.length c2,.slice (some ⟨gf,0,none⟩) (top+1) c3⟩/\Ap (U1.alloc (.cells #[.slice g1 f.params.length g3,.int .i64 f.result,.slice g4 f.locals.length g6,.slice g7 f.code.length g9] 131)) Y1 #[.int .i64 (qf:Int),.int .i64 fg.at_,.int .i64 (b:Int),.slice al nl cl] 123)/\Ap (U1.alloc (.cells #[.slice g1 f.params.length g3,.int .i64 f.result,.slice g4 f.locals.length g6,.slice g7 f.code.length g9] 131)) U1.heap.size #[.slice g1 f.params.length g3,.int .i64 f.result,.slice g4 f.locals.length g6,.slice g7 f.code.length g9] 131):=⟨⟨E1.out.1.keep (Aa _ _),E1.out.2.keep (Aa _ _)⟩,Ap.new _ _ _⟩
 have hY2:Y1<U1.heap.size:=E1.out.2.lt
 go_upto_region 4 with fail
 clear fn0' fn1' fn2' fn3' m2 y0 E1 fn0 fn1 fn2 fn3
 generalize U1.heap.size=Y2 at EN hY2⊢
 refine Af (fun u=>Hid ((Cd w u ⟨.slice r1 p.regions.length r3,.slice k1 p.consts.length k3,.slice (some ⟨gk,ok,none⟩) p.funcs.length ck,.slice t1 p.certs.length t3⟩ c n ⟨.slice a1 C.length c1,.slice a2 K.length c2,.slice (some ⟨gf,0,none⟩) (top+1) c3⟩/\Ap u Y1 #[.int .i64 (qf:Int),.int .i64 fg.at_,.int .i64 (b:Int),.slice al nl cl] 123)/\Ap u Y2 #[.slice g1 f.params.length g3,.int .i64 f.result,.slice g4 f.locals.length g6,.slice g7 f.code.length g9] 131)) EN ?_
 rintro U2 E1
 clear EN
 clear U1
 have y1:=E1.out.1.2.cell 1
 have y3:=E1.out.2.cell 3
 simp only[gA,gZ,gS]at y1 y3
 by_cases hat:fg.at_<0\/(f.code.length:Int)<=fg.at_
 ·have HJ:Hid (Bk p (Ao 0 false c n C K F) (Ao 4 false c n C K F)):=.jump HF.out.1 HF.out.2.1 hat
  by_cases hat0:fg.at_<0
  ·have hd:decide (fg.at_<0)=true:=by simpa using hat0
   go_upto_region 5 with fail
   clear y1 y3
   have E2:Hid (Cd w U2 ⟨.slice r1 p.regions.length r3,.slice k1 p.consts.length k3,.slice (some ⟨gk,ok,none⟩) p.funcs.length ck,.slice t1 p.certs.length t3⟩ c n ⟨.slice a1 C.length c1,.slice a2 K.length c2,.slice (some ⟨gf,0,none⟩) (top+1) c3⟩):=E1.out.1.1
   obtain⟨m0,m1,m2,m3,m4,m5,m6⟩:=E2.out.sb.c7
   try dsimp only at m0 m1 m2 m3 m4 m5 m6
   go_wp2_with fail
   refine(BJ 0 c n 4 false a1 a2 (some ⟨gf,0,none⟩) C.length c1 K.length c2 (top+1) c3 _).mono ?_
   rintro e u2 ⟨rfl,bl2⟩
   have HI2:Hid (Cd w u2 ⟨.slice r1 p.regions.length r3,.slice k1 p.consts.length k3,.slice (some ⟨gk,ok,none⟩) p.funcs.length ck,.slice t1 p.certs.length t3⟩ c n ⟨.slice a1 C.length c1,.slice a2 K.length c2,.slice (some ⟨gf,0,none⟩) (top+1) c3⟩):=E2.out.keep bl2
   clear bl2 m0 m1 m2 m3 m4 m5 m6
   obtain⟨r0,r1,r2,r3,r4,r5,r6⟩:=HI2.out.rb.c7
   obtain⟨rz0,rz1,rz2,rz3,rz4,rz5,rz6⟩:=HI2.out.rb.z7
   try dsimp only at r0 r1 r2 r3 r4 r5 r6
   go_wp2_with fail
   exact bodyPost_ret (results_cell_row Tryz.results32 _ _ _ 39 _ (0,0) _ rfl (HI2.out.rb.w7 _ _ _ _ _ _ _) Tryz.underlying39 rfl (by kernel_rfl)) rfl ⟨4,false,c,n,⟨.slice a1 C.length c1,.slice a2 K.length c2,.slice (some ⟨gf,0,none⟩) (top+1) c3⟩,C,K,F,rfl,(H.out.1.grow HI2.out.bel).o7 HI2.out.rb _ _ _ _ _ _ _,HJ.out,(Co.of HI2.out.bel hB).s7 (by omega) _ _ _ _ _ _ _⟩
  ·have hd:decide (fg.at_<0)=false:=by simpa using hat0
   have hd2:decide ((f.code.length:Int)<=fg.at_)=true:=by simp;omega
   go_upto_region 5 with fail
   clear y1 y3
   have E2:Hid (Cd w U2 ⟨.slice r1 p.regions.length r3,.slice k1 p.consts.length k3,.slice (some ⟨gk,ok,none⟩) p.funcs.length ck,.slice t1 p.certs.length t3⟩ c n ⟨.slice a1 C.length c1,.slice a2 K.length c2,.slice (some ⟨gf,0,none⟩) (top+1) c3⟩):=E1.out.1.1
   obtain⟨m0,m1,m2,m3,m4,m5,m6⟩:=E2.out.sb.c7
   try dsimp only at m0 m1 m2 m3 m4 m5 m6
   go_wp2_with fail
   refine(BJ 0 c n 4 false a1 a2 (some ⟨gf,0,none⟩) C.length c1 K.length c2 (top+1) c3 _).mono ?_
   rintro e u2 ⟨rfl,bl2⟩
   have HI2:Hid (Cd w u2 ⟨.slice r1 p.regions.length r3,.slice k1 p.consts.length k3,.slice (some ⟨gk,ok,none⟩) p.funcs.length ck,.slice t1 p.certs.length t3⟩ c n ⟨.slice a1 C.length c1,.slice a2 K.length c2,.slice (some ⟨gf,0,none⟩) (top+1) c3⟩):=E2.out.keep bl2
   clear bl2 m0 m1 m2 m3 m4 m5 m6
   obtain⟨r0,r1,r2,r3,r4,r5,r6⟩:=HI2.out.rb.c7
   obtain⟨rz0,rz1,rz2,rz3,rz4,rz5,rz6⟩:=HI2.out.rb.z7
   try dsimp only at r0 r1 r2 r3 r4 r5 r6
   go_wp2_with fail
   exact bodyPost_ret (results_cell_row Tryz.results32 _ _ _ 39 _ (0,0) _ rfl (HI2.out.rb.w7 _ _ _ _ _ _ _) Tryz.underlying39 rfl (by kernel_rfl)) rfl ⟨4,false,c,n,⟨.slice a1 C.length c1,.slice a2 K.length c2,.slice (some ⟨gf,0,none⟩) (top+1) c3⟩,C,K,F,rfl,(H.out.1.grow HI2.out.bel).o7 HI2.out.rb _ _ _ _ _ _ _,HJ.out,(Co.of HI2.out.bel hB).s7 (by omega) _ _ _ _ _ _ _⟩
 have hd:decide (fg.at_<0)=false:=by simp;omega
 have hd2:decide ((f.code.length:Int)<=fg.at_)=false:=by simp;omega
 obtain⟨ia,hia⟩:=Int.eq_ofNat_of_zero_le (by omega:0<=fg.at_)
 go_upto_region 6 with fail
 obtain⟨x,hx⟩:∃x,f.code[ia]?=some x:=⟨_,gE (by omega)⟩
 obtain⟨gi,oi,ci,ei,in0,in1,in2,in3⟩:=Pk HG.out.2.2 hx
 simp only[sJ,true_and]at ei
 obtain⟨rfl,rfl⟩:=ei
 have HX:Hid (f.code[ia]?=some x/\AN p f x/\x.wf/\fg.at_=(ia:Int)):=⟨hx,H.out.2.1.prog.instr HF.out.2.2.1 hx,(H.out.2.2.2.2.1.funcs f (mG HF.out.2.2.1)).code x (mG hx),hia⟩
 have hlo0:0<=x.op:=HX.out.2.1.1
 have hhi29:x.op<=29:=HX.out.2.1.2.1
 have hia':=(gI.1 hx).1
 have in0':=Ac E1.out.1.1.bel in0
 have in1':=Ac E1.out.1.1.bel in1
 have in2':=Ac E1.out.1.1.bel in2
 have in3':=Ac E1.out.1.1.bel in3
 have hiaI:(ia:Int)<(f.code.length:Int):=by omega
 rw[hia]at y1
 have HFR:Hid (Ap U2 Y1 #[.int .i64 (qf:Int),.int .i64 (ia:Int),.int .i64 (b:Int),.slice al nl cl] 123):=by have:=E1.out.1.2;rw[hia]at this;exact this
 have EN:Hid (((Cd w (U2.alloc (.cells #[.int .i64 x.op,.int .i64 x.a,.int .i64 x.b,.int .i64 x.c] 134)) ⟨.slice r1 p.regions.length r3,.slice k1 p.consts.length k3,.slice (some ⟨gk,ok,none⟩) p.funcs.length ck,.slice t1 p.certs.length t3⟩ c n ⟨.slice a1 C.length c1,.slice a2 K.length c2,.slice (some ⟨gf,0,none⟩) (top+1) c3⟩/\Ap (U2.alloc (.cells #[.int .i64 x.op,.int .i64 x.a,.int .i64 x.b,.int .i64 x.c] 134)) Y1 #[.int .i64 (qf:Int),.int .i64 (ia:Int),.int .i64 (b:Int),.slice al nl cl] 123)/\Ap (U2.alloc (.cells #[.int .i64 x.op,.int .i64 x.a,.int .i64 x.b,.int .i64 x.c] 134)) Y2 #[.slice g1 f.params.length g3,.int .i64 f.result,.slice g4 f.locals.length g6,.slice (some ⟨gi,oi,none⟩) f.code.length g9] 131)/\Ap (U2.alloc (.cells #[.int .i64 x.op,.int .i64 x.a,.int .i64 x.b,.int .i64 x.c] 134)) U2.heap.size #[.int .i64 x.op,.int .i64 x.a,.int .i64 x.b,.int .i64 x.c] 134):=⟨⟨⟨E1.out.1.1.keep (Aa _ _),HFR.out.keep (Aa _ _)⟩,E1.out.2.keep (Aa _ _)⟩,Ap.new _ _ _⟩
 have hY3:Y2<U2.heap.size:=E1.out.2.lt
 go_upto_region 7 with fail
 clear in0' in1' in2' in3' in0 in1 in2 in3 y1 y3 E1 hd hd2 hx hia HFR hat hatl hath
 generalize U2.heap.size=Y3 at EN hY3⊢
 refine Af (fun u=>Hid (((Cd w u ⟨.slice r1 p.regions.length r3,.slice k1 p.consts.length k3,.slice (some ⟨gk,ok,none⟩) p.funcs.length ck,.slice t1 p.certs.length t3⟩ c n ⟨.slice a1 C.length c1,.slice a2 K.length c2,.slice (some ⟨gf,0,none⟩) (top+1) c3⟩/\Ap u Y1 #[.int .i64 (qf:Int),.int .i64 (ia:Int),.int .i64 (b:Int),.slice al nl cl] 123)/\Ap u Y2 #[.slice g1 f.params.length g3,.int .i64 f.result,.slice g4 f.locals.length g6,.slice (some ⟨gi,oi,none⟩) f.code.length g9] 131)/\Ap u Y3 #[.int .i64 x.op,.int .i64 x.a,.int .i64 x.b,.int .i64 x.c] 134)) EN ?_
 rintro U3 E1
 clear EN
 clear U2
 have m3:=E1.out.1.1.1.sb.cell 3
 have mz3:=E1.out.1.1.1.sb.frozen 3
 simp only[gA,gZ,gS]at m3
 have hwn:IntKind.i64.wrap (n+1)=n+1:=IntWalk.i64_in _ (by omega)
 have EN:Hid (((Cd w (U3.setCell ⟨w.heap.size+1,3,none⟩ (.int .i64 (n+1))) ⟨.slice r1 p.regions.length r3,.slice k1 p.consts.length k3,.slice (some ⟨gk,ok,none⟩) p.funcs.length ck,.slice t1 p.certs.length t3⟩ c (n+1) ⟨.slice a1 C.length c1,.slice a2 K.length c2,.slice (some ⟨gf,0,none⟩) (top+1) c3⟩/\Ap (U3.setCell ⟨w.heap.size+1,3,none⟩ (.int .i64 (n+1))) Y1 #[.int .i64 (qf:Int),.int .i64 (ia:Int),.int .i64 (b:Int),.slice al nl cl] 123)/\Ap (U3.setCell ⟨w.heap.size+1,3,none⟩ (.int .i64 (n+1))) Y2 #[.slice g1 f.params.length g3,.int .i64 f.result,.slice g4 f.locals.length g6,.slice (some ⟨gi,oi,none⟩) f.code.length g9] 131)/\Ap (U3.setCell ⟨w.heap.size+1,3,none⟩ (.int .i64 (n+1))) Y3 #[.int .i64 x.op,.int .i64 x.a,.int .i64 x.b,.int .i64 x.c] 134):=⟨⟨⟨E1.out.1.1.1.steps _,E1.out.1.1.2.other (by simp only[];omega) _⟩,E1.out.1.2.other (by simp only[];omega) _⟩,E1.out.2.other (by simp only[];omega) _⟩
 go_upto_region 8 with fail
 clear m3 mz3 E1
 refine Af (fun u=>Hid (((Cd w u ⟨.slice r1 p.regions.length r3,.slice k1 p.consts.length k3,.slice (some ⟨gk,ok,none⟩) p.funcs.length ck,.slice t1 p.certs.length t3⟩ c (n+1) ⟨.slice a1 C.length c1,.slice a2 K.length c2,.slice (some ⟨gf,0,none⟩) (top+1) c3⟩/\Ap u Y1 #[.int .i64 (qf:Int),.int .i64 (ia:Int),.int .i64 (b:Int),.slice al nl cl] 123)/\Ap u Y2 #[.slice g1 f.params.length g3,.int .i64 f.result,.slice g4 f.locals.length g6,.slice (some ⟨gi,oi,none⟩) f.code.length g9] 131)/\Ap u Y3 #[.int .i64 x.op,.int .i64 x.a,.int .i64 x.b,.int .i64 x.c] 134)) EN ?_
 rintro U4 E1
 clear EN
 clear U3
 have hco:=GG hlo0 hhi29
 obtain⟨sN,fN,hinf⟩:=KY x.op
 have hS:Hid (∀w,Calls Tryz.prog 75 #[.int .i64 x.op] w fun e w'=>e=.returned (.agg #[.string sN,.int .i64 (BC x.op),.int .i64 fN])/\Below w.heap.size w w'):=fun w=>by
  have:=AZ x.op w
  rw[hinf]at this
  exact this
 clear hinf
 have HCO:Hid (BC x.op=BC x.op):=rfl
 generalize hce:BC x.op=co at hS hco
 have HCE:Hid (BC x.op=co):=hce
 clear hce HCO
 have hwc:IntKind.i64.wrap (c+co)=c+co:=IntWalk.i64_in _ (by omega)
 have i0:=E1.out.2.cell 0
 have m2:=E1.out.1.1.1.sb.cell 2
 have mz2:=E1.out.1.1.1.sb.frozen 2
 simp only[gA,gZ,gS]at i0 m2
 have hfl:=fun w=>Li sN co fN w
 have bD:=Ad U4
 have i0d:=Ac bD i0
 have m2d:=Ac bD m2
 go_upto_region 8 with fail
 go_cut [] (fun wx=>Hid (((Cd w wx ⟨.slice r1 p.regions.length r3,.slice k1 p.consts.length k3,.slice (some ⟨gk,ok,none⟩) p.funcs.length ck,.slice t1 p.certs.length t3⟩ (c+co) (n+1) ⟨.slice a1 C.length c1,.slice a2 K.length c2,.slice (some ⟨gf,0,none⟩) (top+1) c3⟩/\Ap wx Y1 #[.int .i64 (qf:Int),.int .i64 (ia:Int),.int .i64 (b:Int),.slice al nl cl] 123)/\Ap wx Y2 #[.slice g1 f.params.length g3,.int .i64 f.result,.slice g4 f.locals.length g6,.slice (some ⟨gi,oi,none⟩) f.code.length g9] 131)/\Ap wx Y3 #[.int .i64 x.op,.int .i64 x.a,.int .i64 x.b,.int .i64 x.c] 134))
 case first=>
  go_region_law (go_simp;go_at_call 75;refine(hS.out _).mono ?_;rintro e u1 ⟨rfl,b1⟩;have B1:Hid (Below U4.heap.size U4 u1):=As b1 lR;have i0u:=Ac B1.out i0;have m2u:=Ac B1.out m2;have mzu:=(E1.out.1.1.1.keep B1.out).sb.frozen 2;clear b1)
  all_goals
   go_wp2_with fail
   go_meet
   exact⟨⟨⟨(E1.out.1.1.1.keep B1.out).cost (c+co),(E1.out.1.1.2.keep B1.out).other (by simp only[];omega) _⟩,(E1.out.1.2.keep B1.out).other (by simp only[];omega) _⟩,(E1.out.2.keep B1.out).other (by simp only[];omega) _⟩
 case rest=>
  clear E1 i0 m2 mz2 bD i0d m2d hfl hS hwc hwn
  clear U4
  have E1:Hid _:=hcut
  clear hcut
  have i0:=E1.out.2.cell 0
  simp only[gA,gZ]at i0
  by_cases h29:x.op=29
  ·have h29b:(x.op==29)=true:=by simpa using h29
   go_upto_region 10 with fail
   clear i0
   obtain⟨p0,p1,p2,p3⟩:=E1.out.1.1.1.pb.c4
   try dsimp only at p0 p1 p2 p3
   obtain⟨m0,m1,m2,m3,m4,m5,m6⟩:=E1.out.1.1.1.sb.c7
   try dsimp only at m0 m1 m2 m3 m4 m5 m6
   obtain⟨f0,f1,f2,f3⟩:=E1.out.1.2.c4
   try dsimp only at f0 f1 f2 f3
   obtain⟨y0,y1,y2,y3⟩:=E1.out.1.1.2.c4
   try dsimp only at y0 y1 y2 y3
   go_wp2_with fail
   refine(JQ ⟨.slice r1 p.regions.length r3,.slice k1 p.consts.length k3,.slice (some ⟨gk,ok,none⟩) p.funcs.length ck,.slice t1 p.certs.length t3⟩ 0 (c+co) (n+1) ⟨.slice a1 C.length c1,.slice a2 K.length c2,.slice (some ⟨gf,0,none⟩) (top+1) c3⟩ C K F B ⟨.slice g1 f.params.length g3,.slice g4 f.locals.length g6,.slice (some ⟨gi,oi,none⟩) f.code.length g9⟩ f ⟨(qf:Int),(ia:Int),(b:Int),fg.locals⟩ (.slice al nl cl) wc (Nat.le_trans hB E1.out.1.1.1.bel.size) (H.out.1.grow E1.out.1.1.1.bel) ⟨_,_,_,rfl⟩ ⟨⟨_,_,_,rfl⟩,⟨_,_,_,rfl⟩,⟨_,_,_,rfl⟩⟩ b rfl hbK (by omega) (by rw[HF.out.2.2.2.2.2];omega) (fun e=>by have:=HF.out.2.2.2.2.2;rw[e]at this;simp at this)).mono ?_
   rintro e u2 ⟨hcase,b2⟩
   have HI2:Hid (Cd w u2 ⟨.slice r1 p.regions.length r3,.slice k1 p.consts.length k3,.slice (some ⟨gk,ok,none⟩) p.funcs.length ck,.slice t1 p.certs.length t3⟩ (c+co) (n+1) ⟨.slice a1 C.length c1,.slice a2 K.length c2,.slice (some ⟨gf,0,none⟩) (top+1) c3⟩):=E1.out.1.1.1.keep b2
   clear b2 p0 p1 p2 p3 m0 m1 m2 m3 m4 m5 m6 f0 f1 f2 f3 y0 y1 y2 y3
   have ht29:=I7 (p:=p) (C:=C) (K:=K) (F:=F) (c:=c) (n:=n) (f:=f) h29 H.out.2.2.2.2.2.2.1
   obtain⟨r0,r1,r2,r3,r4,r5,r6⟩:=HI2.out.rb.c7
   obtain⟨rz0,rz1,rz2,rz3,rz4,rz5,rz6⟩:=HI2.out.rb.z7
   try dsimp only at r0 r1 r2 r3 r4 r5 r6
   rcases hcase with⟨hne,rfl⟩|⟨heq,vf9,rfl,own2⟩
   ·have HJ:Hid (Bk p (Ao 0 false c n C K F) (Ao 6 false (c+co) (n+1) C K F)):=Eg HF.out.1 HF.out.2.1 HX.out.2.2.2 HX.out.1 HCE.out (by rw[ht29,if_neg hne]) (by decide)
    clear hne ht29
    go_wp2_with fail
    exact bodyPost_ret (results_cell_row Tryz.results32 _ _ _ 39 _ (0,0) _ rfl (HI2.out.rb.w7 _ _ _ _ _ _ _) Tryz.underlying39 rfl (by kernel_rfl)) rfl ⟨6,false,(c+co),(n+1),⟨.slice a1 C.length c1,.slice a2 K.length c2,.slice (some ⟨gf,0,none⟩) (top+1) c3⟩,C,K,F,rfl,(H.out.1.grow HI2.out.bel).o7 HI2.out.rb _ _ _ _ _ _ _,HJ.out,(Co.of HI2.out.bel hB).s7 (by omega) _ _ _ _ _ _ _⟩
   ·obtain⟨a9,c9,e9⟩:=Al own2.frames
    simp only[]at e9
    subst e9
    have HJ:Hid (Bk p (Ao 0 false c n C K F) (Ao 0 (decide (F.length=1)) (c+co) (n+1) C K (F.take (F.length-1)))):=Gu HF.out.1 HF.out.2.1 HX.out.2.2.2 HX.out.1 HCE.out (by rw[ht29,if_pos heq]) (Mp h29)
    have HO:Hid (Ah u2 B ⟨.slice a1 C.length c1,.slice a2 K.length c2,.slice a9 (F.take (F.length-1)).length c9⟩ C K (F.take (F.length-1))):=own2
    generalize decide (F.length=1)=dn at HJ⊢
    generalize (F.take (F.length-1)).length=n9 at HO⊢
    clear heq ht29 own2
    go_wp2_with fail
    exact bodyPost_ret (results_cell_row Tryz.results32 _ _ _ 39 _ (0,0) _ rfl (HI2.out.rb.w7 _ _ _ _ _ _ _) Tryz.underlying39 rfl (by kernel_rfl)) rfl ⟨0,dn,(c+co),(n+1),⟨.slice a1 C.length c1,.slice a2 K.length c2,.slice a9 n9 c9⟩,C,K,_,rfl,HO.out.o7 HI2.out.rb _ _ _ _ _ _ _,HJ.out,(Co.of HI2.out.bel hB).s7 (by omega) _ _ _ _ _ _ _⟩
  have h29b:(x.op==29)=false:=by simpa using h29
  go_upto_region 11 with fail
  clear i0 h29b
  obtain⟨p0,p1,p2,p3⟩:=E1.out.1.1.1.pb.c4
  try dsimp only at p0 p1 p2 p3
  obtain⟨f0,f1,f2,f3⟩:=E1.out.1.2.c4
  try dsimp only at f0 f1 f2 f3
  obtain⟨i0,i1,i2,i3⟩:=E1.out.2.c4
  try dsimp only at i0 i1 i2 i3
  go_wp2_with fail
  refine(NT ⟨.slice r1 p.regions.length r3,.slice k1 p.consts.length k3,.slice (some ⟨gk,ok,none⟩) p.funcs.length ck,.slice t1 p.certs.length t3⟩ p ⟨.slice g1 f.params.length g3,.slice g4 f.locals.length g6,.slice (some ⟨gi,oi,none⟩) f.code.length g9⟩ f x wc H.out.2.2.2.1 h3.out HF.out.2.2.2.1 HX.out.2.2.1 (HR.out.keep E1.out.1.1.1.bel lR) (HG.out.keep E1.out.1.1.1.bel lR) HX.out.2.1).mono ?_
  rintro e u1 ⟨tv,gv,rfl,htk,hgv,b1⟩
  generalize hts:Ak p f x=ts at htk
  generalize hgs:Ay p f x=gs at hgv
  have HT:Hid (Ak p f x=ts/\Ay p f x=gs):=⟨hts,hgs⟩
  clear hts hgs
  obtain⟨ta,tc,rfl⟩:=htk.is_slice
  obtain⟨sa,sc,rfl⟩:=hgv.is_slice
  have EN:Hid ((((Cd w u1 ⟨.slice r1 p.regions.length r3,.slice k1 p.consts.length k3,.slice (some ⟨gk,ok,none⟩) p.funcs.length ck,.slice t1 p.certs.length t3⟩ (c+co) (n+1) ⟨.slice a1 C.length c1,.slice a2 K.length c2,.slice (some ⟨gf,0,none⟩) (top+1) c3⟩/\Ap u1 Y1 #[.int .i64 (qf:Int),.int .i64 (ia:Int),.int .i64 (b:Int),.slice al nl cl] 123)/\Ap u1 Y2 #[.slice g1 f.params.length g3,.int .i64 f.result,.slice g4 f.locals.length g6,.slice (some ⟨gi,oi,none⟩) f.code.length g9] 131)/\Ap u1 Y3 #[.int .i64 x.op,.int .i64 x.a,.int .i64 x.b,.int .i64 x.c] 134)):=⟨⟨⟨E1.out.1.1.1.keep b1,E1.out.1.1.2.keep b1⟩,E1.out.1.2.keep b1⟩,E1.out.2.keep b1⟩
  have HTK:Hid (Rd u1 1 (.slice ta ts.length tc) ts.length (ts.flatMap Ae)):=htk
  clear htk hgv b1 E1 p0 p1 p2 p3 f0 f1 f2 f3 i0 i1 i2 i3
  go_upto_region 12 with fail
  have EN2:Hid (((((Cd w (u1.alloc (.cells #[.slice ta ts.length tc,.slice sa gs.length sc] 138)) ⟨.slice r1 p.regions.length r3,.slice k1 p.consts.length k3,.slice (some ⟨gk,ok,none⟩) p.funcs.length ck,.slice t1 p.certs.length t3⟩ (c+co) (n+1) ⟨.slice a1 C.length c1,.slice a2 K.length c2,.slice (some ⟨gf,0,none⟩) (top+1) c3⟩/\Ap (u1.alloc (.cells #[.slice ta ts.length tc,.slice sa gs.length sc] 138)) Y1 #[.int .i64 (qf:Int),.int .i64 (ia:Int),.int .i64 (b:Int),.slice al nl cl] 123)/\Ap (u1.alloc (.cells #[.slice ta ts.length tc,.slice sa gs.length sc] 138)) Y2 #[.slice g1 f.params.length g3,.int .i64 f.result,.slice g4 f.locals.length g6,.slice (some ⟨gi,oi,none⟩) f.code.length g9] 131)/\Ap (u1.alloc (.cells #[.slice ta ts.length tc,.slice sa gs.length sc] 138)) Y3 #[.int .i64 x.op,.int .i64 x.a,.int .i64 x.b,.int .i64 x.c] 134)/\Ap (u1.alloc (.cells #[.slice ta ts.length tc,.slice sa gs.length sc] 138)) u1.heap.size #[.slice ta ts.length tc,.slice sa gs.length sc] 138)/\Rd (u1.alloc (.cells #[.slice ta ts.length tc,.slice sa gs.length sc] 138)) 1 (.slice ta ts.length tc) ts.length (ts.flatMap Ae)):=⟨⟨⟨⟨⟨EN.out.1.1.1.keep (Aa _ _),EN.out.1.1.2.keep (Aa _ _)⟩,EN.out.1.2.keep (Aa _ _)⟩,EN.out.2.keep (Aa _ _)⟩,Ap.new _ _ _⟩,HTK.out.keep (Aa _ _) lR⟩
  have hY4:Y3<u1.heap.size:=EN.out.2.lt
  generalize u1.heap.size=Y4 at EN2 hY4⊢
  refine Af (fun u=>Hid ((((((Cd w u ⟨.slice r1 p.regions.length r3,.slice k1 p.consts.length k3,.slice (some ⟨gk,ok,none⟩) p.funcs.length ck,.slice t1 p.certs.length t3⟩ (c+co) (n+1) ⟨.slice a1 C.length c1,.slice a2 K.length c2,.slice (some ⟨gf,0,none⟩) (top+1) c3⟩/\Ap u Y1 #[.int .i64 (qf:Int),.int .i64 (ia:Int),.int .i64 (b:Int),.slice al nl cl] 123)/\Ap u Y2 #[.slice g1 f.params.length g3,.int .i64 f.result,.slice g4 f.locals.length g6,.slice (some ⟨gi,oi,none⟩) f.code.length g9] 131)/\Ap u Y3 #[.int .i64 x.op,.int .i64 x.a,.int .i64 x.b,.int .i64 x.c] 134)/\Ap u Y4 #[.slice ta ts.length tc,.slice sa gs.length sc] 138)/\Rd u 1 (.slice ta ts.length tc) ts.length (ts.flatMap Ae)))) EN2 ?_
  rintro U6 E1
  clear EN EN2 HTK
  clear u1
  have e0:=E1.out.1.2.cell 0
  have m5:=E1.out.1.1.1.1.1.sb.cell 5
  have y2:=E1.out.1.1.1.1.2.cell 2
  simp only[gA,gZ,gS]at e0 m5 y2
  have hTl:ts.length<=8:=by have:=Gw (f:=f) (x:=x) H.out.2.1.prog;rw[HT.out.1]at this;exact this
  have hwb:IntKind.i64.wrap ((K.length:Int)-(b:Int))=(K.length:Int)-(b:Int):=IntWalk.i64_in _ (by omega)
  have HTR:Hid (Ds p f fg (Ao 0 false c n C K F) x=_):=Hz (C:=C) (K:=K) (F:=F) (c:=c) (n:=n) h29 H.out.2.2.2.2.2.2.1 hbK HT.out.1
  by_cases hfew:K.length-b<ts.length
  ·have hd1:decide ((K.length:Int)-(b:Int)<(ts.length:Int))=true:=by simp;omega
   have HJ:Hid (Bk p (Ao 0 false c n C K F) (Ao 1 false (c+co) (n+1) C K F)):=Eg HF.out.1 HF.out.2.1 HX.out.2.2.2 HX.out.1 HCE.out (by rw[HTR.out,if_pos hfew]) (by decide)
   go_upto_region 15 with fail
   clear e0 m5 y2 HTR
   have E2:Hid (Cd w U6 ⟨.slice r1 p.regions.length r3,.slice k1 p.consts.length k3,.slice (some ⟨gk,ok,none⟩) p.funcs.length ck,.slice t1 p.certs.length t3⟩ (c+co) (n+1) ⟨.slice a1 C.length c1,.slice a2 K.length c2,.slice (some ⟨gf,0,none⟩) (top+1) c3⟩):=E1.out.1.1.1.1.1
   obtain⟨m0,m1,m2,m3,m4,m5,m6⟩:=E2.out.sb.c7
   try dsimp only at m0 m1 m2 m3 m4 m5 m6
   go_wp2_with fail
   refine(BJ 0 (c+co) (n+1) 1 false a1 a2 (some ⟨gf,0,none⟩) C.length c1 K.length c2 (top+1) c3 _).mono ?_
   rintro e u2 ⟨rfl,bl2⟩
   have HI2:Hid (Cd w u2 ⟨.slice r1 p.regions.length r3,.slice k1 p.consts.length k3,.slice (some ⟨gk,ok,none⟩) p.funcs.length ck,.slice t1 p.certs.length t3⟩ (c+co) (n+1) ⟨.slice a1 C.length c1,.slice a2 K.length c2,.slice (some ⟨gf,0,none⟩) (top+1) c3⟩):=E2.out.keep bl2
   clear bl2 m0 m1 m2 m3 m4 m5 m6
   obtain⟨r0,r1,r2,r3,r4,r5,r6⟩:=HI2.out.rb.c7
   obtain⟨rz0,rz1,rz2,rz3,rz4,rz5,rz6⟩:=HI2.out.rb.z7
   try dsimp only at r0 r1 r2 r3 r4 r5 r6
   go_wp2_with fail
   exact bodyPost_ret (results_cell_row Tryz.results32 _ _ _ 39 _ (0,0) _ rfl (HI2.out.rb.w7 _ _ _ _ _ _ _) Tryz.underlying39 rfl (by kernel_rfl)) rfl ⟨1,false,(c+co),(n+1),⟨.slice a1 C.length c1,.slice a2 K.length c2,.slice (some ⟨gf,0,none⟩) (top+1) c3⟩,C,K,F,rfl,(H.out.1.grow HI2.out.bel).o7 HI2.out.rb _ _ _ _ _ _ _,HJ.out,(Co.of HI2.out.bel hB).s7 (by omega) _ _ _ _ _ _ _⟩
  have hd1:decide ((K.length:Int)-(b:Int)<(ts.length:Int))=false:=by simp;omega
  go_upto_region 16 with fail
  obtain⟨kl,hkl⟩:∃kl,K.length=kl+ts.length:=⟨K.length-ts.length,by omega⟩
  obtain⟨ar,har⟩:∃ar,ar=K.drop kl:=⟨_,rfl⟩
  have hsub:IntKind.i64.wrap ((K.length:Int)-(ts.length:Int))=(kl:Int):=by rw[IntWalk.i64_in _ (by omega)];omega
  have HAR:Hid (ar=K.drop kl/\ar.length=ts.length/\K.length=kl+ts.length):=⟨har,by rw[har,List.length_drop];omega,hkl⟩
  have hlen:K.length-kl=ts.length:=by omega
  have HAF:Hid (K.drop (K.length-ts.length)=ar):=by rw[har];show K.drop _=K.drop _;congr 1;omega
  have hkK:(kl:Int)<=(K.length:Int):=by omega
  have hkc:(kl:Int)<=(c2:Int):=by omega
  have hKc:(K.length:Int)<=(c2:Int):=by omega
  clear har hkl hd1 hwb
  go_cut [12] (fun s wx=>∃a12 c12,s=.slice a12 ts.length c12/\Hid ((((((Cd w wx ⟨.slice r1 p.regions.length r3,.slice k1 p.consts.length k3,.slice (some ⟨gk,ok,none⟩) p.funcs.length ck,.slice t1 p.certs.length t3⟩ (c+co) (n+1) ⟨.slice a1 C.length c1,.slice a2 K.length c2,.slice (some ⟨gf,0,none⟩) (top+1) c3⟩/\Ap wx Y1 #[.int .i64 (qf:Int),.int .i64 (ia:Int),.int .i64 (b:Int),.slice al nl cl] 123)/\Ap wx Y2 #[.slice g1 f.params.length g3,.int .i64 f.result,.slice g4 f.locals.length g6,.slice (some ⟨gi,oi,none⟩) f.code.length g9] 131)/\Ap wx Y3 #[.int .i64 x.op,.int .i64 x.a,.int .i64 x.b,.int .i64 x.c] 134)/\Ap wx Y4 #[.slice ta ts.length tc,.slice sa gs.length sc] 138)/\Rd wx 1 (.slice ta ts.length tc) ts.length (ts.flatMap Ae))/\wx.ownsRow w.heap.size 128 2 (.slice a12 ts.length c12) ts.length (ar.flatMap MC.cells)))
  case first=>
   have hrd:=Rd.of_own ((H.out.1.grow E1.out.1.1.1.1.1.bel).fam.own (.slice a2 K.length c2,K) (by simp))
   have hbs:=E1.out.1.1.1.1.1.bel.size
   simp only[]at hrd
   rcases At (H.out.1.fam.own (.slice a2 K.length c2,K) (by simp))with⟨e,e0⟩|⟨g2,c2',e⟩
   ·simp only[sJ]at e
    obtain⟨rfl,hK0,rfl⟩:=e
    have HK0:Hid (ts.length=0):=by have:=HAR.out.2.2;show ts.length=0;omega
    clear hK0 e0 hrd
    go_wp2_with fail
    refine(Gt U6 HAR.out.2.1 (by omega) (Cp HK0.out HAR.out.2.1)).mono ?_
    rintro e u1 ⟨a12,c12,rfl,own1,b1⟩
    go_wp2_with fail
    go_meet
    exact⟨a12,c12,rfl,⟨⟨⟨⟨⟨E1.out.1.1.1.1.1.keep b1,E1.out.1.1.1.1.2.keep b1⟩,E1.out.1.1.1.2.keep b1⟩,E1.out.1.1.2.keep b1⟩,E1.out.1.2.keep b1⟩,E1.out.2.keep b1 lR⟩,AK own1 hbs⟩
   ·simp only[sJ,true_and]at e
    obtain⟨rfl,rfl⟩:=e
    by_cases hne:c2=kl
    ·have hneI:((c2:Int)==(kl:Int))=true:=by simp;omega
     have hneN:(c2==kl)=true:=by simp;omega
     have hneZ:c2-kl=0:=by omega
     have HT0:Hid (ts.length=0):=by have:=HAR.out.2.2;show ts.length=0;omega
     clear hne
     go_wp2_with fail
     refine(Gt U6 HAR.out.2.1 (by omega) (Cp HT0.out HAR.out.2.1)).mono ?_
     rintro e u1 ⟨a12,c12,rfl,own1,b1⟩
     go_wp2_with fail
     go_meet
     exact⟨a12,c12,rfl,⟨⟨⟨⟨⟨E1.out.1.1.1.1.1.keep b1,E1.out.1.1.1.1.2.keep b1⟩,E1.out.1.1.1.2.keep b1⟩,E1.out.1.1.2.keep b1⟩,E1.out.1.2.keep b1⟩,E1.out.2.keep b1 lR⟩,AK own1 hbs⟩
    ·go_wp2_with fail
     refine(Gt U6 HAR.out.2.1 (by omega) (by rw[HAR.out.1];exact Jy hrd rfl HAR.out.2.2)).mono ?_
     rintro e u1 ⟨a12,c12,rfl,own1,b1⟩
     go_wp2_with fail
     go_meet
     exact⟨a12,c12,rfl,⟨⟨⟨⟨⟨E1.out.1.1.1.1.1.keep b1,E1.out.1.1.1.1.2.keep b1⟩,E1.out.1.1.1.2.keep b1⟩,E1.out.1.1.2.keep b1⟩,E1.out.1.2.keep b1⟩,E1.out.2.keep b1 lR⟩,AK own1 hbs⟩
  case rest=>
   obtain⟨a12,c12,rfl,E9⟩:=hcut
   clear E1 e0 m5 y2
   clear U6
   have hT8:ts.length<=1048576:=by omega
   go_wp2_with fail
   go_loopw [13] (fun i wr=>∃q:Nat,q<=ts.length/\i=.int .i64 q/\Hid (Bc ar ts=Bc (ar.drop q) (ts.drop q))/\Hid ((((((Cd w wr ⟨.slice r1 p.regions.length r3,.slice k1 p.consts.length k3,.slice (some ⟨gk,ok,none⟩) p.funcs.length ck,.slice t1 p.certs.length t3⟩ (c+co) (n+1) ⟨.slice a1 C.length c1,.slice a2 K.length c2,.slice (some ⟨gf,0,none⟩) (top+1) c3⟩/\Ap wr Y1 #[.int .i64 (qf:Int),.int .i64 (ia:Int),.int .i64 (b:Int),.slice al nl cl] 123)/\Ap wr Y2 #[.slice g1 f.params.length g3,.int .i64 f.result,.slice g4 f.locals.length g6,.slice (some ⟨gi,oi,none⟩) f.code.length g9] 131)/\Ap wr Y3 #[.int .i64 x.op,.int .i64 x.a,.int .i64 x.b,.int .i64 x.c] 134)/\Ap wr Y4 #[.slice ta ts.length tc,.slice sa gs.length sc] 138)/\Rd wr 1 (.slice ta ts.length tc) ts.length (ts.flatMap Ae))/\wr.ownsRow w.heap.size 128 2 (.slice a12 ts.length c12) ts.length (ar.flatMap MC.cells))) (fun i _=>ts.length-(intOf i).toNat)
   case atStart=>exact⟨0,by omega,rfl,rfl,E9⟩
   case round=>
    clear E9
    obtain⟨q,hq,rfl,HB,HI⟩:=hrel
    by_cases hlt:q<ts.length
    ·obtain⟨tv,htv⟩:∃t,ts[q]?=some t:=⟨_,gE hlt⟩
     obtain⟨av,hav⟩:∃v,ar[q]?=some v:=⟨_,gE (by rw[HAR.out.2.1];exact hlt)⟩
     rcases At HI.out.2 with⟨_,e⟩|⟨g12,c12',e⟩
     ·omega
     simp only[sJ,true_and]at e
     obtain⟨rfl,rfl⟩:=e
     rcases HI.out.1.2.2 with⟨e,_⟩|⟨gt,ot,ct,e,hct⟩
     ·omega
     simp only[sJ,true_and]at e
     obtain⟨rfl,rfl⟩:=e
     have j1:=(Fl HI.out.2 hav HAR.out.2.1).1
     have j2:=Rd.elem An hct q _ htv 0 _ rfl
     rw[Nat.mul_one,Nat.add_zero]at j2
     have e0:=HI.out.1.1.2.cell 0
     simp only[gA,gZ]at e0
     have HV:Hid (ar[q]?=some av/\ts[q]?=some tv):=⟨hav,htv⟩
     have hqL:(q:Int)<(ts.length:Int):=by omega
     clear hct hav htv
     have inst:=Aj.some wr
     have J1:=fun n:Aj wr=>Aj.cell j1 n
     have J2:=fun n:Aj wr=>Aj.cell j2 n
     have K0:=fun n:Aj wr=>Aj.cell e0 n
     by_cases ht0:tv=0
     ·have ht0':(tv != 0)=false:=by simpa using ht0
      go_wp2_with fail
      refine Am (by kernel_rfl) (by kernel_rfl) ?_
      repeat(go_big_quiet_step (fail))
      refine wpQuiet_nil ?_
      rintro w'' ⟨n',rfl⟩
      have HI2:Hid ((((((Cd w n'.u ⟨.slice r1 p.regions.length r3,.slice k1 p.consts.length k3,.slice (some ⟨gk,ok,none⟩) p.funcs.length ck,.slice t1 p.certs.length t3⟩ (c+co) (n+1) ⟨.slice a1 C.length c1,.slice a2 K.length c2,.slice (some ⟨gf,0,none⟩) (top+1) c3⟩/\Ap n'.u Y1 #[.int .i64 (qf:Int),.int .i64 (ia:Int),.int .i64 (b:Int),.slice al nl cl] 123)/\Ap n'.u Y2 #[.slice g1 f.params.length g3,.int .i64 f.result,.slice g4 f.locals.length g6,.slice (some ⟨gi,oi,none⟩) f.code.length g9] 131)/\Ap n'.u Y3 #[.int .i64 x.op,.int .i64 x.a,.int .i64 x.b,.int .i64 x.c] 134)/\Ap n'.u Y4 #[.slice (some ⟨gt,ot,none⟩) ts.length tc,.slice sa gs.length sc] 138)/\Rd n'.u 1 (.slice (some ⟨gt,ot,none⟩) ts.length tc) ts.length (ts.flatMap Ae))/\n'.u.ownsRow w.heap.size 128 2 (.slice (some ⟨g12,0,none⟩) ts.length c12) ts.length (ar.flatMap MC.cells)):=⟨⟨⟨⟨⟨⟨HI.out.1.1.1.1.1.1.keep n'.h,HI.out.1.1.1.1.1.2.keep n'.h⟩,HI.out.1.1.1.1.2.keep n'.h⟩,HI.out.1.1.1.2.keep n'.h⟩,HI.out.1.1.2.keep n'.h⟩,HI.out.1.2.keep n'.h lR⟩,Ag HI.out.2 n'.h lR⟩
      have HB2:Hid (Bc ar ts=Bc (ar.drop (q+1)) (ts.drop (q+1))):=by show Bc ar ts=Bc (ar.drop (q+1)) (ts.drop (q+1));have:=HB.out;rw[Gf HV.out.1 HV.out.2]at this;simpa[ht0]using this
      clear J1 J2 K0 inst j1 j2 e0 HB
      go_wp2
      go_roundw
      case rel=>exact⟨q+1,by omega,by go_num,HB2,HI2⟩
      case measure=>go_light;simp[intOf];omega
     ·have ht0':(tv != 0)=true:=by simpa using ht0
      by_cases hvt:av.type=tv
      ·have hvt':(av.type != tv)=false:=by simpa using hvt
       go_wp2_with fail
       refine Am (by kernel_rfl) (by kernel_rfl) ?_
       repeat(go_big_quiet_step (fail))
       refine wpQuiet_nil ?_
       rintro w'' ⟨n',rfl⟩
       have HI2:Hid ((((((Cd w n'.u ⟨.slice r1 p.regions.length r3,.slice k1 p.consts.length k3,.slice (some ⟨gk,ok,none⟩) p.funcs.length ck,.slice t1 p.certs.length t3⟩ (c+co) (n+1) ⟨.slice a1 C.length c1,.slice a2 K.length c2,.slice (some ⟨gf,0,none⟩) (top+1) c3⟩/\Ap n'.u Y1 #[.int .i64 (qf:Int),.int .i64 (ia:Int),.int .i64 (b:Int),.slice al nl cl] 123)/\Ap n'.u Y2 #[.slice g1 f.params.length g3,.int .i64 f.result,.slice g4 f.locals.length g6,.slice (some ⟨gi,oi,none⟩) f.code.length g9] 131)/\Ap n'.u Y3 #[.int .i64 x.op,.int .i64 x.a,.int .i64 x.b,.int .i64 x.c] 134)/\Ap n'.u Y4 #[.slice (some ⟨gt,ot,none⟩) ts.length tc,.slice sa gs.length sc] 138)/\Rd n'.u 1 (.slice (some ⟨gt,ot,none⟩) ts.length tc) ts.length (ts.flatMap Ae))/\n'.u.ownsRow w.heap.size 128 2 (.slice (some ⟨g12,0,none⟩) ts.length c12) ts.length (ar.flatMap MC.cells)):=⟨⟨⟨⟨⟨⟨HI.out.1.1.1.1.1.1.keep n'.h,HI.out.1.1.1.1.1.2.keep n'.h⟩,HI.out.1.1.1.1.2.keep n'.h⟩,HI.out.1.1.1.2.keep n'.h⟩,HI.out.1.1.2.keep n'.h⟩,HI.out.1.2.keep n'.h lR⟩,Ag HI.out.2 n'.h lR⟩
       have HB2:Hid (Bc ar ts=Bc (ar.drop (q+1)) (ts.drop (q+1))):=by show Bc ar ts=Bc (ar.drop (q+1)) (ts.drop (q+1));have:=HB.out;rw[Gf HV.out.1 HV.out.2]at this;simpa[hvt]using this
       clear J1 J2 K0 inst j1 j2 e0 HB
       go_wp2
       go_roundw
       case rel=>exact⟨q+1,by omega,by go_num,HB2,HI2⟩
       case measure=>go_light;simp[intOf];omega
      ·have hvt':(av.type != tv)=true:=by simpa using hvt
       go_wp2_with fail
       refine Am (by kernel_rfl) (by kernel_rfl) ?_
       repeat(go_big_quiet_step (fail))
       refine wpQuiet_nil ?_
       rintro w'' ⟨n',rfl⟩
       have E2:Hid (Cd w n'.u ⟨.slice r1 p.regions.length r3,.slice k1 p.consts.length k3,.slice (some ⟨gk,ok,none⟩) p.funcs.length ck,.slice t1 p.certs.length t3⟩ (c+co) (n+1) ⟨.slice a1 C.length c1,.slice a2 K.length c2,.slice (some ⟨gf,0,none⟩) (top+1) c3⟩):=HI.out.1.1.1.1.1.1.keep n'.h
       have HJ:Hid (Bk p (Ao 0 false c n C K F) (Ao 2 false (c+co) (n+1) C K F)):=Eg HF.out.1 HF.out.2.1 HX.out.2.2.2 HX.out.1 HCE.out (by rw[HTR.out,if_neg hfew,if_pos (.inl (by rw[HAF.out,HB.out,Gf HV.out.1 HV.out.2];simp[ht0,hvt]))]) (by decide)
       clear J1 J2 K0 inst j1 j2 e0
       obtain⟨m0,m1,m2,m3,m4,m5,m6⟩:=E2.out.sb.c7
       try dsimp only at m0 m1 m2 m3 m4 m5 m6
       go_wp2_with fail
       refine(BJ 0 (c+co) (n+1) 2 false a1 a2 (some ⟨gf,0,none⟩) C.length c1 K.length c2 (top+1) c3 _).mono ?_
       rintro e u2 ⟨rfl,bl2⟩
       have HI2:Hid (Cd w u2 ⟨.slice r1 p.regions.length r3,.slice k1 p.consts.length k3,.slice (some ⟨gk,ok,none⟩) p.funcs.length ck,.slice t1 p.certs.length t3⟩ (c+co) (n+1) ⟨.slice a1 C.length c1,.slice a2 K.length c2,.slice (some ⟨gf,0,none⟩) (top+1) c3⟩):=E2.out.keep bl2
       clear bl2 m0 m1 m2 m3 m4 m5 m6
       obtain⟨r0,r1,r2,r3,r4,r5,r6⟩:=HI2.out.rb.c7
       obtain⟨rz0,rz1,rz2,rz3,rz4,rz5,rz6⟩:=HI2.out.rb.z7
       try dsimp only at r0 r1 r2 r3 r4 r5 r6
       go_wp2_with fail
       exact bodyPost_ret (results_cell_row Tryz.results32 _ _ _ 39 _ (0,0) _ rfl (HI2.out.rb.w7 _ _ _ _ _ _ _) Tryz.underlying39 rfl (by kernel_rfl)) rfl ⟨2,false,(c+co),(n+1),⟨.slice a1 C.length c1,.slice a2 K.length c2,.slice (some ⟨gf,0,none⟩) (top+1) c3⟩,C,K,F,rfl,(H.out.1.grow HI2.out.bel).o7 HI2.out.rb _ _ _ _ _ _ _,HJ.out,(Co.of HI2.out.bel hB).s7 (by omega) _ _ _ _ _ _ _⟩
    ·obtain rfl:q=ts.length:=by omega
     have HFit:Hid (Bc ar ts=true):=by have:=HB.out;rw[Mz (by rw[HAR.out.2.1];exact Nat.le_refl _) lR]at this;exact this
     clear HB hlt
     go_upto_region 22 with fail
     obtain⟨f0,f1,f2,f3⟩:=HI.out.1.1.1.1.2.c4
     try dsimp only at f0 f1 f2 f3
     have i0:=HI.out.1.1.1.2.cell 0
     have i1:=HI.out.1.1.1.2.cell 1
     simp only[gA,gZ,gS]at i0 i1
     go_cut [130] (fun s wx=>∃bb:Bool,s=.bool bb/\Hid (bb=true↔(x.op=27/\Av f x.a≠3))/\Hid ((((((Cd w wx ⟨.slice r1 p.regions.length r3,.slice k1 p.consts.length k3,.slice (some ⟨gk,ok,none⟩) p.funcs.length ck,.slice t1 p.certs.length t3⟩ (c+co) (n+1) ⟨.slice a1 C.length c1,.slice a2 K.length c2,.slice (some ⟨gf,0,none⟩) (top+1) c3⟩/\Ap wx Y1 #[.int .i64 (qf:Int),.int .i64 (ia:Int),.int .i64 (b:Int),.slice al nl cl] 123)/\Ap wx Y2 #[.slice g1 f.params.length g3,.int .i64 f.result,.slice g4 f.locals.length g6,.slice (some ⟨gi,oi,none⟩) f.code.length g9] 131)/\Ap wx Y3 #[.int .i64 x.op,.int .i64 x.a,.int .i64 x.b,.int .i64 x.c] 134)/\Ap wx Y4 #[.slice ta ts.length tc,.slice sa gs.length sc] 138)/\Rd wx 1 (.slice ta ts.length tc) ts.length (ts.flatMap Ae))/\wx.ownsRow w.heap.size 128 2 (.slice a12 ts.length c12) ts.length (ar.flatMap MC.cells)))
     case first=>
      by_cases h27:x.op=27
      ·have h27b:(x.op==27)=true:=by simpa using h27
       have H27:Hid (x.op=27):=h27
       clear h27
       go_wp2_with fail
       refine(Dh ⟨.slice g1 f.params.length g3,.slice g4 f.locals.length g6,.slice (some ⟨gi,oi,none⟩) f.code.length g9⟩ f x.a wr HF.out.2.2.2.1 HX.out.2.2.1.2.1 (HG.out.keep HI.out.1.1.1.1.1.1.bel lR)).mono ?_
       rintro e u1 ⟨rfl,b1⟩
       by_cases hl3:Av f x.a=3
       ·have hl3b:(Av f x.a != 3)=false:=by simpa using hl3
        have HL3:Hid (Av f x.a=3):=hl3
        clear hl3
        go_wp2_with fail
        go_meet
        exact⟨false,rfl,⟨fun e=>(by cases e),fun e=>absurd HL3.out e.2⟩,⟨⟨⟨⟨⟨⟨HI.out.1.1.1.1.1.1.keep b1,HI.out.1.1.1.1.1.2.keep b1⟩,HI.out.1.1.1.1.2.keep b1⟩,HI.out.1.1.1.2.keep b1⟩,HI.out.1.1.2.keep b1⟩,HI.out.1.2.keep b1 lR⟩,Ag HI.out.2 b1 lR⟩⟩
       ·have hl3b:(Av f x.a != 3)=true:=by simpa using hl3
        have HL3:Hid (¬Av f x.a=3):=hl3
        clear hl3
        go_wp2_with fail
        go_meet
        exact⟨true,rfl,⟨fun _=>⟨H27.out,HL3.out⟩,fun _=>rfl⟩,⟨⟨⟨⟨⟨⟨HI.out.1.1.1.1.1.1.keep b1,HI.out.1.1.1.1.1.2.keep b1⟩,HI.out.1.1.1.1.2.keep b1⟩,HI.out.1.1.1.2.keep b1⟩,HI.out.1.1.2.keep b1⟩,HI.out.1.2.keep b1 lR⟩,Ag HI.out.2 b1 lR⟩⟩
      ·have h27b:(x.op==27)=false:=by simpa using h27
       have H27:Hid (¬x.op=27):=h27
       clear h27
       go_wp2_with fail
       go_meet
       exact⟨false,rfl,⟨fun e=>(by cases e),fun e=>absurd e.1 H27.out⟩,HI⟩
     case rest=>
      obtain⟨bb,rfl,HBB,HI9⟩:=hcut
      clear HI f0 f1 f2 f3 i0 i1
      rcases Bool.eq_false_or_eq_true bb with hbb|hbb
      ·subst hbb
       have hbad:=HBB.out.1 rfl
       have HJ:Hid (Bk p (Ao 0 false c n C K F) (Ao 2 false (c+co) (n+1) C K F)):=Eg HF.out.1 HF.out.2.1 HX.out.2.2.2 HX.out.1 HCE.out (by rw[HTR.out,if_neg hfew,if_pos (.inr hbad)]) (by decide)
       clear hbad
       go_upto_region 23 with fail
       have E2:Hid (Cd w wc ⟨.slice r1 p.regions.length r3,.slice k1 p.consts.length k3,.slice (some ⟨gk,ok,none⟩) p.funcs.length ck,.slice t1 p.certs.length t3⟩ (c+co) (n+1) ⟨.slice a1 C.length c1,.slice a2 K.length c2,.slice (some ⟨gf,0,none⟩) (top+1) c3⟩):=HI9.out.1.1.1.1.1.1
       obtain⟨m0,m1,m2,m3,m4,m5,m6⟩:=E2.out.sb.c7
       try dsimp only at m0 m1 m2 m3 m4 m5 m6
       go_wp2_with fail
       refine(BJ 0 (c+co) (n+1) 2 false a1 a2 (some ⟨gf,0,none⟩) C.length c1 K.length c2 (top+1) c3 _).mono ?_
       rintro e u2 ⟨rfl,bl2⟩
       have HI2:Hid (Cd w u2 ⟨.slice r1 p.regions.length r3,.slice k1 p.consts.length k3,.slice (some ⟨gk,ok,none⟩) p.funcs.length ck,.slice t1 p.certs.length t3⟩ (c+co) (n+1) ⟨.slice a1 C.length c1,.slice a2 K.length c2,.slice (some ⟨gf,0,none⟩) (top+1) c3⟩):=E2.out.keep bl2
       clear bl2 m0 m1 m2 m3 m4 m5 m6
       obtain⟨r0,r1,r2,r3,r4,r5,r6⟩:=HI2.out.rb.c7
       obtain⟨rz0,rz1,rz2,rz3,rz4,rz5,rz6⟩:=HI2.out.rb.z7
       try dsimp only at r0 r1 r2 r3 r4 r5 r6
       go_wp2_with fail
       exact bodyPost_ret (results_cell_row Tryz.results32 _ _ _ 39 _ (0,0) _ rfl (HI2.out.rb.w7 _ _ _ _ _ _ _) Tryz.underlying39 rfl (by kernel_rfl)) rfl ⟨2,false,(c+co),(n+1),⟨.slice a1 C.length c1,.slice a2 K.length c2,.slice (some ⟨gf,0,none⟩) (top+1) c3⟩,C,K,F,rfl,(H.out.1.grow HI2.out.bel).o7 HI2.out.rb _ _ _ _ _ _ _,HJ.out,(Co.of HI2.out.bel hB).s7 (by omega) _ _ _ _ _ _ _⟩
      subst hbb
      have hbad:¬(x.op=27/\Av f x.a≠3):=fun e=>by have:=HBB.out.2 e;cases this
      have HNB:Hid (¬(Bc (K.drop (K.length-ts.length)) ts=false\/(x.op=27/\Av f x.a≠3))):=by
       rintro(e|e)
       ·rw[HAF.out,HFit.out]at e
        cases e
       ·exact hbad e
      clear hbad
      have i0:=HI9.out.1.1.1.2.cell 0
      simp only[gA,gZ]at i0
      by_cases h28:x.op=28
      ·have h28b:(x.op==28)=true:=by simpa using h28
       go_upto_region 25 with fail
       clear i0
       obtain⟨p0,p1,p2,p3⟩:=HI9.out.1.1.1.1.1.1.pb.c4
       try dsimp only at p0 p1 p2 p3
       obtain⟨m0,m1,m2,m3,m4,m5,m6⟩:=HI9.out.1.1.1.1.1.1.sb.c7
       try dsimp only at m0 m1 m2 m3 m4 m5 m6
       have i0:=HI9.out.1.1.1.2.cell 0
       have i1:=HI9.out.1.1.1.2.cell 1
       simp only[gA,gZ,gS]at i0 i1
       obtain⟨q,fq,hq,hfq⟩:=HX.out.2.1.callee h28
       rw[hq]at i1
       have HQ:Hid (x.a=(q:Int)/\p.funcs[q]?=some fq):=⟨hq,hfq⟩
       clear hq hfq
       go_wp2_with fail
       refine(NL ⟨.slice r1 p.regions.length r3,.slice k1 p.consts.length k3,.slice (some ⟨gk,ok,none⟩) p.funcs.length ck,.slice t1 p.certs.length t3⟩ p 0 (c+co) (n+1) ⟨.slice a1 C.length c1,.slice a2 K.length c2,.slice (some ⟨gf,0,none⟩) (top+1) c3⟩ C K F B q fq a12 c12 ar ts.length HAR.out.2.1 (fg,.slice al nl cl) wc (Nat.le_trans hB HI9.out.1.1.1.1.1.1.bel.size) (H.out.1.grow HI9.out.1.1.1.1.1.1.bel) (fun u hu=>(HP.out u ((HI9.out.1.1.1.1.1.1.bel.mono hB).trans hu)).funcs) H.out.2.2.2.1.funcs HQ.out.2 (H.out.2.2.2.1.func fq (mG HQ.out.2)) (by rw[HAR.out.2.1];have:=HAR.out.2.2;omega) (by omega) (by rw[HF.out.2.2.2.2.2];omega) (by rw[HF.out.2.2.2.2.2,Nat.add_sub_cancel];exact H.out.2.2.2.2.2.1) ⟨by simp only[];rw[HX.out.2.2.2];omega,by simp only[];rw[HX.out.2.2.2];omega⟩ (AK HI9.out.2 hB)).mono ?_
       rintro e u2 hres
       clear p0 p1 p2 p3 m0 m1 m2 m3 m4 m5 m6 i0 i1
       rcases hres with⟨h32,rfl,b2⟩|⟨h32,x',vl',rfl,own2,bk2⟩
       ·have HI2:Hid (Cd w u2 ⟨.slice r1 p.regions.length r3,.slice k1 p.consts.length k3,.slice (some ⟨gk,ok,none⟩) p.funcs.length ck,.slice t1 p.certs.length t3⟩ (c+co) (n+1) ⟨.slice a1 C.length c1,.slice a2 K.length c2,.slice (some ⟨gf,0,none⟩) (top+1) c3⟩):=HI9.out.1.1.1.1.1.1.keep b2
        have HJ:Hid (Bk p (Ao 0 false c n C K F) (Ao 5 false (c+co) (n+1) C K F)):=Eg HF.out.1 HF.out.2.1 HX.out.2.2.2 HX.out.1 HCE.out (by rw[HTR.out,if_neg hfew,if_neg HNB.out,if_pos h28,if_neg (by omega)]) (by decide)
        clear h32 b2
        obtain⟨r0,r1,r2,r3,r4,r5,r6⟩:=HI2.out.rb.c7
        obtain⟨rz0,rz1,rz2,rz3,rz4,rz5,rz6⟩:=HI2.out.rb.z7
        try dsimp only at r0 r1 r2 r3 r4 r5 r6
        go_wp2_with fail
        exact bodyPost_ret (results_cell_row Tryz.results32 _ _ _ 39 _ (0,0) _ rfl (HI2.out.rb.w7 _ _ _ _ _ _ _) Tryz.underlying39 rfl (by kernel_rfl)) rfl ⟨5,false,(c+co),(n+1),⟨.slice a1 C.length c1,.slice a2 K.length c2,.slice (some ⟨gf,0,none⟩) (top+1) c3⟩,C,K,F,rfl,(H.out.1.grow HI2.out.bel).o7 HI2.out.rb _ _ _ _ _ _ _,HJ.out,(Co.of HI2.out.bel hB).s7 (by omega) _ _ _ _ _ _ _⟩
       ·obtain⟨x1,x2,x3⟩:=x'
        obtain⟨b1,d1,eb1⟩:=Al own2.cells
        obtain⟨b2,d2,eb2⟩:=Al (own2.fam.own (x2,K.take (K.length-ar.length)) (by simp))
        obtain⟨b3,d3,eb3⟩:=Al own2.frames
        simp only[]at eb1 eb2 eb3
        subst eb1 eb2 eb3
        have HJ:Hid (Bk p (Ao 0 false c n C K F) (Ao 0 false (c+co) (n+1) C (K.take (K.length-ar.length)) (F.set (F.length-1) ({fg with at_:=fg.at_+1},.slice al nl cl)++[(⟨(q:Int),0,((K.length-ar.length:Nat):Int),ar++Aq fq.locals⟩,vl')]))):=Gu HF.out.1 HF.out.2.1 HX.out.2.2.2 HX.out.1 HCE.out (by rw[HTR.out,if_neg hfew,if_neg HNB.out,if_pos h28,if_pos (by omega)]) (by rw[HF.out.2.2.2.2.2,Nat.add_sub_cancel];exact K3 h28 HQ.out.1 HQ.out.2 (by rw[HT.out.1];exact HAR.out.2.1) (by rw[HAR.out.2.1];exact HAF.out) HF.out.2.2.2.2.2 H.out.2.2.2.2.2.1)
        have HBK:Hid (Co B w u2):=(Co.of HI9.out.1.1.1.1.1.1.bel hB).trans bk2
        have HRB:Hid (Ap u2 (w.heap.size+1+1) #[.int .i64 0,.bool false,.int .i64 0,.int .i64 0,.slice none 0 0,.slice none 0 0,.slice none 0 0] 39):=bk2.st _ _ HI9.out.1.1.1.1.1.1.rb
        generalize K.take (K.length-ar.length)=K9 at own2 HJ
        generalize F.set (F.length-1) ({fg with at_:=fg.at_+1},.slice al nl cl)++[(⟨(q:Int),0,((K.length-ar.length:Nat):Int),ar++Aq fq.locals⟩,vl')]=F9 at own2 HJ
        have HO:Hid (Ah u2 B ⟨.slice b1 C.length d1,.slice b2 K9.length d2,.slice b3 F9.length d3⟩ C K9 F9):=own2
        clear h32 own2 bk2
        obtain⟨r0,r1,r2,r3,r4,r5,r6⟩:=HRB.out.c7
        obtain⟨rz0,rz1,rz2,rz3,rz4,rz5,rz6⟩:=HRB.out.z7
        try dsimp only at r0 r1 r2 r3 r4 r5 r6
        go_wp2_with fail
        exact bodyPost_ret (results_cell_row Tryz.results32 _ _ _ 39 _ (0,0) _ rfl (HRB.out.w7 _ _ _ _ _ _ _) Tryz.underlying39 rfl (by kernel_rfl)) rfl ⟨0,false,(c+co),(n+1),⟨.slice b1 C.length d1,.slice b2 K9.length d2,.slice b3 F9.length d3⟩,C,K9,F9,rfl,HO.out.o7 HRB.out _ _ _ _ _ _ _,HJ.out,HBK.out.s7 (by omega) _ _ _ _ _ _ _⟩
      have h28b:(x.op==28)=false:=by simpa using h28
      have hgl:gs.length=Dd x:=by rw[<-HT.out.2];exact FW p f x h28
      have hg2:gs.length<=2:=by
       rw[hgl]
       unfold Dd
       repeat' split
       all_goals omega
      have HGL:Hid (gs.length=Dd x):=hgl
      clear hgl
      go_upto_region 26 with fail
      clear i0 h28b
      have m5:=HI9.out.1.1.1.1.1.1.sb.cell 5
      have e1:=HI9.out.1.1.2.cell 1
      simp only[gA,gZ,gS]at m5 e1
      have hwg:IntKind.i64.wrap ((kl:Int)+(gs.length:Int))=(kl:Int)+(gs.length:Int):=IntWalk.i64_in _ (by omega)
      have hkn:K.length-ts.length=kl:=by have:=HAR.out.2.2;omega
      by_cases hfull:64<kl+gs.length
      ·have hfd:decide ((64:Int)<(kl:Int)+(gs.length:Int))=true:=by simp;omega
       have HJ:Hid (Bk p (Ao 0 false c n C K F) (Ao 3 false (c+co) (n+1) C K F)):=Eg HF.out.1 HF.out.2.1 HX.out.2.2.2 HX.out.1 HCE.out (by rw[HTR.out,if_neg hfew,if_neg HNB.out,if_neg h28,if_pos (by rw[hkn,<-HGL.out];exact hfull)]) (by decide)
       clear hkn hfull
       go_upto_region 27 with fail
       clear m5 e1
       have E2:Hid (Cd w wc ⟨.slice r1 p.regions.length r3,.slice k1 p.consts.length k3,.slice (some ⟨gk,ok,none⟩) p.funcs.length ck,.slice t1 p.certs.length t3⟩ (c+co) (n+1) ⟨.slice a1 C.length c1,.slice a2 K.length c2,.slice (some ⟨gf,0,none⟩) (top+1) c3⟩):=HI9.out.1.1.1.1.1.1
       obtain⟨m0,m1,m2,m3,m4,m5,m6⟩:=E2.out.sb.c7
       try dsimp only at m0 m1 m2 m3 m4 m5 m6
       go_wp2_with fail
       refine(BJ 0 (c+co) (n+1) 3 false a1 a2 (some ⟨gf,0,none⟩) C.length c1 K.length c2 (top+1) c3 _).mono ?_
       rintro e u2 ⟨rfl,bl2⟩
       have HI2:Hid (Cd w u2 ⟨.slice r1 p.regions.length r3,.slice k1 p.consts.length k3,.slice (some ⟨gk,ok,none⟩) p.funcs.length ck,.slice t1 p.certs.length t3⟩ (c+co) (n+1) ⟨.slice a1 C.length c1,.slice a2 K.length c2,.slice (some ⟨gf,0,none⟩) (top+1) c3⟩):=E2.out.keep bl2
       clear bl2 m0 m1 m2 m3 m4 m5 m6
       obtain⟨r0,r1,r2,r3,r4,r5,r6⟩:=HI2.out.rb.c7
       obtain⟨rz0,rz1,rz2,rz3,rz4,rz5,rz6⟩:=HI2.out.rb.z7
       try dsimp only at r0 r1 r2 r3 r4 r5 r6
       go_wp2_with fail
       exact bodyPost_ret (results_cell_row Tryz.results32 _ _ _ 39 _ (0,0) _ rfl (HI2.out.rb.w7 _ _ _ _ _ _ _) Tryz.underlying39 rfl (by kernel_rfl)) rfl ⟨3,false,(c+co),(n+1),⟨.slice a1 C.length c1,.slice a2 K.length c2,.slice (some ⟨gf,0,none⟩) (top+1) c3⟩,C,K,F,rfl,(H.out.1.grow HI2.out.bel).o7 HI2.out.rb _ _ _ _ _ _ _,HJ.out,(Co.of HI2.out.bel hB).s7 (by omega) _ _ _ _ _ _ _⟩
      have hfd:decide ((64:Int)<(kl:Int)+(gs.length:Int))=false:=by simp;omega
      have HTZ:Hid (Ds p f fg (Ao 0 false c n C K F) x=0):=by rw[HTR.out,if_neg hfew,if_neg HNB.out,if_neg h28,if_neg (by rw[hkn,<-HGL.out];exact hfull)];rfl
      clear hkn hfull
      go_upto_region 28 with fail
      clear e1
      have hkK2:kl<=K.length:=by omega
      have HTK:Hid ((K.take kl).length=kl):=by show(K.take kl).length=kl;rw[List.length_take];omega
      have HRK:Hid (Rd wc 2 (.slice a2 kl c2) kl ((K.take kl).flatMap MC.cells)):=by
       have h1:=FI ((H.out.1.grow HI9.out.1.1.1.1.1.1.bel).fam.own (.slice a2 K.length c2,K) (by simp)) hkK2
       rw[FH MC.cells 2 MC.cells_length]at h1
       exact Rd.of_own h1
      have HGF:Hid (gf<w.heap.size):=(H.out.1.frames.lt gf rfl).2
      go_wp2_with fail
      refine(Gt wc HTK.out (by omega) HRK.out).mono ?_
      rintro e u1 ⟨a9,c9,rfl,own9,b1⟩
      have m5u:=(HI9.out.1.1.1.1.1.1.keep b1).sb.cell 5
      have mz5:=(HI9.out.1.1.1.1.1.1.keep b1).sb.frozen 5
      simp only[gA,gZ,gS]at m5u
      have CL:Hid (DH w (u1.setCell ⟨w.heap.size+1,5,none⟩ (.slice a9 kl c9)) B ⟨.slice r1 p.regions.length r3,.slice k1 p.consts.length k3,.slice (some ⟨gk,ok,none⟩) p.funcs.length ck,.slice t1 p.certs.length t3⟩ 0 (c+co) (n+1) ⟨.slice a1 C.length c1,.slice a9 kl c9,.slice (some ⟨gf,0,none⟩) (top+1) c3⟩ C (K.take kl) F):=DH.setK (K':=K.take kl) (⟨HI9.out.1.1.1.1.1.1.pb,HI9.out.1.1.1.1.1.1.sb,HI9.out.1.1.1.1.1.1.rb,H.out.1.grow HI9.out.1.1.1.1.1.1.bel,.of HI9.out.1.1.1.1.1.1.bel hB,HI9.out.1.1.1.1.1.1.bel.size,hB⟩:DH w wc B ⟨.slice r1 p.regions.length r3,.slice k1 p.consts.length k3,.slice (some ⟨gk,ok,none⟩) p.funcs.length ck,.slice t1 p.certs.length t3⟩ 0 (c+co) (n+1) ⟨.slice a1 C.length c1,.slice a2 K.length c2,.slice (some ⟨gf,0,none⟩) (top+1) c3⟩ C K F) b1 (by rw[HTK.out];exact own9)
      have CM:Hid ((Ap (u1.setCell ⟨w.heap.size+1,5,none⟩ (.slice a9 kl c9)) Y1 #[.int .i64 (qf:Int),.int .i64 (ia:Int),.int .i64 (b:Int),.slice al nl cl] 123/\Ap (u1.setCell ⟨w.heap.size+1,5,none⟩ (.slice a9 kl c9)) Y3 #[.int .i64 x.op,.int .i64 x.a,.int .i64 x.b,.int .i64 x.c] 134)/\(u1.setCell ⟨w.heap.size+1,5,none⟩ (.slice a9 kl c9)).ownsRow w.heap.size 128 2 (.slice a12 ts.length c12) ts.length (ar.flatMap MC.cells)):=⟨⟨(HI9.out.1.1.1.1.1.2.keep b1).other (by simp only[];omega) _,(HI9.out.1.1.1.2.keep b1).other (by simp only[];omega) _⟩,ownsRow_setCell_other (Ag HI9.out.2 b1 lR) (fun e=>AJ (Ag HI9.out.2 b1 lR) (HI9.out.1.1.1.1.1.1.keep b1).sb (by decide) _ e rfl) _⟩
      have HAP:Hid (∀r∈C++[(Value.slice a9 kl c9,K.take kl)]++AL F,∀g,(Value.slice a12 ts.length c12).ownBlock=some g->some g≠r.1.ownBlock):=fun r hr g hg e=>by
       have h1:=HI9.out.2.lt g hg
       simp only[List.mem_append,List.mem_singleton]at hr
       rcases hr with(hr|rfl)|hr
       ·have:=((H.out.1.fam.own r (by simp only[List.mem_append];exact .inl (.inl hr))).lt g e.symm).2
        omega
       ·have:=(own9.lt g e.symm).1
        omega
       ·have:=((H.out.1.fam.own r (by simp only[List.mem_append];exact .inr hr)).lt g e.symm).2
        omega
      clear own9 b1 HRK m5
      go_upto_region 29 with fail
      refine Af (fun u=>Hid (DH w u B ⟨.slice r1 p.regions.length r3,.slice k1 p.consts.length k3,.slice (some ⟨gk,ok,none⟩) p.funcs.length ck,.slice t1 p.certs.length t3⟩ 0 (c+co) (n+1) ⟨.slice a1 C.length c1,.slice a9 kl c9,.slice (some ⟨gf,0,none⟩) (top+1) c3⟩ C (K.take kl) F/\((Ap u Y1 #[.int .i64 (qf:Int),.int .i64 (ia:Int),.int .i64 (b:Int),.slice al nl cl] 123/\Ap u Y3 #[.int .i64 x.op,.int .i64 x.a,.int .i64 x.b,.int .i64 x.c] 134)/\u.ownsRow w.heap.size 128 2 (.slice a12 ts.length c12) ts.length (ar.flatMap MC.cells)))) ⟨CL.out,CM.out⟩ ?_
      rintro U7 EC
      clear CL CM m5u mz5 HI9
      have m6:=EC.out.1.sb.cell 6
      have y1:=EC.out.2.1.1.cell 1
      simp only[gA,gZ,gS]at m6 y1
      have hfo:=EC.out.1.own.frames
      simp only[]at hfo
      rw[HF.out.2.2.2.2.2]at hfo
      have fc1:=hfo.cellAt (top*4+1) (by omega)
      have fz1:=hfo.frozenAt (top*4+1)
      rw[AF AA 4 Au F top 1 _ H.out.2.2.2.2.2.1 (by omega)]at fc1
      simp only[AA,gZ,gS]at fc1
      clear hfo
      have hwa:IntKind.i64.wrap ((ia:Int)+1)=(ia:Int)+1:=IntWalk.i64_in _ (by omega)
      have CL:Hid (DH w (U7.setCell ⟨gf,top*4+1,none⟩ (.int .i64 ((ia:Int)+1))) B ⟨.slice r1 p.regions.length r3,.slice k1 p.consts.length k3,.slice (some ⟨gk,ok,none⟩) p.funcs.length ck,.slice t1 p.certs.length t3⟩ 0 (c+co) (n+1) ⟨.slice a1 C.length c1,.slice a9 kl c9,.slice (some ⟨gf,0,none⟩) (top+1) c3⟩ C (K.take kl) (F.set top ({fg with at_:=fg.at_+1},.slice al nl cl))):=by
       have h1:=EC.out.1.setAt rfl H.out.2.2.2.2.2.1 ((ia:Int)+1)
       have h2:({fg with at_:=fg.at_+1}:MG)={fg with at_:=(ia:Int)+1}:=by rw[HX.out.2.2.2]
       rw[h2]
       exact h1
      have CM:Hid (Ap (U7.setCell ⟨gf,top*4+1,none⟩ (.int .i64 ((ia:Int)+1))) Y3 #[.int .i64 x.op,.int .i64 x.a,.int .i64 x.b,.int .i64 x.c] 134/\(U7.setCell ⟨gf,top*4+1,none⟩ (.int .i64 ((ia:Int)+1))).ownsRow w.heap.size 128 2 (.slice a12 ts.length c12) ts.length (ar.flatMap MC.cells)):=⟨EC.out.2.1.2.other (by simp only[];have:=HGF.out;omega) _,ownsRow_setCell_other EC.out.2.2 (fun e=>by have h1:=(EC.out.2.2.lt gf e).1;have:=HGF.out;omega) _⟩
      go_upto_region 30 with fail
      refine Af (fun u=>Hid (DH w u B ⟨.slice r1 p.regions.length r3,.slice k1 p.consts.length k3,.slice (some ⟨gk,ok,none⟩) p.funcs.length ck,.slice t1 p.certs.length t3⟩ 0 (c+co) (n+1) ⟨.slice a1 C.length c1,.slice a9 kl c9,.slice (some ⟨gf,0,none⟩) (top+1) c3⟩ C (K.take kl) (F.set top ({fg with at_:=fg.at_+1},.slice al nl cl))/\(Ap u Y3 #[.int .i64 x.op,.int .i64 x.a,.int .i64 x.b,.int .i64 x.c] 134/\u.ownsRow w.heap.size 128 2 (.slice a12 ts.length c12) ts.length (ar.flatMap MC.cells)))) ⟨CL.out,CM.out⟩ ?_
      rintro U8 ED
      clear CL CM m6 y1 fc1 fz1 EC
      clear U7
      obtain⟨p0,p1,p2,p3⟩:=ED.out.1.pb.c4
      try dsimp only at p0 p1 p2 p3
      obtain⟨m0,m1,m2,m3,m4,m5,m6⟩:=ED.out.1.sb.c7
      try dsimp only at m0 m1 m2 m3 m4 m5 m6
      obtain⟨i0,i1,i2,i3⟩:=ED.out.2.1.c4
      try dsimp only at i0 i1 i2 i3
      have HDK:Hid (Dp p f fg x C ar):=⟨H.out.2.1.prog,HX.out.2.1,by have:=H.out.2.1.three;simpa[Ao]using this,fun i r rt hr hrt=>(H.out.2.1.cells i r.2 rt (by simp only[Ao,List.getElem?_map,hr,Option.map_some]) hrt).1,HF.out.2.2.2.2.1.1,(H.out.2.2.1.frames fg (List.mem_map_of_mem (f:=Prod.fst) (mG H.out.2.2.2.2.2.1))).locals,fun z hz=>H.out.2.2.1.stack z (by rw[HAR.out.1]at hz;exact List.mem_of_mem_drop hz),by rw[HT.out.1];exact HAR.out.2.1⟩
      go_wp2_with fail
      refine(PR ⟨.slice r1 p.regions.length r3,.slice k1 p.consts.length k3,.slice (some ⟨gk,ok,none⟩) p.funcs.length ck,.slice t1 p.certs.length t3⟩ p f x 0 (c+co) (n+1) ⟨.slice a1 C.length c1,.slice a9 kl c9,.slice (some ⟨gf,0,none⟩) (top+1) c3⟩ C (K.take kl) F B top (fg,.slice al nl cl) a12 c12 ar ts.length HAR.out.2.1 U8 (Nat.le_trans hB ED.out.1.le) ED.out.1.own HF.out.2.2.2.2.2 (by omega) H.out.2.2.2.2.2.1 HDK.out h28 h29 (by rw[HTK.out];omega) (by simp only[];rw[HNL.out];omega) (fun u hu=>(HP.out u (ED.out.1.bel.low.trans hu)).consts) H.out.2.2.2.1.consts (AK ED.out.2.2 hB) (by rw[Jm H.out.2.2.2.2.2.1];exact HAP.out)).mono ?_
      rintro e u2 ⟨C2,K2,F2,⟨x',rfl,own2,bk2⟩,heq⟩
      clear p0 p1 p2 p3 m0 m1 m2 m3 m4 m5 m6 i0 i1 i2 i3
      obtain⟨x1,x2,x3⟩:=x'
      obtain⟨b1,d1,eb1⟩:=Al own2.cells
      obtain⟨b2,d2,eb2⟩:=Al (own2.fam.own (x2,K2) (by simp))
      obtain⟨b3,d3,eb3⟩:=Al own2.frames
      simp only[]at eb1 eb2 eb3
      subst eb1 eb2 eb3
      have HJ:Hid (Bk p (Ao 0 false c n C K F) (Ao 0 false (c+co) (n+1) C2 K2 F2)):=Gu HF.out.1 HF.out.2.1 HX.out.2.2.2 HX.out.1 HCE.out HTZ.out (by rw[heq,HAR.out.1,List.take_append_drop])
      have HBK:Hid (Co B w u2):=ED.out.1.bel.trans bk2
      have HRB:Hid (Ap u2 (w.heap.size+1+1) #[.int .i64 0,.bool false,.int .i64 0,.int .i64 0,.slice none 0 0,.slice none 0 0,.slice none 0 0] 39):=bk2.st _ _ ED.out.1.rb
      have HO:Hid (Ah u2 B ⟨.slice b1 C2.length d1,.slice b2 K2.length d2,.slice b3 F2.length d3⟩ C2 K2 F2):=own2
      clear heq own2 bk2 ED
      obtain⟨r0,r1,r2,r3,r4,r5,r6⟩:=HRB.out.c7
      obtain⟨rz0,rz1,rz2,rz3,rz4,rz5,rz6⟩:=HRB.out.z7
      try dsimp only at r0 r1 r2 r3 r4 r5 r6
      go_wp2_with fail
      exact bodyPost_ret (results_cell_row Tryz.results32 _ _ _ 39 _ (0,0) _ rfl (HRB.out.w7 _ _ _ _ _ _ _) Tryz.underlying39 rfl (by kernel_rfl)) rfl ⟨0,false,(c+co),(n+1),⟨.slice b1 C2.length d1,.slice b2 K2.length d2,.slice b3 F2.length d3⟩,C2,K2,F2,rfl,HO.out.o7 HRB.out _ _ _ _ _ _ _,HJ.out,HBK.out.s7 (by omega) _ _ _ _ _ _ _⟩
end Go.Proofs.YtlejplpkomddeaaGreat
