import Derived.Test.YtlejplpkomddeaaGreatR0
import Derived.Test.YtlejplpkomddeaaGreatR21
import Derived.Deep.RegionLaw
import Derived.Deep.AppendLies
namespace Go.Proofs.YtlejplpkomddeaaGreat
open Go.ChangeShapes Go.WideShapes Go.ChangeAt Go.RowKit
set_option linter.unusedVariables false
structure KD(w:World)(m:MM)(T:List (List MC))(am ao ak:Option Addr)(cm co ck:Nat)(g o k:Nat)(ws ts:List Int)(aw:Option Addr)(cw:Nat)(y:Value):Prop where
 ix:∀W,(Instr.index 187 (.agg #[.slice am m.ins.length cm,.slice ao m.outs.length co,.slice ak m.keeps.length ck]) (.int .i64 (k:Int))).run Tryz.prog W=.ok (.slice aw ws.length cw) W
 ik:w.cell? ⟨g,o+k,none⟩=some y
 rw_:Rd w 1 (.slice aw ws.length cw) ws.length (ws.flatMap Bs)
 rt:Rd w 1 y ts.length (ts.flatMap Ae)
 len:ws.length=ts.length
 big:ts.length<=1048576
 at_:T[k]?=some (Aw ts ws)
theorem Qk{w wr u6:World}{v:VP}{vm:VM}{X Y:Nat}{V zl:Value}{zs:List MC}{C:List (Value×List MC)}{a6:Option Addr}{c6:Nat}{ts ws:List Int}(h:BL w wr v vm X Y V zl zs C)(hb:Below wr.heap.size wr u6)(ho:u6.ownsRow wr.heap.size 128 2 (.slice a6 ts.length c6) ts.length ((Aw ts ws).flatMap MC.cells))(hl:ws.length=ts.length):
 BL w (u6.alloc (.cells #[.slice a6 ts.length c6] 36)) v vm X Y V zl zs C/\Df (u6.alloc (.cells #[.slice a6 ts.length c6] 36)) w.heap.size (C++[(.slice a6 ts.length c6,Aw ts ws)]++[(zl,zs)])/\∀j u,[(.slice a6 ts.length c6:Value)][j]?=some u->(u6.alloc (.cells #[.slice a6 ts.length c6] 36)).cell? ((⟨u6.heap.size,0,none⟩:Addr).add j)=some u:=by
 refine⟨(h.keep hb).keep (Aa _ _),(Df.add h.fam hb (by rw[Bz ts ws hl];exact ho) h.args.bel.size).keep (Aa _ _),fun j u hj=> ?_⟩;rw[CW,Nat.zero_add,cell_of_row _ _ _ _ _ _ (Ck u6 #[.slice a6 ts.length c6] 36)];simpa using hj
set_option maxHeartbeats 8000000 in
set_option maxRecDepth 100000 in
theorem IJ(v:VP)(p:MP)(vm:VM)(m:MM)(w:World)(hs:p.small)(hw:p.wf)(h:Cx w v p)(hcap:EH w v.r p.regions)(hfp:DQ w v.f p.funcs)(ms:m.small)(mw:m.wf)(hm:Fs w vm m):
 Calls Tryz.prog 65 #[.agg #[v.r,v.k,v.f,v.t],.agg #[vm.i,vm.o,vm.k]] w fun e w'=>∃(C:List (Value×List MC)) (K:List MC) (F:List (MG×Value)) (tr:Int) (x:VS),e=.returned (.agg #[.int .i64 tr,.bool false,.int .i64 0,.int .i64 0,x.c,x.k,x.f])/\Er p m (Ao tr false 0 0 C K F)/\DC C K F/\Ah w' w.heap.size x C K F/\Below w.heap.size w w':=by
 obtain⟨j0,hj,hy0,hy1,hy2⟩:=info_parts N5;have H:Hid (p.small/\p.wf/\Cx w v p/\m.small/\Fs w vm m/\EH w v.r p.regions/\DQ w v.f p.funcs/\m.wf):=⟨hs,hw,h,ms,hm,hcap,hfp,mw⟩
 obtain⟨am,cm,em⟩:=hm.ins.is_slice;obtain⟨ao,co,eo⟩:=hm.outs.is_slice;obtain⟨ak,ck,ek⟩:=hm.keeps.is_slice;obtain⟨vi,vo,vkk⟩:=vm;simp only[]at em eo ek;subst em eo ek;clear hs hw h ms hm hcap hfp mw;go_enter Tryz.func65,Tryz.ntmps65;go_wp2_with fail
 have E0:=En.of w v ⟨.slice am m.ins.length cm,.slice ao m.outs.length co,.slice ak m.keeps.length ck⟩;refine(IY v p ⟨.slice am m.ins.length cm,.slice ao m.outs.length co,.slice ak m.keeps.length ck⟩ m _ H.out.1 H.out.2.1 (H.out.2.2.1.keep E0.bel (Nat.le_refl _)) (H.out.2.2.2.2.2.1.keep E0.bel (Nat.le_refl _)) (H.out.2.2.2.2.2.2.1.keep E0.bel (Nat.le_refl _)) H.out.2.2.2.1 H.out.2.2.2.2.2.2.2 (H.out.2.2.2.2.1.keep E0.bel (Nat.le_refl _))).mono ?_;rintro e u1 ⟨⟨b1,rfl,hb1⟩,bl1⟩;have E1:Hid (En w u1 v ⟨.slice am m.ins.length cm,.slice ao m.outs.length co,.slice ak m.keeps.length ck⟩):=E0.keep bl1;clear E0 bl1;cases b1
 . have HN:Hid (¬Bp p m):=fun e=>absurd (hb1.2 e) Bool.false_ne_true
   clear hb1;have r0:=E1.out.rb.cell 0;have r1:=E1.out.rb.cell 1;have r2:=E1.out.rb.cell 2;have r3:=E1.out.rb.cell 3;have r4:=E1.out.rb.cell 4;have r5:=E1.out.rb.cell 5;have r6:=E1.out.rb.cell 6;have p0:=E1.out.rb.frozen 0;have p1:=E1.out.rb.frozen 1;have p2:=E1.out.rb.frozen 2;have p3:=E1.out.rb.frozen 3;have p4:=E1.out.rb.frozen 4;have p5:=E1.out.rb.frozen 5;have p6:=E1.out.rb.frozen 6;simp only[List.getElem?_toArray,List.getElem?_cons_zero,List.getElem?_cons_succ]at r0 r1 r2 r3 r4 r5 r6;go_wp2_with fail
   have R4:=((((((E1.out.rb.set 0 (.int .i64 7)).set 1 (.bool false)).set 2 (.int .i64 0)).set 3 (.int .i64 0)).set 4 (.slice none 0 0)).set 5 (.slice none 0 0)).set 6 (.slice none 0 0);have q0:=R4.cell 0;have q1:=R4.cell 1;have q2:=R4.cell 2;have q3:=R4.cell 3;have q4:=R4.cell 4;have q5:=R4.cell 5;have q6:=R4.cell 6;simp at q0 q1 q2 q3 q4 q5 q6;exact bodyPost_ret (v:=.agg #[.int .i64 7,.bool false,.int .i64 0,.int .i64 0,.slice none 0 0,.slice none 0 0,.slice none 0 0]) (by simp[results,Tryz.results65,go_sem,q0,q1,q2,q3,q4,q5,q6]) rfl ⟨[],[],[],7,⟨.slice none 0 0,.slice none 0 0,.slice none 0 0⟩,rfl,.inr ⟨HN.out,rfl⟩,⟨by simp,by simp,by simp,by simp,by simp⟩,Fw _ _,((((((E1.out.bel.setCell (by simp only[];omega) _).setCell (by simp only[];omega) _).setCell (by simp only[];omega) _).setCell (by simp only[];omega) _).setCell (by simp only[];omega) _).setCell (by simp only[];omega) _).setCell (by simp only[];omega) _⟩
 . have HV:Hid (Bp p m):=hb1.1 rfl
   clear hb1;obtain⟨g,o,c,r0,r1,r2,y0,y1,y2,hR⟩:=JT.of H.out.2.2.1 HV.out.1.ok.1.1;obtain⟨gf,of,cf,nf,f,z,hF⟩:=Oe.of H.out.2.2.2.2.2.2.1 H.out.1 HV.out.1.ok.2.2.1;have HF:Hid (Oe w v.f p gf of cf nf f z):=hF;have HR:Hid (p.regions=[r0,r1,r2]):=hR.eq;have HW3:(m.ins.length=r0.length/\Bd m.outs r1/\Bd m.keeps r2):=(Bp.iff HV.out.1 hR.eq).1 HV.out
   have HS:r0.length<=1048576/\r1.length<=1048576/\r2.length<=1048576:=by
    have:=H.out.1.region;rw[hR.eq]at this;exact⟨this r0 (by simp),this r1 (by simp),this r2 (by simp)⟩
   have HK:Hid (∀k,k<3->∃ws ts aw cw y,KD w m [Aw r0 m.ins,Aw r1 m.outs,Aw r2 m.keeps] am ao ak cm co ck g o k ws ts aw cw y):=by
    intro k hk;obtain rfl|rfl|rfl:k=0\/k=1\/k=2:=by omega
    . exact⟨m.ins,r0,am,cm,y0,fun W=>(EP am ao ak m.ins.length m.outs.length m.keeps.length cm co ck W).1,hR.i0,H.out.2.2.2.2.1.ins,hR.k0,HW3.1,HS.1,rfl⟩
    . exact⟨m.outs,r1,ao,co,y1,fun W=>(EP am ao ak m.ins.length m.outs.length m.keeps.length cm co ck W).2.1,hR.i1,H.out.2.2.2.2.1.outs,hR.k1,HW3.2.1.1,HS.2.1,rfl⟩
    . exact⟨m.keeps,r2,ak,ck,y2,fun W=>(EP am ao ak m.ins.length m.outs.length m.keeps.length cm co ck W).2.2,hR.i2,H.out.2.2.2.2.1.keeps,hR.k2,HW3.2.2.1,HS.2.2,rfl⟩
   have HT:Hid (∀x∈[Aw r0 m.ins,Aw r1 m.outs,Aw r2 m.keeps],x.length<=1048576):=by
    intro x hx;simp only[List.mem_cons,List.not_mem_nil,or_false]at hx;rcases hx with rfl|rfl|rfl
    . rw[Bz _ _ HW3.1];exact HS.1
    . rw[Bz _ _ HW3.2.1.1];exact HS.2.1
    . rw[Bz _ _ HW3.2.2.1];exact HS.2.2
   obtain⟨vr,vk,vf,vt⟩:=v;have hrows:=hR.rows;have hfr:=hF.rows;simp only[]at hrows hfr;subst hrows hfr;clear hR hF HW3 HS;obtain⟨zp,zl,zc⟩:=z;obtain⟨bp,dp,ep⟩:∃a c,zp=.slice a f.params.length c:=HF.out.rd.1.is_slice;obtain⟨bl,dl,el⟩:∃a c,zl=.slice a f.locals.length c:=HF.out.rd.2.1.is_slice;obtain⟨bc,dc,ec⟩:∃a c,zc=.slice a f.code.length c:=HF.out.rd.2.2.is_slice;subst ep el ec;have F1:=HF.out.keep E1.out.bel;have kf:=E1.out.pb.cell 2;have k0:=F1.i0;have k1:=F1.i1;have k2:=F1.i2;have k3:=F1.i3;have hpos:=F1.pos;have hbig:=F1.big;simp only[List.getElem?_toArray,List.getElem?_cons_zero,List.getElem?_cons_succ]at kf k0 k1 k2 k3;have HF1:Hid _:=F1;clear F1;go_wp2_with fail
   refine(Fe ⟨.slice bp f.params.length dp,.slice bl f.locals.length dl,.slice bc f.code.length dc⟩ f _ HF1.out.small HF1.out.rd HF1.out.pp HF1.out.pl).mono ?_;rintro e u2 ⟨rv,rfl,own2,b2⟩;have hn2:f.params.length+f.locals.length=(f.params++f.locals).length:=by simp
   rw[hn2]at own2;have E2:Hid (En w u2 ⟨.slice (some ⟨g,o,none⟩) 3 c,vk,.slice (some ⟨gf,of,none⟩) nf cf,vt⟩ ⟨.slice am m.ins.length cm,.slice ao m.outs.length co,.slice ak m.keeps.length ck⟩/\Rd u2 1 rv (f.params++f.locals).length ((f.params++f.locals).flatMap Ae)):=⟨E1.out.keep b2,Rd.of_own own2⟩
   clear own2 b2 hn2 kf k0 k1 k2 k3 HF1;go_wp2_with fail
   have hl4:(f.params++f.locals).length<=4194304:=by
    have hsm:=HF.out.small;rw[HF.out.none,List.nil_append];exact Nat.le_trans hsm.2.1 (by omega)
   refine(GR rv (f.params++f.locals) _ hl4 E2.out.2).mono ?_;rintro e u3 ⟨az,cz,rfl,own3,b3⟩;rw[HF.out.none,List.nil_append]at own3⊢;have E3:Hid (En w u3 ⟨.slice (some ⟨g,o,none⟩) 3 c,vk,.slice (some ⟨gf,of,none⟩) nf cf,vt⟩ ⟨.slice am m.ins.length cm,.slice ao m.outs.length co,.slice ak m.keeps.length ck⟩/\u3.ownsRow w.heap.size 128 2 (.slice az f.locals.length cz) (Aq f.locals).length ((Aq f.locals).flatMap MC.cells)):=⟨E2.out.1.keep b3,by rw[BW];exact Ea own3 E2.out.1.bel.size⟩
   clear own3 b3 E1 hl4;have E4:Hid _:=BL.of E3.out.1 E3.out.2;have m0:=E4.out.args.mb.cell 0;have m1:=E4.out.args.mb.cell 1;have m2:=E4.out.args.mb.cell 2;simp only[List.getElem?_toArray,List.getElem?_cons_zero,List.getElem?_cons_succ]at m0 m1 m2;go_wp2_with fail
   refine(G7 am ao ak m.ins.length m.outs.length m.keeps.length cm co ck _).mono ?_;rintro e u5 ⟨rfl,bl5⟩;have E5:Hid (BL w u5 ⟨.slice (some ⟨g,o,none⟩) 3 c,vk,.slice (some ⟨gf,of,none⟩) nf cf,vt⟩ ⟨.slice am m.ins.length cm,.slice ao m.outs.length co,.slice ak m.keeps.length ck⟩ (u3.heap.size+1) u3.heap.size (.slice none 0 0) (.slice az f.locals.length cz) (Aq f.locals) []):=E4.out.keep bl5;clear bl5 E4 E3 E2 m0 m1 m2;generalize u3.heap.size+1=X at E5⊢;generalize u3.heap.size=Y at E5;go_wp2
   go_loopw [24] (fun i wr=>∃(k:Nat) (V:Value) (C:List (Value×List MC)),k<=3/\i=.int .i64 k/\Hid (C.map Prod.snd=[Aw r0 m.ins,Aw r1 m.outs,Aw r2 m.keeps].take k/\BL w wr ⟨.slice (some ⟨g,o,none⟩) 3 c,vk,.slice (some ⟨gf,of,none⟩) nf cf,vt⟩ ⟨.slice am m.ins.length cm,.slice ao m.outs.length co,.slice ak m.keeps.length ck⟩ X Y V (.slice az f.locals.length cz) (Aq f.locals) C)) (fun i _=>3-(intOf i).toNat)
   case atStart=>exact⟨0,_,[],by omega,rfl,rfl,E5.out⟩
   case round=>
    clear E5;obtain⟨k,V,C,hk,rfl,HI⟩:=hrel;by_cases hlt:k<3
    . obtain⟨ws,ts,aw,cw,y,hK⟩:=HK.out k hlt
      have HKD:Hid _:=hK;have ix:=hK.ix;have hbel:=HI.out.2.args.bel
      have hCl:C.length=k:=by
       have:=congrArg List.length HI.out.1;simp at this;omega
      obtain⟨b,d,rfl⟩:∃a c,y=.slice a ts.length c:=hK.rt.is_slice;have ik:=hK.ik;rw[<-hbel.cell (bL ik)]at ik;have ik':=BI (Ad wr) ik;have kr:=(HI.out.2.args.pb.keep (Ad wr)).cell 0;have ks:=(HI.out.2.st.keep (Ad wr)).cell 4;simp only[List.getElem?_toArray,List.getElem?_cons_zero,List.getElem?_cons_succ]at kr ks;have hk3:(k:Int)<3:=by omega
      have HD:Hid (KD w m [Aw r0 m.ins,Aw r1 m.outs,Aw r2 m.keeps] am ao ak cm co ck g o k ws ts aw cw (.slice b ts.length d)/\C.length=k):=⟨hK,hCl⟩
      clear hK HKD hbel ik hCl;go_wp2_with fail
      go_region_law (first
       |(refine step_append_lies _ rfl (.tmp 29) (.tmp 37) 35 rfl w.heap.size 36 j0 (.slice none 0 0) 1 24 Tryz.underlying35 hj hy0 hy1 hy2 rfl (by decide) V C.length (C.flatMap CU) (by simp[Act.eval]) O6.out.1.row ⟨u6.heap.size,0,none⟩ 1 1 [.slice a6 ts.length c6] (by simp[Act.eval]) rfl O6.out.2.2 (fun u hu=>by simp at hu;subst hu;rfl) (by omega) (by have:=HD.out.2;unfold maxLen;omega) (by have:=HD.out.2;omega) O6.out.1.args.bel.size _ rfl ?_;intro gg cap u8 hown hgrow hat hlt8;have HN:Hid (BL w (u8.setCell ⟨X,4,none⟩ (.slice (some ⟨gg,0,none⟩) (C.length+1) cap)) ⟨.slice (some ⟨g,o,none⟩) 3 c,vk,.slice (some ⟨gf,of,none⟩) nf cf,vt⟩ ⟨.slice am m.ins.length cm,.slice ao m.outs.length co,.slice ak m.keeps.length ck⟩ X Y (.slice (some ⟨gg,0,none⟩) (C.length+1) cap) (.slice az f.locals.length cz) (Aq f.locals) (C++[(.slice a6 ts.length c6,Aw ts ws)])):=BL.next O6.out.1 O6.out.2.1 hgrow hown rfl;have st8:=O6.out.1.st.grown hgrow O6.out.1.row (by decide);have y0:=st8.cell 4;have y1:=st8.frozen 4;simp only[List.getElem?_toArray,List.getElem?_cons_zero,List.getElem?_cons_succ]at y0;clear hown hgrow hat hlt8 st8)
       |(go_simp;go_at_call 115;refine(KR (.slice b ts.length d) (.slice aw ws.length cw) ws ts _ HD.out.1.big HD.out.1.len ?_ ?_).mono ?_;exact HD.out.1.rw_.keep (Ab HI.out.2.args.bel (Nat.le_refl _) (Ad _)) (Nat.le_refl _);exact HD.out.1.rt.keep (Ab HI.out.2.args.bel (Nat.le_refl _) (Ad _)) (Nat.le_refl _);rintro e u6 ⟨a6,c6,rfl,own6,b6⟩;have B6:Hid (Below wr.heap.size wr u6):=As b6 (Nat.le_refl _);have O6:Hid (BL w (u6.alloc (.cells #[.slice a6 ts.length c6] 36)) ⟨.slice (some ⟨g,o,none⟩) 3 c,vk,.slice (some ⟨gf,of,none⟩) nf cf,vt⟩ ⟨.slice am m.ins.length cm,.slice ao m.outs.length co,.slice ak m.keeps.length ck⟩ X Y V (.slice az f.locals.length cz) (Aq f.locals) C/\Df (u6.alloc (.cells #[.slice a6 ts.length c6] 36)) w.heap.size (C++[(.slice a6 ts.length c6,Aw ts ws)]++[(.slice az f.locals.length cz,Aq f.locals)])/\∀j u,[(.slice a6 ts.length c6:Value)][j]?=some u->(u6.alloc (.cells #[.slice a6 ts.length c6] 36)).cell? ((⟨u6.heap.size,0,none⟩:Addr).add j)=some u):=(show _ from Qk HI.out.2 B6.out own6 HD.out.1.len);have x0:=(HI.out.2.keep B6.out).st.cell 4;have x1:=O6.out.1.st.cell 4;simp only[List.getElem?_toArray,List.getElem?_cons_zero,List.getElem?_cons_succ]at x0 x1;clear own6 b6))
      all_goals
       clear ix ik' kr ks;try clear x0 x1 y0 y1
       go_wp2
       go_roundw
       case rel=>exact⟨k+1,_,_,by omega,by go_num,⟨by rw[List.map_append,HI.out.1,De _ k _ HD.out.1.at_];rfl,HN.out⟩⟩
       case measure=>simp[intOf];omega
    . skip
      obtain rfl:k=3:=by omega
      obtain⟨aV,cV,rfl⟩:∃a c,V=.slice a C.length c:=(Rd.of_own HI.out.2.row).is_slice;have hCT:C.map Prod.snd=[Aw r0 m.ins,Aw r1 m.outs,Aw r2 m.keeps]:=HI.out.1
      have HB3:Hid (Er p m (Ao 0 false 0 0 C [] [(⟨0,0,0,Aq f.locals⟩,.slice az f.locals.length cz)])):=by
       obtain⟨fs,hfs⟩:=HF.out.eq;refine .inl ⟨HV.out,r0,r1,r2,f,fs,HR.out,hfs,?_⟩;unfold Ao BD;rw[hCT];rfl
      have HB4:Hid (DC C [] [(⟨0,0,0,Aq f.locals⟩,.slice az f.locals.length cz)]):=by
       refine⟨?_,?_,by simp,by simp,?_⟩
       . have:=congrArg List.length hCT
         simp at this;omega
       . intro x hx
         exact HT.out x.2 (by rw[<-hCT];exact List.mem_map_of_mem hx)
       . intro x hx
         simp only[List.mem_cons,List.not_mem_nil,or_false]at hx;subst hx;simp only[BW];exact HF.out.small.2.1
      clear hCT;have hxn:¬X=w.heap.size+1+1:=by have:=HI.out.2.xge;omega
      have hxm:¬w.heap.size+1+1=X:=fun e=>hxn e.symm
      have c0':=HI.out.2.st.cell 0;have c1':=HI.out.2.st.cell 1;have c2':=HI.out.2.st.cell 2;have c3':=HI.out.2.st.cell 3;have c4':=HI.out.2.st.cell 4;have c5':=HI.out.2.st.cell 5;have c6':=HI.out.2.st.cell 6;have d0':=HI.out.2.args.rb.cell 0;have d1':=HI.out.2.args.rb.cell 1;have d2':=HI.out.2.args.rb.cell 2;have d3':=HI.out.2.args.rb.cell 3;have d4':=HI.out.2.args.rb.cell 4;have d5':=HI.out.2.args.rb.cell 5;have d6':=HI.out.2.args.rb.cell 6;have z0':=HI.out.2.args.rb.frozen 0;have z1':=HI.out.2.args.rb.frozen 1;have z2':=HI.out.2.args.rb.frozen 2;have z3':=HI.out.2.args.rb.frozen 3;have z4':=HI.out.2.args.rb.frozen 4;have z5':=HI.out.2.args.rb.frozen 5;have z6':=HI.out.2.args.rb.frozen 6;simp only[List.getElem?_toArray,List.getElem?_cons_zero,List.getElem?_cons_succ]at c0' c1' c2' c3' c4' c5' c6' d0' d1' d2' d3' d4' d5' d6';go_wp2_with fail
      have R0:=HI.out.2.args.rb.set 0 (.int .i64 0);have R1:=R0.set 1 (.bool false);have R2:=R1.set 2 (.int .i64 0);have R3:=R2.set 3 (.int .i64 0);have R4:=R3.set 4 (.slice aV C.length cV);have R5:=R4.set 5 (.slice none 0 0);have R6:=R5.set 6 (.slice (some ⟨Y,0,none⟩) 1 1);have q0:=R6.cell 0;have q1:=R6.cell 1;have q2:=R6.cell 2;have q3:=R6.cell 3;have q4:=R6.cell 4;have q5:=R6.cell 5;have q6:=R6.cell 6;simp at q0 q1 q2 q3 q4 q5 q6
      exact bodyPost_ret (v:=.agg #[.int .i64 0,.bool false,.int .i64 0,.int .i64 0,.slice aV C.length cV,.slice none 0 0,.slice (some ⟨Y,0,none⟩) 1 1]) (by simp[results,Tryz.results65,go_sem,q0,q1,q2,q3,q4,q5,q6]) rfl ⟨C,[],[(⟨0,0,0,Aq f.locals⟩,.slice az f.locals.length cz)],0,⟨.slice aV C.length cV,.slice none 0 0,.slice (some ⟨Y,0,none⟩) 1 1⟩,rfl,HB3.out,HB4.out,(((((((HI.out.2.own.setSt HI.out.2.args.rb 0 (.int .i64 0)).setSt R0 1 (.bool false)).setSt R1 2 (.int .i64 0)).setSt R2 3 (.int .i64 0)).setSt R3 4 (.slice aV C.length cV)).setSt R4 5 (.slice none 0 0)).setSt R5 6 (.slice (some ⟨Y,0,none⟩) 1 1)),(((((((HI.out.2.args.bel.setCell (by simp only[];omega) _).setCell (by simp only[];omega) _).setCell (by simp only[];omega) _).setCell (by simp only[];omega) _).setCell (by simp only[];omega) _).setCell (by simp only[];omega) _).setCell (by simp only[];omega) _)⟩
end Go.Proofs.YtlejplpkomddeaaGreat
