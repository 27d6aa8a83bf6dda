import Derived.Test.YtjcamlobelcepaaGreatDoorCt28
namespace Go.Proofs.YtjcamlobelcepaaGreatDoor
open Go.ChangeShapes Go.WideShapes Go.ChangeAt Go.RowKit
set_option linter.unusedVariables false
set_option maxHeartbeats 8000000
set_option maxRecDepth 100000
theorem LC{α:Type}(f:α->List Value)(b:Nat)(ys:List α)(h:∀y∈ys,(f y).length<=b):(ys.flatMap f).length<=ys.length*b:=by
 induction ys with
 |nil=>simp
 | cons y r ih=>
   rw[am,aH,bL,eL];have:=h y (by simp);have:=ih (fun z hz=>h z (by simp[hz]));omega
theorem IR{fs:List MF}(h:AX fs):(fs.flatMap A7).length<=265000:=by
 have:=LC A7 8240 fs (fun f hf=>by
  obtain⟨j,hj,rfl⟩:=List.getElem_of_mem hf;have ho:=h.2.2.1 j hj _ (aA hj);rw[Gg];have:=ho.par;have:=ho.loc;have:=ho.code1;omega)
 have:=h.2.1;have:fs.length*8240<=32*8240:=Nat.mul_le_mul_right _ h.2.1;omega
theorem KT{p:MP}(h:AV p 0):Ax p.regions/\AP p.consts/\AX p.funcs/\Ck p/\Bc p:=by
 rcases h with h|h|h|h|h|h
 . exact absurd h.1 (by decide)
 . exact absurd h.1 (by decide)
 . exact absurd h.1 (by decide)
 . exact absurd h.1 (by decide)
 . exact absurd h.1 (by decide)
 . exact h.2
theorem Qn{z:Int}(h:Pm z):0<=z/\z<=4294967295:=by simpa[Pm,Lit.wf,IntKind.min,IntKind.max,IntKind.signed,IntKind.bits]using h
theorem JI(v:VP)(p:MP)(base:Nat)(w:World)(hs:p.small)(hw:p.wf)(h:Dc w base v p)(hb:base<=w.heap.size)(ht:Dq w):
 Calls Tryz.prog 5 #[.agg #[v.r,v.k,v.f,v.t]] w fun e w'=>∃r,e=.returned r/\Below w.heap.size w w'/\∃bs,TC p bs/\w'.ownsRow w.heap.size 5 1 r bs.length bs:=by
 have H:=Af (aG hs (aG hw (aG h ht)));have A0:Ap (w.alloc (.cells #[v.r,v.k,v.f,v.t] 28)) w.heap.size #[v.r,v.k,v.f,v.t] 28:=Ap.new _ _ _;have B0:=Aa w (.cells #[v.r,v.k,v.f,v.t] 28);have O0:=H.o.2.2.1.keep B0 lR;go_enter Tryz.func5,Tryz.ntmps5;go_wp2_with fail
 refine(DJ v p _ H.o.1 H.o.2.1 O0.rd O0.regions.rdc O0.funcs.rdp).mono ?_;rintro e u1 ⟨⟨n,rfl,hn⟩,bl1⟩;have HA:=Af (aG (A0.keep bl1) (aG (O0.keep bl1 lR) (Ab B0 lR bl1)));by_cases q0:n=0
 . subst q0
   have HF0:=Af hn;rw[show FT 0=.nilIface from rfl];have hcv:=Lib.run_convert_bytes_const (P:=Tryz.prog) u1 22 5 #[.int .u8 80,.int .u8 76,.int .u8 67,.int .u8 49] 4 4 Tryz.underlying22 Tryz.underlying5;go_wp2_with fail
   have bM:Below u1.heap.size u1 ((u1.alloc (.cells #[.int .u8 80,.int .u8 76,.int .u8 67,.int .u8 49] 5 (4,5))).alloc (.cells #[sG u1.heap.size 4 4] 45)):=Ab (Aa _ _) lR (Aa _ _)
   have E0:Hid (Ap ((u1.alloc (.cells #[.int .u8 80,.int .u8 76,.int .u8 67,.int .u8 49] 5 (4,5))).alloc (.cells #[sG u1.heap.size 4 4] 45)) (u1.heap.size+1) #[sG u1.heap.size 4 4] 45/\(∀j u',BL[j]?=some u'->((u1.alloc (.cells #[.int .u8 80,.int .u8 76,.int .u8 67,.int .u8 49] 5 (4,5))).alloc (.cells #[sG u1.heap.size 4 4] 45)).cell? ((⟨u1.heap.size,0,none⟩:Addr).add j)=some u')/\Ap ((u1.alloc (.cells #[.int .u8 80,.int .u8 76,.int .u8 67,.int .u8 49] 5 (4,5))).alloc (.cells #[sG u1.heap.size 4 4] 45)) w.heap.size #[v.r,v.k,v.f,v.t] 28/\Dc ((u1.alloc (.cells #[.int .u8 80,.int .u8 76,.int .u8 67,.int .u8 49] 5 (4,5))).alloc (.cells #[sG u1.heap.size 4 4] 45)) base v p/\Below w.heap.size w ((u1.alloc (.cells #[.int .u8 80,.int .u8 76,.int .u8 67,.int .u8 49] 5 (4,5))).alloc (.cells #[sG u1.heap.size 4 4] 45))):=by
    refine⟨?_,fun j u' hj=> ?_,HA.o.1.keep bM,HA.o.2.1.keep bM lR,Ab HA.o.2.2 lR bM⟩
    . have:=Ap.new (u1.alloc (.cells #[.int .u8 80,.int .u8 76,.int .u8 67,.int .u8 49] 5 (4,5))) #[sG u1.heap.size 4 4] 45
      simpa using this
    . have hc:=Nj u1 (4,5) j u' hj
      rw[(Aa _ _).cell (aD hc)];exact hc
   have hwb:w.heap.size<=u1.heap.size+1:=aR HA.o.2.2.size (Nat.le_succ _);generalize ((u1.alloc (.cells #[.int .u8 80,.int .u8 76,.int .u8 67,.int .u8 49] 5 (4,5))).alloc (.cells #[sG u1.heap.size 4 4] 45))=W1 at E0⊢;generalize u1.heap.size+1=wb at E0 hwb⊢;generalize u1.heap.size=mb at E0⊢;have hBW:w.heap.size<=W1.heap.size:=E0.o.2.2.2.2.size;refine(KN w.heap.size wb mb W1 hBW hwb E0.o.1 E0.o.2.1).mono ?_;rintro e u2 ⟨rfl,hW,hG⟩;have E2:=Af (aG hW hG);have PB:Hid (∀{u:World},Wg w.heap.size W1 u->Ap u w.heap.size #[v.r,v.k,v.f,v.t] 28/\Dc u base v p/\Below w.heap.size w u):=fun hg=>⟨hg.block E0.o.2.2.1 (by decide) (by decide),hg.ownPD E0.o.2.2.2.1,E0.o.2.2.2.2.trans hg.bel⟩
   obtain⟨c0,c1,c2,c3⟩:=Fg (PB.o E2.o.2).1;obtain⟨vr,vk,vf,vt⟩:=v;simp only[]at PB c0 c1 c2 c3;obtain⟨xs,hxs,hrow,hel⟩:=(PB.o E2.o.2).2.1.regions;obtain⟨ar,cr,er⟩:=(Rd.of_own hrow).is_slice;simp only[]at er;subst er;have HR3:=Af ((KT HF0.o).1.1);have hr3:=HR3.o;rw[hr3]at PB c0;have HOK:=Af (KT HF0.o);rw[hr3];go_wp2_with fail
   go_loopw [18] (fun i wr=>∃k:Nat,k<=3/\i=iZ k/\Hid (DU w.heap.size wr wb (BL++At 1 2++(p.regions.take k).flatMap BC)/\Wg w.heap.size W1 wr)) (fun i _=>3-(intOf i).toNat)
   case atStart=>exact⟨0,by omega,rfl,⟨by simpa using E2.o.1,E2.o.2⟩⟩
   case round=>
    obtain⟨k,hk,rfl,HI⟩:=hrel;by_cases hlt:k<3
    . obtain⟨xs,hxs,hrow,hel⟩:=(PB.o HI.o.2).2.1.regions
      have hxl:xs.length=3:=by rw[<-HR3.o,<-hxs];simp
      obtain⟨⟨r,y⟩,hx⟩:∃x,xs[k]?=some x:=⟨_,aA (by omega)⟩;have e1:=BG hxs hx;have hry:=hel _ (aF hx);simp only[]at hry e1 hrow;rw[HR3.o]at hrow;rcases(Rd.of_own hrow).2 with⟨e0,_⟩|⟨g,o,c,e2,hc1⟩
      . omega
      simp only[aI,ao]at e2;obtain⟨rfl,rfl⟩:=e2;have i0:=Rd.elem AK hc1 k _ hx 0 _ rfl;rw[bR,aT]at i0;simp only[]at i0;have hrl:r.length<=1048576:=H.o.1.region _ (aF e1)
      have hlen:(BL++At 1 2++(p.regions.take k).flatMap BC).length<=6+k*258:=by
       have:=Gw p.regions HOK.o.1 k;simp only[aH,Av,BL,bL,bc];omega
      have hr256:r.length<=256:=(HOK.o.1.2 k (by rw[HR3.o];exact hlt) r e1).1;have HX:=Af (aG e1 hry);go_wp2_with fail;refine(Gu w.heap.size wb _ 2 y r base _ (by omega) (by omega) hrl (by rw[Aq FW 1 (fun y=>Av y 1)];omega) (aR hBW HI.o.2.size) hwb HI.o.1 HX.o.2).mono ?_;rintro e u3 ⟨rfl,hW,hG⟩
      have HN:Hid (DU w.heap.size u3 wb (BL++At 1 2++(p.regions.take (k+1)).flatMap BC)/\Wg w.heap.size W1 u3):=by
       refine⟨?_,HI.o.2.trans hG⟩;rw[PZ BC HX.o.1,<-a6];exact hW
      go_wp2
      go_roundw
      case rel=>exact⟨k+1,by omega,by go_num,HN⟩
      case measure=>simp[intOf];omega
    . obtain rfl:k=3:=by omega
      have E3:Hid (DU w.heap.size wr wb (BL++At 1 2++p.regions.flatMap BC)/\Wg w.heap.size W1 wr):=by
       refine⟨?_,HI.o.2⟩;have:=HI.o.1;rw[bg (by rw[HR3.o];omega)]at this;exact this
      have hl3:(BL++At 1 2++p.regions.flatMap BC).length<=780:=by
       have:=IM p.regions HOK.o.1;simp only[aH,Av,BL,bL,bc];omega
      obtain⟨c0,c1,c2,c3⟩:=Fg (PB.o E3.o.2).1;have hc64:=HOK.o.2.1.1;have hlc:(p.consts.flatMap AY).length<=320:=by rw[Aq AY 5 Jf];omega
      go_wp2_with fail
      refine(Kz w.heap.size wb _ 2 vk p.consts base _ (by omega) (by omega) H.o.1.consts (by omega) (aR hBW E3.o.2.size) hwb (fun x hx=>Qn (H.o.2.1.consts x hx).2) E3.o.1 (PB.o E3.o.2).2.1.consts).mono ?_;rintro e u4 ⟨rfl,hW,hG⟩;have E4:=Af (aG hW (E3.o.2.trans hG))
      have hl4:(BL++At 1 2++p.regions.flatMap BC++(At p.consts.length 2++p.consts.flatMap AY)).length<=1200:=by
       rw[aH];simp only[aH,Av]at hl3⊢;omega
      obtain⟨c0,c1,c2,c3⟩:=Fg (PB.o E4.o.2).1;obtain⟨ys,hys,hfr,hfe⟩:=(PB.o E4.o.2).2.1.funcs;have hyl:ys.length=p.funcs.length:=by rw[<-hys];simp
      have hyf:ys.flatMap (fun x:MF×VF=>A7 x.1)=p.funcs.flatMap A7:=by rw[<-hys,List.flatMap_map]
      have hft:=IR HOK.o.2.2.1;simp only[]at hfr;rw[<-hyl]at hfr;have hyl2:ys.length<=1048576:=by rw[hyl];exact H.o.1.funcs
      have HY:Hid ((∀x∈ys,Ep u4 base x.2 x.1/\x.1.small)/\u4.ownsRow base 58 4 vf ys.length (ys.flatMap AW)/\ys.flatMap (fun x:MF×VF=>A7 x.1)=p.funcs.flatMap A7/\ys.length=p.funcs.length):=⟨fun x hx=>⟨hfe x hx,H.o.1.func _ (by rw[<-hys];exact List.mem_map_of_mem hx)⟩,hfr,hyf,hyl⟩
      go_wp2_with fail
      refine(LR w.heap.size wb _ 2 vf ys base _ (by omega) (by omega) hyl2 (by rw[HY.o.2.2.1];omega) (aR hBW E4.o.2.size) hwb HY.o.1 E4.o.1 HY.o.2.1).mono ?_;rw[HY.o.2.2.1,HY.o.2.2.2];rintro e u5 ⟨rfl,hW,hG⟩;have E5:=Af (aG hW (E4.o.2.trans hG))
      have hl5:(BL++At 1 2++p.regions.flatMap BC++(At p.consts.length 2++p.consts.flatMap AY)++(At p.funcs.length 2++p.funcs.flatMap A7)).length<=266300:=by
       rw[aH];simp only[aH,Av]at hl4⊢;omega
      obtain⟨c0,c1,c2,c3⟩:=Fg (PB.o E5.o.2).1;have hct:=HOK.o.2.2.2.2.1;have hlt5:(p.certs.flatMap Bo).length<=576:=by rw[Aq Bo 9 JE];omega
      go_wp2_with fail
      refine(LQ w.heap.size wb _ 2 vt p.certs base _ (by omega) (by omega) H.o.1.certs (by omega) (aR hBW E5.o.2.size) hwb (fun x hx=>Qn (H.o.2.1.certs x hx).2.2.2) E5.o.1 (PB.o E5.o.2).2.1.certs).mono ?_;rintro e u6 ⟨rfl,hW,hG⟩
      have hEB:BL++At 1 2++p.regions.flatMap BC++(At p.consts.length 2++p.consts.flatMap AY)++(At p.funcs.length 2++p.funcs.flatMap A7)++(At p.certs.length 2++p.certs.flatMap Bo)=BP p:=by
       unfold BP;simp only[a6]
      have hl6:(BP p).length<=300000:=by
       rw[<-hEB,aH];simp only[aH,Av]at hl5⊢;omega
      have hBU:=(PB.o (E5.o.2.trans hG)).2.2;rw[hEB]at hW;obtain⟨V,hVb,hVo⟩:=hW;have E6:=Af (aG hVb (aG hVo (aG (E5.o.2.trans hG) hBU)));have HZ:=Af (IP (Hb p));have d0:u6.cell? ⟨wb,0,none⟩=some V:=E6.o.1.cell 0
      have HTab:Hid (Dq u6):=fun j hj=>by
       have h0:0<w.heap.size:=aD (H.o.2.2.2 0 (by decide));rw[E6.o.2.2.2.cell (p:=⟨0,j,none⟩) h0];exact H.o.2.2.2 j hj
      generalize hEB:BP p=eb at E6 hl6 HZ;have HEB:=Af hEB;go_wp2_with fail
      refine(OD V eb.length (CV eb) u6 (by omega) (by rw[HZ.o.1];exact Dp.of_own E6.o.2.1) HZ.o.2 HTab.o).mono ?_;rintro e u7 ⟨rfl,rfl⟩;obtain⟨t0,t1⟩:=Rm (~~~(C6 (CV eb) eb.length))
      generalize hCR:FY (~~~(C6 (CV eb) eb.length))=C at t0 t1⊢
      have HCR:=Af hCR;have hwC:wrap64 C=C:=by unfold wrap64;omega
      go_wp2_with fail
      refine(A4 w.heap.size wb eb C 4 _ (by omega) (by omega) (by omega) (aR hBW E6.o.2.2.1.size) hwb ⟨V,E6.o.1,E6.o.2.1⟩).mono ?_;rintro e u8 ⟨rfl,⟨V8,hb8,ho8⟩,hG⟩;have E8:=Af (aG (E6.o.2.2.2.trans hG.bel) ho8);have d8:u8.cell? ⟨wb,0,none⟩=some V8:=hb8.cell 0;go_wp2
      go_ret
      exact⟨_,rfl,E8.o.1,eb++At C 4,.inl ⟨HF0.o,by rw[DN,HEB.o,HCR.o]⟩,E8.o.2⟩
 . have HNF:Hid (¬AV p 0):=fun e=>q0 (hn.one e)
   rw[show FT n=.iface 90 (iZ n)from bX q0];go_wp2
   go_ret
   exact⟨_,rfl,HA.o.2.2,[],.inr ⟨HNF.o,rfl⟩,bq _ _ _ _⟩
end Go.Proofs.YtjcamlobelcepaaGreatDoor
