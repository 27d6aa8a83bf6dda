import Derived.Test.YtdipfjmlfbdkdaaGreatFc33
namespace Go.Proofs.YtdipfjmlfbdkdaaGreat
open Go.ChangeShapes Go.WideShapes Go.ChangeAt Go.RowKit
set_option linter.unusedVariables false
set_option maxHeartbeats 8000000
set_option maxRecDepth 100000
theorem Ky(v:VP)(p:MP)(fi:Int)(lv:VL)(l:ML)(w:World)(hs:p.small)(hw:p.wf)(hfi:CD fi)(h:Dg w v p)(hl:l.small)(hr:I7 w lv l):
 Calls Tryz.prog 20 #[.agg #[v.r,v.k,v.f,v.t],.int .i64 fi,.agg #[.int .i64 l.head,lv.b,lv.k]] w fun e w'=>(∃n,e=.returned (.int .i64 n)/\KQ p fi l n)/\Below w.heap.size w w':=by
 obtain⟨r1,r3,k1,k3,t1,t3,f1,f3,rfl⟩:=h.sl
 obtain⟨b1,b3,e1⟩:=Rd.is_slice hr.1
 obtain⟨d1,d3,e2⟩:=Rd.is_slice hr.2
 obtain⟨lb,lk⟩:=lv
 simp only[]at e1 e2
 subst e1 e2
 have H:Hid (p.small/\p.wf/\CD fi/\Dg w ⟨.slice r1 p.regions.length r3,.slice k1 p.consts.length k3,.slice f1 p.funcs.length f3,.slice t1 p.certs.length t3⟩ p/\I7 w ⟨.slice b1 l.back.length b3,.slice d1 l.blocks.length d3⟩ l/\l.small):=⟨hs,hw,hfi,h,hr,hl⟩
 clear hs hw hfi h hr hl
 have E0:=Bw w #[.slice r1 p.regions.length r3,.slice k1 p.consts.length k3,.slice f1 p.funcs.length f3,.slice t1 p.certs.length t3] #[.int .i64 l.head,.slice b1 l.back.length b3,.slice d1 l.blocks.length d3] 35 68
 go_enter Tryz.func20,Tryz.ntmps20
 go_upto_region 1 with fail
 refine Al (fun u=>Hid (Ak u w.heap.size #[.slice r1 p.regions.length r3,.slice k1 p.consts.length k3,.slice f1 p.funcs.length f3,.slice t1 p.certs.length t3] 35/\Ak u (w.heap.size+1) #[.int .i64 l.head,.slice b1 l.back.length b3,.slice d1 l.blocks.length d3] 68/\Below w.heap.size w u)) E0 ?_
 rintro U0 E1
 clear E0
 obtain⟨p0,p1,p2,p3⟩:=Em E1.o.1
 go_wp2_with fail
 refine(Fz ⟨.slice r1 p.regions.length r3,.slice k1 p.consts.length k3,.slice f1 p.funcs.length f3,.slice t1 p.certs.length t3⟩ p U0 H.o.1 H.o.2.1 (H.o.2.2.2.1.keep E1.o.2.2 lR)).mono ?_
 rintro e u1 ⟨⟨n,rfl,hn⟩,bb⟩
 have E2:Hid (Ak u1 w.heap.size #[.slice r1 p.regions.length r3,.slice k1 p.consts.length k3,.slice f1 p.funcs.length f3,.slice t1 p.certs.length t3] 35/\Ak u1 (w.heap.size+1) #[.int .i64 l.head,.slice b1 l.back.length b3,.slice d1 l.blocks.length d3] 68/\Below w.heap.size w u1):=⟨E1.o.1.keep bb,E1.o.2.1.keep bb,Ab E1.o.2.2 lR bb⟩
 clear bb E1 p0 p1 p2 p3
 clear U0
 have p2:=E2.o.1.cell 2
 simp only[am,aM,aj]at p2
 by_cases hn0:n=0
 case neg=>
  have HN:Hid (¬DF p fi l):=fun e=>hn0 (hn.one e.1)
  clear hn
  go_wp2_with fail
  go_ret
  exact⟨⟨7,rfl,.inl ⟨HN.o,rfl⟩⟩,E2.o.2.2⟩
 subst hn0
 have HFA:Hid (Be p 0):=hn
 clear hn
 by_cases hf0:fi<0
 case pos=>
  have HN:Hid (¬DF p fi l):=fun e=>absurd e.2.1 (by omega)
  have hf0':decide (fi<0)=true:=by simpa using hf0
  go_wp2_with fail
  go_ret
  exact⟨⟨7,rfl,.inl ⟨HN.o,rfl⟩⟩,E2.o.2.2⟩
 by_cases hf1:(p.funcs.length:Int)<=fi
 case pos=>
  have HN:Hid (¬DF p fi l):=fun e=>by
   obtain⟨f,r,hf,_⟩:=e.2.2
   have:=(aD.1 hf).1
   omega
  go_wp2_with fail
  go_ret
  exact⟨⟨7,rfl,.inl ⟨HN.o,rfl⟩⟩,E2.o.2.2⟩
 obtain⟨q,rfl⟩:=aT (show 0<=fi by omega)
 obtain⟨f,hf⟩:∃f,p.funcs[q]?=some f:=⟨_,aA (by omega)⟩
 obtain⟨gk,ok,ck,efn,g,hrf,m0,m1,m2,m3⟩:=Nv H.o.2.2.2.1.funcs hf
 simp only[aF,aw]at efn
 obtain⟨rfl,rfl⟩:=efn
 obtain⟨g1,g3,g4,g6,g7,g9,rfl⟩:=Kv hrf
 have hqL:(q:Int)<(p.funcs.length:Int):=by omega
 have HF:Hid (p.funcs[q]?=some f/\f.small/\C9 w ⟨.slice g1 f.params.length g3,.slice g4 f.locals.length g6,.slice g7 f.code.length g9⟩ f/\0<f.code.length):=⟨hf,H.o.1.func f (aE hf),hrf,Nat.pos_of_ne_zero (HFA.o.parts.2.2.1.2.2.1 q (aD.1 hf).1 f hf).code0⟩
 have HFI:Hid (p.funcs[((q:Nat):Int).toNat]?=some f):=by
  show p.funcs[((q:Nat):Int).toNat]?=some f
  rw[aG]
  exact hf
 simp only[]at m0 m1 m2 m3
 rw[<-E2.o.2.2.cell (aC m3)]at m3
 clear hrf hf m0 m1 m2
 go_wp2_with fail
 refine(Gk (.slice g7 f.code.length g9) f.code u1 HF.o.2.1.2.2 (Rd.keep HF.o.2.2.1.2.2 E2.o.2.2 lR)).mono ?_
 rintro e u2 ⟨r,vb,vo,vi,vl,rfl,hfl,hrd,bb⟩
 obtain⟨v1,c1,v2,c2,v3,c3,v4,c4,rfl,rfl,rfl,rfl⟩:=LC hrd
 have E3:Hid (Mb w (u2.alloc (.cells #[.int .i64 r.code,.int .i64 r.at_,.slice v1 r.blocks.length c1,.slice v2 r.order.length c2,.slice v3 r.idom.length c3,.slice v4 r.loops.length c4] 52)) ⟨.slice r1 p.regions.length r3,.slice k1 p.consts.length k3,.slice (some ⟨gk,ok,none⟩) p.funcs.length f3,.slice t1 p.certs.length t3⟩ ⟨.slice b1 l.back.length b3,.slice d1 l.blocks.length d3⟩ l u2.heap.size r (.slice v1 r.blocks.length c1) (.slice v2 r.order.length c2) (.slice v3 r.idom.length c3) (.slice v4 r.loops.length c4)):=by
  have b2:=Aa u2 (.cells #[.int .i64 r.code,.int .i64 r.at_,.slice v1 r.blocks.length c1,.slice v2 r.order.length c2,.slice v3 r.idom.length c3,.slice v4 r.loops.length c4] 52)
  exact⟨(E2.o.1.keep bb).keep b2,(E2.o.2.1.keep bb).keep b2,Ak.new _ _ _,hrd.keepL b2 lR,Ab (Ab E2.o.2.2 lR bb) lR b2⟩
 have HFL:Hid (AR f.code r):=hfl
 have hnl:r.loops.length<=1024:=(FH hfl).1
 clear hfl hrd bb E2 p2 m3
 clear u1
 go_upto_region 5 with fail
 generalize u2.heap.size=FB at E3⊢
 refine Al (fun u=>Hid (Mb w u ⟨.slice r1 p.regions.length r3,.slice k1 p.consts.length k3,.slice (some ⟨gk,ok,none⟩) p.funcs.length f3,.slice t1 p.certs.length t3⟩ ⟨.slice b1 l.back.length b3,.slice d1 l.blocks.length d3⟩ l FB r (.slice v1 r.blocks.length c1) (.slice v2 r.order.length c2) (.slice v3 r.idom.length c3) (.slice v4 r.loops.length c4))) E3 ?_
 rintro U E4
 clear E3
 clear u2
 go_wp2_with fail
 go_loopw [9,10] (fun th i wr=>∃(b:Bool) (k:Nat),k<=r.loops.length/\th=.bool b/\i=.int .i64 k/\Hid (b=true↔∃j:Nat,j<k/\r.loops[j]?=some l)/\Hid (Mb w wr ⟨.slice r1 p.regions.length r3,.slice k1 p.consts.length k3,.slice (some ⟨gk,ok,none⟩) p.funcs.length f3,.slice t1 p.certs.length t3⟩ ⟨.slice b1 l.back.length b3,.slice d1 l.blocks.length d3⟩ l FB r (.slice v1 r.blocks.length c1) (.slice v2 r.order.length c2) (.slice v3 r.idom.length c3) (.slice v4 r.loops.length c4))) (fun _ i _=>r.loops.length-(intOf i).toNat)
 case atStart=>exact⟨false,0,by omega,rfl,rfl,⟨fun e=>(by cases e),fun⟨j,hj,_⟩=>absurd hj (by omega)⟩,E4⟩
 case round=>
 clear E4
 obtain⟨b,k,hk,rfl,rfl,HB,E4⟩:=hrel
 obtain⟨y0,y1,y2,y3,y4,y5⟩:=DT E4.o.fb
 by_cases hlt:k<r.loops.length
 case pos=>
  obtain⟨m,hm⟩:∃m,r.loops[k]?=some m:=⟨_,aA hlt⟩
  obtain⟨gl,ol,a1,x1,a2,x2,ev4,i0,i1,i2,hrl⟩:=Hh E4.o.rf.loops hm
  have HM:Hid (r.loops[k]?=some m):=hm
  clear hm
  cases b
  case true=>
   go_upto_region 9 with fail
   have inst:=Ai.some wr
   refine At (by kernel_rfl) (by kernel_rfl) ?_
   repeat(go_big_quiet_step (fail))
   refine wpQuiet_nil ?_
   rintro w'' ⟨n',rfl⟩
   go_wp2
   go_roundw
   case rel=>exact⟨true,k+1,by omega,rfl,by go_num,⟨fun _=>by obtain⟨j,hj,e⟩:=HB.o.1 rfl;exact⟨j,by omega,e⟩,fun _=>rfl⟩,E4.o.keep n'.h⟩
   case measure=>simp[intOf];omega
  case false=>
   go_upto_region 9 with fail
   have inst:=Ai.some wr
   subst ev4
   obtain⟨o0,o1,o2⟩:=BI E4.o.lb
   have Y5:=fun n':Ai wr=>Ai.cell y5 n'
   have I0:=fun n':Ai wr=>Ai.cell i0 n'
   have I1:=fun n':Ai wr=>Ai.cell i1 n'
   have I2:=fun n':Ai wr=>Ai.cell i2 n'
   have O0:=fun n':Ai wr=>Ai.cell o0 n'
   have O1:=fun n':Ai wr=>Ai.cell o1 n'
   have O2:=fun n':Ai wr=>Ai.cell o2 n'
   have HL:Hid (Nl wr (m,.slice a1 m.back.length x1,.slice a2 m.blocks.length x2)/\Nl wr (l,.slice b1 l.back.length b3,.slice d1 l.blocks.length d3)/\(m.back.length<=1048576/\m.blocks.length<=1048576)):=⟨hrl,H.o.2.2.2.2.1.keep E4.o.bel lR,(FH HFL.o).2 m (aE HM.o)⟩
   clear hrl y0 y1 y2 y3 y4 y5 i0 i1 i2 o0 o1 o2
   by_cases hml:m=l
   case pos=>
    have HML:Hid (m=l):=hml
    clear hml
    refine At (by kernel_rfl) (by kernel_rfl) ?_
    repeat(go_big_quiet_step ((go_at_call 48;rename_i n';exact(EQ m l (.slice a1 m.back.length x1) (.slice a2 m.blocks.length x2) (.slice b1 l.back.length b3) (.slice d1 l.blocks.length d3) n'.u HL.o.2.2 H.o.2.2.2.2.2 (I7.keep (v:=⟨.slice a1 m.back.length x1,.slice a2 m.blocks.length x2⟩) HL.o.1 n'.h lR) (I7.keep (v:=⟨.slice b1 l.back.length b3,.slice d1 l.blocks.length d3⟩) HL.o.2.1 n'.h lR)).mono fun e w'' hh=>⟨hh.1.true HML.o,⟨⟨w'',Ab n'.h lR hh.2⟩,rfl⟩⟩)))
    refine wpQuiet_nil ?_
    rintro w'' ⟨n',rfl⟩
    go_wp2
    go_roundw
    case rel=>exact⟨true,k+1,by omega,rfl,by go_num,⟨fun _=>⟨k,by omega,by rw[HM.o,HML.o]⟩,fun _=>rfl⟩,E4.o.keep n'.h⟩
    case measure=>simp[intOf];omega
   case neg=>
    have HML:Hid (¬m=l):=hml
    clear hml
    refine At (by kernel_rfl) (by kernel_rfl) ?_
    repeat(go_big_quiet_step ((go_at_call 48;rename_i n';exact(EQ m l (.slice a1 m.back.length x1) (.slice a2 m.blocks.length x2) (.slice b1 l.back.length b3) (.slice d1 l.blocks.length d3) n'.u HL.o.2.2 H.o.2.2.2.2.2 (I7.keep (v:=⟨.slice a1 m.back.length x1,.slice a2 m.blocks.length x2⟩) HL.o.1 n'.h lR) (I7.keep (v:=⟨.slice b1 l.back.length b3,.slice d1 l.blocks.length d3⟩) HL.o.2.1 n'.h lR)).mono fun e w'' hh=>⟨hh.1.false HML.o,⟨⟨w'',Ab n'.h lR hh.2⟩,rfl⟩⟩)))
    refine wpQuiet_nil ?_
    rintro w'' ⟨n',rfl⟩
    go_wp2
    go_roundw
    case rel=>
     refine⟨false,k+1,by omega,rfl,by go_num,⟨fun e=>(by cases e),fun⟨j,hj,e⟩=> ?_⟩,E4.o.keep n'.h⟩
     by_cases ejk:j=k
     . subst ejk
       rw[HM.o]at e
       exact absurd (ae e) HML.o
     . exact HB.o.2 ⟨j,by omega,e⟩
    case measure=>simp[intOf];omega
 have hkn:k=r.loops.length:=by omega
 subst hkn
 have HB2:Hid (b=true↔l∈r.loops):=by
  constructor
  . intro e
    obtain⟨j,_,e⟩:=HB.o.1 e
    exact aE e
  . intro e
    obtain⟨j,e⟩:=bH e
    exact HB.o.2 ⟨j,(aD.1 e).1,e⟩
 clear HB hlt hk
 have HOW:Hid (DF p (q:Int) l->r.code=0/\l∈r.loops):=fun e=>by
  obtain⟨f',r',hf',hfl',h0',hl'⟩:=e.2.2
  rw[HFI.o]at hf'
  have ef:=ae hf'
  subst ef
  have er:=hfl'.one HFL.o
  subst er
  exact⟨h0',hl'⟩
 by_cases hc0:r.code=0
 case neg=>
  have hc0':(r.code != 0)=true:=by simpa using hc0
  have HN:Hid (¬DF p (q:Int) l):=fun e=>hc0 (HOW.o e).1
  go_wp2_with fail
  go_ret
  exact⟨⟨7,rfl,.inl ⟨HN.o,rfl⟩⟩,E4.o.bel⟩
 rw[hc0]at y0
 cases b
 case false=>
  have HN:Hid (¬DF p (q:Int) l):=fun e=>(by have:=HB2.o.2 (HOW.o e).2;cases this)
  go_wp2_with fail
  go_ret
  exact⟨⟨7,rfl,.inl ⟨HN.o,rfl⟩⟩,E4.o.bel⟩
 have hlm:l∈r.loops:=HB2.o.1 rfl
 have HI:Hid (PG f.code r):=HFL.o.inn hc0
 have HO:Hid (GP p (q:Int) l f r):=⟨HFA.o,by omega,HFI.o,HFL.o,hc0,hlm⟩
 obtain⟨⟨hh,ehh,hhl⟩,hblk,hbl1,hbl2⟩:=HI.o.loop l hlm
 have HBK:Hid (∀z∈l.blocks,∃b:Nat,z=(b:Int)/\b<r.blocks.length):=hblk
 obtain⟨hb,ehb⟩:∃m,r.blocks[hh]?=some m:=⟨_,aA hhl⟩
 obtain⟨ha,he,eha,ehe,hae,hen⟩:=HI.o.blk hh hb ehb
 have HHB:Hid (r.blocks[l.head.toNat]?=some hb/\hb.first=(ha:Int)/\l.head=(hh:Int)):=⟨by rw[ehh,aG];exact ehb,eha,ehh⟩
 obtain⟨gb,ob,na,nc,ev1,j0,j1,j2,hrb⟩:=FE E4.o.rf.blocks ehb
 subst ev1
 rw[eha]at j0
 have hhI:(hh:Int)<(r.blocks.length:Int):=by omega
 obtain⟨o0,o1,o2⟩:=BI E4.o.lb
 rw[ehh]at o0
 obtain⟨p0,p1,p2,p3⟩:=Em E4.o.pb
 clear hrb ehb eha ehe hlm hblk HB2 HOW hc0
 go_wp2_with fail
 refine(Iu ⟨.slice r1 p.regions.length r3,.slice k1 p.consts.length k3,.slice (some ⟨gk,ok,none⟩) p.funcs.length f3,.slice t1 p.certs.length t3⟩ p (q:Int) (ha:Int) wr H.o.1 (H.o.2.2.2.1.keep E4.o.bel lR)).mono ?_
 rintro e u3 ⟨⟨n,rfl,hn⟩,bb⟩
 have E5:Hid (Mb w u3 ⟨.slice r1 p.regions.length r3,.slice k1 p.consts.length k3,.slice (some ⟨gk,ok,none⟩) p.funcs.length f3,.slice t1 p.certs.length t3⟩ ⟨.slice b1 l.back.length b3,.slice d1 l.blocks.length d3⟩ l FB r (.slice (some ⟨gb,ob,none⟩) r.blocks.length c1) (.slice v2 r.order.length c2) (.slice v3 r.idom.length c3) (.slice v4 r.loops.length c4)):=E4.o.keep bb
 clear bb E4 y0 y1 y2 y3 y4 y5 o0 o1 o2 p0 p1 p2 p3 j0 j1 j2
 clear wr
 rcases hn with⟨rfl,hnone⟩|⟨kc,c,rfl,hkc,hcert⟩
 . have HN:Hid (Bh p.certs (q:Int) hb.first=none):=by rw[HHB.o.2.1];exact hnone
   clear hnone
   go_wp2_with fail
   go_ret
   exact⟨⟨1,rfl,.inr ⟨f,r,HO.o,Au.c1 HHB.o.1 HN.o⟩⟩,E5.o.bel⟩
 have hkcl:kc<p.certs.length:=(aD.1 hkc).1
 have hkcI:(kc:Int)<(p.certs.length:Int):=by omega
 rcases H.o.2.2.2.1.certs.2 with⟨q0,_⟩|⟨gt,ot,ct,q1,hct⟩
 . omega
 simp only[aF,aw]at q1
 obtain⟨rfl,rfl⟩:=q1
 have i0:=Rd.elem MT.cells_length hct kc c hkc 0 _ rfl
 have i1:=Rd.elem MT.cells_length hct kc c hkc 1 _ rfl
 have i2:=Rd.elem MT.cells_length hct kc c hkc 2 _ rfl
 have i3:=Rd.elem MT.cells_length hct kc c hkc 3 _ rfl
 rw[<-E5.o.bel.cell (aC i0),aS]at i0
 rw[<-E5.o.bel.cell (aC i1)]at i1
 rw[<-E5.o.bel.cell (aC i2)]at i2
 rw[<-E5.o.bel.cell (aC i3)]at i3
 have HC0:Hid (Bh p.certs (q:Int) hb.first=some c):=by rw[HHB.o.2.1];exact hcert
 clear hct hcert hkc
 obtain⟨p0,p1,p2,p3⟩:=Em E5.o.pb
 obtain⟨x,hx⟩:∃x,f.code[ha]?=some x:=⟨_,aA (by omega)⟩
 have HG:Hid (Me p (q:Int) f.code r.blocks l hb c x):=⟨HHB.o.1,HC0.o,by rw[HHB.o.2.1,aG];exact hx⟩
 rcases HF.o.2.2.1.2.2.2 with⟨q0,_⟩|⟨gc,oc,cc,q1,hcc⟩
 . exact absurd q0 (by have:=HF.o.2.2.2;omega)
 simp only[aF,aw]at q1
 obtain⟨rfl,rfl⟩:=q1
 have HC:Hid (∀(u:World),Below w.heap.size w u->∀(k:Nat) (x:MI),f.code[k]?=some x->u.cell? ⟨gc,oc+k*4,none⟩=some (.int .i64 x.op)/\u.cell? ⟨gc,oc+k*4+1,none⟩=some (.int .i64 x.a)/\u.cell? ⟨gc,oc+k*4+2,none⟩=some (.int .i64 x.b)/\u.cell? ⟨gc,oc+k*4+3,none⟩=some (.int .i64 x.c)):=fun u hu k x hx=>by
  have i0:=Rd.elem MI.cells_length hcc k x hx 0 _ rfl
  have i1:=Rd.elem MI.cells_length hcc k x hx 1 _ rfl
  have i2:=Rd.elem MI.cells_length hcc k x hx 2 _ rfl
  have i3:=Rd.elem MI.cells_length hcc k x hx 3 _ rfl
  rw[<-hu.cell (aC i0),aS]at i0
  rw[<-hu.cell (aC i1)]at i1
  rw[<-hu.cell (aC i2)]at i2
  rw[<-hu.cell (aC i3)]at i3
  exact⟨i0,i1,i2,i3⟩
 clear hcc
 have hnc:f.code.length<=1024:=HI.o.len
 go_upto_region 17 with fail
 refine Al (fun u=>Hid (Mb w u ⟨.slice r1 p.regions.length r3,.slice k1 p.consts.length k3,.slice (some ⟨gk,ok,none⟩) p.funcs.length f3,.slice (some ⟨gt,ot,none⟩) p.certs.length t3⟩ ⟨.slice b1 l.back.length b3,.slice d1 l.blocks.length d3⟩ l FB r (.slice (some ⟨gb,ob,none⟩) r.blocks.length c1) (.slice v2 r.order.length c2) (.slice v3 r.idom.length c3) (.slice v4 r.loops.length c4)/\Ak u u3.heap.size #[.int .i64 c.func,.int .i64 c.head,.int .i64 c.counter,.int .u32 c.init] 72)) ⟨E5.o.keep (Aa _ _),Ak.new _ _ _⟩ ?_
 rintro U6 E6
 generalize u3.heap.size=CB at E6⊢
 clear E5 p0 p1 p2 p3 i0 i1 i2 i3
 clear u3
 have haI:(ha:Int)<(f.code.length:Int):=by omega
 obtain⟨w0,w1,w2,w3⟩:=HC.o U6 E6.o.1.bel ha x hx
 obtain⟨cc0,cc1,cc2,cc3⟩:=Bq E6.o.2
 by_cases g1:x.op=27
 case neg=>
  go_wp2_with fail
  go_quiet (fail)
  go_wp2
  go_ret
  exact⟨⟨2,rfl,.inr ⟨f,r,HO.o,Au.c2 HG.o fun e=>g1 e.1⟩⟩,Ab E6.o.1.bel lR (Af _ _ _)⟩
 have HG1:Hid (x.op=27):=g1
 rw[g1]at w0
 clear g1
 by_cases g2:x.a=c.counter
 case neg=>
  go_wp2_with fail
  go_quiet (fail)
  go_wp2
  go_ret
  exact⟨⟨2,rfl,.inr ⟨f,r,HO.o,Au.c2 HG.o fun e=>g2 e.2⟩⟩,Ab E6.o.1.bel lR (Af _ _ _)⟩
 have HG2:Hid (x.op=27/\x.a=c.counter):=⟨HG1.o,g2⟩
 rw[g2]at w1
 clear g2 HG1
 have HX:Hid (f.code[ha]?=some x):=hx
 clear hx
 go_wp2_with fail
 go_quiet (fail)
 go_wp2_with fail
 refine Al (fun u=>Hid (Mb w u ⟨.slice r1 p.regions.length r3,.slice k1 p.consts.length k3,.slice (some ⟨gk,ok,none⟩) p.funcs.length f3,.slice (some ⟨gt,ot,none⟩) p.certs.length t3⟩ ⟨.slice b1 l.back.length b3,.slice d1 l.blocks.length d3⟩ l FB r (.slice (some ⟨gb,ob,none⟩) r.blocks.length c1) (.slice v2 r.order.length c2) (.slice v3 r.idom.length c3) (.slice v4 r.loops.length c4)/\Ak u CB #[.int .i64 c.func,.int .i64 c.head,.int .i64 c.counter,.int .u32 c.init] 72)) ⟨E6.o.1.keep (Af _ _ _),E6.o.2.keep (Af _ _ _)⟩ ?_
 clear w0 w1 w2 w3 cc0 cc1 cc2 cc3 E6
 rintro U7 E7
 go_loopw [14] (fun i wr=>∃k:Nat,k<=l.blocks.length/\i=.int .i64 k/\Hid (∀(j:Nat) (z:Int) (m:MB),j<k->l.blocks[j]?=some z->r.blocks[z.toNat]?=some m->∀a,m.first<=a->a<=m.last->¬a=x.c)/\Hid (Mb w wr ⟨.slice r1 p.regions.length r3,.slice k1 p.consts.length k3,.slice (some ⟨gk,ok,none⟩) p.funcs.length f3,.slice (some ⟨gt,ot,none⟩) p.certs.length t3⟩ ⟨.slice b1 l.back.length b3,.slice d1 l.blocks.length d3⟩ l FB r (.slice (some ⟨gb,ob,none⟩) r.blocks.length c1) (.slice v2 r.order.length c2) (.slice v3 r.idom.length c3) (.slice v4 r.loops.length c4)/\Ak wr CB #[.int .i64 c.func,.int .i64 c.head,.int .i64 c.counter,.int .u32 c.init] 72)) (fun i _=>l.blocks.length-(intOf i).toNat)
 case atStart=>exact⟨0,by omega,rfl,fun j z m hj=>absurd hj (by omega),E7⟩
 case round=>
 clear E7
 obtain⟨k,hk,rfl,HT,E8⟩:=hrel
 by_cases hlt:k<l.blocks.length
 case pos=>
  obtain⟨z,hz⟩:∃z,l.blocks[k]?=some z:=⟨_,aA hlt⟩
  obtain⟨bn,ez,hbn⟩:=HBK.o z (aE hz)
  obtain⟨m,hm⟩:∃m,r.blocks[bn]?=some m:=⟨_,aA hbn⟩
  obtain⟨ma,me,ema,eme,hme,hmn⟩:=HI.o.blk bn m hm
  obtain⟨gb',ob',xa,xc,ev,x0,x1,x2,hrb⟩:=FE E8.o.1.rf.blocks hm
  simp only[aR,cR,cw]at ev
  obtain⟨rfl,rfl⟩:=ev
  rw[ema]at x0
  rw[eme]at x1
  rcases H.o.2.2.2.2.1.2.2 with⟨q0,_⟩|⟨gd,od,cd,q1,hcd⟩
  . simp only[]at q0
    omega
  simp only[aF,aw]at q1
  have ed:=q1.1
  clear q1
  have z0:=Rd.elem Ap hcd k z hz 0 _ rfl
  rw[bf,aS,<-E8.o.1.bel.cell (aC z0),ez]at z0
  have HZ:Hid (l.blocks[k]?=some z/\z=(bn:Int)/\r.blocks[bn]?=some m/\m.first=(ma:Int)/\m.last=(me:Int)):=⟨hz,ez,hm,ema,eme⟩
  clear hcd hz ez hm ema eme hrb
  have hbnI:(bn:Int)<(r.blocks.length:Int):=by omega
  obtain⟨o0,o1,o2⟩:=BI E8.o.1.lb
  simp only[ed]at o2
  obtain⟨y0,y1,y2,y3,y4,y5⟩:=DT E8.o.1.fb
  clear y0 y1 y3 y4 y5 o0 o1
  have s1:¬FB=wr.heap.size:=bJ (aC y2)
  have s2:FB<wr.heap.size:=aC y2
  have s3:¬w.heap.size+1=wr.heap.size:=bJ (aC o2)
  have s4:w.heap.size+1<wr.heap.size:=aC o2
  have s5:¬gb=wr.heap.size:=bJ (aC x0)
  have s6:gb<wr.heap.size:=aC x0
  have s7:¬gd=wr.heap.size:=bJ (aC z0)
  have s8:gd<wr.heap.size:=aC z0
  go_upto_region 22 with fail
  go_region
  refine Av (fun u=>Hid ((Mb w u ⟨.slice r1 p.regions.length r3,.slice k1 p.consts.length k3,.slice (some ⟨gk,ok,none⟩) p.funcs.length f3,.slice (some ⟨gt,ot,none⟩) p.certs.length t3⟩ ⟨.slice b1 l.back.length b3,.slice d1 l.blocks.length d3⟩ l FB r (.slice (some ⟨gb,ob,none⟩) r.blocks.length c1) (.slice v2 r.order.length c2) (.slice v3 r.idom.length c3) (.slice v4 r.loops.length c4)/\Ak u CB #[.int .i64 c.func,.int .i64 c.head,.int .i64 c.counter,.int .u32 c.init] 72)/\Ak u wr.heap.size #[.int .i64 (ma:Int),.int .i64 (me:Int),.slice xa m.next.length xc] 58)) ⟨⟨(E8.o.1.keep (Aa _ _)).keep (Ae _),(E8.o.2.keep (Aa _ _)).keep (Ae _)⟩,(Ak.new wr _ _).keep (Ae _)⟩ ?_
  rintro U9 E9
  generalize wr.heap.size=XB at E9⊢
  clear s1 s2 s3 s4 s5 s6 s7 s8 x0 x1 x2 z0 y2 o2 E8 ed
  obtain⟨w0,w1,w2,w3⟩:=HC.o U9 E9.o.1.1.bel ha x HX.o
  obtain⟨x0,x1,x2⟩:=BI E9.o.2
  have HT':Hid (¬(m.first<=x.c/\x.c<=m.last)->∀(j:Nat) (z:Int) (m:MB),j<k+1->l.blocks[j]?=some z->r.blocks[z.toNat]?=some m->∀a,m.first<=a->a<=m.last->¬a=x.c):=fun hno j z' m' hj hz' hm' a ha1 ha2=>by
   by_cases e:j=k
   . subst e
     rw[HZ.o.1]at hz'
     have ez:=ae hz'
     subst ez
     rw[HZ.o.2.1,aG,HZ.o.2.2.1]at hm'
     have em:=ae hm'
     subst em
     intro e
     subst e
     exact hno ⟨ha1,ha2⟩
   . exact HT.o j z' m' (by omega) hz' hm' a ha1 ha2
  by_cases s1:(ma:Int)<=x.c
  case neg=>
   have s1':decide ((ma:Int)<=x.c)=false:=by simpa using s1
   have HS:Hid (¬(m.first<=x.c/\x.c<=m.last)):=fun e=>s1 (by have:=e.1;rw[HZ.o.2.2.2.1]at this;exact this)
   go_wp2_with fail
   go_quiet (fail)
   go_wp2
   go_roundw
   case rel=>exact⟨k+1,by omega,by go_num,HT'.o HS.o,E9.o.1.1.keep (Af _ _ _),E9.o.1.2.keep (Af _ _ _)⟩
   case measure=>simp[intOf];omega
  by_cases s2:x.c<=(me:Int)
  case neg=>
   have HS:Hid (¬(m.first<=x.c/\x.c<=m.last)):=fun e=>s2 (by have:=e.2;rw[HZ.o.2.2.2.2]at this;exact this)
   go_wp2_with fail
   go_quiet (fail)
   go_wp2
   go_roundw
   case rel=>exact⟨k+1,by omega,by go_num,HT'.o HS.o,E9.o.1.1.keep (Af _ _ _),E9.o.1.2.keep (Af _ _ _)⟩
   case measure=>simp[intOf];omega
  have HS:Hid (Cb r.blocks l.blocks x.c):=Qr HZ.o.1 HZ.o.2.1 HZ.o.2.2.1 (by rw[HZ.o.2.2.2.1];exact s1) (by rw[HZ.o.2.2.2.2];exact s2)
  go_wp2_with fail
  go_quiet (fail)
  go_wp2
  go_ret
  exact⟨⟨3,rfl,.inr ⟨f,r,HO.o,Au.c3 HG.o HG2.o HS.o⟩⟩,Ab E9.o.1.1.bel lR (Af _ _ _)⟩
 have hkn:k=l.blocks.length:=by omega
 subst hkn
 have H3:Hid (¬Cb r.blocks l.blocks x.c):=fun e=>JM (P:=fun a=>a=x.c) (fun j z m hz hm=>HT.o j z m (aD.1 hz).1 hz hm) ⟨x.c,e,rfl⟩
 clear HT hlt hk
 have E7:=E8
 clear E8
 obtain⟨o0,o1,o2⟩:=BI E7.o.1.lb
 go_wp2_with fail
 go_loopw [16] (fun i wr=>∃k:Nat,k<=l.blocks.length/\i=.int .i64 k/\Hid (∀(j:Nat) (z:Int) (m:MB),j<k->l.blocks[j]?=some z->r.blocks[z.toNat]?=some m->∀a,m.first<=a->a<=m.last->¬(a≠hb.first/\FM f.code c.counter a))/\Hid (Mb w wr ⟨.slice r1 p.regions.length r3,.slice k1 p.consts.length k3,.slice (some ⟨gk,ok,none⟩) p.funcs.length f3,.slice (some ⟨gt,ot,none⟩) p.certs.length t3⟩ ⟨.slice b1 l.back.length b3,.slice d1 l.blocks.length d3⟩ l FB r (.slice (some ⟨gb,ob,none⟩) r.blocks.length c1) (.slice v2 r.order.length c2) (.slice v3 r.idom.length c3) (.slice v4 r.loops.length c4)/\Ak wr CB #[.int .i64 c.func,.int .i64 c.head,.int .i64 c.counter,.int .u32 c.init] 72)) (fun i _=>l.blocks.length-(intOf i).toNat)
 case atStart=>exact⟨0,by omega,rfl,fun j z m hj=>absurd hj (by omega),E7⟩
 case round=>
 clear E7 o0 o1 o2
 obtain⟨k,hk,rfl,HT,E8⟩:=hrel
 by_cases hlt:k<l.blocks.length
 case pos=>
  obtain⟨z,hz⟩:∃z,l.blocks[k]?=some z:=⟨_,aA hlt⟩
  obtain⟨bn,ez,hbn⟩:=HBK.o z (aE hz)
  obtain⟨m,hm⟩:∃m,r.blocks[bn]?=some m:=⟨_,aA hbn⟩
  obtain⟨ma,me,ema,eme,hme,hmn⟩:=HI.o.blk bn m hm
  obtain⟨gb',ob',xa,xc,ev,x0,x1,x2,hrb⟩:=FE E8.o.1.rf.blocks hm
  simp only[aR,cR,cw]at ev
  obtain⟨rfl,rfl⟩:=ev
  rw[ema]at x0
  rw[eme]at x1
  rcases H.o.2.2.2.2.1.2.2 with⟨q0,_⟩|⟨gd,od,cd,q1,hcd⟩
  . simp only[]at q0
    omega
  simp only[aF,aw]at q1
  have ed:=q1.1
  clear q1
  have z0:=Rd.elem Ap hcd k z hz 0 _ rfl
  rw[bf,aS,<-E8.o.1.bel.cell (aC z0),ez]at z0
  have HZ:Hid (l.blocks[k]?=some z/\z=(bn:Int)/\r.blocks[bn]?=some m/\m.first=(ma:Int)/\m.last=(me:Int)):=⟨hz,ez,hm,ema,eme⟩
  clear hcd hz ez hm ema eme hrb
  have hbnI:(bn:Int)<(r.blocks.length:Int):=by omega
  obtain⟨o0,o1,o2⟩:=BI E8.o.1.lb
  simp only[ed]at o2
  obtain⟨y0,y1,y2,y3,y4,y5⟩:=DT E8.o.1.fb
  clear y0 y1 y3 y4 y5 o0 o1
  have s1:¬FB=wr.heap.size:=bJ (aC y2)
  have s2:FB<wr.heap.size:=aC y2
  have s3:¬w.heap.size+1=wr.heap.size:=bJ (aC o2)
  have s4:w.heap.size+1<wr.heap.size:=aC o2
  have s5:¬gb=wr.heap.size:=bJ (aC x0)
  have s6:gb<wr.heap.size:=aC x0
  have s7:¬gd=wr.heap.size:=bJ (aC z0)
  have s8:gd<wr.heap.size:=aC z0
  go_upto_region 28 with fail
  go_region
  refine Av (fun u=>Hid ((Mb w u ⟨.slice r1 p.regions.length r3,.slice k1 p.consts.length k3,.slice (some ⟨gk,ok,none⟩) p.funcs.length f3,.slice (some ⟨gt,ot,none⟩) p.certs.length t3⟩ ⟨.slice b1 l.back.length b3,.slice d1 l.blocks.length d3⟩ l FB r (.slice (some ⟨gb,ob,none⟩) r.blocks.length c1) (.slice v2 r.order.length c2) (.slice v3 r.idom.length c3) (.slice v4 r.loops.length c4)/\Ak u CB #[.int .i64 c.func,.int .i64 c.head,.int .i64 c.counter,.int .u32 c.init] 72)/\Ak u wr.heap.size #[.int .i64 (ma:Int),.int .i64 (me:Int),.slice xa m.next.length xc] 58)) ⟨⟨(E8.o.1.keep (Aa _ _)).keep (Ae _),(E8.o.2.keep (Aa _ _)).keep (Ae _)⟩,(Ak.new wr _ _).keep (Ae _)⟩ ?_
  rintro U9 E9
  generalize wr.heap.size=XB at E9⊢
  clear s1 s2 s3 s4 s5 s6 s7 s8 x0 x1 x2 z0 y2 o2 E8 ed
  obtain⟨x0,x1,x2⟩:=BI E9.o.2
  go_wp2_with fail
  go_loopw [18] (fun i wr=>∃d:Nat,ma<=d/\d<=me+1/\i=.int .i64 d/\Hid (∀a:Int,(ma:Int)<=a->a<(d:Int)->¬(a≠hb.first/\FM f.code c.counter a))/\Hid ((Mb w wr ⟨.slice r1 p.regions.length r3,.slice k1 p.consts.length k3,.slice (some ⟨gk,ok,none⟩) p.funcs.length f3,.slice (some ⟨gt,ot,none⟩) p.certs.length t3⟩ ⟨.slice b1 l.back.length b3,.slice d1 l.blocks.length d3⟩ l FB r (.slice (some ⟨gb,ob,none⟩) r.blocks.length c1) (.slice v2 r.order.length c2) (.slice v3 r.idom.length c3) (.slice v4 r.loops.length c4)/\Ak wr CB #[.int .i64 c.func,.int .i64 c.head,.int .i64 c.counter,.int .u32 c.init] 72)/\Ak wr XB #[.int .i64 (ma:Int),.int .i64 (me:Int),.slice xa m.next.length xc] 58)) (fun i _=>me+1-(intOf i).toNat)
  case atStart=>exact⟨ma,by omega,by omega,rfl,fun a h1 h2=>absurd h2 (by omega),E9⟩
  case round=>
  clear E9 x0 x1 x2
  obtain⟨d,hd1,hd2,rfl,HD,E9⟩:=hrel
  obtain⟨x0,x1,x2⟩:=BI E9.o.2
  by_cases hle:d<=me
  case pos=>
   obtain⟨⟨yo,ya,yb,yc⟩,hy⟩:∃y,f.code[d]?=some y:=⟨_,aA (by omega)⟩
   obtain⟨w0,w1,w2,w3⟩:=HC.o wr E9.o.1.1.bel d _ hy
   simp only[]at w0 w1 w2 w3
   have HY:Hid (f.code[d]?=some ⟨yo,ya,yb,yc⟩):=hy
   clear hy
   have hleI:(d:Int)<=(me:Int):=by omega
   have hdI:(d:Int)<(f.code.length:Int):=by omega
   have s1:¬gc=wr.heap.size:=bJ (aC w0)
   have s2:gc<wr.heap.size:=aC w0
   go_upto_region 33 with fail
   refine Al (fun u=>Hid (((Mb w u ⟨.slice r1 p.regions.length r3,.slice k1 p.consts.length k3,.slice (some ⟨gk,ok,none⟩) p.funcs.length f3,.slice (some ⟨gt,ot,none⟩) p.certs.length t3⟩ ⟨.slice b1 l.back.length b3,.slice d1 l.blocks.length d3⟩ l FB r (.slice (some ⟨gb,ob,none⟩) r.blocks.length c1) (.slice v2 r.order.length c2) (.slice v3 r.idom.length c3) (.slice v4 r.loops.length c4)/\Ak u CB #[.int .i64 c.func,.int .i64 c.head,.int .i64 c.counter,.int .u32 c.init] 72)/\Ak u XB #[.int .i64 (ma:Int),.int .i64 (me:Int),.slice xa m.next.length xc] 58)/\Ak u wr.heap.size #[.int .i64 yo,.int .i64 ya,.int .i64 yb,.int .i64 yc] 60)) ⟨⟨⟨E9.o.1.1.keep (Aa _ _),E9.o.1.2.keep (Aa _ _)⟩,E9.o.2.keep (Aa _ _)⟩,Ak.new _ _ _⟩ ?_
   rintro UA EA
   generalize wr.heap.size=YB at EA⊢
   clear s1 s2 w0 w1 w2 w3 E9 x0 x1 x2
   obtain⟨w0,w1,w2,w3⟩:=Bq EA.o.2
   obtain⟨cc0,cc1,cc2,cc3⟩:=Bq EA.o.1.1.2
   have HD':Hid (¬(((d:Int)≠hb.first)/\FM f.code c.counter (d:Int))->∀a:Int,(ma:Int)<=a->a<((d+1:Nat):Int)->¬(a≠hb.first/\FM f.code c.counter a)):=fun hno a h1 h2=>by
    by_cases e:a=(d:Int)
    . subst e
      exact hno
    . exact HD.o a h1 (by omega)
   have HW:Hid (FM f.code c.counter (d:Int)↔(yo=3\/yo=27)/\ya=c.counter):=by
    constructor
    . rintro⟨y,hy,h1,h2⟩
      rw[aG,HY.o]at hy
      have ey:=ae hy
      subst ey
      exact⟨h1,h2⟩
    . rintro⟨h1,h2⟩
      exact⟨_,by rw[aG];exact HY.o,h1,h2⟩
   by_cases g0:d=ha
   case pos=>
    have g0':(d:Int)=(ha:Int):=by omega
    have HNO:Hid (¬(((d:Int)≠hb.first)/\FM f.code c.counter (d:Int))):=fun e=>e.1 (by rw[HHB.o.2.1];exact g0')
    subst g0
    clear g0'
    go_wp2
    go_roundw
    case rel=>exact⟨d+1,by omega,by omega,by go_num,HD'.o HNO.o,EA.o.1⟩
    case measure=>simp[intOf];omega
   have g0':¬(d:Int)=(ha:Int):=by omega
   have HNE:Hid ((d:Int)≠hb.first):=by
    show(d:Int)≠hb.first
    rw[HHB.o.2.1]
    exact g0'
   by_cases g1:yo=3\/yo=27
   case neg=>
    have g2:¬yo=3:=fun e=>g1 (.inl e)
    have g3:¬yo=27:=fun e=>g1 (.inr e)
    have HNO:Hid (¬(((d:Int)≠hb.first)/\FM f.code c.counter (d:Int))):=fun e=>g1 (HW.o.1 e.2).1
    clear g1
    go_wp2
    go_roundw
    case rel=>exact⟨d+1,by omega,by omega,by go_num,HD'.o HNO.o,EA.o.1⟩
    case measure=>simp[intOf];omega
   by_cases g4:ya=c.counter
   case neg=>
    have g4':(ya==c.counter)=false:=by simp[g4]
    have HNO:Hid (¬(((d:Int)≠hb.first)/\FM f.code c.counter (d:Int))):=fun e=>g4 (HW.o.1 e.2).2
    rcases g1 with g1|g1
    . rw[g1]at w0
      go_wp2
      go_roundw
      case rel=>exact⟨d+1,by omega,by omega,by go_num,HD'.o HNO.o,EA.o.1⟩
      case measure=>simp[intOf];omega
    . rw[g1]at w0
      go_wp2
      go_roundw
      case rel=>exact⟨d+1,by omega,by omega,by go_num,HD'.o HNO.o,EA.o.1⟩
      case measure=>simp[intOf];omega
   have H4:Hid (∃a,Cb r.blocks l.blocks a/\a≠hb.first/\FM f.code c.counter a):=⟨(d:Int),Qr HZ.o.1 HZ.o.2.1 HZ.o.2.2.1 (by rw[HZ.o.2.2.2.1];omega) (by rw[HZ.o.2.2.2.2];omega),HNE.o,HW.o.2 ⟨g1,g4⟩⟩
   rw[g4]at w1
   rcases g1 with g1|g1
   . rw[g1]at w0
     go_wp2
     go_ret
     exact⟨⟨4,rfl,.inr ⟨f,r,HO.o,Au.c4 HG.o HG2.o H3.o H4.o⟩⟩,EA.o.1.1.1.bel⟩
   . rw[g1]at w0
     go_wp2
     go_ret
     exact⟨⟨4,rfl,.inr ⟨f,r,HO.o,Au.c4 HG.o HG2.o H3.o H4.o⟩⟩,EA.o.1.1.1.bel⟩
  have hdn:d=me+1:=by omega
  have hleI:¬(d:Int)<=(me:Int):=by omega
  have HT':Hid (∀(j:Nat) (z:Int) (m:MB),j<k+1->l.blocks[j]?=some z->r.blocks[z.toNat]?=some m->∀a,m.first<=a->a<=m.last->¬(a≠hb.first/\FM f.code c.counter a)):=fun j z' m' hj hz' hm' a ha1 ha2=>by
   by_cases e:j=k
   . subst e
     rw[HZ.o.1]at hz'
     have ez:=ae hz'
     subst ez
     rw[HZ.o.2.1,aG,HZ.o.2.2.1]at hm'
     have em:=ae hm'
     subst em
     rw[HZ.o.2.2.2.1]at ha1
     rw[HZ.o.2.2.2.2]at ha2
     exact HD.o a ha1 (by omega)
   . exact HT.o j z' m' (by omega) hz' hm' a ha1 ha2
  go_wp2
  go_roundw
  case rel=>exact⟨k+1,by omega,by go_num,HT'.o,E9.o.1⟩
  case measure=>simp[intOf];omega
 have hkn:k=l.blocks.length:=by omega
 subst hkn
 have H4:Hid (¬∃a,Cb r.blocks l.blocks a/\a≠hb.first/\FM f.code c.counter a):=JM (P:=fun a=>a≠hb.first/\FM f.code c.counter a) (fun j z m hz hm=>HT.o j z m (aD.1 hz).1 hz hm)
 clear HT hlt hk
 obtain⟨o0,o1,o2⟩:=BI E8.o.1.lb
 rw[HHB.o.2.2]at o0
 by_cases hh0:hh=0
 case pos=>
  subst hh0
  have H5:Hid (l.head=0):=HHB.o.2.2
  go_wp2
  go_ret
  exact⟨⟨5,rfl,.inr ⟨f,r,HO.o,Au.c5 HG.o HG2.o H3.o H4.o (.inl H5.o)⟩⟩,E8.o.1.bel⟩
 have hh0':¬(hh:Int)=0:=by omega
 have hnb:r.blocks.length<=1024:=HI.o.nb
 have E7:=E8
 clear E8
 go_wp2_with fail
 clear o0 o1 o2
 go_loopw [20] (fun i wr=>∃k:Nat,k<=r.blocks.length/\i=.int .i64 k/\Hid (∀(j:Nat) (m:MB),j<k->r.blocks[j]?=some m->¬(l.head∈m.next/\¬((j:Int)∈l.blocks)/\¬AL p.consts f.code m c))/\Hid (Mb w wr ⟨.slice r1 p.regions.length r3,.slice k1 p.consts.length k3,.slice (some ⟨gk,ok,none⟩) p.funcs.length f3,.slice (some ⟨gt,ot,none⟩) p.certs.length t3⟩ ⟨.slice b1 l.back.length b3,.slice d1 l.blocks.length d3⟩ l FB r (.slice (some ⟨gb,ob,none⟩) r.blocks.length c1) (.slice v2 r.order.length c2) (.slice v3 r.idom.length c3) (.slice v4 r.loops.length c4)/\Ak wr CB #[.int .i64 c.func,.int .i64 c.head,.int .i64 c.counter,.int .u32 c.init] 72)) (fun i _=>r.blocks.length-(intOf i).toNat)
 case atStart=>exact⟨0,by omega,rfl,fun j m hj=>absurd hj (by omega),E7⟩
 case round=>
 clear E7
 obtain⟨k,hk,rfl,HT,E8⟩:=hrel
 obtain⟨y0,y1,y2,y3,y4,y5⟩:=DT E8.o.1.fb
 by_cases hlt:k<r.blocks.length
 case pos=>
  obtain⟨m,hm⟩:∃m,r.blocks[k]?=some m:=⟨_,aA hlt⟩
  obtain⟨gb',ob',xa,xc,ev,x0,x1,x2,hrb⟩:=FE E8.o.1.rf.blocks hm
  simp only[aR,cR,cw]at ev
  obtain⟨rfl,rfl⟩:=ev
  have HM:Hid (r.blocks[k]?=some m/\NM wr (.slice xa m.next.length xc) m/\Rd wr 1 (.slice d1 l.blocks.length d3) l.blocks.length (l.blocks.flatMap Ac)):=⟨hm,hrb,(H.o.2.2.2.2.1.keep E8.o.1.bel lR).2⟩
  have HN2:Hid (m.next.length<=1048576/\l.blocks.length<=1048576):=⟨by have:=HI.o.two m (aE hm);omega,H.o.2.2.2.2.2.2⟩
  have HT':Hid (¬(l.head∈m.next/\¬((k:Int)∈l.blocks)/\¬AL p.consts f.code m c)->∀(j:Nat) (m:MB),j<k+1->r.blocks[j]?=some m->¬(l.head∈m.next/\¬((j:Int)∈l.blocks)/\¬AL p.consts f.code m c)):=fun hno j m' hj hm'=>by
   by_cases e:j=k
   . subst e
     rw[HM.o.1]at hm'
     have em:=ae hm'
     subst em
     exact hno
   . exact HT.o j m' (by omega) hm'
  clear hm hrb
  obtain⟨o0,o1,o2⟩:=BI E8.o.1.lb
  rw[HHB.o.2.2]at o0
  obtain⟨p0,p1,p2,p3⟩:=Em E8.o.1.pb
  obtain⟨cc0,cc1,cc2,cc3⟩:=Bq E8.o.2
  have hkI:(k:Int)<(r.blocks.length:Int):=by omega
  go_upto_region 40 with fail
  have inst:=Ai.some wr
  have Y2:=fun n':Ai wr=>Ai.cell y2 n'
  have X0:=fun n':Ai wr=>Ai.cell x0 n'
  have X1:=fun n':Ai wr=>Ai.cell x1 n'
  have X2:=fun n':Ai wr=>Ai.cell x2 n'
  have O0:=fun n':Ai wr=>Ai.cell o0 n'
  have O2:=fun n':Ai wr=>Ai.cell o2 n'
  have P0:=fun n':Ai wr=>Ai.cell p0 n'
  have P1:=fun n':Ai wr=>Ai.cell p1 n'
  have P2:=fun n':Ai wr=>Ai.cell p2 n'
  have P3:=fun n':Ai wr=>Ai.cell p3 n'
  have C0:=fun n':Ai wr=>Ai.cell cc0 n'
  have C1:=fun n':Ai wr=>Ai.cell cc1 n'
  have C2:=fun n':Ai wr=>Ai.cell cc2 n'
  have C3:=fun n':Ai wr=>Ai.cell cc3 n'
  clear y0 y1 y2 y3 y4 y5 x0 x1 x2 o0 o1 o2 p0 p1 p2 p3 cc0 cc1 cc2 cc3
  by_cases q1:l.head∈m.next
  case neg=>
   have HQ:Hid (¬(hh:Int)∈m.next/\¬(l.head∈m.next/\¬((k:Int)∈l.blocks)/\¬AL p.consts f.code m c)):=⟨by rw[<-HHB.o.2.2];exact q1,fun e=>q1 e.1⟩
   clear q1
   refine At (by kernel_rfl) (by kernel_rfl) ?_
   repeat(go_big_quiet_step (fail))
   go_big_quiet_step ((go_at_call 49;rename_i n';exact(CZ (.slice xa m.next.length xc) m.next (hh:Int) n'.u HN2.o.1 (Rd.keep HM.o.2.1 n'.h lR)).mono fun e w'' hh=>⟨hh.1.false HQ.o.1,⟨n',hh.2⟩⟩))
   repeat(go_big_quiet_step (fail))
   refine wpQuiet_nil ?_
   rintro w'' ⟨n',rfl⟩
   go_wp2
   go_roundw
   case rel=>exact⟨k+1,by omega,by go_num,HT'.o HQ.o.2,E8.o.1.keep n'.h,E8.o.2.keep n'.h⟩
   case measure=>simp[intOf];omega
  have HQ1:Hid ((hh:Int)∈m.next):=by rw[<-HHB.o.2.2];exact q1
  by_cases q2:(k:Int)∈l.blocks
  case pos=>
   have HQ2:Hid ((k:Int)∈l.blocks/\¬(l.head∈m.next/\¬((k:Int)∈l.blocks)/\¬AL p.consts f.code m c)):=⟨q2,fun e=>e.2.1 q2⟩
   clear q1 q2
   refine At (by kernel_rfl) (by kernel_rfl) ?_
   repeat(go_big_quiet_step (fail))
   go_big_quiet_step ((go_at_call 49;rename_i n';exact(CZ (.slice xa m.next.length xc) m.next (hh:Int) n'.u HN2.o.1 (Rd.keep HM.o.2.1 n'.h lR)).mono fun e w'' hh=>⟨hh.1.true HQ1.o,⟨n',hh.2⟩⟩))
   repeat(go_big_quiet_step (fail))
   go_big_quiet_step ((go_at_call 49;rename_i n';exact(CZ (.slice d1 l.blocks.length d3) l.blocks (k:Int) n'.u HN2.o.2 (Rd.keep HM.o.2.2 n'.h lR)).mono fun e w'' hh=>⟨hh.1.true HQ2.o.1,⟨n',hh.2⟩⟩))
   repeat(go_big_quiet_step (fail))
   refine wpQuiet_nil ?_
   rintro w'' ⟨n',rfl⟩
   go_wp2
   go_roundw
   case rel=>exact⟨k+1,by omega,by go_num,HT'.o HQ2.o.2,E8.o.1.keep n'.h,E8.o.2.keep n'.h⟩
   case measure=>simp[intOf];omega
  have HQ2:Hid (¬(k:Int)∈l.blocks):=q2
  have HK:Hid ((∀y∈f.code,y.op=1->0<=y.a/\y.a.toNat<p.consts.length)/\(∃a e:Nat,m.first=(a:Int)/\m.last=(e:Int)/\a<=e/\e<f.code.length)):=⟨fun y hy hop=>by
   obtain⟨j,hj⟩:=bH hy
   obtain⟨qq,zz,e1,e2⟩:=(HFA.o.instr HF.o.1 hj).const hop
   rw[e1,aG]
   exact⟨by omega,(aD.1 e2).1⟩,HI.o.blk k m HM.o.1⟩
  by_cases q3:AL p.consts f.code m c
  case pos=>
   have HQ3:Hid (AL p.consts f.code m c/\¬(l.head∈m.next/\¬((k:Int)∈l.blocks)/\¬AL p.consts f.code m c)):=⟨q3,fun e=>e.2.2 q3⟩
   clear q1 q2 q3
   refine At (by kernel_rfl) (by kernel_rfl) ?_
   repeat(go_big_quiet_step (fail))
   go_big_quiet_step ((go_at_call 49;rename_i n';exact(CZ (.slice xa m.next.length xc) m.next (hh:Int) n'.u HN2.o.1 (Rd.keep HM.o.2.1 n'.h lR)).mono fun e w'' hh=>⟨hh.1.true HQ1.o,⟨n',hh.2⟩⟩))
   repeat(go_big_quiet_step (fail))
   go_big_quiet_step ((go_at_call 49;rename_i n';exact(CZ (.slice d1 l.blocks.length d3) l.blocks (k:Int) n'.u HN2.o.2 (Rd.keep HM.o.2.2 n'.h lR)).mono fun e w'' hh=>⟨hh.1.false HQ2.o,⟨n',hh.2⟩⟩))
   repeat(go_big_quiet_step (fail))
   go_big_quiet_step ((go_at_call 50;rename_i n';exact(Iv ⟨.slice r1 p.regions.length r3,.slice k1 p.consts.length k3,.slice (some ⟨gk,ok,none⟩) p.funcs.length f3,.slice (some ⟨gt,ot,none⟩) p.certs.length t3⟩ p (.slice (some ⟨gc,oc,none⟩) f.code.length g9) (.slice xa m.next.length xc) f.code m c n'.u H.o.1 (H.o.2.2.2.1.keep (Ab E8.o.1.bel lR n'.h) lR) HF.o.2.1.2.2 (Rd.keep HF.o.2.2.1.2.2 (Ab E8.o.1.bel lR n'.h) lR) HK.o.1 HK.o.2).mono fun e w'' hh=>⟨hh.1.true HQ3.o.1,⟨⟨w'',Ab n'.h lR hh.2⟩,rfl⟩⟩))
   repeat(go_big_quiet_step (fail))
   refine wpQuiet_nil ?_
   rintro w'' ⟨n',rfl⟩
   go_wp2
   go_roundw
   case rel=>exact⟨k+1,by omega,by go_num,HT'.o HQ3.o.2,E8.o.1.keep n'.h,E8.o.2.keep n'.h⟩
   case measure=>simp[intOf];omega
  have HQ3:Hid (¬AL p.consts f.code m c/\(l.head=0\/GO p.consts f.code r.blocks l c)):=⟨q3,.inr ⟨k,m,HM.o.1,q1,q2,q3⟩⟩
  clear q1 q2 q3
  refine At (by kernel_rfl) (by kernel_rfl) ?_
  repeat(go_big_quiet_step (fail))
  go_big_quiet_step ((go_at_call 49;rename_i n';exact(CZ (.slice xa m.next.length xc) m.next (hh:Int) n'.u HN2.o.1 (Rd.keep HM.o.2.1 n'.h lR)).mono fun e w'' hh=>⟨hh.1.true HQ1.o,⟨n',hh.2⟩⟩))
  repeat(go_big_quiet_step (fail))
  go_big_quiet_step ((go_at_call 49;rename_i n';exact(CZ (.slice d1 l.blocks.length d3) l.blocks (k:Int) n'.u HN2.o.2 (Rd.keep HM.o.2.2 n'.h lR)).mono fun e w'' hh=>⟨hh.1.false HQ2.o,⟨n',hh.2⟩⟩))
  repeat(go_big_quiet_step (fail))
  go_big_quiet_step ((go_at_call 50;rename_i n';exact(Iv ⟨.slice r1 p.regions.length r3,.slice k1 p.consts.length k3,.slice (some ⟨gk,ok,none⟩) p.funcs.length f3,.slice (some ⟨gt,ot,none⟩) p.certs.length t3⟩ p (.slice (some ⟨gc,oc,none⟩) f.code.length g9) (.slice xa m.next.length xc) f.code m c n'.u H.o.1 (H.o.2.2.2.1.keep (Ab E8.o.1.bel lR n'.h) lR) HF.o.2.1.2.2 (Rd.keep HF.o.2.2.1.2.2 (Ab E8.o.1.bel lR n'.h) lR) HK.o.1 HK.o.2).mono fun e w'' hh=>⟨hh.1.false HQ3.o.1,⟨⟨w'',Ab n'.h lR hh.2⟩,rfl⟩⟩))
  repeat(go_big_quiet_step (fail))
  refine wpQuiet_nil ?_
  rintro w'' ⟨n',rfl⟩
  go_wp2
  go_ret
  exact⟨⟨5,rfl,.inr ⟨f,r,HO.o,Au.c5 HG.o HG2.o H3.o H4.o HQ3.o.2⟩⟩,Ab E8.o.1.bel lR n'.h⟩
 have hkn:k=r.blocks.length:=by omega
 subst hkn
 have H5:Hid (¬(l.head=0\/GO p.consts f.code r.blocks l c)):=fun e=>by
  rcases e with e|⟨j,m,hm,h1,h2,h3⟩
  . rw[HHB.o.2.2]at e
    exact hh0' e
  . exact HT.o j m (aD.1 hm).1 hm ⟨h1,h2,h3⟩
 clear HT
 go_wp2
 go_ret
 exact⟨⟨0,rfl,.inr ⟨f,r,HO.o,Au.c0 HG.o HG2.o H3.o H4.o H5.o⟩⟩,E8.o.1.bel⟩
end Go.Proofs.YtdipfjmlfbdkdaaGreat
