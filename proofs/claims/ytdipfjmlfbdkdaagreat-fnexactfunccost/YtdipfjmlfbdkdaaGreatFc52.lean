import Derived.Test.YtdipfjmlfbdkdaaGreatFc51
namespace Go.Proofs.YtdipfjmlfbdkdaaGreat
open Go.ChangeShapes Go.WideShapes Go.ChangeAt Go.RowKit
set_option linter.unusedVariables false
set_option maxHeartbeats 8000000
set_option maxRecDepth 100000
theorem Of{ys:List (ML×Value×Value)}{y:ML×Value×Value}(h:y∈ys):(y.2.1,y.1.back)∈Df ys/\(y.2.2,y.1.blocks)∈Df ys:=⟨dO.2 ⟨y,h,by simp⟩,dO.2 ⟨y,h,by simp⟩⟩
theorem Cq.rd{w:World}{base:Nat}{vb vo vi vl:Value}{F:List (MB×Value)}{ys:List (ML×Value×Value)}{r:Dm}(h:Cq w base vb vo vi vl F ys r):Ey w vb vo vi vl r:=by
 have hbl:F.length=r.blocks.length:=by rw[<-h.eb,a7]
 have hll:ys.length=r.loops.length:=by rw[<-h.el,a7]
 refine⟨⟨F,h.eb,?_,fun x hx=> ?_⟩,Rd.of_own (h.fam.own (vo,r.order) (by simp)),Rd.of_own (h.fam.own (vi,r.idom) (by simp)),⟨ys,h.el,?_,fun y hy=> ?_⟩⟩
 . rw[<-hbl]
   exact Rd.of_own h.brow
 . exact Rd.of_own (h.fam.own (x.2,x.1.next) (by
    refine aU.2 (.inl ?_);unfold Cw;exact de (f:=fun x=>(x.2,x.1.next)) hx))
 . rw[<-hll]
   exact Rd.of_own h.lrow
 . have:=Of hy
   exact⟨Rd.of_own (h.fam.own (y.2.1,y.1.back) (aU.2 (.inr (by simp[this.1])))),Rd.of_own (h.fam.own (y.2.2,y.1.blocks) (aU.2 (.inr (by simp[this.2]))))⟩
def OH(w:World)(s:Value)(fs:List MF):Prop:=∃ys:List (MF×VF),ys.map Prod.fst=fs/\Rd w 4 s fs.length (ys.flatMap Bi)/\∀z∈ys,∃a c,z.2.c=.slice a z.1.code.length c/\z.1.code.length<=c
theorem CI.rdk{w:World}{base:Nat}{s:Value}{fs:List MF}(h:CI w base s fs):OH w s fs:=by
 obtain⟨xs,h1,h2,h3⟩:=h;exact⟨xs,h1,Rd.of_own h2,fun x hx=>Lx (h3 x hx).2.2⟩
theorem OH.at{w:World}{s:Value}{fs:List MF}(h:OH w s fs){q:Nat}{f:MF}(hq:fs[q]?=some f){gk ok ck:Nat}(es:s=.slice (some ⟨gk,ok,none⟩) fs.length ck):∃a c,w.cell? ⟨gk,ok+q*4+3,none⟩=some (.slice a f.code.length c)/\f.code.length<=c:=by
 obtain⟨ys,h1,h2,h3⟩:=h;have hlt:=(aD.1 hq).1
 obtain⟨z,hz,ez⟩:∃z,ys[q]?=some z/\z.1=f:=by
  rw[<-h1,bB]at hq;exact cY.1 hq
 subst ez;obtain⟨a,c,e1,e2⟩:=h3 z (aE hz);rcases h2.2 with⟨e0,_⟩|⟨g,o,cc,e3,hc⟩
 . omega
 rw[es]at e3;simp only[aF,aR,cR,cw,aw]at e3;obtain⟨⟨rfl,rfl⟩,_⟩:=e3;have i3:=Rd.elem Ah hc q z hz 3 _ rfl;rw[e1]at i3;exact⟨a,c,i3,e2⟩
theorem Nh.of{w:World}{v:Bz}{p:MP}{fi:Int}{F:List (MB×Value)}{xs:List MI}{r:Dm}{costs:List Int}{ca:Option Addr}{cc:Nat}{vi vl:Value}(hB:Ow w v p fi F xs r)(hfl:AR xs r)(h0:r.code=0)(hrd:Ey w (.slice v.b.a v.b.n v.b.c) (.slice v.o.a v.o.n v.o.c) vi vl r)(hcl:costs.length<=1048576)(hck:Rd w 1 (.slice ca costs.length cc) costs.length (costs.flatMap Ac))(hx:∀x∈xs,x.op=28->0<=x.a)(hiv:∀t∈p.certs,CW t.init):∃O D L,Nh w v p fi F xs r costs ca cc O D L:=by
 obtain⟨gb,ob,cb,go,oo,co,O,D,L,e1,e2,hn,hg,hG⟩:=K8 hfl h0 hrd;simp only[aF]at e1 e2;have hGF:=hG ⟨0,0,gb,ob,0,go,oo,0,.bool true,.bool true,0,0,0,0⟩ rfl rfl rfl rfl;have hnd:O.reverse.Nodup:=List.pairwise_reverse.2 (hg.nd.imp Ne.symm);refine⟨O,D,L,hB,hg,⟨⟨gb,ob,e1.1,e1.2.1,hGF.gr⟩,hGF.eb,fun b=>aY (hGF.sz b) (by omega),⟨go,oo,e2.1,by rw[e2.2.1,hGF.ol],hGF.ord⟩,hGF.ob,by rw[hGF.ol];exact hB.inn.nb,fun b hb=>FK ((hg.om b).2 hb),fun k b hk=> ?_⟩,fun b m hm=> ?_,hn,hcl,hck,hx,hiv⟩
 . have h1:O.reverse[B8 O b]?=some b:=FK (cW.1 (aE hk))
   exact(List.getElem?_inj (aD.1 h1).1 hnd).1 (h1.trans hk.symm)
 . cases hfl with
   |none _=>cases h0
   |off _ _ _=>cases h0
   |lost _ _ _ _ _ _ _ _=>cases h0
   |two _ _ _ _ _ _ _ _=>cases h0
   |good g=>exact NC g hm
theorem IU(sa:Option Addr)(sc n:Nat)(ys:List Int)(w:World)(hn:ys.length=n)(hl:ys.length<=1048576)(h:Rd w 1 (.slice sa n sc) n (ys.flatMap Ac)):
 Calls Tryz.prog 7 #[.slice sa n sc] w fun e w'=>∃a c,e=.returned (.slice a n c)/\Rd w' 1 (.slice a n c) n (ys.flatMap Ac)/\Below w.heap.size w w':=
 (Gm (.slice sa n sc) n ys w (by omega) h hn).mono fun e w' ⟨h1,h2,h3⟩=>⟨_,_,h1,Rd.of_own h2,h3⟩
theorem Ki(v:VP)(p:MP)(fi:Int)(ca:Option Addr)(cc:Nat)(costs:List Int)(n:Nat)(w:World)(hs:p.small)(hw:p.wf)(h:Dg w v p)(hcap:Fo w v.r p.regions)(hfp:Gt w v.f p.funcs)(hfk:OH w v.f p.funcs)(hcl:costs.length<=1048576)(hn:costs.length=n)(hck:Rd w 1 (.slice ca n cc) n (costs.flatMap Ac)):
 Calls Tryz.prog 8 #[.agg #[v.r,v.k,v.f,v.t],.int .i64 fi,.slice ca n cc] w fun e w'=>(∃n,e=.returned (.int .i64 n)/\CC p fi costs n)/\Below w.heap.size w w':=by
 have H:Hid (p.small/\p.wf/\Dg w v p/\Fo w v.r p.regions/\Gt w v.f p.funcs/\OH w v.f p.funcs):=⟨hs,hw,h,hcap,hfp,hfk⟩
 have HC:Hid (costs.length<=1048576/\costs.length=n/\Rd w 1 (.slice ca n cc) n (costs.flatMap Ac)):=⟨hcl,hn,hck⟩
 obtain⟨r1,r3,k1,k3,t1,t3,f1,f3,rfl⟩:=h.sl;clear hs hw h hcap hfp hfk hcl hn hck;generalize hnf:p.funcs.length=nf at H⊢;have HNF:Hid (p.funcs.length=nf):=hnf;clear hnf;generalize p.regions.length=nr at H⊢;generalize p.consts.length=nk at H⊢;generalize p.certs.length=nt at H⊢;simp only[]at H;have E0:Ak (w.alloc (.cells #[.slice r1 nr r3,.slice k1 nk k3,.slice f1 nf f3,.slice t1 nt t3] 35)) w.heap.size #[.slice r1 nr r3,.slice k1 nk k3,.slice f1 nf f3,.slice t1 nt t3] 35/\Below w.heap.size w (w.alloc (.cells #[.slice r1 nr r3,.slice k1 nk k3,.slice f1 nf f3,.slice t1 nt t3] 35)):=⟨Ak.new _ _ _,Aa _ _⟩
 go_enter Tryz.func8,Tryz.ntmps8;go_upto_region 1 with fail
 refine Al (fun u=>Hid (Ak u w.heap.size #[.slice r1 nr r3,.slice k1 nk k3,.slice f1 nf f3,.slice t1 nt t3] 35/\Below w.heap.size w u)) E0 ?_
 rintro U E1;clear E0;obtain⟨p0,p1,p2,p3⟩:=Em E1.o.1;go_wp2_with fail
 refine(Ih ⟨.slice r1 nr r3,.slice k1 nk k3,.slice f1 nf f3,.slice t1 nt t3⟩ p fi U H.o.1 H.o.2.1 (H.o.2.2.1.keep E1.o.2 lR) (H.o.2.2.2.1.keep E1.o.2 lR) (H.o.2.2.2.2.1.keep E1.o.2 lR)).mono ?_;rintro e u1 ⟨c,a,v1,n1,c1,v2,n2,c2,v3,n3,c3,v4,n4,c4,good,rfl,hiff,hgood,bb⟩;have E2:Hid (Ak u1 w.heap.size #[.slice r1 nr r3,.slice k1 nk k3,.slice f1 nf f3,.slice t1 nt t3] 35/\Below w.heap.size w u1):=⟨E1.o.1.keep bb,Ab E1.o.2 lR bb⟩
 have HG:Hid ((good=true↔Nj p fi)/\(good=true->∃f r F ys,p.funcs[fi.toNat]?=some f/\AR f.code r/\r.code=0/\c=0/\Cq u1 U.heap.size (.slice v1 n1 c1) (.slice v2 n2 c2) (.slice v3 n3 c3) (.slice v4 n4 c4) F ys r)):=⟨hiff,hgood⟩
 clear hiff hgood bb E1 p0 p1 p2 p3;go_upto_region 2 with fail
 refine Al (fun u=>Hid ((Ak u w.heap.size #[.slice r1 nr r3,.slice k1 nk k3,.slice f1 nf f3,.slice t1 nt t3] 35/\Below w.heap.size w u)/\Ak u u1.heap.size #[.int .i64 c,.int .i64 a,.slice v1 n1 c1,.slice v2 n2 c2,.slice v3 n3 c3,.slice v4 n4 c4] 52/\Below u1.heap.size u1 u)) ⟨⟨E2.o.1.keep (Aa _ _),Ab E2.o.2 lR (Aa _ _)⟩,Ak.new _ _ _,Aa _ _⟩ ?_
 rintro U3 E3;cases good
 case false=>
  have HR:Hid (CC p fi costs (-1)):=.inl ⟨fun f r h1 h2 h3 h4 h5=>(cU (HG.o.1.2 ⟨h1,h2,f,h3,r,h4,h5⟩)),rfl⟩;go_wp2
  go_ret
  exact⟨⟨-1,rfl,HR.o⟩,E3.o.1.2⟩
 obtain⟨f,r,F,ys,hf,hfl,hr0,rfl,how⟩:=HG.o.2 rfl;have hfpp:=HG.o.1.1 rfl;have HO:Hid (Be p 0/\0<=fi/\p.funcs[fi.toNat]?=some f/\AR f.code r/\r.code=0):=⟨hfpp.1,hfpp.2.1,hf,hfl,hr0⟩
 have how3:Cq U3 U.heap.size (.slice v1 n1 c1) (.slice v2 n2 c2) (.slice v3 n3 c3) (.slice v4 n4 c4) F ys r:=how.keepF E3.o.2.2;have HOW:Hid (Cq U3 U.heap.size (.slice v1 n1 c1) (.slice v2 n2 c2) (.slice v3 n3 c3) (.slice v4 n4 c4) F ys r):=how3;have HI:Hid (PG f.code r):=hfl.inn hr0
 have hn4:n4=r.loops.length:=by
  obtain⟨_,_,e⟩:=Ax how3.lrow;simp only[aF]at e;rw[e.2.1,<-how3.el,a7]
 clear how how3 hf hfl hr0 hfpp HG E2;subst hn4;generalize u1.heap.size=FB at E3⊢;obtain⟨q,eq⟩:=aT HO.o.2.1;subst eq;have hfq:p.funcs[q]?=some f:=by have:=HO.o.2.2.1;rw[aG]at this;exact this
 obtain⟨gk,ok,ck,efn,g,hrf,m0,m1,m2,m3⟩:=Nv H.o.2.2.1.funcs hfq;obtain⟨ka,kc,m3',hkc⟩:=H.o.2.2.2.2.2.at hfq efn;simp only[aF,HNF.o,aw]at efn;obtain⟨rfl,rfl⟩:=efn;obtain⟨g1,g3,g4,g6,g7,g9,rfl⟩:=Kv hrf;simp only[]at m0 m1 m2 m3
 have hg9:f.code.length<=g9:=by
  rw[m3]at m3';simp only[aR,aF]at m3';rw[m3'.2.2];exact hkc
 have hqn:q<nf:=by have:=(aD.1 hfq).1;rw[HNF.o]at this;exact this
 have HFB:Hid (∀u,Below w.heap.size w u->Cq u U.heap.size (.slice v1 n1 c1) (.slice v2 n2 c2) (.slice v3 n3 c3) (.slice v4 r.loops.length c4) F ys r->∃O D L,Nh u ⟨⟨r1,nr,r3⟩,⟨k1,nk,k3⟩,⟨some ⟨gk,ok,none⟩,nf,f3⟩,⟨t1,nt,t3⟩,⟨g1,f.params.length,g3⟩,f.result,⟨g4,f.locals.length,g6⟩,⟨g7,f.code.length,g9⟩,(q:Int),0,a,⟨v1,n1,c1⟩,⟨v2,n2,c2⟩,⟨v3,n3,c3⟩,⟨v4,r.loops.length,c4⟩⟩ p (q:Int) F f.code r costs ca cc O D L):=fun u hu ow=>by
  have hFl:F.length=r.blocks.length:=by rw[<-ow.eb,a7]
  have rp:=H.o.2.2.1.keep hu lR;refine Nh.of ⟨⟨by rw[hFl];exact HI.o.nb,HI.o.len,Rd.of_own ow.brow,by rw[ow.eb];exact HI.o.blk⟩,fun z hz=>⟨?_,?_⟩,⟨Rd.keep hrf.2.2 hu lR,hg9,H.o.1.consts,rp.consts,fun z hz hop=> ?_⟩,H.o.1.certs,rp.certs,rfl,ow.eb,HI.o,ow.rd.loops,rfl,ow.rd.order⟩ HO.o.2.2.2.1 HO.o.2.2.2.2 ow.rd HC.o.1 (by rw[HC.o.2.1];exact HC.o.2.2.keep hu lR) (fun z hz hop=> ?_) (fun t ht=> ?_)
  . exact Rd.of_own (ow.fam.own (z.2,z.1.next) (by
     refine aU.2 (.inl ?_);unfold Cw;exact de (f:=fun x=>(x.2,x.1.next)) hz))
  . have:=HI.o.two z.1 (by rw[<-ow.eb];exact de (f:=Prod.fst) hz)
    omega
  . obtain⟨j,hj⟩:=bH hz
    obtain⟨qq,zz,e1,e2⟩:=(HO.o.1.instr hfq hj).const hop;rw[e1,aG];exact⟨by omega,(aD.1 e2).1⟩
  . obtain⟨j,hj⟩:=bH hz
    obtain⟨qq,zz,e1,e2⟩:=(HO.o.1.instr hfq hj).callee hop;rw[e1];omega
  . have:=(H.o.2.1.certs t ht).2.2.2
    have h1:IntKind.u32.min=0:=rfl;have h2:IntKind.u32.max=4294967295:=by decide
    unfold QG Lit.wf at this;simp at this;exact⟨by omega,by omega⟩
 have HM:Hid (w.cell? ⟨gk,ok+q*4,none⟩=some (.slice g1 f.params.length g3)/\w.cell? ⟨gk,ok+q*4+1,none⟩=some (.int .i64 f.result)/\w.cell? ⟨gk,ok+q*4+2,none⟩=some (.slice g4 f.locals.length g6)/\w.cell? ⟨gk,ok+q*4+3,none⟩=some (.slice g7 f.code.length g9)):=⟨m0,m1,m2,m3⟩
 clear m0 m1 m2 m3 m3' hkc hrf hfq hg9;have E4:=AS (aq E3.o.1 (aq E3.o.2.1 HOW.o));clear E3 HOW;obtain⟨p0,p1,p2,p3⟩:=Em E4.o.1.1;obtain⟨y0,y1,y2,y3,y4,y5⟩:=DT E4.o.2.1;go_wp2_with fail
 clear p0 p1 p2 p3 y0 y1 y2 y3 y4 y5;have HMu:=HM.o;refine(Mk ⟨r1,nr,r3⟩ ⟨k1,nk,k3⟩ ⟨some ⟨gk,ok,none⟩,nf,f3⟩ ⟨t1,nt,t3⟩ ⟨g1,f.params.length,g3⟩ ⟨g4,f.locals.length,g6⟩ ⟨g7,f.code.length,g9⟩ ⟨v1,n1,c1⟩ ⟨v2,n2,c2⟩ ⟨v3,n3,c3⟩ ⟨v4,r.loops.length,c4⟩ f.result 0 a q gk ok U3 hqn (by rw[E4.o.1.2.cell (aC HMu.1)];exact HMu.1) (by rw[E4.o.1.2.cell (aC HMu.2.1)];exact HMu.2.1) (by rw[E4.o.1.2.cell (aC HMu.2.2.1)];exact HMu.2.2.1) (by rw[E4.o.1.2.cell (aC HMu.2.2.2)];exact HMu.2.2.2)).mono ?_;rintro e u5 ⟨rfl,bb⟩;have E5:Hid (Below w.heap.size w u5):=Ab E4.o.1.2 lR bb;obtain⟨O,D,L,hcs⟩:=HFB.o u5 E5.o (E4.o.2.2.keepF bb);have HCS:=AS hcs;clear hcs bb HMu E4;go_wp2_with fail;have hcon:=OS _ p (q:Int) F f.code r costs ca cc O D L u5 HCS.o;rw[HC.o.2.1]at hcon;refine hcon.mono ?_;clear hcon;rintro e u6 ⟨x,rfl,hx,bb⟩;have HX:Hid (CC p (q:Int) costs x/\Below w.heap.size w u6):=⟨.inr ⟨f,r,HO.o.1,by omega,HO.o.2.2.1,HO.o.2.2.2.1,HO.o.2.2.2.2,hx⟩,Ab E5.o lR bb⟩
 clear hx bb;go_wp2
 go_ret
 exact⟨⟨x,rfl,HX.o.1⟩,HX.o.2⟩
end Go.Proofs.YtdipfjmlfbdkdaaGreat
