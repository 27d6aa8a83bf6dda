import Derived.Test.YtdipfjmlfbdkdaaGreatFc44
import Derived.Test.YtdipfjmlfbdkdaaGreatFc42
namespace Go.Proofs.YtdipfjmlfbdkdaaGreat
open Go.ChangeShapes Go.WideShapes Go.ChangeAt Go.RowKit
set_option linter.unusedVariables false
set_option maxHeartbeats 8000000
set_option maxRecDepth 100000
theorem K8{w:World}{xs:List MI}{r:Dm}{vb vo vi vl:Value}(h:AR xs r)(h0:r.code=0)(hr:Ey w vb vo vi vl r):∃gb ob cb go oo co O D L,vb=sO gb ob r.blocks.length cb/\vo=sO go oo r.blocks.length co/\0<r.blocks.length/\Gd r (nx r.blocks) r.blocks.length O D L/\∀x:GV,x.gb=gb->x.ob=ob->x.go=go->x.oo=oo->GF w r.blocks.length x (nx r.blocks) O.reverse:=by
 obtain⟨O',D,L,hg⟩:=h.gd h0;cases h with
 |none _=>cases h0
 |off _ _ _=>cases h0
 |lost _ _ _ _ _ _ _ _=>cases h0
 |two _ _ _ _ _ _ _ _=>cases h0
 | @good x S O D2 L2 I g x1 o1 v1 s1 d1 b1 i1 l1=>
   have hn:=Fe g;have hE:∀b,b<(Ao xs).length->∀y∈nx (Ao xs) b,y<(Ao xs).length:=Lu g;obtain⟨hP,hnd,hOn,hOm,_⟩:=C5 hn hE v1 s1;obtain⟨gb,ob,cb,e1,hgr,_⟩:=FR.graph g hr.blocks
   have hO:O'=O:=by
    have h1:ints O'.reverse=ints O.reverse:=hg.ord.symm;have h2:O'.reverse=O.reverse:=(List.map_inj_right (f:=fun(x:Nat)=>(x:Int)) (fun a b h=>by have h3:(a:Int)=(b:Int):=h;omega)).1 h1;exact List.reverse_inj.1 h2
   subst hO
   have ho:DR w vo O'.reverse:=by
    have:=hr.order;unfold DR;rw[Ck];simp only[AA]at this;exact this
   obtain⟨a,c,e2⟩:=Rd.is_slice ho;subst e2;obtain⟨go,oo,e3,_,hoc⟩:=ho.all (by rw[bV,hOn];exact hn);subst e3;refine⟨gb,ob,cb,go,oo,c,O',D,L,e1,by rw[bV,hOn],hn,hg,fun x q1 q2 q3 q4=> ?_⟩;subst q1 q2 q3 q4;exact⟨hgr,hoc,by rw[bV,hOn],fun y hy=>(hOm y).1 (cW.1 hy),hE,Gg _ (Ee xs)⟩
theorem Nd{q:Prop}(h:q:=by
 go_wp2_with fail
 go_ret
 exact⟨⟨-1,rfl,HR.o⟩,E4.o.bel.trans (F0.o.1.bel.mono E4.o.bel.size)⟩):q:=h
theorem Nf{q:Prop}(h:q:=by
 go_wp2_with fail
 go_ret
 exact⟨⟨-1,rfl,HR.o⟩,E2.o.2⟩):q:=h
theorem Py{q:Prop}(h:q:=by
 go_wp2_with fail
 go_roundw
 case rel=>exact⟨qb+1,m0,by omega,rfl,by go_num,trivial,HM2⟩
 case measure=>simp[intOf];omega):q:=h
theorem LK (v:VP)(p:MP)(fi:Int)(cv:Value)(costs:List Int)(w:World)(hs:p.small)(hw:p.wf)(hfi:CD fi)(h:Dg w v p)(hc:Rd w 1 cv costs.length (costs.flatMap Ac))(hcl:costs.length<=1048576):
 Calls Tryz.prog 5 #[.agg #[v.r,v.k,v.f,v.t],.int .i64 fi,cv] w fun e w'=>(∃n,e=.returned (.int .i64 n)/\CC p fi costs n)/\Below w.heap.size w w':=by
 obtain⟨r1,r3,k1,k3,t1,t3,f1,f3,rfl⟩:=h.sl;obtain⟨ca,cc,ec⟩:=Rd.is_slice hc;have HOPN:Hid (∀op,0<=KM op):=fun op=>MV op (CY op)
 subst ec;obtain⟨i64,hi,hz0,hz1,hz2⟩:=bQ BE;obtain⟨j0,hj,hy0,hy1,hy2⟩:=bQ Dy;have H:Hid (p.small/\p.wf/\CD fi/\Dg w ⟨.slice r1 p.regions.length r3,.slice k1 p.consts.length k3,.slice f1 p.funcs.length f3,.slice t1 p.certs.length t3⟩ p/\Rd w 1 (.slice ca costs.length cc) costs.length (costs.flatMap Ac)):=⟨hs,hw,hfi,h,hc⟩
 clear hs hw hfi h hc;have E0:Hid (Ak (w.alloc (.cells #[.slice r1 p.regions.length r3,.slice k1 p.consts.length k3,.slice f1 p.funcs.length f3,.slice t1 p.certs.length t3] 35)) w.heap.size #[.slice r1 p.regions.length r3,.slice k1 p.consts.length k3,.slice f1 p.funcs.length f3,.slice t1 p.certs.length t3] 35/\Below w.heap.size w (w.alloc (.cells #[.slice r1 p.regions.length r3,.slice k1 p.consts.length k3,.slice f1 p.funcs.length f3,.slice t1 p.certs.length t3] 35))):=⟨Ak.new _ _ _,Aa _ _⟩
 go_enter Tryz.func5,Tryz.ntmps5;go_upto_region 1 with fail
 refine Al (fun u=>Hid (Ak u w.heap.size #[.slice r1 p.regions.length r3,.slice k1 p.consts.length k3,.slice f1 p.funcs.length f3,.slice t1 p.certs.length t3] 35/\Below w.heap.size w u)) E0 ?_
 rintro U0 E1;clear E0;obtain⟨p0,p1,p2,p3⟩:=Em E1.o.1;go_wp2_with fail
 refine(Fz ⟨.slice r1 p.regions.length r3,.slice k1 p.consts.length k3,.slice f1 p.funcs.length f3,.slice t1 p.certs.length t3⟩ p U0 H.o.1 H.o.2.1 (H.o.2.2.2.1.keep E1.o.2 lR)).mono ?_;rintro e u1 ⟨⟨n,rfl,hn⟩,bb⟩;have E2:=AS (aq (E1.o.1.keep bb) (Ab E1.o.2 lR bb));clear bb E1 p0 p1 p2 p3;clear U0;have p2:=E2.o.1.cell 2;simp only[am,aM,aj]at p2;by_cases hn0:n=0
 case neg=>
  have HR:Hid (CC p fi costs (-1)):=.inl ⟨fun f r h1 _ _ _ _=>hn0 (hn.one h1),rfl⟩;clear hn;exact Nf
 subst hn0;have HFA:=AS hn;clear hn;by_cases hf0:fi<0
 case pos=>
  have hf0':decide (fi<0)=true:=by simpa using hf0
  have HR:Hid (CC p fi costs (-1)):=.inl ⟨fun f r _ h2 _ _ _=>by omega,rfl⟩;exact Nf
 by_cases hf1:(p.funcs.length:Int)<=fi
 case pos=>
  have HR:Hid (CC p fi costs (-1)):=.inl ⟨fun f r _ h2 h3 _ _=>by have:=(aD.1 h3).1;omega,rfl⟩;exact Nf
 obtain⟨q,rfl⟩:=aT (show 0<=fi by omega);obtain⟨f,hf⟩:∃f,p.funcs[q]?=some f:=⟨_,aA (by omega)⟩;obtain⟨gk,ok,ck,efn,g,hrf,m0,m1,m2,m3⟩:=Nv H.o.2.2.2.1.funcs hf;simp only[aF,aw]at efn;obtain⟨rfl,rfl⟩:=efn;obtain⟨g1,g3,g4,g6,g7,g9,rfl⟩:=Kv hrf;have hqL:(q:Int)<(p.funcs.length:Int):=by omega
 have HF:Hid (p.funcs[q]?=some f/\f.small/\C9 w ⟨.slice g1 f.params.length g3,.slice g4 f.locals.length g6,.slice g7 f.code.length g9⟩ f/\0<f.code.length):=⟨hf,H.o.1.func f (aE hf),hrf,Nat.pos_of_ne_zero (HFA.o.parts.2.2.1.2.2.1 q (aD.1 hf).1 f hf).code0⟩
 simp only[]at m0 m1 m2 m3;rw[<-E2.o.2.cell (aC m3)]at m3;clear hrf hf m0 m1 m2;go_wp2_with fail
 refine(Gk (.slice g7 f.code.length g9) f.code u1 HF.o.2.1.2.2 (Rd.keep HF.o.2.2.1.2.2 E2.o.2 lR)).mono ?_;rintro e u2 ⟨r,vb,vo,vi,vl,rfl,hfl,hrd,bb⟩;obtain⟨v1,c1,v2,c2,v3,c3,v4,c4,rfl,rfl,rfl,rfl⟩:=LC hrd
 have E3:Hid (FcR w (u2.alloc (.cells #[.int .i64 r.code,.int .i64 r.at_,.slice v1 r.blocks.length c1,.slice v2 r.order.length c2,.slice v3 r.idom.length c3,.slice v4 r.loops.length c4] 52)) ⟨.slice r1 p.regions.length r3,.slice k1 p.consts.length k3,.slice (some ⟨gk,ok,none⟩) p.funcs.length f3,.slice t1 p.certs.length t3⟩ p f (.slice g7 f.code.length g9) u2.heap.size r (.slice v1 r.blocks.length c1) (.slice v2 r.order.length c2) (.slice v3 r.idom.length c3) (.slice v4 r.loops.length c4) (.slice ca costs.length cc) costs):=by
  have b2:=Aa u2 (.cells #[.int .i64 r.code,.int .i64 r.at_,.slice v1 r.blocks.length c1,.slice v2 r.order.length c2,.slice v3 r.idom.length c3,.slice v4 r.loops.length c4] 52);have b3:Below w.heap.size w (u2.alloc (.cells #[.int .i64 r.code,.int .i64 r.at_,.slice v1 r.blocks.length c1,.slice v2 r.order.length c2,.slice v3 r.idom.length c3,.slice v4 r.loops.length c4] 52)):=Ab (Ab E2.o.2 lR bb) lR b2;exact⟨(E2.o.1.keep bb).keep b2,Ak.new _ _ _,hrd.keepL b2 lR,H.o.2.2.2.1.keep b3 lR,Rd.keep HF.o.2.2.1.2.2 b3 lR,Rd.keep H.o.2.2.2.2 b3 lR,b3⟩
 have HFL:=AS hfl;have hnl:r.loops.length<=1024:=(FH hfl).1;clear hfl hrd bb E2 p2 m3;clear u1;go_upto_region 5 with fail
 generalize u2.heap.size=FB at E3⊢;refine Al (fun u=>Hid (FcR w u ⟨.slice r1 p.regions.length r3,.slice k1 p.consts.length k3,.slice (some ⟨gk,ok,none⟩) p.funcs.length f3,.slice t1 p.certs.length t3⟩ p f (.slice g7 f.code.length g9) FB r (.slice v1 r.blocks.length c1) (.slice v2 r.order.length c2) (.slice v3 r.idom.length c3) (.slice v4 r.loops.length c4) (.slice ca costs.length cc) costs)) E3 ?_;rintro w1 E4;clear E3;clear u2;obtain⟨y0,y1,y2,y3,y4,y5⟩:=DT E4.o.fb;by_cases hcode:r.code=0
 case neg=>
  have HR:Hid (CC p (q:Int) costs (-1)):=.inl ⟨fun f' r' _ _ h3 h4 h5=>by rw[aG,HF.o.1]at h3;cases h3;rw[h4.one HFL.o]at h5;exact hcode h5,rfl⟩;go_wp2_with fail;go_ret;exact⟨⟨-1,rfl,HR.o⟩,E4.o.bel⟩
 obtain⟨gb,ob,cb1,go,oo,co1,O',D,L,ev1,ev2,hpos,hgd,hGF⟩:=K8 HFL.o hcode E4.o.rf;have HV:Hid (∀v,Ma p (q:Int) costs f.code r v->CC p (q:Int) costs v):=fun v hv=>.inr ⟨f,r,HFA.o,by omega,by rw[aG];exact HF.o.1,HFL.o,hcode,hv⟩
 have HGD:=AS hgd;clear hgd;simp only[aF,aw]at ev1 ev2;obtain⟨rfl,rfl⟩:=ev1;obtain⟨rfl,hol,rfl⟩:=ev2;have HGF:=AS (aq hol (aq hpos hGF));clear hol hpos hGF;rw[hcode]at y0;go_wp2_with fail
 have HI:=AS (HFL.o.inn hcode);have HC0:=AS hcode;clear hcode;have hnb:=HI.o.nb;have hcl4:=HI.o.len;have G0:Hid (∃vI vC bad C,Gp w1 (w1.alloc (.cells #[.int .i64 0,.int .i64 r.at_,.slice (some ⟨gb,ob,none⟩) r.blocks.length c1,.slice (some ⟨go,oo,none⟩) r.order.length c2,.slice v3 r.idom.length c3,.slice v4 r.loops.length c4,.slice none 0 0,.slice none 0 0,.bool false] 56)) w1.heap.size 0 r.at_ (.slice (some ⟨gb,ob,none⟩) r.blocks.length c1) (.slice (some ⟨go,oo,none⟩) r.order.length c2) (.slice v3 r.idom.length c3) (.slice v4 r.loops.length c4) vI vC bad (List.range 0) C/\C.length=0/\(bad=true->(∃m∈r.blocks,B3 f.code costs m))/\(bad=false->Q8 f.code costs r C 0)):=⟨.slice none 0 0,.slice none 0 0,false,[],⟨Ak.new _ _ _,Nat.le_refl _,bL _ _ _ _,bL _ _ _ _,fun b hb=>(by cases hb),Aa _ _,fun y hy=>(by cases hy)⟩,rfl,(fun h=>by cases h),fun _ b m hb=>absurd hb (Nat.not_lt_zero _)⟩
 clear y0 y1 y2 y3 y4 y5;generalize hG:w1.heap.size=G at G0⊢;have HG:=AS hG;clear hG;go_loopw [10,11,12,13] (fun i _ _ _ wr=>∃k:Nat,k<=r.blocks.length/\i=.int .i64 k/\Hid (∃vI vC bad C,Gp w1 wr G 0 r.at_ (.slice (some ⟨gb,ob,none⟩) r.blocks.length c1) (.slice (some ⟨go,oo,none⟩) r.order.length c2) (.slice v3 r.idom.length c3) (.slice v4 r.loops.length c4) vI vC bad (List.range k) C/\C.length=k/\(bad=true->(∃m∈r.blocks,B3 f.code costs m))/\(bad=false->Q8 f.code costs r C k))) (fun i _ _ _ _=>r.blocks.length-(intOf i).toNat)
 case atStart=>exact⟨0,by omega,rfl,G0⟩
 case round =>
  clear G0;obtain⟨k,hk,rfl,E5⟩:=hrel;obtain⟨vI,vC,bad,C,hgp,hCl⟩:=E5.o;have E6:Hid (Gp w1 wr G 0 r.at_ (.slice (some ⟨gb,ob,none⟩) r.blocks.length c1) (.slice (some ⟨go,oo,none⟩) r.order.length c2) (.slice v3 r.idom.length c3) (.slice v4 r.loops.length c4) vI vC bad (List.range k) C/\C.length=k/\(bad=true->(∃m∈r.blocks,B3 f.code costs m))/\(bad=false->Q8 f.code costs r C k)):=⟨hgp,hCl⟩
  clear E5 hgp hCl;have y2:wr.cell? ⟨FB,2,none⟩=some (.slice (some ⟨gb,ob,none⟩) r.blocks.length c1):=Ad E6.o.1.bel (DT E4.o.fb).2.2.1;by_cases hlt:k<r.blocks.length
  case neg =>
   have y5:wr.cell? ⟨FB,5,none⟩=some (.slice v4 r.loops.length c4):=Ad E6.o.1.bel (DT E4.o.fb).2.2.2.2.2;obtain rfl:k=r.blocks.length:=by omega
   have hgr0:=E6.o.1;rw[HGF.o.1]at hgr0;obtain⟨gi,ci,gc,cci,hgr⟩:=hgr0.gr E6.o.2.1 HGF.o.2.1;have HB:=AS E6.o.2;have HG2:Hid (GF w1 r.blocks.length ⟨0,r.at_,gb,ob,c1,go,oo,c2,.slice v3 r.idom.length c3,.slice v4 r.loops.length c4,gi,ci,gc,cci⟩ (nx r.blocks) O'.reverse):=HGF.o.2.2 _ rfl rfl rfl rfl;have E7:=AS hgr;clear hgr hgr0 E6;generalize (⟨0,r.at_,gb,ob,c1,go,oo,c2,.slice v3 r.idom.length c3,.slice v4 r.loops.length c4,gi,ci,gc,cci⟩:GV)=xv at E7 HG2;obtain⟨ys,hys,hyr,hye⟩:=E4.o.rf.loops;have HY:=AS (aq hys (aq hye (aq ((fun y hy=>⟨(hye y hy).1.is_slice,(hye y hy).2.is_slice⟩):(∀y∈ys,Mf y)) ((by rw[<-hys,a7]):ys.length=r.loops.length))));have hyr2:=AS (Rd.keep hyr E7.o.bel lR);clear hys hyr hye;go_wp2_with fail
   refine(MM (.slice v4 r.loops.length c4) r.loops.length ys wr HY.o.2.2.2 (by omega) hyr2.o HY.o.2.2.1 (by have:=HGD.o.rise;rw[<-HY.o.1,dH]at this;exact this)).mono ?_;rintro e u5 ⟨V,zs,rfl,hI,hpm,hso⟩;have HSL:Hid ((zs.map Prod.fst).Perm r.loops/\(zs.map Prod.fst).Pairwise Fs):=⟨by rw[<-HY.o.1];exact hpm.map _,hso⟩
   clear hpm hso;obtain⟨az,cz,eV⟩:∃a c,V=.slice a r.loops.length c:=by obtain⟨a,c,e⟩:=Rd.is_slice (Rd.of_own hI.own);exact⟨a,c,e⟩
   subst eV;have F0:Hid (∃bd I C',Gr w1 u5 G r.blocks.length xv bd I C'/\Fj w1 u5 (.slice az r.loops.length cz) r.loops.length ys zs/\Fk p (q:Int) costs f.code r D L (zs.map Prod.fst) 0 bd I C'):=⟨_,_,_,E7.o.keep hI.bel,⟨A6 hI.own E7.o.bel.size,hI.len,hI.sub,Ab E7.o.bel lR hI.bel⟩,Fk.start HGD.o HB.o.1 E7.o.cb HB.o.2⟩
   clear hI hyr2 E7 y5;go_wp2_with fail
   go_loopw [15] (fun i wr=>∃k:Nat,k<=r.loops.length/\i=.int .i64 k/\Hid (∃bd I C',Gr w1 wr G r.blocks.length xv bd I C'/\Fj w1 wr (.slice az r.loops.length cz) r.loops.length ys zs/\Fk p (q:Int) costs f.code r D L (zs.map Prod.fst) k bd I C')) (fun i _=>r.loops.length-(intOf i).toNat)
   case atStart=>exact⟨0,by omega,rfl,F0⟩
   case round=>
    clear F0;obtain⟨k,hk,rfl,E5⟩:=hrel;obtain⟨bd,I,C',hg5,hn5,hst⟩:=E5.o;have HST:=AS hst;clear hst;have E6:Hid (Gr w1 wr G r.blocks.length xv bd I C'/\Fj w1 wr (.slice az r.loops.length cz) r.loops.length ys zs):=⟨hg5,hn5⟩
    clear hg5 hn5 E5;by_cases hlt:k<r.loops.length
    case pos=>
     have hltI:(k:Int)<(r.loops.length:Int):=by omega
     obtain⟨gz,eaz⟩:∃gz,az=some ⟨gz,0,none⟩:=by
      rcases Bv E6.o.2.own with⟨e,h0⟩|⟨gz,c,e⟩
      . omega
      . simp only[aF]at e
        exact⟨gz,e.1⟩
     subst eaz;obtain⟨z,a1,b1,d1,e1,hz,hzy,f1',f2',q0,q1,q2⟩:=E6.o.2.at_ HY.o.2.2.1 hlt;have HZk:Hid ((zs.map Prod.fst)[k]?=some z.1):=by show(zs.map Prod.fst)[k]?=some z.1;rw[bB,hz];rfl
     have HZ0:Hid (z.1∈r.loops):=by show z.1∈r.loops;rw[<-HY.o.1];exact au.2 ⟨z,hzy,rfl⟩
     obtain⟨⟨hd,ehd,hhd⟩,hbls,hbl1,hbl2⟩:=HI.o.loop _ HZ0.o;obtain⟨l,vz1,vz2⟩:=z;simp only[]at f1' f2' q0 q1 q2 ehd hbls hbl1 hbl2 HZ0 HZk;subst f1' f2';rw[ehd]at q0;have HZ:Hid (l∈r.loops/\I7 w1 ⟨.slice a1 l.back.length b1,.slice d1 l.blocks.length e1⟩ l/\l.head=(hd:Int)/\hd<r.blocks.length/\(∀z∈l.blocks,∃b:Nat,z=(b:Int)/\b<r.blocks.length)/\l.small):=⟨HZ0.o,HY.o.2.1 _ hzy,ehd,hhd,hbls,by unfold ML.small;omega⟩
     clear hz hzy ehd hbls hbl1 hbl2 HZ0;have HC:Hid (∀W:World,Below w1.heap.size w1 W->W.cell? ⟨w.heap.size,0,none⟩=some (.slice r1 p.regions.length r3)/\W.cell? ⟨w.heap.size,1,none⟩=some (.slice k1 p.consts.length k3)/\W.cell? ⟨w.heap.size,2,none⟩=some (.slice (some ⟨gk,ok,none⟩) p.funcs.length f3)/\W.cell? ⟨w.heap.size,3,none⟩=some (.slice t1 p.certs.length t3)):=fun W hW=>⟨Ad hW (Em E4.o.pb).1,Ad hW (Em E4.o.pb).2.1,Ad hW (Em E4.o.pb).2.2.1,Ad hW (Em E4.o.pb).2.2.2⟩
     have HL:Hid (∀(W:World),Below wr.heap.size wr W->W.cell? ⟨gz,k*3,none⟩=some (.int .i64 (hd:Int))/\W.cell? ⟨gz,k*3+1,none⟩=some (.slice a1 l.back.length b1)/\W.cell? ⟨gz,k*3+2,none⟩=some (.slice d1 l.blocks.length e1)):=fun W hW=>⟨Ad hW q0,Ad hW q1,Ad hW q2⟩
     clear q0 q1 q2;go_upto_region 27 with fail
     have ED:Hid (Gr w1 wr.drew G r.blocks.length xv bd I C'/\Fj w1 wr.drew (.slice (some ⟨gz,0,none⟩) r.loops.length cz) r.loops.length ys zs/\Below wr.heap.size wr wr.drew):=⟨E6.o.1.keep (Ae _),E6.o.2.keep (Ae _),Ae _⟩
     refine wp_region_held_drew (S:=fun W=>W.cell? ⟨w.heap.size,0,none⟩=some (.slice r1 p.regions.length r3)/\W.cell? ⟨w.heap.size,1,none⟩=some (.slice k1 p.consts.length k3)/\W.cell? ⟨w.heap.size,2,none⟩=some (.slice (some ⟨gk,ok,none⟩) p.funcs.length f3)/\W.cell? ⟨w.heap.size,3,none⟩=some (.slice t1 p.certs.length t3)/\W.cell? ⟨gz,k*3,none⟩=some (.int .i64 (hd:Int))/\W.cell? ⟨gz,k*3+1,none⟩=some (.slice a1 l.back.length b1)/\W.cell? ⟨gz,k*3+2,none⟩=some (.slice d1 l.blocks.length e1)) (by kernel_rfl) (by obtain⟨h1,h2,h3,h4⟩:=HC.o _ ED.o.1.bel;obtain⟨h5,h6,h7⟩:=HL.o _ ED.o.2.2;exact⟨h1,h2,h3,h4,h5,h6,h7⟩) (fun hHeld=> ?_)
     clear E6;generalize wr.drew=UD at ED hHeld⊢;refine AG 0 ?_;refine AG 1 ?_;refine AG 2 ?_;refine AG 3 ?_;refine AG 4 ?_;refine AG 5 ?_;refine Gq 6 ?_;intro KC hKC;go_simp;have hcon:=Ky ⟨.slice r1 p.regions.length r3,.slice k1 p.consts.length k3,.slice (some ⟨gk,ok,none⟩) p.funcs.length f3,.slice t1 p.certs.length t3⟩ p (q:Int) ⟨.slice a1 l.back.length b1,.slice d1 l.blocks.length e1⟩ l UD H.o.1 H.o.2.1 H.o.2.2.1 (E4.o.rp.keep ED.o.1.bel lR) HZ.o.2.2.2.2.2 (HZ.o.2.1.keep ED.o.1.bel lR);rw[HZ.o.2.2.1]at hcon;refine hcon.mono ?_;clear hcon;rintro e u6 ⟨⟨nf,rfl,hnf⟩,bb⟩;have E8:=AS (aq (ED.o.1.keep bb) (aq (ED.o.2.1.keep bb) (Ab ED.o.2.2 lR bb)));have HNF:=AS hnf;clear hnf bb ED;refine hKC.o _ _ (by obtain⟨h1,h2,h3,h4⟩:=HC.o _ E8.o.1.bel;obtain⟨h5,h6,h7⟩:=HL.o _ E8.o.2.2;exact⟨h1,h2,h3,h4,h5,h6,h7⟩) (fun hHeld=> ?_);clear hKC KC;refine AG 7 ?_;refine wpAnyH_done (by kernel_rfl) ?_ _;clear hHeld;by_cases hn0:nf=0
     case neg=>
      have hn0':(nf != 0)=true:=by simpa using hn0
      have HR:Hid (CC p (q:Int) costs (-1)):=HV.o _ (.inl ⟨.inl ⟨l,HZ.o.1,nf,hn0,KQ.own HNF.o HFA.o HF.o.1 HFL.o HC0.o HZ.o.1⟩,rfl⟩);go_wp2_with fail
      go_ret
      exact⟨⟨-1,rfl,HR.o⟩,E4.o.bel.trans (E8.o.1.bel.mono E4.o.bel.size)⟩
     subst hn0;have HL0:Hid (Au p (q:Int) f.code r.blocks l 0):=KQ.own HNF.o HFA.o HF.o.1 HFL.o HC0.o HZ.o.1
     obtain⟨hb,c,hhb,hce⟩:∃hb c,r.blocks[hd]?=some hb/\Bh p.certs (q:Int) hb.first=some c:=by
      rcases HNF.o with⟨_,e⟩|⟨f',r',ho,hb,h1,h2⟩
      . cases e
      . have e1:f'=f:=by have:=ho.2.2.1;rw[aG,HF.o.1]at this;exact(ae this).symm
        subst e1;have e2:r'=r:=AR.one ho.2.2.2.1 HFL.o;subst e2;rw[HZ.o.2.2.1,aG]at h1;rcases h2 with⟨_,e⟩|⟨c,g,h2,_⟩
        . cases e
        . exact⟨hb,c,h1,h2⟩
     obtain⟨gb',ob',a1',e1',eb,j0,_,_,_⟩:=FE E4.o.rf.blocks hhb;obtain⟨ja,je,e2,e3,hae,hel⟩:=HI.o.blk hd hb hhb;rw[e2]at j0 hce;simp only[aR,cR,cw]at eb;obtain⟨rfl,rfl⟩:=eb;have HIV:Hid (Fp p (q:Int) r.blocks hd=c.init):=by show Fp p (q:Int) r.blocks hd=c.init;unfold Fp;rw[hhb];simp only[];rw[e2,hce]
     have HJ:Hid (w1.cell? ⟨gb,ob+hd*3,none⟩=some (.int .i64 (ja:Int))/\w1.cell? ⟨FB,2,none⟩=some (.slice (some ⟨gb,ob,none⟩) r.blocks.length c1)/\Bh p.certs (q:Int) (ja:Int)=some c):=⟨j0,(DT E4.o.fb).2.2.1,hce⟩
     have hhdI:(hd:Int)<(r.blocks.length:Int):=by omega
     clear j0 hhb e2 e3 hce hae hel HNF;go_upto_region 29 with fail
     have ED:=AS (aq (E8.o.1.keep (Ae _)) (aq (E8.o.2.1.keep (Ae _)) (Ab E8.o.2.2 lR (Ae _))));refine wp_region_held_drew (S:=fun W=>W.cell? ⟨w.heap.size,0,none⟩=some (.slice r1 p.regions.length r3)/\W.cell? ⟨w.heap.size,1,none⟩=some (.slice k1 p.consts.length k3)/\W.cell? ⟨w.heap.size,2,none⟩=some (.slice (some ⟨gk,ok,none⟩) p.funcs.length f3)/\W.cell? ⟨w.heap.size,3,none⟩=some (.slice t1 p.certs.length t3)/\W.cell? ⟨gz,k*3,none⟩=some (.int .i64 (hd:Int))/\W.cell? ⟨gz,k*3+1,none⟩=some (.slice a1 l.back.length b1)/\W.cell? ⟨gz,k*3+2,none⟩=some (.slice d1 l.blocks.length e1)/\W.cell? ⟨FB,2,none⟩=some (.slice (some ⟨gb,ob,none⟩) r.blocks.length c1)/\W.cell? ⟨gb,ob+hd*3,none⟩=some (.int .i64 (ja:Int))) (by kernel_rfl) (by obtain⟨h1,h2,h3,h4⟩:=HC.o _ ED.o.1.bel;obtain⟨h5,h6,h7⟩:=HL.o _ ED.o.2.2;exact⟨h1,h2,h3,h4,h5,h6,h7,Ad ED.o.1.bel HJ.o.2.1,Ad ED.o.1.bel HJ.o.1⟩) (fun hHeld=> ?_)
     clear E8;generalize u6.drew=UD at ED hHeld⊢;refine AG 0 ?_;refine AG 1 ?_;refine AG 2 ?_;refine AG 3 ?_;refine AG 4 ?_;refine AG 5 ?_;refine AG 6 ?_;refine AG 7 ?_;refine AG 8 ?_;refine AG 9 ?_;refine AG 10 ?_;refine AG 11 ?_;refine AG 12 ?_;refine AG 13 ?_;refine AG 14 ?_;refine AG 15 ?_;refine AG 16 ?_;refine AG 17 ?_;refine AG 18 ?_;refine Gq 19 ?_;intro KC hKC;go_simp;refine(Iu ⟨.slice r1 p.regions.length r3,.slice k1 p.consts.length k3,.slice (some ⟨gk,ok,none⟩) p.funcs.length f3,.slice t1 p.certs.length t3⟩ p (q:Int) (ja:Int) UD H.o.1 (E4.o.rp.keep ED.o.1.bel lR)).mono ?_;rintro e u7 ⟨⟨nc,rfl,hnc⟩,bb⟩;have E9:Hid (Gr w1 u7 G r.blocks.length xv bd I C'/\Fj w1 u7 (.slice (some ⟨gz,0,none⟩) r.loops.length cz) r.loops.length ys zs/\Below wr.heap.size wr u7):=⟨ED.o.1.keep bb,ED.o.2.1.keep bb,Ab ED.o.2.2 lR bb⟩
     obtain⟨kt,ct,ent,hkt,hct⟩:∃(kt:Nat) (ct:MT),nc=(kt:Int)/\p.certs[kt]?=some ct/\ct=c:=by
      rcases hnc with⟨_,e⟩|⟨kt,ct,e,h1,h2⟩
      . rw[HJ.o.2.2]at e;cases e
      . exact⟨kt,ct,e,h1,by rw[HJ.o.2.2]at h2;exact(ae h2).symm⟩
     subst hct;subst ent;have hktl:=(aD.1 hkt).1;have hktI:(kt:Int)<(p.certs.length:Int):=by omega
     obtain⟨gt,ot,et,ht3⟩:∃gt ot,t1=some ⟨gt,ot,none⟩/\w1.cell? ⟨gt,ot+kt*4+3,none⟩=some (.int .u32 ct.init):=by
      rcases E4.o.rp.certs.2 with⟨e0,_⟩|⟨gt,ot,c',e1,hc⟩
      . omega
      . simp only[aF,aw]at e1
        exact⟨gt,ot,e1.1,Rd.elem MT.cells_length hc kt ct hkt 3 _ rfl⟩
     subst et
     have hci:0<=ct.init/\ct.init<=4294967295:=by
      have:=(H.o.2.1.certs ct (aE hkt)).2.2.2;simpa[QG,Lit.wf,IntKind.min,IntKind.max,IntKind.signed,IntKind.bits]using this
     have ht4:=Ad E9.o.1.bel ht3;have hwr:IntKind.i64.wrap ct.init=ct.init:=IntWalk.i64_in _ ⟨by omega,by omega⟩;clear hnc hkt bb ED ht3;refine hKC.o _ _ (by obtain⟨h1,h2,h3,h4⟩:=HC.o _ E9.o.1.bel;obtain⟨h5,h6,h7⟩:=HL.o _ E9.o.2.2;exact⟨h1,h2,h3,h4,h5,h6,h7,Ad E9.o.1.bel HJ.o.2.1,Ad E9.o.1.bel HJ.o.1⟩) (fun hHeld=> ?_);clear hKC KC;refine AG 20 ?_;refine AG 21 ?_;refine Gq 22 ?_;intro KC hKC;go_simp;refine hKC.o _ _ (by obtain⟨h1,h2,h3,h4⟩:=HC.o _ E9.o.1.bel;obtain⟨h5,h6,h7⟩:=HL.o _ E9.o.2.2;exact⟨h1,h2,h3,h4,h5,h6,h7,Ad E9.o.1.bel HJ.o.2.1,Ad E9.o.1.bel HJ.o.1⟩) (fun hHeld=> ?_);clear hKC KC;refine AG 23 ?_;refine Gq 24 ?_;intro KC hKC;go_simp;refine(Jm w1 u7 G r.blocks.length xv bd I C' (nx r.blocks) O'.reverse hd (.slice a1 l.back.length b1) (.slice d1 l.blocks.length e1) l.back (l.blocks.map Int.toNat) ct.init (by omega) HZ.o.2.2.2.1 hci E9.o.1 HG2.o HZ.o.2.1.1 HZ.o.2.2.2.2.2.1 (QY HZ.o.2.1.2 HZ.o.2.2.2.2.1) (by rw[a7];exact HZ.o.2.2.2.2.2.2) (Q4 HZ.o.2.2.2.2.1) (HST.o.jo HGD.o HSL.o.1 HSL.o.2 HZk.o HZ.o.1 HZ.o.2.2.1) (HST.o.jh HGD.o HSL.o.1 HSL.o.2 HZk.o HZ.o.1 HZ.o.2.2.1) HGD.o.oa).mono ?_;rintro e u8 ⟨rfl,bd2,I2,tt,hg8,htt8,hfr8,hI8,hT8⟩
     have HS8:Hid (Fk p (q:Int) costs f.code r D L (zs.map Prod.fst) (k+1) bd2 I2 (C'.set hd tt)):=HST.o.next HGD.o HSL.o.1 HSL.o.2 HZk.o HZ.o.1 HZ.o.2.2.1 HL0.o HIV.o E9.o.1.cl hI8 hT8 htt8;clear hI8 hT8 htt8;have E10:Hid (∃bd I C',Gr w1 u8 G r.blocks.length xv bd I C'/\Fj w1 u8 (.slice (some ⟨gz,0,none⟩) r.loops.length cz) r.loops.length ys zs/\Fk p (q:Int) costs f.code r D L (zs.map Prod.fst) (k+1) bd I C'):=⟨_,_,_,hg8,E9.o.2.1.fr E9.o.1 hg8.bel hfr8,HS8.o⟩
     have hb8:=AS hg8.bel;have hsm:Hid (∀j,j<r.loops.length*3->u8.cell? ⟨gz,j,none⟩=u7.cell? ⟨gz,j,none⟩):=fun j hj=>Fj.same E9.o.2.1 (E9.o.2.1.fr E9.o.1 hg8.bel hfr8) j hj
     clear hg8 hfr8 ht4;refine hKC.o _ _ (by obtain⟨h1,h2,h3,h4⟩:=HC.o _ hb8.o;obtain⟨h5,h6,h7⟩:=HL.o _ E9.o.2.2;exact⟨h1,h2,h3,h4,(hsm.o _ (by omega)).trans h5,(hsm.o _ (by omega)).trans h6,(hsm.o _ (by omega)).trans h7,Ad hb8.o HJ.o.2.1,Ad hb8.o HJ.o.1⟩) (fun hHeld=> ?_);clear hKC KC;refine wpAnyH_done (by kernel_rfl) ?_ _;clear hHeld;go_wp2_with fail;go_roundw
     case rel=>exact⟨k+1,by omega,by go_num,E10⟩
     case measure=>simp[intOf];omega
    case neg =>
     have y2':wr.cell? ⟨FB,2,none⟩=some (.slice (some ⟨gb,ob,none⟩) r.blocks.length c1):=Ad E6.o.1.bel (DT E4.o.fb).2.2.1;have hsz:=E6.o.1.bel.size;go_wp2_with (at_make;refine bZ _ rfl _ _ 74 rfl w1.heap.size 4 j0 (.bool false) 1 Tryz.underlying74 hj hy0 hy1 .i64 .i64 _ _ r.blocks.length rfl rfl rfl rfl (by rw[hy2];omega) (by unfold maxLen;omega) hsz ?_;intro w3 hown hgrow;rw[Pq]at hown);have hb3:Below wr.heap.size wr w3:=(aX _ _).grown hgrow lR (fun k hk=>by cases hk);have F1:Hid (Gr w1 w3 G r.blocks.length xv bd I C'/\w3.ownsRow w1.heap.size 4 1 (.slice (some ⟨wr.heap.size,0,none⟩) r.blocks.length r.blocks.length) r.blocks.length (bv (fun j=>decide (j<0)) r.blocks.length)):=⟨E6.o.1.keep hb3,by rw[FV (Q:=fun _=>false) (fun i _=>by simp)];exact hown⟩
     have HSE:Hid (Fk p (q:Int) costs f.code r D L (zs.map Prod.fst) (zs.map Prod.fst).length bd I C'):=by
      have h1:=HST.o;have h2:(zs.map Prod.fst).length=r.loops.length:=HSL.o.1.length_eq;rw[h2];obtain rfl:k=r.loops.length:=by omega
      exact h1
     clear hown hgrow hb3 hsz E6 y2';generalize wr.heap.size=gn at F1⊢;go_loopw [17] (fun i wr=>∃k:Nat,k<=r.blocks.length/\i=.int .i64 k/\Hid (Gr w1 wr G r.blocks.length xv bd I C'/\wr.ownsRow w1.heap.size 4 1 (.slice (some ⟨gn,0,none⟩) r.blocks.length r.blocks.length) r.blocks.length (bv (fun j=>decide (j<k)) r.blocks.length))) (fun i _=>r.blocks.length-(intOf i).toNat)
     case atStart=>exact⟨0,by omega,rfl,F1⟩
     case round=>
      clear F1;obtain⟨k,hk',rfl,E1⟩:=hrel;by_cases hlt':k<r.blocks.length
      case pos=>
       have hltI:(k:Int)<(r.blocks.length:Int):=by omega
       have hP:=E1.o.2;have c0:=cD hP k (by omega);rw[Hx _ _ _ hlt']at c0;have z0:=hP.frozenAt k
       have E2:Hid (Gr w1 (wr.setCell ⟨gn,k,none⟩ (.bool true)) G r.blocks.length xv bd I C'/\(wr.setCell ⟨gn,k,none⟩ (.bool true)).ownsRow w1.heap.size 4 1 (.slice (some ⟨gn,0,none⟩) r.blocks.length r.blocks.length) r.blocks.length (bv (fun j=>decide (j<k+1)) r.blocks.length)):=by
        obtain⟨_,cur,e1⟩:=Am hP;obtain⟨_,c2,e2⟩:=Am E1.o.1.is_;obtain⟨_,c3,e3⟩:=Am E1.o.1.cost;have e4:=E1.o.1.blk;unfold Ak at e4;refine⟨E1.o.1.other (Am hP).1 (fun q=> ?_) (fun q=> ?_) (fun q=> ?_),JP hP fun j _=> ?_⟩
        . rw[q,e4]at e1
          cases e1
        . rw[q,e2]at e1
          cases e1
        . rw[q,e3]at e1
          cases e1
        . by_cases e:j=k
          . subst e;simp
          . rw[bF e]
            by_cases e2:j<k
            . rw[decide_eq_true e2,decide_eq_true (show j<k+1 by omega)]
            . rw[bI e2,bI (show¬j<k+1 by omega)]
       clear hP;go_wp2_with fail
       go_roundw
       case rel=>exact⟨k+1,by omega,by go_num,E2⟩
       case measure=>simp[intOf];omega
      case neg=>
       have hP:=E1.o.2;obtain⟨_,_,p6,_,_,_⟩:=E1.o.1.cells;have hpos:=HGF.o.2.1;obtain⟨y0,hy0',hyn,i0⟩:=E1.o.1.isAt hpos;have hposI:(0:Int)<(r.blocks.length:Int):=by omega
       have hR:=HSE.o.fin HGD.o HSL.o.1;have hy00:y0=0:=by rw[<-Ir hy0'];exact hR.jh
       have hin:Da (fun j=>decide (j<k)) r.blocks.length=fun b=>b<r.blocks.length:=by
        funext b
        apply propext;unfold Da;simp only[cG];exact⟨fun h=>h.1,fun h=>⟨h,by omega⟩⟩
       subst hy00;have HR0:=AS (aq hR hin);clear hy0' hR hin;go_wp2_with fail
       refine(JH w1 wr G r.blocks.length xv bd I C' (nx r.blocks) O'.reverse gn r.blocks.length 0 (fun j=>decide (j<k)) (by omega) hyn E1.o.1 HG2.o hP (fun b hb=>HR0.o.1.jo b hb.1) HR0.o.1.jh HGD.o.oa).mono ?_;rintro e u9 ⟨gB,bad9,L9,rfl,hW,hWI⟩;have HWI:=AS hWI
       have HLb:Hid (∀c,cf L9 c<=4294967295):=fun c=>by
        unfold cf;rw[aJ];cases e:L9[c]? with
        |none=>show(0:Int)<=_;omega
        |some y=>exact(hW.lb y (aE e)).2
       clear hWI;have F2:=AS hW;clear hW hP E1 p6 i0;go_wp2_with fail
       go_loopw [19,20] (fun m b wr'=>∃(q:Nat) (m0:Int),q<=r.blocks.length/\m=.int .i64 m0/\b=.int .i64 q/\wr'=u9/\Hid (CW m0/\Br (fun b=>cf L9 (jf I b)) (fun b=>b<q/\Gi f.code r.blocks b) m0)) (fun _ b _=>r.blocks.length-(intOf b).toNat)
       case atStart=>exact⟨0,0,by omega,rfl,rfl,rfl,⟨⟨by omega,by omega⟩,Br.none (fun b hb=>by omega)⟩⟩
       case round=>
        obtain⟨qb,m0,hqb,rfl,rfl,rfl,HM⟩:=hrel;obtain⟨_,_,p6,_,p8,_⟩:=F2.o.gr.cells;have y2':wr.cell? ⟨FB,2,none⟩=some (.slice (some ⟨gb,ob,none⟩) r.blocks.length c1):=Ad F2.o.gr.bel (DT E4.o.fb).2.2.1;by_cases hlb:qb<r.blocks.length
        case neg=>
         cases bad9
         . go_wp2_with fail
           go_ret
           refine⟨⟨m0,rfl,HV.o _ (HSE.o.done HGD.o HSL.o.1 HSL.o.2 (fun hbd=> ?_) (fun hbd=>by have:=HWI.o.1.mono hbd;cases this))⟩,?_⟩
           . obtain rfl:qb=r.blocks.length:=by omega
             have h1:=HWI.o.1.pass HGD.o.fl (by rw[HR0.o.2];exact HR0.o.1) HSE.o.cn (HWI.o.2 (by simp)) HLb.o;rw[HR0.o.2]at h1;exact .inr ⟨cf L9,h1,HM.o.2⟩
           . exact E4.o.bel.trans (F2.o.gr.bel.mono E4.o.bel.size)
         . have HR:Hid (CC p (q:Int) costs (-1)):=HV.o _ (HSE.o.done HGD.o HSL.o.1 HSL.o.2 (fun hbd=>by
            have h1:=HWI.o.1;rw[hbd]at h1;have h2:=h1.noPass HGD.o.fl (by rw[HR0.o.2];exact HR0.o.1) HSE.o.cn;rw[HR0.o.2]at h2;exact .inl ⟨rfl,h2⟩) (fun _=>rfl))
           go_wp2_with fail
           go_ret
           exact⟨⟨-1,rfl,HR.o⟩,E4.o.bel.trans (F2.o.gr.bel.mono E4.o.bel.size)⟩
        have hlbI:(qb:Int)<(r.blocks.length:Int):=by omega
        obtain⟨m,hm⟩:∃m,r.blocks[qb]?=some m:=⟨_,aA hlb⟩;obtain⟨gb',ob',a1,e1,eb,_,j1,_,_⟩:=FE E4.o.rf.blocks hm;obtain⟨ja,je,e2,e3,hae,hel⟩:=HI.o.blk qb m hm;rw[e3]at j1;simp only[aR,cR,cw]at eb;obtain⟨rfl,rfl⟩:=eb;have i1:=Ad F2.o.gr.bel j1;obtain⟨x,hx⟩:∃x,f.code[je]?=some x:=⟨_,aA hel⟩;obtain⟨gi',oi',ci',ei,x0',_,_,_⟩:=Qq E4.o.rc hx;simp only[aF,aw]at ei;obtain⟨rfl,rfl⟩:=ei;have x0:=Ad F2.o.gr.bel x0';have hjcI:(je:Int)<(f.code.length:Int):=by omega
        obtain⟨y,hy,hyn',i0⟩:=F2.o.gr.isAt hlb;have hynI:(y:Int)<(r.blocks.length:Int):=by omega
        obtain⟨c,hcL,hc,b0,_⟩:=F2.o.at_ hyn'
        have HRT:Hid ((Gi f.code r.blocks qb↔x.op=29)/\(fun b=>cf L9 (jf I b)) qb=c):=⟨⟨fun⟨m',x',h1,h2,h3⟩=>by
         rw[hm]at h1;cases h1
         rw[e3,aG,hx]at h2;cases h2
         exact h3,fun h=>⟨m,x,hm,by rw[e3,aG];exact hx,h⟩⟩,by show cf L9 (jf I qb)=c;rw[Ir hy];exact DI hcL⟩
        clear j1 x0' e2 e3 hm hx hy hcL;by_cases hop:x.op=29
        case neg=>
         have hop':(x.op==29)=false:=by simpa using hop
         have HM2:Hid (CW m0/\Br (fun b=>cf L9 (jf I b)) (fun b=>b<(qb+1)/\Gi f.code r.blocks b) m0):=⟨HM.o.1,HM.o.2.iff fun b=>⟨fun h=>⟨by
          by_cases e:b=qb
          . subst e;exact absurd (HRT.o.1.1 h.2) hop
          . omega,h.2⟩,fun h=>⟨by omega,h.2⟩⟩⟩
         exact Py
        rw[hop]at x0
        have HMX:Hid (Br (fun b=>cf L9 (jf I b)) (fun b=>b<(qb+1)/\Gi f.code r.blocks b) (max m0 c)):=by
         rw[<-HRT.o.2]
         exact HM.o.2.add fun b=>⟨fun h=>by
          by_cases e:b=qb
          . exact .inr e
          . exact .inl ⟨by omega,h.2⟩,fun h=>by
          rcases h with h|rfl
          . exact⟨by omega,h.2⟩
          . exact⟨by omega,HRT.o.1.2 hop⟩⟩
        clear hop;by_cases hcm:c>m0
        case pos=>
         go_wp2_with fail
         go_roundw
         case rel=>exact⟨qb+1,c,by omega,rfl,by go_num,trivial,⟨by have:=HM.o.1.1;omega,hc.2⟩,by have:=HMX.o;rw[show max m0 c=c by omega]at this;exact this⟩
         case measure=>simp[intOf];omega
        have HM2:Hid (CW m0/\Br (fun b=>cf L9 (jf I b)) (fun b=>b<(qb+1)/\Gi f.code r.blocks b) m0):=⟨HM.o.1,by have:=HMX.o;rw[show max m0 c=m0 by omega]at this;exact this⟩
        exact Py
  have hltI:(k:Int)<(r.blocks.length:Int):=by omega
  obtain⟨m,hm⟩:∃m,r.blocks[k]?=some m:=⟨_,aA hlt⟩;obtain⟨gb',ob',a1,e1,eb,j0,j1,_,_⟩:=FE E4.o.rf.blocks hm;obtain⟨ja,je,e2,e3,hae,hel⟩:=HI.o.blk k m hm;rw[e2]at j0;rw[e3]at j1;simp only[aR,cR,cw]at eb;obtain⟨rfl,rfl⟩:=eb;have i0:=Ad E6.o.1.bel j0;have HJ:=AS (aq j1 ((DT E4.o.fb).2.2.1));have HBm:=AS (aq hm (aq e2 (aq e3 hae)));clear j0 j1 hm e2 e3;go_wp2_with fail
  go_loopw [11,12,13] (fun c j _ wr=>∃(c0:Int) (jj:Nat),c=.int .i64 c0/\j=.int .i64 jj/\CW c0/\jj<=je+1/\Hid (∃bad,Gp w1 wr G 0 r.at_ (.slice (some ⟨gb,ob,none⟩) r.blocks.length c1) (.slice (some ⟨go,oo,none⟩) r.order.length c2) (.slice v3 r.idom.length c3) (.slice v4 r.loops.length c4) vI vC bad (List.range k) C/\Ox f.code costs r C k ja bad c0 jj)) (fun _ j _ _=>je+1-(intOf j).toNat)
  case atStart=>exact⟨0,ja,rfl,rfl,⟨by omega,by omega⟩,by omega,_,E6.o.1,Nat.le_refl _,E6.o.2.2.1,fun h=>⟨E6.o.2.2.2 h,fun j x h1 h2=>by omega,by rw[cg];rfl⟩⟩
  case round=>
   have HCl:=AS E6.o.2.1;clear E6 y2 i0;obtain⟨c0,jj,rfl,rfl,hc0,hjj,E5⟩:=hrel;obtain⟨bad,hgp,hbs⟩:=E5.o;have E6:=AS hgp;have HBS:=AS hbs;clear E5 hgp hbs;have y2:=Ad E6.o.bel HJ.o.2;have i1:=Ad E6.o.bel HJ.o.1;by_cases hjl:jj<=je
   case neg=>
    have HBD:Hid ((bad=true->∃m∈r.blocks,B3 f.code costs m)/\(bad=false->Q8 f.code costs r (C++[c0]) (k+1))):=by
     obtain rfl:jj=je+1:=by omega
     exact HBS.o.done HCl.o HBm.o.1 HBm.o.2.1 HBm.o.2.2.1 hc0.2
    have p6:=E6.o.cells.1;have EA:Hid (Gp w1 (wr.alloc (.cells #[.int .i64 (k:Int)] 2)) G 0 r.at_ (.slice (some ⟨gb,ob,none⟩) r.blocks.length c1) (.slice (some ⟨go,oo,none⟩) r.order.length c2) (.slice v3 r.idom.length c3) (.slice v4 r.loops.length c4) vI vC bad (List.range k) C):=E6.o.keep (Aa _ _);have OA:Hid ((wr.alloc (.cells #[.int .i64 (k:Int)] 2)).ownsRow w1.heap.size 2 1 vI k (nv (List.range k))):=by have:=EA.o.is_;rw[bo]at this;exact this
    have q6:=EA.o.cells.1;go_upto_region 22 with(first|(at_builtin;refine wpList_append_lies _ rfl _ _ 28 rfl w1.heap.size 2 i64 (.int .i64 0) 1 8 Tryz.underlying28 hi hz0 hz1 hz2 rfl (by decide) vI k (nv (List.range k)) rfl OA.o ⟨wr.heap.size,0,none⟩ 1 1 [.int .i64 (k:Int)] rfl rfl (GH wr _ _) (fun u hu=>by simp at hu;subst hu;rfl) (by omega) (by unfold maxLen;omega) (by omega) EA.o.bel.size _ rfl ?_;intro g5 cap5 w5 hown5 hgrow5 hat5 hlt5;have PI:Hid _:=EA.o.push_I k (.slice (some ⟨g5,0,none⟩) (k+1) cap5) (by rw[bo];exact hown5) hgrow5 (Nw hat5);have s6:=PI.o.2.1;have s6':=PI.o.2.2;clear hown5 hgrow5 hat5 hlt5)|go_in)
    have E7:Hid (Gp w1 (w5.setCell ⟨G,6,none⟩ (.slice (some ⟨g5,0,none⟩) (k+1) cap5)) G 0 r.at_ (.slice (some ⟨gb,ob,none⟩) r.blocks.length c1) (.slice (some ⟨go,oo,none⟩) r.order.length c2) (.slice v3 r.idom.length c3) (.slice v4 r.loops.length c4) (.slice (some ⟨g5,0,none⟩) (k+1) cap5) vC bad (List.range (k+1)) C):=by have:=PI.o.1;rw[<-cj]at this;exact this
    clear PI s6 s6' EA OA q6 p6 E6 y2 i1;refine Al (fun U=>Hid (Gp w1 U G 0 r.at_ (.slice (some ⟨gb,ob,none⟩) r.blocks.length c1) (.slice (some ⟨go,oo,none⟩) r.order.length c2) (.slice v3 r.idom.length c3) (.slice v4 r.loops.length c4) (.slice (some ⟨g5,0,none⟩) (k+1) cap5) vC bad (List.range (k+1)) C)) E7 ?_;clear E7;rintro U E7;have p7:=E7.o.cells.2.1;have EB:Hid (Gp w1 (U.alloc (.cells #[.int .i64 c0] 2)) G 0 r.at_ (.slice (some ⟨gb,ob,none⟩) r.blocks.length c1) (.slice (some ⟨go,oo,none⟩) r.order.length c2) (.slice v3 r.idom.length c3) (.slice v4 r.loops.length c4) (.slice (some ⟨g5,0,none⟩) (k+1) cap5) vC bad (List.range (k+1)) C):=E7.o.keep (Aa _ _);have OB:Hid ((U.alloc (.cells #[.int .i64 c0] 2)).ownsRow w1.heap.size 2 1 vC k (C.flatMap Ac)):=by have:=EB.o.cost;rw[HCl.o]at this;exact this
    have q7:=EB.o.cells.2.1;go_wp2_with (first|(at_builtin;refine wpList_append_lies _ rfl _ _ 28 rfl w1.heap.size 2 i64 (.int .i64 0) 1 8 Tryz.underlying28 hi hz0 hz1 hz2 rfl (by decide) vC k (C.flatMap Ac) rfl OB.o ⟨U.heap.size,0,none⟩ 1 1 [.int .i64 c0] rfl rfl (GH U _ _) (fun u hu=>by simp at hu;subst hu;rfl) (by omega) (by unfold maxLen;omega) (by omega) EB.o.bel.size _ rfl ?_;intro g6 cap6 w6 hown5 hgrow5 hat5 hlt5;have PI:Hid _:=EB.o.push_C hc0 (.slice (some ⟨g6,0,none⟩) (k+1) cap6) (by rw[HCl.o];exact hown5) hgrow5 (Nw hat5);have s6:=PI.o.2.1;have s6':=PI.o.2.2;clear hown5 hgrow5 hat5 hlt5)|go_in);clear s6 s6' q7 p7 EB OB E7;go_roundw
    case rel=>exact⟨k+1,by omega,by go_num,_,_,_,_,PI.o.1,by rw[aH,HCl.o];rfl,HBD.o⟩
    case measure=>simp[intOf];omega
   have hjlI:(jj:Int)<=(je:Int):=by omega
   obtain⟨x,hx⟩:∃x,f.code[jj]?=some x:=⟨_,aA (by omega)⟩;obtain⟨gi,oi,ci,ei,x0,x1,x2,x3⟩:=Qq E4.o.rc hx;simp only[aF,aw]at ei;obtain⟨rfl,rfl⟩:=ei;have hjcI:(jj:Int)<(f.code.length:Int):=by omega
   rw[<-E6.o.bel.cell (aC x0)]at x0;rw[<-E6.o.bel.cell (aC x1)]at x1;rw[<-E6.o.bel.cell (aC x2)]at x2;rw[<-E6.o.bel.cell (aC x3)]at x3;have HX:=AS hx;clear hx;go_upto_region 16 with fail
   have E7:Hid (Gp w1 (wr.alloc (.cells #[.int .i64 x.op,.int .i64 x.a,.int .i64 x.b,.int .i64 x.c] 60)) G 0 r.at_ (.slice (some ⟨gb,ob,none⟩) r.blocks.length c1) (.slice (some ⟨go,oo,none⟩) r.order.length c2) (.slice v3 r.idom.length c3) (.slice v4 r.loops.length c4) vI vC bad (List.range k) C/\Ak (wr.alloc (.cells #[.int .i64 x.op,.int .i64 x.a,.int .i64 x.b,.int .i64 x.c] 60)) wr.heap.size #[.int .i64 x.op,.int .i64 x.a,.int .i64 x.b,.int .i64 x.c] 60):=⟨E6.o.keep (Aa _ _),Ak.new _ _ _⟩
   have HXO:Hid (x.op=28->∃(q:Nat) (fq:MF),x.a=q/\p.funcs[q]?=some fq):=fun e=>(HFA.o.parts.2.2.2.1 q (aD.1 HF.o.1).1 f HF.o.1 jj (aD.1 HX.o).1 x HX.o).callee e
   clear x0 x1 x2 x3 y2 i1 E6;generalize wr.heap.size=X at E7⊢;refine Al (fun U=>Hid (Gp w1 U G 0 r.at_ (.slice (some ⟨gb,ob,none⟩) r.blocks.length c1) (.slice (some ⟨go,oo,none⟩) r.order.length c2) (.slice v3 r.idom.length c3) (.slice v4 r.loops.length c4) vI vC bad (List.range k) C/\Ak U X #[.int .i64 x.op,.int .i64 x.a,.int .i64 x.b,.int .i64 x.c] 60)) E7 ?_
   clear E7;rintro U E7
   have hXG:X≠G:=fun e=>by
    have e1:=E7.o.2;have e2:=E7.o.1.blk;unfold Ak at e1 e2;rw[e,e2]at e1;injection e1 with e1
    injection e1 with _ e1
    exact absurd e1 (by decide)
   obtain⟨d0,d1,d2,d3⟩:=Em E7.o.2;go_wp2_with fail
   refine(Jy x.op U).mono ?_;rintro e u3 ⟨rfl,bb⟩;obtain⟨si,ci,fo,einfo,hci⟩:=CY x.op;rw[einfo];have hfield:=GW si ci fo;have HOP:=AS (MW einfo);have E8:Hid (Gp w1 u3 G 0 r.at_ (.slice (some ⟨gb,ob,none⟩) r.blocks.length c1) (.slice (some ⟨go,oo,none⟩) r.order.length c2) (.slice v3 r.idom.length c3) (.slice v4 r.loops.length c4) vI vC bad (List.range k) C/\Ak u3 X #[.int .i64 x.op,.int .i64 x.a,.int .i64 x.b,.int .i64 x.c] 60):=⟨E7.o.1.keep bb,E7.o.2.keep bb⟩
   clear bb E7 d0 d1 d2 d3 einfo;go_wp2_with fail
   refine(D9 G c0 ci _ u3 hc0 hci E8.o.1.cells.2.2.1 (E8.o.1.cells.2.2.2 8)).mono ?_;rintro e u4 ⟨c7,rfl,hc7,hU⟩
   have E9:Hid (∃bad2,(Gp w1 u4 G 0 r.at_ (.slice (some ⟨gb,ob,none⟩) r.blocks.length c1) (.slice (some ⟨go,oo,none⟩) r.order.length c2) (.slice v3 r.idom.length c3) (.slice v4 r.loops.length c4) vI vC bad2 (List.range k) C/\Ak u4 X #[.int .i64 x.op,.int .i64 x.a,.int .i64 x.b,.int .i64 x.c] 60)/\((bad2=true->∃m∈r.blocks,B3 f.code costs m)/\(bad2=false->bad=false/\c7=c0+ci))):=by
    rcases hU with⟨rfl,h1,_⟩|⟨rfl,_,h1⟩
    . exact⟨_,E8.o,HBS.o.mid HOPN.o HBm.o.1 HBm.o.2.1 HBm.o.2.2.1 hjl HX.o HOP.o (.inl ⟨rfl,h1⟩)⟩
    . exact⟨_,⟨E8.o.1.bad_,E8.o.2.other (a:=⟨G,8,none⟩) hXG _⟩,HBS.o.mid HOPN.o HBm.o.1 HBm.o.2.1 HBm.o.2.2.1 hjl HX.o HOP.o (.inr ⟨rfl,h1⟩)⟩
   clear hU E8 hfield hci hc0;obtain⟨bad2,hg2,hM2⟩:=E9.o;have F0:=AS hg2;have HMD:=AS hM2;clear hg2 hM2 E9;obtain⟨d0,d1,d2,d3⟩:=Em F0.o.2;by_cases hop:x.op=28
   case neg=>
    go_wp2_with fail
    go_roundw
    case rel=>exact⟨c7,jj+1,rfl,by go_num,hc7,by omega,bad2,F0.o.1,HBS.o.plain HOPN.o HX.o HOP.o hop HMD.o⟩
    case measure=>simp[intOf];omega
   obtain⟨cq,fq,hxa,_⟩:=HXO.o hop;have HXA:=AS (aq hop hxa);have HBC:Hid (¬IZ costs x->CC p (q:Int) costs (-1)):=fun hn=>HV.o _ (.inl ⟨.inr ⟨_,aE HBm.o.1,.inl ⟨jj,x,by rw[HBm.o.2.1];have:=HBS.o.le;omega,by rw[HBm.o.2.2.1];omega,HX.o,hn⟩⟩,rfl⟩)
   rw[hxa]at d1;rw[hop]at d0;have HC7:=AS hc7;clear hc7;by_cases hcq:(costs.length:Int)<=(cq:Int)
   case pos=>
    have hcq':(cq:Int)>=(costs.length:Int):=hcq;have HR:Hid (CC p (q:Int) costs (-1)):=HBC.o fun h=>by have:=(h hop).1;rw[hxa,aG]at this;omega
    clear hop hxa;exact Nd
   have hcq1:¬(cq:Int)>=(costs.length:Int):=hcq;have hcq2:cq<costs.length:=by omega
   have hcq3:(cq:Int)<(costs.length:Int):=by omega
   obtain⟨z,hz⟩:∃z,costs[cq]?=some z:=⟨_,aA hcq2⟩
   obtain⟨ga,oa,ea,kz⟩:∃ga oa,ca=some ⟨ga,oa,none⟩/\u4.cell? ⟨ga,oa+cq,none⟩=some (.int .i64 z):=by
    have:=Rd.keep E4.o.cs F0.o.1.bel lR;rcases this.2 with⟨e0,_⟩|⟨g1,o1,c1',e1,hc⟩
    . omega
    . simp only[aF,aw]at e1
      exact⟨g1,o1,e1.1,hc cq _ (Ew hz)⟩
   subst ea;have HZC:=AS hz;have HCZ:Hid (cf costs x.a.toNat=z):=by show cf costs x.a.toNat=z;rw[hxa,aG];exact DI hz
   clear hz hop hxa;by_cases hz0:z<0
   case pos=>
    have HR:Hid (CC p (q:Int) costs (-1)):=HBC.o fun h=>by have:=(h HXA.o.1).2.1;rw[HCZ.o]at this;omega
    exact Nd
   by_cases hz1:z>4294967295
   case pos=>
    have HR:Hid (CC p (q:Int) costs (-1)):=HBC.o fun h=>by have:=(h HXA.o.1).2.2;rw[HCZ.o]at this;omega
    exact Nd
   go_wp2_with fail
   refine(D9 G c7 z _ u4 HC7.o ⟨by omega,by omega⟩ F0.o.1.cells.2.2.1 (F0.o.1.cells.2.2.2 8)).mono ?_;rintro e u5 ⟨c8,rfl,hc8,hU⟩
   have F1:Hid (∃bad,Gp w1 u5 G 0 r.at_ (.slice (some ⟨gb,ob,none⟩) r.blocks.length c1) (.slice (some ⟨go,oo,none⟩) r.order.length c2) (.slice v3 r.idom.length c3) (.slice v4 r.loops.length c4) vI vC bad (List.range k) C/\Ox f.code costs r C k ja bad c8 (jj+1)):=by
    rcases hU with⟨rfl,h1,_⟩|⟨rfl,_,h1⟩
    . exact⟨_,F0.o.1,HBS.o.call HOPN.o HBm.o.1 HBm.o.2.1 HBm.o.2.2.1 hjl HX.o HOP.o HXA.o.1 HXA.o.2 HZC.o (by omega) (by omega) HMD.o (.inl ⟨rfl,h1⟩)⟩
    . exact⟨_,F0.o.1.bad_,HBS.o.call HOPN.o HBm.o.1 HBm.o.2.1 HBm.o.2.2.1 hjl HX.o HOP.o HXA.o.1 HXA.o.2 HZC.o (by omega) (by omega) HMD.o (.inr ⟨rfl,h1⟩)⟩
   clear hU F0 kz d0 d1 d2 d3;go_wp2_with fail
   go_roundw
   case rel=>exact⟨c8,jj+1,rfl,by go_num,hc8,by omega,F1⟩
   case measure=>simp[intOf];omega
end Go.Proofs.YtdipfjmlfbdkdaaGreat
