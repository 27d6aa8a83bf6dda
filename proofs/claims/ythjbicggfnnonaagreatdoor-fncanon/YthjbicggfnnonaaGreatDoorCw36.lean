import Derived.Test.YthjbicggfnnonaaGreatDoorCw33
namespace Go.Proofs.YthjbicggfnnonaaGreatDoor
open Go.ChangeShapes Go.WideShapes Go.ChangeAt Go.RowKit
set_option linter.unusedVariables false
set_option maxHeartbeats 8000000
set_option maxRecDepth 100000
theorem Jq(v:VP)(p:MP)(fi:Int)(lv:VL)(l:ML)(w:World)(hs:p.small)(hw:p.wf)(bX:Cr fi)(h:Ft w v p)(hl:l.small)(hr:Kw w lv l):
 Calls Tryz.prog 129 #[.agg #[v.r,v.k,v.f,v.t],.int .i64 fi,.agg #[.int .i64 l.head,lv.b,lv.k]] w fun e w'=>(∃n,e=.returned (.int .i64 n)/\Tq p fi l n)/\Below w.heap.size w w':=by
 obtain⟨Q,R,N,O,t1,S,f1,f3,rfl⟩:=h.sl;obtain⟨J,K,e1⟩:=Rd.bW hr.1;obtain⟨B,C,e2⟩:=Rd.bW hr.2;obtain⟨lb,lk⟩:=lv;simp only[]at e1 e2;subst e1 e2;have H:Hid (p.small/\p.wf/\Cr fi/\Ft w ⟨.slice Q p.aB.length R,.slice N p.ag.length O,.slice f1 p.funcs.length f3,.slice t1 p.a7.length S⟩ p/\Kw w ⟨.slice J l.back.length K,.slice B l.blocks.length C⟩ l/\l.small):=⟨hs,hw,bX,h,hr,hl⟩
 clear hs hw bX h hr hl;have E0:=GP w #[.slice Q p.aB.length R,.slice N p.ag.length O,.slice f1 p.funcs.length f3,.slice t1 p.a7.length S] #[.int .i64 l.head,.slice J l.back.length K,.slice B l.blocks.length C] 29 218;go_enter Tryz.func129,Tryz.ntmps129;go_upto_region 1 with fail
 refine Ao (fun u=>Hid (Aw u w.heap.size #[.slice Q p.aB.length R,.slice N p.ag.length O,.slice f1 p.funcs.length f3,.slice t1 p.a7.length S] 29/\Aw u (w.heap.size+1) #[.int .i64 l.head,.slice J l.back.length K,.slice B l.blocks.length C] 218/\Below w.heap.size w u)) E0 ?_
 rintro U0 E1;clear E0;obtain⟨p0,p1,p2,p3⟩:=Ce E1.o.1;go_wp2_with fail;refine(CO ⟨.slice Q p.aB.length R,.slice N p.ag.length O,.slice f1 p.funcs.length f3,.slice t1 p.a7.length S⟩ p U0 H.o.1 H.o.2.1 (H.o.2.2.2.1.aa E1.o.2.2 lR)).mono ?_;rintro e u1 ⟨⟨n,rfl,hn⟩,bb⟩;have E2:Hid (Aw u1 w.heap.size #[.slice Q p.aB.length R,.slice N p.ag.length O,.slice f1 p.funcs.length f3,.slice t1 p.a7.length S] 29/\Aw u1 (w.heap.size+1) #[.int .i64 l.head,.slice J l.back.length K,.slice B l.blocks.length C] 218/\Below w.heap.size w u1):=⟨E1.o.1.aa bb,E1.o.2.1.aa bb,Ac E1.o.2.2 lR bb⟩
 clear bb E1 p0 p1 p2 p3;clear U0;have p2:=E2.o.1.cell 2;simp only[jZ,i5,i8]at p2;by_cases bY:n=0;case neg=>
  have HN:Hid (¬FJ p fi l):=fun e=>bY (hn.one e.1)
  clear hn;go_wp2_with fail;go_ret;exact⟨⟨7,rfl,.inl ⟨HN.o,rfl⟩⟩,E2.o.2.2⟩
 subst bY;have bu:=Ag hn;clear hn;by_cases cH:fi<0;case pos=>
  have HN:Hid (¬FJ p fi l):=fun e=>absurd e.2.1 oM
  have dh:decide (fi<0)=true:=by simpa using cH
  go_wp2_with fail;go_ret;exact⟨⟨7,rfl,.inl ⟨HN.o,rfl⟩⟩,E2.o.2.2⟩
 by_cases di:(p.funcs.length:Int)<=fi;case pos=>
  have HN:Hid (¬FJ p fi l):=fun e=>by obtain⟨f,r,hf,_⟩:=e.2.2;have:=(d7.1 hf).1;omega
  go_wp2_with fail;go_ret;exact⟨⟨7,rfl,.inl ⟨HN.o,rfl⟩⟩,E2.o.2.2⟩
 obtain⟨q,rfl⟩:=i7 (show 0<=fi from oM);obtain⟨f,hf⟩:∃f,p.funcs[q]?=some f:=⟨_,an oM⟩;obtain⟨Z,ok,ck,bQ,g,bK,m0,m1,m2,m3⟩:=Ma H.o.2.2.2.1.funcs hf;simp only[ip,kU]at bQ;obtain⟨rfl,rfl⟩:=bQ;obtain⟨E,g3,g4,g6,g7,g9,rfl⟩:=Hs bK;have dw:(q:Int)<(p.funcs.length:Int):=oM;have HF:Hid (p.funcs[q]?=some f/\f.small/\IG w ⟨.slice E f.params.length g3,.slice g4 f.locals.length g6,.slice g7 f.code.length g9⟩ f/\0<f.code.length):=⟨hf,H.o.1.func f (d9 hf),bK,Nat.pos_of_ne_zero (bu.o.parts.2.2.1.2.2.1 q (d7.1 hf).1 f hf).ix⟩
 have bO:Hid (p.funcs[((q:Nat):Int).toNat]?=some f):=by show p.funcs[((q:Nat):Int).toNat]?=some f;rw[kJ];exact hf
 simp only[]at m0 m1 m2 m3;rw[<-E2.o.2.2.cell (d5 m3)]at m3;clear bK hf m0 m1 m2;go_wp2_with fail;refine(Fi (.slice g7 f.code.length g9) f.code u1 HF.o.2.1.2.2 (Rd.aa HF.o.2.2.1.2.2 E2.o.2.2 lR)).mono ?_;rintro e u2 ⟨r,vb,vo,vi,vl,rfl,bH,bJ,bb⟩;obtain⟨v1,c1,v2,c2,v3,c3,v4,c4,rfl,rfl,rfl,rfl⟩:=Ld bJ;have E3:Hid (OM w (u2.alloc (.cells #[.int .i64 r.code,.int .i64 r.at_,.slice v1 r.blocks.length c1,.slice v2 r.order.length c2,.slice v3 r.ej.length c3,.slice v4 r.loops.length c4] 210)) ⟨.slice Q p.aB.length R,.slice N p.ag.length O,.slice (some ⟨Z,ok,none⟩) p.funcs.length f3,.slice t1 p.a7.length S⟩ ⟨.slice J l.back.length K,.slice B l.blocks.length C⟩ l u2.heap.size r (.slice v1 r.blocks.length c1) (.slice v2 r.order.length c2) (.slice v3 r.ej.length c3) (.slice v4 r.loops.length c4)):=by have b2:=Aa u2 (.cells #[.int .i64 r.code,.int .i64 r.at_,.slice v1 r.blocks.length c1,.slice v2 r.order.length c2,.slice v3 r.ej.length c3,.slice v4 r.loops.length c4] 210);exact⟨(E2.o.1.aa bb).aa b2,(E2.o.2.1.aa bb).aa b2,Aw.new _ _ _,bJ.hT b2 lR,Ac (Ac E2.o.2.2 lR bb) lR b2⟩
 have aX:=Ag bH;have du:r.loops.length<=1024:=(GG bH).1;clear bH bJ bb E2 p2 m3;clear u1;go_upto_region 5 with fail
 generalize u2.heap.size=Y at E3⊢;refine Ao (fun u=>Hid (OM w u ⟨.slice Q p.aB.length R,.slice N p.ag.length O,.slice (some ⟨Z,ok,none⟩) p.funcs.length f3,.slice t1 p.a7.length S⟩ ⟨.slice J l.back.length K,.slice B l.blocks.length C⟩ l Y r (.slice v1 r.blocks.length c1) (.slice v2 r.order.length c2) (.slice v3 r.ej.length c3) (.slice v4 r.loops.length c4))) E3 ?_;rintro U T;clear E3;clear u2;go_wp2_with fail;go_loopw [9,10] (fun th i wr=>∃(b:Bool) (k:Nat),k<=r.loops.length/\th=.bool b/\i=.int .i64 k/\Hid (b=true↔∃j:Nat,j<k/\r.loops[j]?=some l)/\Hid (OM w wr ⟨.slice Q p.aB.length R,.slice N p.ag.length O,.slice (some ⟨Z,ok,none⟩) p.funcs.length f3,.slice t1 p.a7.length S⟩ ⟨.slice J l.back.length K,.slice B l.blocks.length C⟩ l Y r (.slice v1 r.blocks.length c1) (.slice v2 r.order.length c2) (.slice v3 r.ej.length c3) (.slice v4 r.loops.length c4))) (fun _ i _=>r.loops.length-(intOf i).toNat)
 case atStart=>exact⟨false,0,oM,rfl,rfl,⟨fun e=>(by cases e),fun⟨j,hj,_⟩=>absurd hj oM⟩,T⟩
 case round=>
 clear T;obtain⟨b,k,hk,rfl,rfl,HB,T⟩:=hrel;obtain⟨y0,y1,y2,y3,y4,y5⟩:=FV T.o.fb;by_cases ae:k<r.loops.length;case pos=>
  obtain⟨m,D⟩:∃m,r.loops[k]?=some m:=⟨_,an ae⟩;obtain⟨gl,ol,a1,x1,a2,x2,cE,i0,i1,i2,ce⟩:=Qf T.o.rf.loops D;have HM:=Ag D;clear D;cases b
  case true=>(go_upto_region 9 with fail);have inst:=At.some wr;refine AF kR kR ?_;(repeat(go_big_quiet_step (fail)));refine wpQuiet_nil ?_;rintro M ⟨n',rfl⟩;go_wp2;go_roundw;(case rel=>exact⟨true,k+1,oM,rfl,by go_num,⟨fun _=>by obtain⟨j,hj,e⟩:=HB.o.1 rfl;exact⟨j,oM,e⟩,fun _=>rfl⟩,T.o.aa n'.h⟩);exact oI
  case false=>
   (go_upto_region 9 with fail);have inst:=At.some wr;subst cE;obtain⟨W,o1,L⟩:=GA T.o.lb;(have Y5:=fun n':At wr=>At.cell y5 n');(have I0:=fun n':At wr=>At.cell i0 n');(have I1:=fun n':At wr=>At.cell i1 n');(have I2:=fun n':At wr=>At.cell i2 n');(have O0:=fun n':At wr=>At.cell W n');(have O1:=fun n':At wr=>At.cell o1 n');(have O2:=fun n':At wr=>At.cell L n');have HL:Hid (Tw wr (m,.slice a1 m.back.length x1,.slice a2 m.blocks.length x2)/\Tw wr (l,.slice J l.back.length K,.slice B l.blocks.length C)/\(m.back.length<=1048576/\m.blocks.length<=1048576)):=⟨ce,H.o.2.2.2.2.1.aa T.o.aC lR,(GG aX.o).2 m (d9 HM.o)⟩
   clear ce y0 y1 y2 y3 y4 y5 i0 i1 i2 W o1 L;by_cases bp:m=l;(case pos=>have aH:=Ag bp;clear bp;refine AF kR kR ?_;(repeat(go_big_quiet_step ((go_at_call 142;rename_i n';exact(Hl m l (.slice a1 m.back.length x1) (.slice a2 m.blocks.length x2) (.slice J l.back.length K) (.slice B l.blocks.length C) n'.u HL.o.2.2 H.o.2.2.2.2.2 (Kw.aa (v:=⟨.slice a1 m.back.length x1,.slice a2 m.blocks.length x2⟩) HL.o.1 n'.h lR) (Kw.aa (v:=⟨.slice J l.back.length K,.slice B l.blocks.length C⟩) HL.o.2.1 n'.h lR)).mono fun e M s=>⟨s.1.true aH.o,⟨⟨M,Ac n'.h lR s.2⟩,rfl⟩⟩))));refine wpQuiet_nil ?_;rintro M ⟨n',rfl⟩;go_wp2;go_roundw;(case rel=>exact⟨true,k+1,oM,rfl,by go_num,⟨fun _=>⟨k,oM,by rw[HM.o,aH.o]⟩,fun _=>rfl⟩,T.o.aa n'.h⟩);exact oI);case neg=>
    have aH:=Ag bp;clear bp;refine AF kR kR ?_;(repeat(go_big_quiet_step ((go_at_call 142;rename_i n';exact(Hl m l (.slice a1 m.back.length x1) (.slice a2 m.blocks.length x2) (.slice J l.back.length K) (.slice B l.blocks.length C) n'.u HL.o.2.2 H.o.2.2.2.2.2 (Kw.aa (v:=⟨.slice a1 m.back.length x1,.slice a2 m.blocks.length x2⟩) HL.o.1 n'.h lR) (Kw.aa (v:=⟨.slice J l.back.length K,.slice B l.blocks.length C⟩) HL.o.2.1 n'.h lR)).mono fun e M s=>⟨s.1.false aH.o,⟨⟨M,Ac n'.h lR s.2⟩,rfl⟩⟩))));refine wpQuiet_nil ?_;rintro M ⟨n',rfl⟩;go_wp2;go_roundw;case rel=>
     refine⟨false,k+1,oM,rfl,by go_num,⟨fun e=>(by cases e),fun⟨j,hj,e⟩=> ?_⟩,T.o.aa n'.h⟩;by_cases cA:j=k
     . subst cA;rw[HM.o]at e;exact absurd (kH e) aH.o
     exact HB.o.2 ⟨j,oM,e⟩
    case measure=>exact oI
 have au:k=r.loops.length:=oM;subst au;have bt:Hid (b=true↔l∈r.loops):=by
  constructor
  . intro e;obtain⟨j,_,e⟩:=HB.o.1 e;exact d9 e
  intro e;obtain⟨j,e⟩:=lY e;exact HB.o.2 ⟨j,(d7.1 e).1,e⟩
 clear HB ae hk;have bw:Hid (FJ p (q:Int) l->r.code=0/\l∈r.loops):=fun e=>by obtain⟨f',r',bV,cI,cF,cP⟩:=e.2.2;rw[bO.o]at bV;have ef:=kH bV;subst ef;have er:=cI.one aX.o;subst er;exact⟨cF,cP⟩
 by_cases aF:r.code=0;case neg=>
  have d6:(r.code != 0)=true:=by simpa using aF
  have HN:Hid (¬FJ p (q:Int) l):=fun e=>aF (bw.o e).1
  go_wp2_with fail;go_ret;exact⟨⟨7,rfl,.inl ⟨HN.o,rfl⟩⟩,T.o.aC⟩
 rw[aF]at y0;cases b
 case false=>
  have HN:Hid (¬FJ p (q:Int) l):=fun e=>(by have:=bt.o.2 (bw.o e).2;cases this)
  go_wp2_with fail;go_ret;exact⟨⟨7,rfl,.inl ⟨HN.o,rfl⟩⟩,T.o.aC⟩
 have bI:l∈r.loops:=bt.o.1 rfl;have HI:=Ag (aX.o.gR aF);have HO:Hid (Ku p (q:Int) l f r):=⟨bu.o,oM,bO.o,aX.o,aF,bI⟩;obtain⟨⟨s,bB,cM⟩,bS,cY,cZ⟩:=HI.o.loop l bI;have bL:=Ag bS;obtain⟨V,aY⟩:∃m,r.blocks[s]?=some m:=⟨_,an cM⟩;obtain⟨ha,he,bz,cu,cX,dg⟩:=HI.o.cC s V aY;have a6:Hid (r.blocks[l.head.toNat]?=some V/\V.cK=(ha:Int)/\l.head=(s:Int)):=⟨by rw[bB,kJ];exact aY,bz,bB⟩
 obtain⟨gb,ob,na,nc,cD,j0,j1,j2,aj⟩:=Hd T.o.rf.blocks aY;subst cD;rw[bz]at j0;have dj:(s:Int)<(r.blocks.length:Int):=oM;obtain⟨W,o1,L⟩:=GA T.o.lb;rw[bB]at W;obtain⟨p0,p1,p2,p3⟩:=Ce T.o.pb;clear aj aY bz cu bI bS bt bw aF;go_wp2_with fail;refine(KT ⟨.slice Q p.aB.length R,.slice N p.ag.length O,.slice (some ⟨Z,ok,none⟩) p.funcs.length f3,.slice t1 p.a7.length S⟩ p (q:Int) (ha:Int) wr H.o.1 (H.o.2.2.2.1.aa T.o.aC lR)).mono ?_;rintro e u3 ⟨⟨n,rfl,hn⟩,bb⟩;have E5:=Ag (T.o.aa bb);clear bb T y0 y1 y2 y3 y4 y5 W o1 L p0 p1 p2 p3 j0 j1 j2;clear wr;rcases hn with⟨rfl,bZ⟩|⟨kc,c,rfl,aG,bT⟩
 . (have HN:Hid (D4 p.a7 (q:Int) V.cK=none):=by rw[a6.o.2.1];exact bZ);clear bZ;go_wp2_with fail;go_ret;exact⟨⟨1,rfl,.inr ⟨f,r,HO.o,Cn.c1 a6.o.1 HN.o⟩⟩,E5.o.aC⟩
 have dn:kc<p.a7.length:=(d7.1 aG).1;have dm:(kc:Int)<(p.a7.length:Int):=oM;rcases H.o.2.2.2.1.a7.2 with⟨q0,_⟩|⟨gt,ot,ct,F,aT⟩
 . omega
 simp only[ip,kU]at F;obtain⟨rfl,rfl⟩:=F;have i0:=Rd.elem MT.aK aT kc c aG 0 _ rfl;have i1:=Rd.elem MT.aK aT kc c aG 1 _ rfl;have i2:=Rd.elem MT.aK aT kc c aG 2 _ rfl;have i3:=Rd.elem MT.aK aT kc c aG 3 _ rfl;rw[<-E5.o.aC.cell (d5 i0),kD]at i0;rw[<-E5.o.aC.cell (d5 i1)]at i1;rw[<-E5.o.aC.cell (d5 i2)]at i2;rw[<-E5.o.aC.cell (d5 i3)]at i3;have ch:Hid (D4 p.a7 (q:Int) V.cK=some c):=by rw[a6.o.2.1];exact bT
 clear aT bT aG;obtain⟨p0,p1,p2,p3⟩:=Ce E5.o.pb;obtain⟨x,hx⟩:∃x,f.code[ha]?=some x:=⟨_,an oM⟩;have HG:Hid (QA p (q:Int) f.code r.blocks l V c x):=⟨a6.o.1,ch.o,by rw[a6.o.2.1,kJ];exact hx⟩;rcases HF.o.2.2.1.2.2.2 with⟨q0,_⟩|⟨gc,oc,cc,F,aR⟩
 . exact absurd q0 (by have:=HF.o.2.2.2;omega)
 simp only[ip,kU]at F;obtain⟨rfl,rfl⟩:=F;have HC:Hid (∀(u:World),Below w.heap.size w u->∀(k:Nat) (x:MI),f.code[k]?=some x->u.cell? ⟨gc,oc+k*4,none⟩=some (.int .i64 x.op)/\u.cell? ⟨gc,oc+k*4+1,none⟩=some (.int .i64 x.a)/\u.cell? ⟨gc,oc+k*4+2,none⟩=some (.int .i64 x.b)/\u.cell? ⟨gc,oc+k*4+3,none⟩=some (.int .i64 x.c)):=fun u hu k x hx=>by have i0:=Rd.elem MI.aK aR k x hx 0 _ rfl;have i1:=Rd.elem MI.aK aR k x hx 1 _ rfl;have i2:=Rd.elem MI.aK aR k x hx 2 _ rfl;have i3:=Rd.elem MI.aK aR k x hx 3 _ rfl;rw[<-hu.cell (d5 i0),kD]at i0;rw[<-hu.cell (d5 i1)]at i1;rw[<-hu.cell (d5 i2)]at i2;rw[<-hu.cell (d5 i3)]at i3;exact⟨i0,i1,i2,i3⟩
 clear aR;have dt:f.code.length<=1024:=HI.o.len;go_upto_region 17 with fail
 refine Ao (fun u=>Hid (OM w u ⟨.slice Q p.aB.length R,.slice N p.ag.length O,.slice (some ⟨Z,ok,none⟩) p.funcs.length f3,.slice (some ⟨gt,ot,none⟩) p.a7.length S⟩ ⟨.slice J l.back.length K,.slice B l.blocks.length C⟩ l Y r (.slice (some ⟨gb,ob,none⟩) r.blocks.length c1) (.slice v2 r.order.length c2) (.slice v3 r.ej.length c3) (.slice v4 r.loops.length c4)/\Aw u u3.heap.size #[.int .i64 c.func,.int .i64 c.head,.int .i64 c.counter,.int .u32 c.init] 72)) ⟨E5.o.aa (Aa _ _),Aw.new _ _ _⟩ ?_
 rintro U6 E6;generalize u3.heap.size=CB at E6⊢;clear E5 p0 p1 p2 p3 i0 i1 i2 i3;clear u3;have cW:(ha:Int)<(f.code.length:Int):=oM;obtain⟨w0,w1,w2,w3⟩:=HC.o U6 E6.o.1.aC ha x hx;obtain⟨aL,aM,aN,aP⟩:=GU E6.o.2;by_cases E:x.op=27;case neg=>go_wp2_with fail;go_quiet (fail);go_wp2;go_ret;exact⟨⟨2,rfl,.inr ⟨f,r,HO.o,Cn.c2 HG.o fun e=>E e.1⟩⟩,Ac E6.o.1.aC lR (Aq _ _ _)⟩
 have bP:=Ag E;rw[E]at w0;clear E;by_cases g2:x.a=c.counter;case neg=>go_wp2_with fail;go_quiet (fail);go_wp2;go_ret;exact⟨⟨2,rfl,.inr ⟨f,r,HO.o,Cn.c2 HG.o fun e=>g2 e.2⟩⟩,Ac E6.o.1.aC lR (Aq _ _ _)⟩
 have aA:Hid (x.op=27/\x.a=c.counter):=⟨bP.o,g2⟩
 rw[g2]at w1;clear g2 bP;have HX:=Ag hx;clear hx;go_wp2_with fail;go_quiet (fail);go_wp2_with fail;refine Ao (fun u=>Hid (OM w u ⟨.slice Q p.aB.length R,.slice N p.ag.length O,.slice (some ⟨Z,ok,none⟩) p.funcs.length f3,.slice (some ⟨gt,ot,none⟩) p.a7.length S⟩ ⟨.slice J l.back.length K,.slice B l.blocks.length C⟩ l Y r (.slice (some ⟨gb,ob,none⟩) r.blocks.length c1) (.slice v2 r.order.length c2) (.slice v3 r.ej.length c3) (.slice v4 r.loops.length c4)/\Aw u CB #[.int .i64 c.func,.int .i64 c.head,.int .i64 c.counter,.int .u32 c.init] 72)) ⟨E6.o.1.aa (Aq _ _ _),E6.o.2.aa (Aq _ _ _)⟩ ?_
 clear w0 w1 w2 w3 aL aM aN aP E6;rintro U7 E7;go_loopw [14] (fun i wr=>∃k:Nat,k<=l.blocks.length/\i=.int .i64 k/\Hid (∀(j:Nat) (z:Int) (m:MB),j<k->l.blocks[j]?=some z->r.blocks[z.toNat]?=some m->∀a,m.cK<=a->a<=m.last->¬a=x.c)/\Hid (OM w wr ⟨.slice Q p.aB.length R,.slice N p.ag.length O,.slice (some ⟨Z,ok,none⟩) p.funcs.length f3,.slice (some ⟨gt,ot,none⟩) p.a7.length S⟩ ⟨.slice J l.back.length K,.slice B l.blocks.length C⟩ l Y r (.slice (some ⟨gb,ob,none⟩) r.blocks.length c1) (.slice v2 r.order.length c2) (.slice v3 r.ej.length c3) (.slice v4 r.loops.length c4)/\Aw wr CB #[.int .i64 c.func,.int .i64 c.head,.int .i64 c.counter,.int .u32 c.init] 72)) (fun i _=>l.blocks.length-(intOf i).toNat)
 case atStart=>exact⟨0,oM,rfl,fun j z m hj=>absurd hj oM,E7⟩
 case round=>
 clear E7;obtain⟨k,hk,rfl,HT,A⟩:=hrel;by_cases ae:k<l.blocks.length;case pos=>
  obtain⟨z,hz⟩:∃z,l.blocks[k]?=some z:=⟨_,an ae⟩;obtain⟨bn,ez,bF⟩:=bL.o z (d9 hz);obtain⟨m,D⟩:∃m,r.blocks[bn]?=some m:=⟨_,an bF⟩;obtain⟨ma,me,ao,aq,cR,cS⟩:=HI.o.cC bn m D;obtain⟨bR,cg,xa,xc,ev,X,x1,x2,aj⟩:=Hd A.o.1.rf.blocks D;simp only[i4,lF,lp]at ev;obtain⟨rfl,rfl⟩:=ev;rw[ao]at X;rw[aq]at x1;rcases H.o.2.2.2.2.1.2.2 with⟨q0,_⟩|⟨gd,od,cd,F,aS⟩
  . simp only[]at q0;omega
  simp only[ip,kU]at F;have ed:=F.1;clear F;have z0:=Rd.elem Ar aS k z hz 0 _ rfl;rw[kn,kD,<-A.o.1.aC.cell (d5 z0),ez]at z0;have I:Hid (l.blocks[k]?=some z/\z=(bn:Int)/\r.blocks[bn]?=some m/\m.cK=(ma:Int)/\m.last=(me:Int)):=⟨hz,ez,D,ao,aq⟩
  clear aS hz ez D ao aq aj;have cG:(bn:Int)<(r.blocks.length:Int):=oM;obtain⟨W,o1,L⟩:=GA A.o.1.lb;simp only[ed]at L;obtain⟨y0,y1,y2,y3,y4,y5⟩:=FV A.o.1.fb;clear y0 y1 y3 y4 y5 W o1;have s1:¬Y=wr.heap.size:=kg (d5 y2);have s2:Y<wr.heap.size:=d5 y2;have s3:¬w.heap.size+1=wr.heap.size:=kg (d5 L);have s4:w.heap.size+1<wr.heap.size:=d5 L;have s5:¬gb=wr.heap.size:=kg (d5 X);have s6:gb<wr.heap.size:=d5 X;have s7:¬gd=wr.heap.size:=kg (d5 z0);have s8:gd<wr.heap.size:=d5 z0;go_upto_region 22 with fail
  go_region;refine Bh (fun u=>Hid ((OM w u ⟨.slice Q p.aB.length R,.slice N p.ag.length O,.slice (some ⟨Z,ok,none⟩) p.funcs.length f3,.slice (some ⟨gt,ot,none⟩) p.a7.length S⟩ ⟨.slice J l.back.length K,.slice B l.blocks.length C⟩ l Y r (.slice (some ⟨gb,ob,none⟩) r.blocks.length c1) (.slice v2 r.order.length c2) (.slice v3 r.ej.length c3) (.slice v4 r.loops.length c4)/\Aw u CB #[.int .i64 c.func,.int .i64 c.head,.int .i64 c.counter,.int .u32 c.init] 72)/\Aw u wr.heap.size #[.int .i64 (ma:Int),.int .i64 (me:Int),.slice xa m.next.length xc] 216)) ⟨⟨(A.o.1.aa (Aa _ _)).aa (Ae _),(A.o.2.aa (Aa _ _)).aa (Ae _)⟩,(Aw.new wr _ _).aa (Ae _)⟩ ?_
  rintro U9 G;generalize wr.heap.size=XB at G⊢;clear s1 s2 s3 s4 s5 s6 s7 s8 X x1 x2 z0 y2 L A ed;obtain⟨w0,w1,w2,w3⟩:=HC.o U9 G.o.1.1.aC ha x HX.o;obtain⟨X,x1,x2⟩:=GA G.o.2;have ah:Hid (¬(m.cK<=x.c/\x.c<=m.last)->∀(j:Nat) (z:Int) (m:MB),j<k+1->l.blocks[j]?=some z->r.blocks[z.toNat]?=some m->∀a,m.cK<=a->a<=m.last->¬a=x.c):=fun aU j z' m' hj aw a8 a aE aQ=>by
   by_cases e:j=k
   . subst e;rw[I.o.1]at aw;have ez:=kH aw;subst ez;rw[I.o.2.1,kJ,I.o.2.2.1]at a8;have em:=kH a8;subst em;intro e;subst e;exact aU ⟨aE,aQ⟩
   exact HT.o j z' m' oM aw a8 a aE aQ
  by_cases s1:(ma:Int)<=x.c;case neg=>
   (have dx:decide ((ma:Int)<=x.c)=false:=by simpa using s1);have HS:Hid (¬(m.cK<=x.c/\x.c<=m.last)):=fun e=>s1 (by have:=e.1;rw[I.o.2.2.2.1]at this;exact this)
   go_wp2_with fail;go_quiet (fail);go_wp2;go_roundw;(case rel=>exact⟨k+1,oM,by go_num,ah.o HS.o,G.o.1.1.aa (Aq _ _ _),G.o.1.2.aa (Aq _ _ _)⟩);exact oI
  by_cases s2:x.c<=(me:Int);case neg=>
   have HS:Hid (¬(m.cK<=x.c/\x.c<=m.last)):=fun e=>s2 (by have:=e.2;rw[I.o.2.2.2.2]at this;exact this)
   go_wp2_with fail;go_quiet (fail);go_wp2;go_roundw;(case rel=>exact⟨k+1,oM,by go_num,ah.o HS.o,G.o.1.1.aa (Aq _ _ _),G.o.1.2.aa (Aq _ _ _)⟩);exact oI
  have HS:=Ag (T8 I.o.1 I.o.2.1 I.o.2.2.1 (by rw[I.o.2.2.2.1];exact s1) (by rw[I.o.2.2.2.2];exact s2));go_wp2_with fail;go_quiet (fail);go_wp2;go_ret;exact⟨⟨3,rfl,.inr ⟨f,r,HO.o,Cn.c3 HG.o aA.o HS.o⟩⟩,Ac G.o.1.1.aC lR (Aq _ _ _)⟩
 have au:k=l.blocks.length:=oM;subst au;have H3:Hid (¬ID r.blocks l.blocks x.c):=fun e=>Mk (P:=fun a=>a=x.c) (fun j z m hz D=>HT.o j z m (d7.1 hz).1 hz D) ⟨x.c,e,rfl⟩
 clear HT ae hk;have E7:=A;clear A;obtain⟨W,o1,L⟩:=GA E7.o.1.lb;go_wp2_with fail;go_loopw [16] (fun i wr=>∃k:Nat,k<=l.blocks.length/\i=.int .i64 k/\Hid (∀(j:Nat) (z:Int) (m:MB),j<k->l.blocks[j]?=some z->r.blocks[z.toNat]?=some m->∀a,m.cK<=a->a<=m.last->¬(a≠V.cK/\OK f.code c.counter a))/\Hid (OM w wr ⟨.slice Q p.aB.length R,.slice N p.ag.length O,.slice (some ⟨Z,ok,none⟩) p.funcs.length f3,.slice (some ⟨gt,ot,none⟩) p.a7.length S⟩ ⟨.slice J l.back.length K,.slice B l.blocks.length C⟩ l Y r (.slice (some ⟨gb,ob,none⟩) r.blocks.length c1) (.slice v2 r.order.length c2) (.slice v3 r.ej.length c3) (.slice v4 r.loops.length c4)/\Aw wr CB #[.int .i64 c.func,.int .i64 c.head,.int .i64 c.counter,.int .u32 c.init] 72)) (fun i _=>l.blocks.length-(intOf i).toNat)
 case atStart=>exact⟨0,oM,rfl,fun j z m hj=>absurd hj oM,E7⟩
 case round=>
 clear E7 W o1 L;obtain⟨k,hk,rfl,HT,A⟩:=hrel;by_cases ae:k<l.blocks.length;case pos=>
  obtain⟨z,hz⟩:∃z,l.blocks[k]?=some z:=⟨_,an ae⟩;obtain⟨bn,ez,bF⟩:=bL.o z (d9 hz);obtain⟨m,D⟩:∃m,r.blocks[bn]?=some m:=⟨_,an bF⟩;obtain⟨ma,me,ao,aq,cR,cS⟩:=HI.o.cC bn m D;obtain⟨bR,cg,xa,xc,ev,X,x1,x2,aj⟩:=Hd A.o.1.rf.blocks D;simp only[i4,lF,lp]at ev;obtain⟨rfl,rfl⟩:=ev;rw[ao]at X;rw[aq]at x1;rcases H.o.2.2.2.2.1.2.2 with⟨q0,_⟩|⟨gd,od,cd,F,aS⟩
  . simp only[]at q0;omega
  simp only[ip,kU]at F;have ed:=F.1;clear F;have z0:=Rd.elem Ar aS k z hz 0 _ rfl;rw[kn,kD,<-A.o.1.aC.cell (d5 z0),ez]at z0;have I:=Ag (f7 hz (f7 ez (f7 D (f7 ao aq))));clear aS hz ez D ao aq aj;have cG:(bn:Int)<(r.blocks.length:Int):=oM;obtain⟨W,o1,L⟩:=GA A.o.1.lb;simp only[ed]at L;obtain⟨y0,y1,y2,y3,y4,y5⟩:=FV A.o.1.fb;clear y0 y1 y3 y4 y5 W o1;have s1:¬Y=wr.heap.size:=kg (d5 y2);have s2:Y<wr.heap.size:=d5 y2;have s3:¬w.heap.size+1=wr.heap.size:=kg (d5 L);have s4:w.heap.size+1<wr.heap.size:=d5 L;have s5:¬gb=wr.heap.size:=kg (d5 X);have s6:gb<wr.heap.size:=d5 X;have s7:¬gd=wr.heap.size:=kg (d5 z0);have s8:gd<wr.heap.size:=d5 z0;go_upto_region 28 with fail
  go_region;refine Bh (fun u=>Hid ((OM w u ⟨.slice Q p.aB.length R,.slice N p.ag.length O,.slice (some ⟨Z,ok,none⟩) p.funcs.length f3,.slice (some ⟨gt,ot,none⟩) p.a7.length S⟩ ⟨.slice J l.back.length K,.slice B l.blocks.length C⟩ l Y r (.slice (some ⟨gb,ob,none⟩) r.blocks.length c1) (.slice v2 r.order.length c2) (.slice v3 r.ej.length c3) (.slice v4 r.loops.length c4)/\Aw u CB #[.int .i64 c.func,.int .i64 c.head,.int .i64 c.counter,.int .u32 c.init] 72)/\Aw u wr.heap.size #[.int .i64 (ma:Int),.int .i64 (me:Int),.slice xa m.next.length xc] 216)) ⟨⟨(A.o.1.aa (Aa _ _)).aa (Ae _),(A.o.2.aa (Aa _ _)).aa (Ae _)⟩,(Aw.new wr _ _).aa (Ae _)⟩ ?_
  rintro U9 G;generalize wr.heap.size=XB at G⊢;clear s1 s2 s3 s4 s5 s6 s7 s8 X x1 x2 z0 y2 L A ed;obtain⟨X,x1,x2⟩:=GA G.o.2;go_wp2_with fail;go_loopw [18] (fun i wr=>∃d:Nat,ma<=d/\d<=me+1/\i=.int .i64 d/\Hid (∀a:Int,(ma:Int)<=a->a<(d:Int)->¬(a≠V.cK/\OK f.code c.counter a))/\Hid ((OM w wr ⟨.slice Q p.aB.length R,.slice N p.ag.length O,.slice (some ⟨Z,ok,none⟩) p.funcs.length f3,.slice (some ⟨gt,ot,none⟩) p.a7.length S⟩ ⟨.slice J l.back.length K,.slice B l.blocks.length C⟩ l Y r (.slice (some ⟨gb,ob,none⟩) r.blocks.length c1) (.slice v2 r.order.length c2) (.slice v3 r.ej.length c3) (.slice v4 r.loops.length c4)/\Aw wr CB #[.int .i64 c.func,.int .i64 c.head,.int .i64 c.counter,.int .u32 c.init] 72)/\Aw wr XB #[.int .i64 (ma:Int),.int .i64 (me:Int),.slice xa m.next.length xc] 216)) (fun i _=>me+1-(intOf i).toNat)
  case atStart=>exact⟨ma,oM,oM,rfl,fun a h1 h2=>absurd h2 oM,G⟩
  case round=>
  clear G X x1 x2;obtain⟨d,db,dd,rfl,HD,G⟩:=hrel;obtain⟨X,x1,x2⟩:=GA G.o.2;by_cases dp:d<=me;case pos=>
   obtain⟨⟨yo,ya,yb,yc⟩,hy⟩:∃y,f.code[d]?=some y:=⟨_,an oM⟩;obtain⟨w0,w1,w2,w3⟩:=HC.o wr G.o.1.1.aC d _ hy;simp only[]at w0 w1 w2 w3;have HY:=Ag hy;clear hy;have cQ:(d:Int)<=(me:Int):=oM;have de:(d:Int)<(f.code.length:Int):=oM;have s1:¬gc=wr.heap.size:=kg (d5 w0);have s2:gc<wr.heap.size:=d5 w0;(go_upto_region 33 with fail);refine Ao (fun u=>Hid (((OM w u ⟨.slice Q p.aB.length R,.slice N p.ag.length O,.slice (some ⟨Z,ok,none⟩) p.funcs.length f3,.slice (some ⟨gt,ot,none⟩) p.a7.length S⟩ ⟨.slice J l.back.length K,.slice B l.blocks.length C⟩ l Y r (.slice (some ⟨gb,ob,none⟩) r.blocks.length c1) (.slice v2 r.order.length c2) (.slice v3 r.ej.length c3) (.slice v4 r.loops.length c4)/\Aw u CB #[.int .i64 c.func,.int .i64 c.head,.int .i64 c.counter,.int .u32 c.init] 72)/\Aw u XB #[.int .i64 (ma:Int),.int .i64 (me:Int),.slice xa m.next.length xc] 216)/\Aw u wr.heap.size #[.int .i64 yo,.int .i64 ya,.int .i64 yb,.int .i64 yc] 96)) ⟨⟨⟨G.o.1.1.aa (Aa _ _),G.o.1.2.aa (Aa _ _)⟩,G.o.2.aa (Aa _ _)⟩,Aw.new _ _ _⟩ ?_
   rintro UA EA;generalize wr.heap.size=YB at EA⊢;clear s1 s2 w0 w1 w2 w3 G X x1 x2;obtain⟨w0,w1,w2,w3⟩:=GU EA.o.2;obtain⟨aL,aM,aN,aP⟩:=GU EA.o.1.1.2;have aW:Hid (¬(((d:Int)≠V.cK)/\OK f.code c.counter (d:Int))->∀a:Int,(ma:Int)<=a->a<((d+1:Nat):Int)->¬(a≠V.cK/\OK f.code c.counter a)):=fun aU a h1 h2=>by
    by_cases e:a=(d:Int)
    . subst e;exact aU
    exact HD.o a h1 oM
   have HW:Hid (OK f.code c.counter (d:Int)↔(yo=3\/yo=27)/\ya=c.counter):=by
    constructor
    . rintro⟨y,hy,h1,h2⟩;rw[kJ,HY.o]at hy;have ey:=kH hy;subst ey;exact⟨h1,h2⟩
    rintro⟨h1,h2⟩;exact⟨_,by rw[kJ];exact HY.o,h1,h2⟩
   by_cases g0:d=ha;case pos=>
    have aZ:(d:Int)=(ha:Int):=oM;have aD:Hid (¬(((d:Int)≠V.cK)/\OK f.code c.counter (d:Int))):=fun e=>e.1 (by rw[a6.o.2.1];exact aZ)
    subst g0;clear aZ;go_wp2;go_roundw;(case rel=>exact⟨d+1,oM,oM,by go_num,aW.o aD.o,EA.o.1⟩);exact oI
   have aZ:¬(d:Int)=(ha:Int):=oM;(have cj:Hid ((d:Int)≠V.cK):=by show(d:Int)≠V.cK;rw[a6.o.2.1];exact aZ);by_cases E:yo=3\/yo=27
   case neg=>
    (have g2:¬yo=3:=fun e=>E (.inl e));(have g3:¬yo=27:=fun e=>E (.inr e));have aD:Hid (¬(((d:Int)≠V.cK)/\OK f.code c.counter (d:Int))):=fun e=>E (HW.o.1 e.2).1
    clear E;go_wp2;go_roundw;(case rel=>exact⟨d+1,oM,oM,by go_num,aW.o aD.o,EA.o.1⟩);exact oI
   by_cases g4:ya=c.counter;case neg=>
    (have cU:(ya==c.counter)=false:=by simp[g4]);have aD:Hid (¬(((d:Int)≠V.cK)/\OK f.code c.counter (d:Int))):=fun e=>g4 (HW.o.1 e.2).2
    rcases E with E|E
    . rw[E]at w0;go_wp2;go_roundw;(case rel=>exact⟨d+1,oM,oM,by go_num,aW.o aD.o,EA.o.1⟩);exact oI
    rw[E]at w0;go_wp2;go_roundw;(case rel=>exact⟨d+1,oM,oM,by go_num,aW.o aD.o,EA.o.1⟩);exact oI
   have H4:Hid (∃a,ID r.blocks l.blocks a/\a≠V.cK/\OK f.code c.counter a):=⟨(d:Int),T8 I.o.1 I.o.2.1 I.o.2.2.1 (by rw[I.o.2.2.2.1];omega) (by rw[I.o.2.2.2.2];omega),cj.o,HW.o.2 ⟨E,g4⟩⟩
   rw[g4]at w1;rcases E with E|E
   . rw[E]at w0;go_wp2;go_ret;exact⟨⟨4,rfl,.inr ⟨f,r,HO.o,Cn.c4 HG.o aA.o H3.o H4.o⟩⟩,EA.o.1.1.1.aC⟩
   rw[E]at w0;go_wp2;go_ret;exact⟨⟨4,rfl,.inr ⟨f,r,HO.o,Cn.c4 HG.o aA.o H3.o H4.o⟩⟩,EA.o.1.1.1.aC⟩
  have df:d=me+1:=oM;have cQ:¬(d:Int)<=(me:Int):=oM;have ah:Hid (∀(j:Nat) (z:Int) (m:MB),j<k+1->l.blocks[j]?=some z->r.blocks[z.toNat]?=some m->∀a,m.cK<=a->a<=m.last->¬(a≠V.cK/\OK f.code c.counter a)):=fun j z' m' hj aw a8 a aE aQ=>by
   by_cases e:j=k
   . subst e;rw[I.o.1]at aw;have ez:=kH aw;subst ez;rw[I.o.2.1,kJ,I.o.2.2.1]at a8;have em:=kH a8;subst em;rw[I.o.2.2.2.1]at aE;rw[I.o.2.2.2.2]at aQ;exact HD.o a aE oM
   exact HT.o j z' m' oM aw a8 a aE aQ
  go_wp2;go_roundw;case rel=>exact⟨k+1,oM,by go_num,ah.o,G.o.1⟩
  exact oI
 have au:k=l.blocks.length:=oM;subst au;have H4:=Ag (Mk (P:=fun a=>a≠V.cK/\OK f.code c.counter a) (fun j z m hz D=>HT.o j z m (d7.1 hz).1 hz D))
 clear HT ae hk;obtain⟨W,o1,L⟩:=GA A.o.1.lb;rw[a6.o.2.2]at W;by_cases cJ:s=0;case pos=>subst cJ;have H5:=Ag a6.o.2.2;go_wp2;go_ret;exact⟨⟨5,rfl,.inr ⟨f,r,HO.o,Cn.c5 HG.o aA.o H3.o H4.o (.inl H5.o)⟩⟩,A.o.1.aC⟩
 have cL:¬(s:Int)=0:=oM;have dq:r.blocks.length<=1024:=HI.o.nb;have E7:=A;clear A;go_wp2_with fail;clear W o1 L;go_loopw [20] (fun i wr=>∃k:Nat,k<=r.blocks.length/\i=.int .i64 k/\Hid (∀(j:Nat) (m:MB),j<k->r.blocks[j]?=some m->¬(l.head∈m.next/\¬((j:Int)∈l.blocks)/\¬De p.ag f.code m c))/\Hid (OM w wr ⟨.slice Q p.aB.length R,.slice N p.ag.length O,.slice (some ⟨Z,ok,none⟩) p.funcs.length f3,.slice (some ⟨gt,ot,none⟩) p.a7.length S⟩ ⟨.slice J l.back.length K,.slice B l.blocks.length C⟩ l Y r (.slice (some ⟨gb,ob,none⟩) r.blocks.length c1) (.slice v2 r.order.length c2) (.slice v3 r.ej.length c3) (.slice v4 r.loops.length c4)/\Aw wr CB #[.int .i64 c.func,.int .i64 c.head,.int .i64 c.counter,.int .u32 c.init] 72)) (fun i _=>r.blocks.length-(intOf i).toNat)
 case atStart=>exact⟨0,oM,rfl,fun j m hj=>absurd hj oM,E7⟩
 case round=>
 clear E7;obtain⟨k,hk,rfl,HT,A⟩:=hrel;obtain⟨y0,y1,y2,y3,y4,y5⟩:=FV A.o.1.fb;by_cases ae:k<r.blocks.length;case pos=>
  obtain⟨m,D⟩:∃m,r.blocks[k]?=some m:=⟨_,an ae⟩;obtain⟨bR,cg,xa,xc,ev,X,x1,x2,aj⟩:=Hd A.o.1.rf.blocks D;simp only[i4,lF,lp]at ev;obtain⟨rfl,rfl⟩:=ev;have HM:Hid (r.blocks[k]?=some m/\Tu wr (.slice xa m.next.length xc) m/\Rd wr 1 (.slice B l.blocks.length C) l.blocks.length (l.blocks.flatMap Ad)):=⟨D,aj,(H.o.2.2.2.2.1.aa A.o.1.aC lR).2⟩
  have am:Hid (m.next.length<=1048576/\l.blocks.length<=1048576):=⟨by have:=HI.o.two m (d9 D);omega,H.o.2.2.2.2.2.2⟩
  have ah:Hid (¬(l.head∈m.next/\¬((k:Int)∈l.blocks)/\¬De p.ag f.code m c)->∀(j:Nat) (m:MB),j<k+1->r.blocks[j]?=some m->¬(l.head∈m.next/\¬((j:Int)∈l.blocks)/\¬De p.ag f.code m c)):=fun aU j m' hj a8=>by
   by_cases e:j=k
   . subst e;rw[HM.o.1]at a8;have em:=kH a8;subst em;exact aU
   exact HT.o j m' oM a8
  clear D aj;obtain⟨W,o1,L⟩:=GA A.o.1.lb;rw[a6.o.2.2]at W;obtain⟨p0,p1,p2,p3⟩:=Ce A.o.1.pb;obtain⟨aL,aM,aN,aP⟩:=GU A.o.2;have dk:(k:Int)<(r.blocks.length:Int):=oM;go_upto_region 40 with fail
  have inst:=At.some wr;have Y2:=fun n':At wr=>At.cell y2 n'
  have X0:=fun n':At wr=>At.cell X n'
  have X1:=fun n':At wr=>At.cell x1 n'
  have X2:=fun n':At wr=>At.cell x2 n'
  have O0:=fun n':At wr=>At.cell W n'
  have O2:=fun n':At wr=>At.cell L n'
  have P0:=fun n':At wr=>At.cell p0 n'
  have P1:=fun n':At wr=>At.cell p1 n'
  have P2:=fun n':At wr=>At.cell p2 n'
  have P3:=fun n':At wr=>At.cell p3 n'
  have C0:=fun n':At wr=>At.cell aL n'
  have C1:=fun n':At wr=>At.cell aM n'
  have C2:=fun n':At wr=>At.cell aN n'
  have C3:=fun n':At wr=>At.cell aP n'
  clear y0 y1 y2 y3 y4 y5 X x1 x2 W o1 L p0 p1 p2 p3 aL aM aN aP;by_cases F:l.head∈m.next;case neg=>
   have HQ:Hid (¬(s:Int)∈m.next/\¬(l.head∈m.next/\¬((k:Int)∈l.blocks)/\¬De p.ag f.code m c)):=⟨by rw[<-a6.o.2.2];exact F,fun e=>F e.1⟩
   clear F;refine AF kR kR ?_;(repeat(go_big_quiet_step (fail)));go_big_quiet_step ((go_at_call 130;rename_i n';exact(D9 (.slice xa m.next.length xc) m.next (s:Int) n'.u am.o.1 (Rd.aa HM.o.2.1 n'.h lR)).mono fun e M s=>⟨s.1.false HQ.o.1,⟨n',s.2⟩⟩));(repeat(go_big_quiet_step (fail)));refine wpQuiet_nil ?_;rintro M ⟨n',rfl⟩;go_wp2;go_roundw;(case rel=>exact⟨k+1,oM,by go_num,ah.o HQ.o.2,A.o.1.aa n'.h,A.o.2.aa n'.h⟩);exact oI
  have bx:Hid ((s:Int)∈m.next):=by rw[<-a6.o.2.2];exact F
  by_cases q2:(k:Int)∈l.blocks;case pos=>
   have aI:Hid ((k:Int)∈l.blocks/\¬(l.head∈m.next/\¬((k:Int)∈l.blocks)/\¬De p.ag f.code m c)):=⟨q2,fun e=>e.2.1 q2⟩
   clear F q2;refine AF kR kR ?_;(repeat(go_big_quiet_step (fail)));go_big_quiet_step ((go_at_call 130;rename_i n';exact(D9 (.slice xa m.next.length xc) m.next (s:Int) n'.u am.o.1 (Rd.aa HM.o.2.1 n'.h lR)).mono fun e M s=>⟨s.1.true bx.o,⟨n',s.2⟩⟩));(repeat(go_big_quiet_step (fail)));go_big_quiet_step ((go_at_call 130;rename_i n';exact(D9 (.slice B l.blocks.length C) l.blocks (k:Int) n'.u am.o.2 (Rd.aa HM.o.2.2 n'.h lR)).mono fun e M s=>⟨s.1.true aI.o.1,⟨n',s.2⟩⟩));(repeat(go_big_quiet_step (fail)));refine wpQuiet_nil ?_;rintro M ⟨n',rfl⟩;go_wp2;go_roundw;(case rel=>exact⟨k+1,oM,by go_num,ah.o aI.o.2,A.o.1.aa n'.h,A.o.2.aa n'.h⟩);exact oI
  have aI:=Ag q2;have HK:Hid ((∀y∈f.code,y.op=1->0<=y.a/\y.a.toNat<p.ag.length)/\(∃a e:Nat,m.cK=(a:Int)/\m.last=(e:Int)/\a<=e/\e<f.code.length)):=⟨fun y hy cT=>by obtain⟨j,hj⟩:=lY hy;obtain⟨qq,zz,e1,e2⟩:=(bu.o.iq HF.o.1 hj).const cT;rw[e1,kJ];exact⟨oM,(d7.1 e2).1⟩,HI.o.cC k m HM.o.1⟩
  by_cases q3:De p.ag f.code m c;case pos=>
   have aJ:Hid (De p.ag f.code m c/\¬(l.head∈m.next/\¬((k:Int)∈l.blocks)/\¬De p.ag f.code m c)):=⟨q3,fun e=>e.2.2 q3⟩
   clear F q2 q3;refine AF kR kR ?_;(repeat(go_big_quiet_step (fail)));go_big_quiet_step ((go_at_call 130;rename_i n';exact(D9 (.slice xa m.next.length xc) m.next (s:Int) n'.u am.o.1 (Rd.aa HM.o.2.1 n'.h lR)).mono fun e M s=>⟨s.1.true bx.o,⟨n',s.2⟩⟩));(repeat(go_big_quiet_step (fail)));go_big_quiet_step ((go_at_call 130;rename_i n';exact(D9 (.slice B l.blocks.length C) l.blocks (k:Int) n'.u am.o.2 (Rd.aa HM.o.2.2 n'.h lR)).mono fun e M s=>⟨s.1.false aI.o,⟨n',s.2⟩⟩));(repeat(go_big_quiet_step (fail)));go_big_quiet_step ((go_at_call 144;rename_i n';exact(KU ⟨.slice Q p.aB.length R,.slice N p.ag.length O,.slice (some ⟨Z,ok,none⟩) p.funcs.length f3,.slice (some ⟨gt,ot,none⟩) p.a7.length S⟩ p (.slice (some ⟨gc,oc,none⟩) f.code.length g9) (.slice xa m.next.length xc) f.code m c n'.u H.o.1 (H.o.2.2.2.1.aa (Ac A.o.1.aC lR n'.h) lR) HF.o.2.1.2.2 (Rd.aa HF.o.2.2.1.2.2 (Ac A.o.1.aC lR n'.h) lR) HK.o.1 HK.o.2).mono fun e M s=>⟨s.1.true aJ.o.1,⟨⟨M,Ac n'.h lR s.2⟩,rfl⟩⟩));(repeat(go_big_quiet_step (fail)));refine wpQuiet_nil ?_;rintro M ⟨n',rfl⟩;go_wp2;go_roundw;(case rel=>exact⟨k+1,oM,by go_num,ah.o aJ.o.2,A.o.1.aa n'.h,A.o.2.aa n'.h⟩);exact oI
  have aJ:Hid (¬De p.ag f.code m c/\(l.head=0\/LU p.ag f.code r.blocks l c)):=⟨q3,.inr ⟨k,m,HM.o.1,F,q2,q3⟩⟩
  clear F q2 q3;refine AF kR kR ?_;repeat(go_big_quiet_step (fail))
  go_big_quiet_step ((go_at_call 130;rename_i n';exact(D9 (.slice xa m.next.length xc) m.next (s:Int) n'.u am.o.1 (Rd.aa HM.o.2.1 n'.h lR)).mono fun e M s=>⟨s.1.true bx.o,⟨n',s.2⟩⟩));repeat(go_big_quiet_step (fail))
  go_big_quiet_step ((go_at_call 130;rename_i n';exact(D9 (.slice B l.blocks.length C) l.blocks (k:Int) n'.u am.o.2 (Rd.aa HM.o.2.2 n'.h lR)).mono fun e M s=>⟨s.1.false aI.o,⟨n',s.2⟩⟩));repeat(go_big_quiet_step (fail))
  go_big_quiet_step ((go_at_call 144;rename_i n';exact(KU ⟨.slice Q p.aB.length R,.slice N p.ag.length O,.slice (some ⟨Z,ok,none⟩) p.funcs.length f3,.slice (some ⟨gt,ot,none⟩) p.a7.length S⟩ p (.slice (some ⟨gc,oc,none⟩) f.code.length g9) (.slice xa m.next.length xc) f.code m c n'.u H.o.1 (H.o.2.2.2.1.aa (Ac A.o.1.aC lR n'.h) lR) HF.o.2.1.2.2 (Rd.aa HF.o.2.2.1.2.2 (Ac A.o.1.aC lR n'.h) lR) HK.o.1 HK.o.2).mono fun e M s=>⟨s.1.false aJ.o.1,⟨⟨M,Ac n'.h lR s.2⟩,rfl⟩⟩));repeat(go_big_quiet_step (fail))
  refine wpQuiet_nil ?_;rintro M ⟨n',rfl⟩;go_wp2;go_ret;exact⟨⟨5,rfl,.inr ⟨f,r,HO.o,Cn.c5 HG.o aA.o H3.o H4.o aJ.o.2⟩⟩,Ac A.o.1.aC lR n'.h⟩
 have au:k=r.blocks.length:=oM;subst au;have H5:Hid (¬(l.head=0\/LU p.ag f.code r.blocks l c)):=fun e=>by
  rcases e with e|⟨j,m,D,h1,h2,h3⟩
  . rw[a6.o.2.2]at e;exact cL e
  exact HT.o j m (d7.1 D).1 D ⟨h1,h2,h3⟩
 clear HT;go_wp2;go_ret;exact⟨⟨0,rfl,.inr ⟨f,r,HO.o,Cn.c0 HG.o aA.o H3.o H4.o H5.o⟩⟩,A.o.1.aC⟩
end Go.Proofs.YthjbicggfnnonaaGreatDoor
