import Derived.Test.YtjnglocdoljgkaaGreatSw23
namespace Go.Proofs.YtjnglocdoljgkaaGreat
open Go.ChangeShapes Go.WideShapes Go.ChangeAt Go.RowKit
set_option linter.unusedVariables false
open Go.Value renaming slice → Z,int → Ac
open Option renaming some → K,none → M
open Go renaming World → Y,Calls → Ae
open Go.RowKit renaming Hid → Aa,Below → Ad
open Go.IntKind renaming i64 → Ab
set_option maxHeartbeats 8000000
set_option maxRecDepth 100000
theorem Jl(v:VP)(p:MP)(fi:Int)(lv:VL)(l:ML)(w:Y)(hs:p.small)(hw:p.wf)(bS:CO fi)(h:Cz w v p)(hl:l.small)(hr:Kq w lv l):
 Ae Tryz.prog 120 #[.agg #[v.r,v.k,v.f,v.t],Ac Ab fi,.agg #[Ac Ab l.head,lv.b,lv.k]] w λe w'=>(∃n,e=.returned (Ac Ab n)/\UK p fi l n)/\Ad w w w':=by
 obtain⟨T,V,R,S,t1,W,f1,f3,rfl⟩:=h.sl;obtain⟨L,N,e1⟩:=Rd.fu hr.1;obtain⟨B,C,e2⟩:=Rd.fu hr.2;obtain⟨lb,lk⟩:=lv;simp only[]at e1 e2;subst e1 e2;have H:Aa (p.small/\p.wf/\CO fi/\Cz w ⟨Z T p.a7 V,Z R p.aC S,Z f1 p.cC f3,Z t1 p.dr W⟩ p/\Kq w ⟨Z L l.back N,Z B l.ej C⟩ l/\l.small):=⟨hs,hw,bS,h,hr,hl⟩
 clear hs hw bS h hr hl;have E0:=Ef w #[Z T p.a7 V,Z R p.aC S,Z f1 p.cC f3,Z t1 p.dr W] #[Ac Ab l.head,Z L l.back N,Z B l.ej C] 28 95;go_enter Tryz.func120,Tryz.ntmps120;go_upto_region 1 with fail
 refine An (λu=>Aa (Ar u w #[Z T p.a7 V,Z R p.aC S,Z f1 p.cC f3,Z t1 p.dr W] 28/\Ar u ((w:Nat)+1) #[Ac Ab l.head,Z L l.back N,Z B l.ej C] 95/\Ad w w u)) E0 ?_
 rintro U0 E1;clear E0;obtain⟨p0,p1,p2,p3⟩:=Bi E1.o.1;go_wp2_with fail;refine(CZ ⟨Z T p.a7 V,Z R p.aC S,Z f1 p.cC f3,Z t1 p.dr W⟩ p U0 H.o.1 H.o.2.1 (H.o.2.2.2.1.bM E1.o.2.2 lR)).mono ?_;rintro e u1 ⟨⟨n,rfl,hn⟩,bb⟩;have E2:Aa (Ar u1 w #[Z T p.a7 V,Z R p.aC S,Z f1 p.cC f3,Z t1 p.dr W] 28/\Ar u1 ((w:Nat)+1) #[Ac Ab l.head,Z L l.back N,Z B l.ej C] 95/\Ad w w u1):=⟨E1.o.1.bM bb,E1.o.2.1.bM bb,Ai E1.o.2.2 lR bb⟩
 clear bb E1 p0 p1 p2 p3;clear U0;have p2:=E2.o.1.cell 2;simp only[kL,jt,kI]at p2;by_cases bT:n=0;case neg=>
  have HN:Aa (¬FA p fi l):= λe=>bT (hn.one e.1)
  clear hn;go_wp2_with fail;go_ret;exact⟨⟨7,rfl,.inl ⟨HN.o,rfl⟩⟩,E2.o.2.2⟩
 subst bT;have bq:=Ap hn;clear hn;by_cases cG:fi<0;case pos=>
  have HN:Aa (¬FA p fi l):= λe=>absurd e.2.1 oM
  have dg:decide (fi<0)=true:=by simpa using cG
  go_wp2_with fail;go_ret;exact⟨⟨7,rfl,.inl ⟨HN.o,rfl⟩⟩,E2.o.2.2⟩
 by_cases dh:(p.cC:Int)<=fi;case pos=>
  have HN:Aa (¬FA p fi l):= λe=>by obtain⟨f,r,hf,_⟩:=e.2.2;have:=(iV.1 hf).1;omega
  go_wp2_with fail;go_ret;exact⟨⟨7,rfl,.inl ⟨HN.o,rfl⟩⟩,E2.o.2.2⟩
 obtain⟨q,rfl⟩:=kU (show 0<=fi from oM);obtain⟨f,hf⟩:∃f,p.cC[q]?=K f:=⟨_,an oM⟩;obtain⟨gk,ok,ck,bL,g,bH,m0,m1,m2,m3⟩:=GO H.o.2.2.2.1.cC hf;simp only[jc,lO]at bL;obtain⟨rfl,rfl⟩:=bL;obtain⟨E,g3,g4,g6,g7,g9,rfl⟩:=C5 bH;have dw:(q:Int)<(p.cC:Int):=oM;have HF:Aa (p.cC[q]?=K f/\f.small/\Dt w ⟨Z E f.d5 g3,Z g4 f.en g6,Z g7 f.ch g9⟩ f/\0<f.ch.length):=⟨hf,H.o.1.func f (i8 hf),bH,Nat.pos_of_ne_zero (bq.o.parts.2.2.1.2.2.1 q (iV.1 hf).1 f hf).iG⟩
 have bJ:Aa (p.cC[((q:Nat):Int).toNat]?=K f):=by show p.cC[((q:Nat):Int).toNat]?=K f;rw[kM];exact hf
 simp only[]at m0 m1 m2 m3;rw[<-E2.o.2.2.cell (jC m3)]at m3;clear bH hf m0 m1 m2;go_wp2_with fail;refine(DT (Z g7 f.ch g9) f.ch u1 HF.o.2.1.2.2 (Rd.bM HF.o.2.2.1.2.2 E2.o.2.2 lR)).mono ?_;rintro e u2 ⟨r,vb,vo,vi,vl,rfl,bC,bG,bb⟩;obtain⟨v1,c1,v2,c2,v3,c3,v4,c4,rfl,rfl,rfl,rfl⟩:=La bG;have E3:Aa (PY w (u2.alloc (.cells #[Ac Ab r.ch,Ac Ab r.at_,Z v1 r.ej c1,Z v2 r.gJ c2,Z v3 r.gS c3,Z v4 r.gI c4] 45)) ⟨Z T p.a7 V,Z R p.aC S,Z (K ⟨gk,ok,M⟩) p.cC f3,Z t1 p.dr W⟩ ⟨Z L l.back N,Z B l.ej C⟩ l u2 r (Z v1 r.ej c1) (Z v2 r.gJ c2) (Z v3 r.gS c3) (Z v4 r.gI c4)):=by have b2:=Ag u2 (.cells #[Ac Ab r.ch,Ac Ab r.at_,Z v1 r.ej c1,Z v2 r.gJ c2,Z v3 r.gS c3,Z v4 r.gI c4] 45);exact⟨(E2.o.1.bM bb).bM b2,(E2.o.2.1.bM bb).bM b2,Ar.new _ _ _,bG.iB b2 lR,Ai (Ai E2.o.2.2 lR bb) lR b2⟩
 have bf:=Ap bC;have du:r.gI.length<=1024:=(Gw bC).1;clear bC bG bb E2 p2 m3;clear u1;go_upto_region 5 with fail
 generalize u2.heap.size=FB at E3⊢;refine An (λu=>Aa (PY w u ⟨Z T p.a7 V,Z R p.aC S,Z (K ⟨gk,ok,M⟩) p.cC f3,Z t1 p.dr W⟩ ⟨Z L l.back N,Z B l.ej C⟩ l FB r (Z v1 r.ej c1) (Z v2 r.gJ c2) (Z v3 r.gS c3) (Z v4 r.gI c4))) E3 ?_;rintro U X;clear E3;clear u2;go_wp2_with fail;go_loopw [9,10] (λth i wr=>∃(b:Bool) (k:Nat),k<= ↑r.gI/\th=.bool b/\i=Ac Ab k/\Aa (b=true↔∃j:Nat,j<k/\r.gI[j]?=K l)/\Aa (PY w wr ⟨Z T p.a7 V,Z R p.aC S,Z (K ⟨gk,ok,M⟩) p.cC f3,Z t1 p.dr W⟩ ⟨Z L l.back N,Z B l.ej C⟩ l FB r (Z v1 r.ej c1) (Z v2 r.gJ c2) (Z v3 r.gS c3) (Z v4 r.gI c4))) (λ_ i _=> ↑r.gI-(intOf i).toNat)
 case atStart=>exact⟨false,0,oM,rfl,rfl,⟨λe=>(by cases e), λ⟨j,hj,_⟩=>absurd hj oM⟩,X⟩
 case round=>
 clear X;obtain⟨b,k,hk,rfl,rfl,HB,X⟩:=hrel;obtain⟨y0,y1,y2,y3,y4,y5⟩:=Dq X.o.fb;by_cases ah:k< ↑r.gI
 case pos=>
  obtain⟨m,D⟩:∃m,r.gI[k]?=K m:=⟨_,an ah⟩;obtain⟨gl,ol,a1,x1,a2,x2,cA,i0,i1,i2,bX⟩:=Rq X.o.rf.gI D;have HM:=Ap D;clear D;cases b
  case true=>(go_upto_region 9 with fail);have inst:=Av.some wr;refine AL kR kR ?_;(repeat(go_big_quiet_step (fail)));refine wpQuiet_nil ?_;rintro Q ⟨n',rfl⟩;go_wp2;go_roundw;(case rel=>exact⟨true,k+1,oM,rfl,by go_num,⟨λ_=>by obtain⟨j,hj,e⟩:=HB.o.1 rfl;exact⟨j,oM,e⟩, λ_=>rfl⟩,X.o.bM n'.h⟩);exact oI
  case false=>
   (go_upto_region 9 with fail);have inst:=Av.some wr;subst cA;obtain⟨o0,o1,O⟩:=Fx X.o.lb;(have Y5:= λn':Av wr=>Av.cell y5 n');(have I0:= λn':Av wr=>Av.cell i0 n');(have I1:= λn':Av wr=>Av.cell i1 n');(have I2:= λn':Av wr=>Av.cell i2 n');(have O0:= λn':Av wr=>Av.cell o0 n');(have O1:= λn':Av wr=>Av.cell o1 n');(have O2:= λn':Av wr=>Av.cell O n');have HL:Aa (UQ wr (m,Z a1 m.back x1,Z a2 m.ej x2)/\UQ wr (l,Z L l.back N,Z B l.ej C)/\(m.back.length<=1048576/\m.ej.length<=1048576)):=⟨bX,H.o.2.2.2.2.1.bM X.o.gG lR,(Gw bf.o).2 m (i8 HM.o)⟩
   clear bX y0 y1 y2 y3 y4 y5 i0 i1 i2 o0 o1 O;by_cases bj:m=l;(case pos=>have aI:=Ap bj;clear bj;refine AL kR kR ?_;(repeat(go_big_quiet_step ((go_at_call 143;rename_i n';exact(Ha m l (Z a1 m.back x1) (Z a2 m.ej x2) (Z L l.back N) (Z B l.ej C) n'.u HL.o.2.2 H.o.2.2.2.2.2 (Kq.bM (v:=⟨Z a1 m.back x1,Z a2 m.ej x2⟩) HL.o.1 n'.h lR) (Kq.bM (v:=⟨Z L l.back N,Z B l.ej C⟩) HL.o.2.1 n'.h lR)).mono λe Q s=>⟨s.1.true aI.o,⟨⟨Q,Ai n'.h lR s.2⟩,rfl⟩⟩))));refine wpQuiet_nil ?_;rintro Q ⟨n',rfl⟩;go_wp2;go_roundw;(case rel=>exact⟨true,k+1,oM,rfl,by go_num,⟨λ_=>⟨k,oM,by rw[HM.o,aI.o]⟩, λ_=>rfl⟩,X.o.bM n'.h⟩);exact oI);case neg=>
    have aI:=Ap bj;clear bj;refine AL kR kR ?_;(repeat(go_big_quiet_step ((go_at_call 143;rename_i n';exact(Ha m l (Z a1 m.back x1) (Z a2 m.ej x2) (Z L l.back N) (Z B l.ej C) n'.u HL.o.2.2 H.o.2.2.2.2.2 (Kq.bM (v:=⟨Z a1 m.back x1,Z a2 m.ej x2⟩) HL.o.1 n'.h lR) (Kq.bM (v:=⟨Z L l.back N,Z B l.ej C⟩) HL.o.2.1 n'.h lR)).mono λe Q s=>⟨s.1.false aI.o,⟨⟨Q,Ai n'.h lR s.2⟩,rfl⟩⟩))));refine wpQuiet_nil ?_;rintro Q ⟨n',rfl⟩;go_wp2;go_roundw;case rel=>
     refine⟨false,k+1,oM,rfl,by go_num,⟨λe=>(by cases e), λ⟨j,hj,e⟩=> ?_⟩,X.o.bM n'.h⟩;by_cases cj:j=k
     . subst cj;rw[HM.o]at e;exact absurd (kN e) aI.o
     exact HB.o.2 ⟨j,oM,e⟩
    case measure=>exact oI
 have aw:k=r.gI.length:=oM;subst aw;have bp:Aa (b=true↔l∈r.gI):=by
  constructor
  . intro e;obtain⟨j,_,e⟩:=HB.o.1 e;exact i8 e
  intro e;obtain⟨j,e⟩:=lw e;exact HB.o.2 ⟨j,(iV.1 e).1,e⟩
 clear HB ah hk;have br:Aa (FA p (q:Int) l->r.ch=0/\l∈r.gI):= λe=>by obtain⟨f',r',bR,cH,cD,cQ⟩:=e.2.2;rw[bJ.o]at bR;have ef:=kN bR;subst ef;have er:=cH.one bf.o;subst er;exact⟨cD,cQ⟩
 by_cases aG:r.ch=0;case neg=>
  have d8:(r.ch != 0)=true:=by simpa using aG
  have HN:Aa (¬FA p (q:Int) l):= λe=>aG (br.o e).1
  go_wp2_with fail;go_ret;exact⟨⟨7,rfl,.inl ⟨HN.o,rfl⟩⟩,X.o.gG⟩
 rw[aG]at y0;cases b
 case false=>
  have HN:Aa (¬FA p (q:Int) l):= λe=>(by have:=bp.o.2 (br.o e).2;cases this)
  go_wp2_with fail;go_ret;exact⟨⟨7,rfl,.inl ⟨HN.o,rfl⟩⟩,X.o.gG⟩
 have bF:l∈r.gI:=bp.o.1 rfl;have HI:=Ap (bf.o.ii aG);have HO:Aa (Ko p (q:Int) l f r):=⟨bq.o,oM,bJ.o,bf.o,aG,bF⟩;obtain⟨⟨s,bz,cM⟩,bP,d6,d7⟩:=HI.o.loop l bF;have bI:=Ap bP;obtain⟨hb,bg⟩:∃m,r.ej[s]?=K m:=⟨_,an cM⟩;obtain⟨ha,he,bu,cg,cZ,df⟩:=HI.o.gR s hb bg;have a8:Aa (r.ej[l.head.toNat]?=K hb/\hb.gK=(ha:Int)/\l.head=(s:Int)):=⟨by rw[bz,kM];exact bg,bu,bz⟩
 obtain⟨gb,ob,na,nc,cu,j0,j1,j2,am⟩:=G4 X.o.rf.ej bg;subst cu;rw[bu]at j0;have di:(s:Int)<(r.ej:Int):=oM;obtain⟨o0,o1,O⟩:=Fx X.o.lb;rw[bz]at o0;obtain⟨p0,p1,p2,p3⟩:=Bi X.o.pb;clear am bg bu cg bF bP bp br aG;go_wp2_with fail;refine(KW ⟨Z T p.a7 V,Z R p.aC S,Z (K ⟨gk,ok,M⟩) p.cC f3,Z t1 p.dr W⟩ p (q:Int) (ha:Int) wr H.o.1 (H.o.2.2.2.1.bM X.o.gG lR)).mono ?_;rintro e u3 ⟨⟨n,rfl,hn⟩,bb⟩;have E5:=Ap (X.o.bM bb);clear bb X y0 y1 y2 y3 y4 y5 o0 o1 O p0 p1 p2 p3 j0 j1 j2;clear wr;rcases hn with⟨rfl,bV⟩|⟨kc,c,rfl,aH,bQ⟩
 . (have HN:Aa (DK p.dr (q:Int) hb.gK=M):=by rw[a8.o.2.1];exact bV);clear bV;go_wp2_with fail;go_ret;exact⟨⟨1,rfl,.inr ⟨f,r,HO.o,B9.c1 a8.o.1 HN.o⟩⟩,E5.o.gG⟩
 have dm:kc<p.dr.length:=(iV.1 aH).1;have dk:(kc:Int)<(p.dr:Int):=oM;rcases H.o.2.2.2.1.dr.2 with⟨q0,_⟩|⟨gt,ot,ct,F,aX⟩
 . omega
 simp only[jc,lO]at F;obtain⟨rfl,rfl⟩:=F;have i0:=Rd.elem MT.gH aX kc c aH 0 _ rfl;have i1:=Rd.elem MT.gH aX kc c aH 1 _ rfl;have i2:=Rd.elem MT.gH aX kc c aH 2 _ rfl;have i3:=Rd.elem MT.gH aX kc c aH 3 _ rfl;rw[<-E5.o.gG.cell (jC i0),kZ]at i0;rw[<-E5.o.gG.cell (jC i1)]at i1;rw[<-E5.o.gG.cell (jC i2)]at i2;rw[<-E5.o.gG.cell (jC i3)]at i3;have bZ:Aa (DK p.dr (q:Int) hb.gK=K c):=by rw[a8.o.2.1];exact bQ
 clear aX bQ aH;obtain⟨p0,p1,p2,p3⟩:=Bi E5.o.pb;obtain⟨x,hx⟩:∃x,f.ch[ha]?=K x:=⟨_,an oM⟩;have HG:Aa (RP p (q:Int) f.ch r.ej l hb c x):=⟨a8.o.1,bZ.o,by rw[a8.o.2.1,kM];exact hx⟩;rcases HF.o.2.2.1.2.2.2 with⟨q0,_⟩|⟨gc,oc,cc,F,aU⟩
 . exact absurd q0 (by have:=HF.o.2.2.2;omega)
 simp only[jc,lO]at F;obtain⟨rfl,rfl⟩:=F;have HC:Aa (∀(u:Y),Ad w w u->∀(k:Nat) (x:MI),f.ch[k]?=K x->u.cell? ⟨gc,oc+k*4,M⟩=K (Ac Ab x.op)/\u.cell? ⟨gc,oc+k*4+1,M⟩=K (Ac Ab x.a)/\u.cell? ⟨gc,oc+k*4+2,M⟩=K (Ac Ab x.b)/\u.cell? ⟨gc,oc+k*4+3,M⟩=K (Ac Ab x.c)):= λu hu k x hx=>by have i0:=Rd.elem MI.gH aU k x hx 0 _ rfl;have i1:=Rd.elem MI.gH aU k x hx 1 _ rfl;have i2:=Rd.elem MI.gH aU k x hx 2 _ rfl;have i3:=Rd.elem MI.gH aU k x hx 3 _ rfl;rw[<-hu.cell (jC i0),kZ]at i0;rw[<-hu.cell (jC i1)]at i1;rw[<-hu.cell (jC i2)]at i2;rw[<-hu.cell (jC i3)]at i3;exact⟨i0,i1,i2,i3⟩
 clear aU;have dt:f.ch.length<=1024:=HI.o.len;go_upto_region 17 with fail
 refine An (λu=>Aa (PY w u ⟨Z T p.a7 V,Z R p.aC S,Z (K ⟨gk,ok,M⟩) p.cC f3,Z (K ⟨gt,ot,M⟩) p.dr W⟩ ⟨Z L l.back N,Z B l.ej C⟩ l FB r (Z (K ⟨gb,ob,M⟩) r.ej c1) (Z v2 r.gJ c2) (Z v3 r.gS c3) (Z v4 r.gI c4)/\Ar u u3 #[Ac Ab c.func,Ac Ab c.head,Ac Ab c.gQ,Ac .u32 c.init] 121)) ⟨E5.o.bM (Ag _ _),Ar.new _ _ _⟩ ?_
 rintro U6 E6;generalize u3.heap.size=CB at E6⊢;clear E5 p0 p1 p2 p3 i0 i1 i2 i3;clear u3;have cY:(ha:Int)<(f.ch:Int):=oM;obtain⟨w0,w1,w2,w3⟩:=HC.o U6 E6.o.1.gG ha x hx;obtain⟨aP,aQ,aR,aS⟩:=IX E6.o.2;by_cases E:x.op=27;case neg=>go_wp2_with fail;go_quiet (fail);go_wp2;go_ret;exact⟨⟨2,rfl,.inr ⟨f,r,HO.o,B9.c2 HG.o λe=>E e.1⟩⟩,Ai E6.o.1.gG lR (As _ _ _)⟩
 have bK:=Ap E;rw[E]at w0;clear E;by_cases g2:x.a=c.gQ;case neg=>go_wp2_with fail;go_quiet (fail);go_wp2;go_ret;exact⟨⟨2,rfl,.inr ⟨f,r,HO.o,B9.c2 HG.o λe=>g2 e.2⟩⟩,Ai E6.o.1.gG lR (As _ _ _)⟩
 have aD:Aa (x.op=27/\x.a=c.gQ):=⟨bK.o,g2⟩
 rw[g2]at w1;clear g2 bK;have HX:=Ap hx;clear hx;go_wp2_with fail;go_quiet (fail);go_wp2_with fail;refine An (λu=>Aa (PY w u ⟨Z T p.a7 V,Z R p.aC S,Z (K ⟨gk,ok,M⟩) p.cC f3,Z (K ⟨gt,ot,M⟩) p.dr W⟩ ⟨Z L l.back N,Z B l.ej C⟩ l FB r (Z (K ⟨gb,ob,M⟩) r.ej c1) (Z v2 r.gJ c2) (Z v3 r.gS c3) (Z v4 r.gI c4)/\Ar u CB #[Ac Ab c.func,Ac Ab c.head,Ac Ab c.gQ,Ac .u32 c.init] 121)) ⟨E6.o.1.bM (As _ _ _),E6.o.2.bM (As _ _ _)⟩ ?_
 clear w0 w1 w2 w3 aP aQ aR aS E6;rintro U7 E7;go_loopw [14] (λi wr=>∃k:Nat,k<= ↑l.ej/\i=Ac Ab k/\Aa (∀(j:Nat) (z:Int) (m:MB),j<k->l.ej[j]?=K z->r.ej[z.toNat]?=K m->∀a,m.gK<=a->a<=m.last->¬a=x.c)/\Aa (PY w wr ⟨Z T p.a7 V,Z R p.aC S,Z (K ⟨gk,ok,M⟩) p.cC f3,Z (K ⟨gt,ot,M⟩) p.dr W⟩ ⟨Z L l.back N,Z B l.ej C⟩ l FB r (Z (K ⟨gb,ob,M⟩) r.ej c1) (Z v2 r.gJ c2) (Z v3 r.gS c3) (Z v4 r.gI c4)/\Ar wr CB #[Ac Ab c.func,Ac Ab c.head,Ac Ab c.gQ,Ac .u32 c.init] 121)) (λi _=> ↑l.ej-(intOf i).toNat)
 case atStart=>exact⟨0,oM,rfl, λj z m hj=>absurd hj oM,E7⟩
 case round=>
 clear E7;obtain⟨k,hk,rfl,HT,A⟩:=hrel;by_cases ah:k< ↑l.ej
 case pos=>
  obtain⟨z,hz⟩:∃z,l.ej[k]?=K z:=⟨_,an ah⟩;obtain⟨bn,ez,bB⟩:=bI.o z (i8 hz);obtain⟨m,D⟩:∃m,r.ej[bn]?=K m:=⟨_,an bB⟩;obtain⟨ma,me,aq,au,cT,cU⟩:=HI.o.gR bn m D;obtain⟨bO,bY,xa,xc,ev,x0,x1,x2,am⟩:=G4 A.o.1.rf.ej D;simp only[kK,mA,mg]at ev;obtain⟨rfl,rfl⟩:=ev;rw[aq]at x0;rw[au]at x1;rcases H.o.2.2.2.2.1.2.2 with⟨q0,_⟩|⟨gd,od,cd,F,aW⟩
  . simp only[]at q0;omega
  simp only[jc,lO]at F;have ed:=F.1;clear F;have z0:=Rd.elem Ao aW k z hz 0 _ rfl;rw[lr,kZ,<-A.o.1.gG.cell (jC z0),ez]at z0;have I:Aa (l.ej[k]?=K z/\z=(bn:Int)/\r.ej[bn]?=K m/\m.gK=(ma:Int)/\m.last=(me:Int)):=⟨hz,ez,D,aq,au⟩
  clear aW hz ez D aq au am;have cE:(bn:Int)<(r.ej:Int):=oM;obtain⟨o0,o1,O⟩:=Fx A.o.1.lb;simp only[ed]at O;obtain⟨y0,y1,y2,y3,y4,y5⟩:=Dq A.o.1.fb;clear y0 y1 y3 y4 y5 o0 o1;have s1:¬FB=wr.heap.size:=mE (jC y2);have s2:FB<wr.heap.size:=jC y2;have s3:¬(w:Nat)+1=wr.heap.size:=mE (jC O);have s4:(w:Nat)+1<wr.heap.size:=jC O;have s5:¬gb=wr.heap.size:=mE (jC x0);have s6:gb<wr.heap.size:=jC x0;have s7:¬gd=wr.heap.size:=mE (jC z0);have s8:gd<wr.heap.size:=jC z0;go_upto_region 22 with fail
  go_region;refine A3 (λu=>Aa ((PY w u ⟨Z T p.a7 V,Z R p.aC S,Z (K ⟨gk,ok,M⟩) p.cC f3,Z (K ⟨gt,ot,M⟩) p.dr W⟩ ⟨Z L l.back N,Z B l.ej C⟩ l FB r (Z (K ⟨gb,ob,M⟩) r.ej c1) (Z v2 r.gJ c2) (Z v3 r.gS c3) (Z v4 r.gI c4)/\Ar u CB #[Ac Ab c.func,Ac Ab c.head,Ac Ab c.gQ,Ac .u32 c.init] 121)/\Ar u wr #[Ac Ab (ma:Int),Ac Ab (me:Int),Z xa m.next xc] 58)) ⟨⟨(A.o.1.bM (Ag _ _)).bM (Aj _),(A.o.2.bM (Ag _ _)).bM (Aj _)⟩,(Ar.new wr _ _).bM (Aj _)⟩ ?_
  rintro U9 G;generalize wr.heap.size=XB at G⊢;clear s1 s2 s3 s4 s5 s6 s7 s8 x0 x1 x2 z0 y2 O A ed;obtain⟨w0,w1,w2,w3⟩:=HC.o U9 G.o.1.1.gG ha x HX.o;obtain⟨x0,x1,x2⟩:=Fx G.o.2;have aj:Aa (¬(m.gK<=x.c/\x.c<=m.last)->∀(j:Nat) (z:Int) (m:MB),j<k+1->l.ej[j]?=K z->r.ej[z.toNat]?=K m->∀a,m.gK<=a->a<=m.last->¬a=x.c):= λaY j z' m' hj aA ae a aF aT=>by
   by_cases e:j=k
   . subst e;rw[I.o.1]at aA;have ez:=kN aA;subst ez;rw[I.o.2.1,kM,I.o.2.2.1]at ae;have em:=kN ae;subst em;intro e;subst e;exact aY ⟨aF,aT⟩
   exact HT.o j z' m' oM aA ae a aF aT
  by_cases s1:(ma:Int)<=x.c;case neg=>
   (have dx:decide ((ma:Int)<=x.c)=false:=by simpa using s1);have HS:Aa (¬(m.gK<=x.c/\x.c<=m.last)):= λe=>s1 (by have:=e.1;rw[I.o.2.2.2.1]at this;exact this)
   go_wp2_with fail;go_quiet (fail);go_wp2;go_roundw;(case rel=>exact⟨k+1,oM,by go_num,aj.o HS.o,G.o.1.1.bM (As _ _ _),G.o.1.2.bM (As _ _ _)⟩);exact oI
  by_cases s2:x.c<=(me:Int);case neg=>
   have HS:Aa (¬(m.gK<=x.c/\x.c<=m.last)):= λe=>s2 (by have:=e.2;rw[I.o.2.2.2.2]at this;exact this)
   go_wp2_with fail;go_quiet (fail);go_wp2;go_roundw;(case rel=>exact⟨k+1,oM,by go_num,aj.o HS.o,G.o.1.1.bM (As _ _ _),G.o.1.2.bM (As _ _ _)⟩);exact oI
  have HS:=Ap (V5 I.o.1 I.o.2.1 I.o.2.2.1 (by rw[I.o.2.2.2.1];exact s1) (by rw[I.o.2.2.2.2];exact s2));go_wp2_with fail;go_quiet (fail);go_wp2;go_ret;exact⟨⟨3,rfl,.inr ⟨f,r,HO.o,B9.c3 HG.o aD.o HS.o⟩⟩,Ai G.o.1.1.gG lR (As _ _ _)⟩
 have aw:k=l.ej.length:=oM;subst aw;have H3:Aa (¬Ir r.ej l.ej x.c):= λe=>Mz (P:= λa=>a=x.c) (λj z m hz D=>HT.o j z m (iV.1 hz).1 hz D) ⟨x.c,e,rfl⟩
 clear HT ah hk;have E7:=A;clear A;obtain⟨o0,o1,O⟩:=Fx E7.o.1.lb;go_wp2_with fail;go_loopw [16] (λi wr=>∃k:Nat,k<= ↑l.ej/\i=Ac Ab k/\Aa (∀(j:Nat) (z:Int) (m:MB),j<k->l.ej[j]?=K z->r.ej[z.toNat]?=K m->∀a,m.gK<=a->a<=m.last->¬(a≠hb.gK/\PX f.ch c.gQ a))/\Aa (PY w wr ⟨Z T p.a7 V,Z R p.aC S,Z (K ⟨gk,ok,M⟩) p.cC f3,Z (K ⟨gt,ot,M⟩) p.dr W⟩ ⟨Z L l.back N,Z B l.ej C⟩ l FB r (Z (K ⟨gb,ob,M⟩) r.ej c1) (Z v2 r.gJ c2) (Z v3 r.gS c3) (Z v4 r.gI c4)/\Ar wr CB #[Ac Ab c.func,Ac Ab c.head,Ac Ab c.gQ,Ac .u32 c.init] 121)) (λi _=> ↑l.ej-(intOf i).toNat)
 case atStart=>exact⟨0,oM,rfl, λj z m hj=>absurd hj oM,E7⟩
 case round=>
 clear E7 o0 o1 O;obtain⟨k,hk,rfl,HT,A⟩:=hrel;by_cases ah:k< ↑l.ej
 case pos=>
  obtain⟨z,hz⟩:∃z,l.ej[k]?=K z:=⟨_,an ah⟩;obtain⟨bn,ez,bB⟩:=bI.o z (i8 hz);obtain⟨m,D⟩:∃m,r.ej[bn]?=K m:=⟨_,an bB⟩;obtain⟨ma,me,aq,au,cT,cU⟩:=HI.o.gR bn m D;obtain⟨bO,bY,xa,xc,ev,x0,x1,x2,am⟩:=G4 A.o.1.rf.ej D;simp only[kK,mA,mg]at ev;obtain⟨rfl,rfl⟩:=ev;rw[aq]at x0;rw[au]at x1;rcases H.o.2.2.2.2.1.2.2 with⟨q0,_⟩|⟨gd,od,cd,F,aW⟩
  . simp only[]at q0;omega
  simp only[jc,lO]at F;have ed:=F.1;clear F;have z0:=Rd.elem Ao aW k z hz 0 _ rfl;rw[lr,kZ,<-A.o.1.gG.cell (jC z0),ez]at z0;have I:=Ap (ji hz (ji ez (ji D (ji aq au))));clear aW hz ez D aq au am;have cE:(bn:Int)<(r.ej:Int):=oM;obtain⟨o0,o1,O⟩:=Fx A.o.1.lb;simp only[ed]at O;obtain⟨y0,y1,y2,y3,y4,y5⟩:=Dq A.o.1.fb;clear y0 y1 y3 y4 y5 o0 o1;have s1:¬FB=wr.heap.size:=mE (jC y2);have s2:FB<wr.heap.size:=jC y2;have s3:¬(w:Nat)+1=wr.heap.size:=mE (jC O);have s4:(w:Nat)+1<wr.heap.size:=jC O;have s5:¬gb=wr.heap.size:=mE (jC x0);have s6:gb<wr.heap.size:=jC x0;have s7:¬gd=wr.heap.size:=mE (jC z0);have s8:gd<wr.heap.size:=jC z0;go_upto_region 28 with fail
  go_region;refine A3 (λu=>Aa ((PY w u ⟨Z T p.a7 V,Z R p.aC S,Z (K ⟨gk,ok,M⟩) p.cC f3,Z (K ⟨gt,ot,M⟩) p.dr W⟩ ⟨Z L l.back N,Z B l.ej C⟩ l FB r (Z (K ⟨gb,ob,M⟩) r.ej c1) (Z v2 r.gJ c2) (Z v3 r.gS c3) (Z v4 r.gI c4)/\Ar u CB #[Ac Ab c.func,Ac Ab c.head,Ac Ab c.gQ,Ac .u32 c.init] 121)/\Ar u wr #[Ac Ab (ma:Int),Ac Ab (me:Int),Z xa m.next xc] 58)) ⟨⟨(A.o.1.bM (Ag _ _)).bM (Aj _),(A.o.2.bM (Ag _ _)).bM (Aj _)⟩,(Ar.new wr _ _).bM (Aj _)⟩ ?_
  rintro U9 G;generalize wr.heap.size=XB at G⊢;clear s1 s2 s3 s4 s5 s6 s7 s8 x0 x1 x2 z0 y2 O A ed;obtain⟨x0,x1,x2⟩:=Fx G.o.2;go_wp2_with fail;go_loopw [18] (λi wr=>∃d:Nat,ma<=d/\d<=me+1/\i=Ac Ab d/\Aa (∀a:Int,(ma:Int)<=a->a<(d:Int)->¬(a≠hb.gK/\PX f.ch c.gQ a))/\Aa ((PY w wr ⟨Z T p.a7 V,Z R p.aC S,Z (K ⟨gk,ok,M⟩) p.cC f3,Z (K ⟨gt,ot,M⟩) p.dr W⟩ ⟨Z L l.back N,Z B l.ej C⟩ l FB r (Z (K ⟨gb,ob,M⟩) r.ej c1) (Z v2 r.gJ c2) (Z v3 r.gS c3) (Z v4 r.gI c4)/\Ar wr CB #[Ac Ab c.func,Ac Ab c.head,Ac Ab c.gQ,Ac .u32 c.init] 121)/\Ar wr XB #[Ac Ab (ma:Int),Ac Ab (me:Int),Z xa m.next xc] 58)) (λi _=>me+1-(intOf i).toNat)
  case atStart=>exact⟨ma,oM,oM,rfl, λa h1 h2=>absurd h2 oM,G⟩
  case round=>
  clear G x0 x1 x2;obtain⟨d,d9,db,rfl,HD,G⟩:=hrel;obtain⟨x0,x1,x2⟩:=Fx G.o.2;by_cases dp:d<=me;case pos=>
   obtain⟨⟨yo,ya,yb,yc⟩,hy⟩:∃y,f.ch[d]?=K y:=⟨_,an oM⟩;obtain⟨w0,w1,w2,w3⟩:=HC.o wr G.o.1.1.gG d _ hy;simp only[]at w0 w1 w2 w3;have HY:=Ap hy;clear hy;have cR:(d:Int)<=(me:Int):=oM;have dd:(d:Int)<(f.ch:Int):=oM;have s1:¬gc=wr.heap.size:=mE (jC w0);have s2:gc<wr.heap.size:=jC w0;(go_upto_region 33 with fail);refine An (λu=>Aa (((PY w u ⟨Z T p.a7 V,Z R p.aC S,Z (K ⟨gk,ok,M⟩) p.cC f3,Z (K ⟨gt,ot,M⟩) p.dr W⟩ ⟨Z L l.back N,Z B l.ej C⟩ l FB r (Z (K ⟨gb,ob,M⟩) r.ej c1) (Z v2 r.gJ c2) (Z v3 r.gS c3) (Z v4 r.gI c4)/\Ar u CB #[Ac Ab c.func,Ac Ab c.head,Ac Ab c.gQ,Ac .u32 c.init] 121)/\Ar u XB #[Ac Ab (ma:Int),Ac Ab (me:Int),Z xa m.next xc] 58)/\Ar u wr #[Ac Ab yo,Ac Ab ya,Ac Ab yb,Ac Ab yc] 60)) ⟨⟨⟨G.o.1.1.bM (Ag _ _),G.o.1.2.bM (Ag _ _)⟩,G.o.2.bM (Ag _ _)⟩,Ar.new _ _ _⟩ ?_
   rintro UA EA;generalize wr.heap.size=YB at EA⊢;clear s1 s2 w0 w1 w2 w3 G x0 x1 x2;obtain⟨w0,w1,w2,w3⟩:=IX EA.o.2;obtain⟨aP,aQ,aR,aS⟩:=IX EA.o.1.1.2;have aZ:Aa (¬(((d:Int)≠hb.gK)/\PX f.ch c.gQ (d:Int))->∀a:Int,(ma:Int)<=a->a<((d+1:Nat):Int)->¬(a≠hb.gK/\PX f.ch c.gQ a)):= λaY a h1 h2=>by
    by_cases e:a=(d:Int)
    . subst e;exact aY
    exact HD.o a h1 oM
   have HW:Aa (PX f.ch c.gQ (d:Int)↔(yo=3\/yo=27)/\ya=c.gQ):=by
    constructor
    . rintro⟨y,hy,h1,h2⟩;rw[kM,HY.o]at hy;have ey:=kN hy;subst ey;exact⟨h1,h2⟩
    rintro⟨h1,h2⟩;exact⟨_,by rw[kM];exact HY.o,h1,h2⟩
   by_cases g0:d=ha;case pos=>
    have bi:(d:Int)=(ha:Int):=oM;have aE:Aa (¬(((d:Int)≠hb.gK)/\PX f.ch c.gQ (d:Int))):= λe=>e.1 (by rw[a8.o.2.1];exact bi)
    subst g0;clear bi;go_wp2;go_roundw;(case rel=>exact⟨d+1,oM,oM,by go_num,aZ.o aE.o,EA.o.1⟩);exact oI
   have bi:¬(d:Int)=(ha:Int):=oM;(have ce:Aa ((d:Int)≠hb.gK):=by show(d:Int)≠hb.gK;rw[a8.o.2.1];exact bi);by_cases E:yo=3\/yo=27
   case neg=>
    (have g2:¬yo=3:= λe=>E (.inl e));(have g3:¬yo=27:= λe=>E (.inr e));have aE:Aa (¬(((d:Int)≠hb.gK)/\PX f.ch c.gQ (d:Int))):= λe=>E (HW.o.1 e.2).1
    clear E;go_wp2;go_roundw;(case rel=>exact⟨d+1,oM,oM,by go_num,aZ.o aE.o,EA.o.1⟩);exact oI
   by_cases g4:ya=c.gQ;case neg=>
    (have cX:(ya==c.gQ)=false:=by simp[g4]);have aE:Aa (¬(((d:Int)≠hb.gK)/\PX f.ch c.gQ (d:Int))):= λe=>g4 (HW.o.1 e.2).2
    rcases E with E|E
    . rw[E]at w0;go_wp2;go_roundw;(case rel=>exact⟨d+1,oM,oM,by go_num,aZ.o aE.o,EA.o.1⟩);exact oI
    rw[E]at w0;go_wp2;go_roundw;(case rel=>exact⟨d+1,oM,oM,by go_num,aZ.o aE.o,EA.o.1⟩);exact oI
   have H4:Aa (∃a,Ir r.ej l.ej a/\a≠hb.gK/\PX f.ch c.gQ a):=⟨(d:Int),V5 I.o.1 I.o.2.1 I.o.2.2.1 (by rw[I.o.2.2.2.1];omega) (by rw[I.o.2.2.2.2];omega),ce.o,HW.o.2 ⟨E,g4⟩⟩
   rw[g4]at w1;rcases E with E|E
   . rw[E]at w0;go_wp2;go_ret;exact⟨⟨4,rfl,.inr ⟨f,r,HO.o,B9.c4 HG.o aD.o H3.o H4.o⟩⟩,EA.o.1.1.1.gG⟩
   rw[E]at w0;go_wp2;go_ret;exact⟨⟨4,rfl,.inr ⟨f,r,HO.o,B9.c4 HG.o aD.o H3.o H4.o⟩⟩,EA.o.1.1.1.gG⟩
  have de:d=me+1:=oM;have cR:¬(d:Int)<=(me:Int):=oM;have aj:Aa (∀(j:Nat) (z:Int) (m:MB),j<k+1->l.ej[j]?=K z->r.ej[z.toNat]?=K m->∀a,m.gK<=a->a<=m.last->¬(a≠hb.gK/\PX f.ch c.gQ a)):= λj z' m' hj aA ae a aF aT=>by
   by_cases e:j=k
   . subst e;rw[I.o.1]at aA;have ez:=kN aA;subst ez;rw[I.o.2.1,kM,I.o.2.2.1]at ae;have em:=kN ae;subst em;rw[I.o.2.2.2.1]at aF;rw[I.o.2.2.2.2]at aT;exact HD.o a aF oM
   exact HT.o j z' m' oM aA ae a aF aT
  go_wp2;go_roundw;case rel=>exact⟨k+1,oM,by go_num,aj.o,G.o.1⟩
  exact oI
 have aw:k=l.ej.length:=oM;subst aw;have H4:=Ap (Mz (P:= λa=>a≠hb.gK/\PX f.ch c.gQ a) (λj z m hz D=>HT.o j z m (iV.1 hz).1 hz D))
 clear HT ah hk;obtain⟨o0,o1,O⟩:=Fx A.o.1.lb;rw[a8.o.2.2]at o0;by_cases cI:s=0;case pos=>subst cI;have H5:=Ap a8.o.2.2;go_wp2;go_ret;exact⟨⟨5,rfl,.inr ⟨f,r,HO.o,B9.c5 HG.o aD.o H3.o H4.o (.inl H5.o)⟩⟩,A.o.1.gG⟩
 have cJ:¬(s:Int)=0:=oM;have dq:r.ej.length<=1024:=HI.o.nb;have E7:=A;clear A;go_wp2_with fail;clear o0 o1 O;go_loopw [20] (λi wr=>∃k:Nat,k<= ↑r.ej/\i=Ac Ab k/\Aa (∀(j:Nat) (m:MB),j<k->r.ej[j]?=K m->¬(l.head∈m.next/\¬((j:Int)∈l.ej)/\¬C8 p.aC f.ch m c))/\Aa (PY w wr ⟨Z T p.a7 V,Z R p.aC S,Z (K ⟨gk,ok,M⟩) p.cC f3,Z (K ⟨gt,ot,M⟩) p.dr W⟩ ⟨Z L l.back N,Z B l.ej C⟩ l FB r (Z (K ⟨gb,ob,M⟩) r.ej c1) (Z v2 r.gJ c2) (Z v3 r.gS c3) (Z v4 r.gI c4)/\Ar wr CB #[Ac Ab c.func,Ac Ab c.head,Ac Ab c.gQ,Ac .u32 c.init] 121)) (λi _=> ↑r.ej-(intOf i).toNat)
 case atStart=>exact⟨0,oM,rfl, λj m hj=>absurd hj oM,E7⟩
 case round=>
 clear E7;obtain⟨k,hk,rfl,HT,A⟩:=hrel;obtain⟨y0,y1,y2,y3,y4,y5⟩:=Dq A.o.1.fb;by_cases ah:k< ↑r.ej
 case pos=>
  obtain⟨m,D⟩:∃m,r.ej[k]?=K m:=⟨_,an ah⟩;obtain⟨bO,bY,xa,xc,ev,x0,x1,x2,am⟩:=G4 A.o.1.rf.ej D;simp only[kK,mA,mg]at ev;obtain⟨rfl,rfl⟩:=ev;have HM:Aa (r.ej[k]?=K m/\UO wr (Z xa m.next xc) m/\Rd wr 1 (Z B l.ej C) l.ej (l.ej.flatMap Ah)):=⟨D,am,(H.o.2.2.2.2.1.bM A.o.1.gG lR).2⟩
  have ao:Aa (m.next.length<=1048576/\l.ej.length<=1048576):=⟨by have:=HI.o.two m (i8 D);omega,H.o.2.2.2.2.2.2⟩
  have aj:Aa (¬(l.head∈m.next/\¬((k:Int)∈l.ej)/\¬C8 p.aC f.ch m c)->∀(j:Nat) (m:MB),j<k+1->r.ej[j]?=K m->¬(l.head∈m.next/\¬((j:Int)∈l.ej)/\¬C8 p.aC f.ch m c)):= λaY j m' hj ae=>by
   by_cases e:j=k
   . subst e;rw[HM.o.1]at ae;have em:=kN ae;subst em;exact aY
   exact HT.o j m' oM ae
  clear D am;obtain⟨o0,o1,O⟩:=Fx A.o.1.lb;rw[a8.o.2.2]at o0;obtain⟨p0,p1,p2,p3⟩:=Bi A.o.1.pb;obtain⟨aP,aQ,aR,aS⟩:=IX A.o.2;have dj:(k:Int)<(r.ej:Int):=oM;go_upto_region 40 with fail
  have inst:=Av.some wr;have Y2:= λn':Av wr=>Av.cell y2 n'
  have X0:= λn':Av wr=>Av.cell x0 n'
  have X1:= λn':Av wr=>Av.cell x1 n'
  have X2:= λn':Av wr=>Av.cell x2 n'
  have O0:= λn':Av wr=>Av.cell o0 n'
  have O2:= λn':Av wr=>Av.cell O n'
  have P0:= λn':Av wr=>Av.cell p0 n'
  have P1:= λn':Av wr=>Av.cell p1 n'
  have P2:= λn':Av wr=>Av.cell p2 n'
  have P3:= λn':Av wr=>Av.cell p3 n'
  have C0:= λn':Av wr=>Av.cell aP n'
  have C1:= λn':Av wr=>Av.cell aQ n'
  have C2:= λn':Av wr=>Av.cell aR n'
  have C3:= λn':Av wr=>Av.cell aS n'
  clear y0 y1 y2 y3 y4 y5 x0 x1 x2 o0 o1 O p0 p1 p2 p3 aP aQ aR aS;by_cases F:l.head∈m.next;case neg=>
   have HQ:Aa (¬(s:Int)∈m.next/\¬(l.head∈m.next/\¬((k:Int)∈l.ej)/\¬C8 p.aC f.ch m c)):=⟨by rw[<-a8.o.2.2];exact F, λe=>F e.1⟩
   clear F;refine AL kR kR ?_;(repeat(go_big_quiet_step (fail)));go_big_quiet_step ((go_at_call 121;rename_i n';exact(DO (Z xa m.next xc) m.next (s:Int) n'.u ao.o.1 (Rd.bM HM.o.2.1 n'.h lR)).mono λe Q s=>⟨s.1.false HQ.o.1,⟨n',s.2⟩⟩));(repeat(go_big_quiet_step (fail)));refine wpQuiet_nil ?_;rintro Q ⟨n',rfl⟩;go_wp2;go_roundw;(case rel=>exact⟨k+1,oM,by go_num,aj.o HQ.o.2,A.o.1.bM n'.h,A.o.2.bM n'.h⟩);exact oI
  have bt:Aa ((s:Int)∈m.next):=by rw[<-a8.o.2.2];exact F
  by_cases q2:(k:Int)∈l.ej;case pos=>
   have aJ:Aa ((k:Int)∈l.ej/\¬(l.head∈m.next/\¬((k:Int)∈l.ej)/\¬C8 p.aC f.ch m c)):=⟨q2, λe=>e.2.1 q2⟩
   clear F q2;refine AL kR kR ?_;(repeat(go_big_quiet_step (fail)));go_big_quiet_step ((go_at_call 121;rename_i n';exact(DO (Z xa m.next xc) m.next (s:Int) n'.u ao.o.1 (Rd.bM HM.o.2.1 n'.h lR)).mono λe Q s=>⟨s.1.true bt.o,⟨n',s.2⟩⟩));(repeat(go_big_quiet_step (fail)));go_big_quiet_step ((go_at_call 121;rename_i n';exact(DO (Z B l.ej C) l.ej (k:Int) n'.u ao.o.2 (Rd.bM HM.o.2.2 n'.h lR)).mono λe Q s=>⟨s.1.true aJ.o.1,⟨n',s.2⟩⟩));(repeat(go_big_quiet_step (fail)));refine wpQuiet_nil ?_;rintro Q ⟨n',rfl⟩;go_wp2;go_roundw;(case rel=>exact⟨k+1,oM,by go_num,aj.o aJ.o.2,A.o.1.bM n'.h,A.o.2.bM n'.h⟩);exact oI
  have aJ:=Ap q2;have HK:Aa ((∀y∈f.ch,y.op=1->0<=y.a/\y.a.toNat< ↑p.aC)/\(∃a e:Nat,m.gK=(a:Int)/\m.last=(e:Int)/\a<=e/\e< ↑f.ch)):=⟨λy hy cW=>by obtain⟨j,hj⟩:=lw hy;obtain⟨qq,zz,e1,e2⟩:=(bq.o.jk HF.o.1 hj).const cW;rw[e1,kM];exact⟨oM,(iV.1 e2).1⟩,HI.o.gR k m HM.o.1⟩
  by_cases q3:C8 p.aC f.ch m c;case pos=>
   have aM:Aa (C8 p.aC f.ch m c/\¬(l.head∈m.next/\¬((k:Int)∈l.ej)/\¬C8 p.aC f.ch m c)):=⟨q3, λe=>e.2.2 q3⟩
   clear F q2 q3;refine AL kR kR ?_;(repeat(go_big_quiet_step (fail)));go_big_quiet_step ((go_at_call 121;rename_i n';exact(DO (Z xa m.next xc) m.next (s:Int) n'.u ao.o.1 (Rd.bM HM.o.2.1 n'.h lR)).mono λe Q s=>⟨s.1.true bt.o,⟨n',s.2⟩⟩));(repeat(go_big_quiet_step (fail)));go_big_quiet_step ((go_at_call 121;rename_i n';exact(DO (Z B l.ej C) l.ej (k:Int) n'.u ao.o.2 (Rd.bM HM.o.2.2 n'.h lR)).mono λe Q s=>⟨s.1.false aJ.o,⟨n',s.2⟩⟩));(repeat(go_big_quiet_step (fail)));go_big_quiet_step ((go_at_call 145;rename_i n';exact(KX ⟨Z T p.a7 V,Z R p.aC S,Z (K ⟨gk,ok,M⟩) p.cC f3,Z (K ⟨gt,ot,M⟩) p.dr W⟩ p (Z (K ⟨gc,oc,M⟩) f.ch g9) (Z xa m.next xc) f.ch m c n'.u H.o.1 (H.o.2.2.2.1.bM (Ai A.o.1.gG lR n'.h) lR) HF.o.2.1.2.2 (Rd.bM HF.o.2.2.1.2.2 (Ai A.o.1.gG lR n'.h) lR) HK.o.1 HK.o.2).mono λe Q s=>⟨s.1.true aM.o.1,⟨⟨Q,Ai n'.h lR s.2⟩,rfl⟩⟩));(repeat(go_big_quiet_step (fail)));refine wpQuiet_nil ?_;rintro Q ⟨n',rfl⟩;go_wp2;go_roundw;(case rel=>exact⟨k+1,oM,by go_num,aj.o aM.o.2,A.o.1.bM n'.h,A.o.2.bM n'.h⟩);exact oI
  have aM:Aa (¬C8 p.aC f.ch m c/\(l.head=0\/Me p.aC f.ch r.ej l c)):=⟨q3,.inr ⟨k,m,HM.o.1,F,q2,q3⟩⟩
  clear F q2 q3;refine AL kR kR ?_;repeat(go_big_quiet_step (fail))
  go_big_quiet_step ((go_at_call 121;rename_i n';exact(DO (Z xa m.next xc) m.next (s:Int) n'.u ao.o.1 (Rd.bM HM.o.2.1 n'.h lR)).mono λe Q s=>⟨s.1.true bt.o,⟨n',s.2⟩⟩));repeat(go_big_quiet_step (fail))
  go_big_quiet_step ((go_at_call 121;rename_i n';exact(DO (Z B l.ej C) l.ej (k:Int) n'.u ao.o.2 (Rd.bM HM.o.2.2 n'.h lR)).mono λe Q s=>⟨s.1.false aJ.o,⟨n',s.2⟩⟩));repeat(go_big_quiet_step (fail))
  go_big_quiet_step ((go_at_call 145;rename_i n';exact(KX ⟨Z T p.a7 V,Z R p.aC S,Z (K ⟨gk,ok,M⟩) p.cC f3,Z (K ⟨gt,ot,M⟩) p.dr W⟩ p (Z (K ⟨gc,oc,M⟩) f.ch g9) (Z xa m.next xc) f.ch m c n'.u H.o.1 (H.o.2.2.2.1.bM (Ai A.o.1.gG lR n'.h) lR) HF.o.2.1.2.2 (Rd.bM HF.o.2.2.1.2.2 (Ai A.o.1.gG lR n'.h) lR) HK.o.1 HK.o.2).mono λe Q s=>⟨s.1.false aM.o.1,⟨⟨Q,Ai n'.h lR s.2⟩,rfl⟩⟩));repeat(go_big_quiet_step (fail))
  refine wpQuiet_nil ?_;rintro Q ⟨n',rfl⟩;go_wp2;go_ret;exact⟨⟨5,rfl,.inr ⟨f,r,HO.o,B9.c5 HG.o aD.o H3.o H4.o aM.o.2⟩⟩,Ai A.o.1.gG lR n'.h⟩
 have aw:k=r.ej.length:=oM;subst aw;have H5:Aa (¬(l.head=0\/Me p.aC f.ch r.ej l c)):= λe=>by
  rcases e with e|⟨j,m,D,h1,h2,h3⟩
  . rw[a8.o.2.2]at e;exact cJ e
  exact HT.o j m (iV.1 D).1 D ⟨h1,h2,h3⟩
 clear HT;go_wp2;go_ret;exact⟨⟨0,rfl,.inr ⟨f,r,HO.o,B9.c0 HG.o aD.o H3.o H4.o H5.o⟩⟩,A.o.1.gG⟩
end Go.Proofs.YtjnglocdoljgkaaGreat
