import Derived.Test.YtkgohaigebcgoaaGreatDoorCh37
namespace Go.Proofs.YtkgohaigebcgoaaGreatDoor
open Go.ChangeShapes Go.WideShapes Go.ChangeAt Go.RowKit Go.Proofs.Tryz
set_option linter.unusedVariables false
open Go.Value renaming slice → Z,int → Ag,agg → An,bool → Ao
open Option renaming none → M
open Go renaming Value → J,World → Y,Calls → Ai
open Go.RowKit renaming Hid → Ae,Below → Ah
open Go.IntKind renaming i64 → Af
open Go.Obj renaming cells → Ak
open Go.Ending renaming returned → Am
open Go.Proofs.Tryz renaming prog → Aq
open Go.World renaming alloc → Ac
open List renaming flatMap → Ad
set_option maxHeartbeats 8000000
set_option maxRecDepth 100000
def FG(v:MC)(t:Int):Prop:=t=0\/v.type=t
theorem NQ{q:MC->Int->Prop}{v:MC}{e:List MC}{t:Int}{ts:List Int}:EM q (v::e) (t::ts)↔q v t/\EM q e ts:=by
 constructor
 . rintro⟨c,h⟩;exact⟨h 0 sP v rfl t rfl,by simpa using c, λj d x a y b=>h (j+1) oT x a y b⟩
 rintro⟨f,c,h⟩;refine⟨by simpa using c, λj d x a y b=> ?_⟩;cases j with
 | zero=>simp only[lO,lX]at a b;subst a b;exact f
 |succ j=>exact h j (by simp at d;omega) x a y b
theorem Dr(a:List MC)(ts:List Int):EM FG a ts↔BH a ts=true:=by
 induction a generalizing ts with
 | nil=>
   cases ts with
   |nil=>exact⟨λ_=>rfl, λ_=>⟨rfl, λj b=>by simp at b⟩⟩
   |cons t ts=>exact⟨λh=>by have:=h.1;simp at this, λh=>by simp[BH]at h⟩
 | cons v a c=>
   cases ts with
   |nil=>exact⟨λh=>by have:=h.1;simp at this, λh=>by simp[BH]at h⟩
   | cons t ts=>rw[NQ,c];simp[BH,FG]
theorem TS(a:List MC)(f:MF):EM FG a (Bn f)↔a.map MC.type=Bn f:=by
 unfold Bn;split
 . cases a with
   |nil=>exact⟨λ_=>rfl, λ_=>⟨rfl, λj b=>by simp at b⟩⟩
   |cons v a=>exact⟨λh=>by have:=h.1;simp at this, λh=>by simp at h⟩
 . rename_i c;cases a with
   |nil=>exact⟨λh=>by have:=h.1;simp at this, λh=>by simp at h⟩
   | cons v a=>
     rw[NQ];cases a with
     | nil=>simp only[nh,List.map_nil,ov,oZ];exact⟨λh=>h.1.resolve_left c, λh=>⟨.inr h,rfl, λj b=>by simp at b⟩⟩
     |cons u d=>exact⟨λh=>by have:=h.2.1;simp at this, λh=>by simp at h⟩
theorem XT{w:Y}{g o n c c' kl m:Nat}{K:List MC}(h:Rd w 2 (Z (some ⟨g,o,M⟩) n c) n (Ad MC.cells K))(s: ↑K=n)(r:n=kl+m):Rd w 2 (Z (some ⟨g,o+kl*2,M⟩) m c') m (Ad MC.cells (K.drop kl)):=by
 refine⟨by rw[AX MC.cells 2 MC.bW,m8];congr 1;omega,?_⟩;rcases h.2 with⟨e,_⟩|⟨q,t,p,e,k⟩
 . exact .inl ⟨oM,_,_,by rw[show m=0 from oM]⟩
 simp only[lU,lX,ny,mj,oZ]at e;obtain⟨⟨rfl,rfl⟩,_⟩:=e;refine .inr ⟨g,o+kl*2,c',rfl, λj u l=> ?_⟩;have:(Ad MC.cells K)[kl*2+j]?=some u:=by
  rw[<-l];have b:Ad MC.cells (K.drop kl)=(Ad MC.cells K).drop (kl*2):=by (have d:Ad MC.cells K=Ad MC.cells (K.take kl)++Ad MC.cells (K.drop kl):=by rw[<-mW,n9]);rw[d];(have f:(Ad MC.cells (K.take kl)).length=kl*2:=by rw[AX MC.cells 2 MC.bW,nF,Nat.min_eq_left oM]);rw[<-f,List.drop_left]
  rw[b,pM]
 have a:=k _ _ this;rw[<-Nat.add_assoc]at a;exact a
theorem Tl (B M top:Nat)(t:Int)(d:Bool)(c n:Int)(X:VS)(C:List (J×List MC))(K:List MC)(F:List (MG×J))(hv:J)(D E gf c3 b:Nat)(y:MG×J)(v:VP)(p:MP)(g:VF)(f:MF)(x:MI)(w:Y)(hB:B<= ↑w)(h:AB w B X C K F)(hm:BC w M t d c n X hv)(hF: ↑F=top+1)(cR:F.length<=32)(hy:F[top]?=some y)(bT:X.f=Z gf (top+1) c3)
 (hb:y.1.base=(b:Int)) (cU:b<= ↑K) (hK:K.length<=64) (bS:∀z∈K,0<=z.word) (cI:p.small) (h3:p.az.length=3) (hs:f.small) (hP:Eb w v p) (hr:FD w g f) (hx:AV p f x) (cH:AY p 0)
 (c0:w ⟨D,E,none⟩=some v.r) (aR:w ⟨D,E+1,none⟩=some v.k) (aK:w ⟨D,E+2,none⟩=some v.f) (aS:w ⟨D,E+3,none⟩=some v.t) (aT:w ⟨D,E+4,none⟩=some g.p) (bi:w ⟨D,E+5,none⟩=some ↑f.cu) (aW:w ⟨D,E+6,none⟩=some g.l) (aX:w ⟨D,E+7,none⟩=some g.c):
 Ai Aq 49 #[.pointer M,An #[.pointer (some ⟨D,E,none⟩),.pointer (some ⟨gf,top*4,none⟩)],An #[x.op,x.a,x.b,x.c]] w λe S=>e=Am (EH p f y.1 (A3 0 false c n C K F) x)/\Ah w w S:=by
 obtain⟨r1,r3,er⟩:=(show∃a c,v.r=Z a p.az c from by obtain⟨_,_,h2,_⟩:=hP.az;exact h2.aD);obtain⟨k1,k3,ek⟩:=hP.b8.aD;obtain⟨t1,t3,et⟩:=hP.bO.aD;obtain⟨f1,f3,ef⟩:=(show∃a c,v.f=Z a p.aC c from by obtain⟨_,_,h2,_⟩:=hP.aC;exact h2.aD);obtain⟨g1,g3,bI⟩:=hr.1.aD;obtain⟨g4,g6,bJ⟩:=hr.2.1.aD;obtain⟨g7,g9,bP⟩:=hr.2.2.aD;obtain⟨gp,gl,gc⟩:=g;obtain⟨vr,vk,vf,vt⟩:=v;simp only[]at er ek et ef bI bJ bP;subst er ek et ef bI bJ bP;have HP:Ae (Eb w ⟨Z r1 p.az r3,Z k1 p.b8 k3,Z f1 p.aC f3,Z t1 p.bO t3⟩ p):=hP;have HR:Ae (FD w ⟨Z g1 f.aP g3,Z g4 f.aB g6,Z g7 f.aU g9⟩ f):=hr;clear hP hr;simp only[]at c0 aR aK aS aT aW aX;obtain⟨x1,x2,x3⟩:=X;simp only[]at bT;subst bT;obtain⟨a2,c2,e2⟩:=AF (h.fg.own (x2,K) sP);simp only[]at e2;have di: ↑K<=c2:=by have h2:=h.fg.own (x2,K) sP;simp only[]at h2;rw[e2]at h2;exact Gq h2
 subst e2;have E0:Ae (AG w (Ac (Ac w (Ak #[.pointer (some ⟨D,E,none⟩),.pointer (some ⟨gf,top*4,none⟩)] 143)) (Ak #[x.op,x.a,x.b,x.c] 25)) B M top t d c n ⟨x1,Z a2 K c2,Z gf (top+1) c3⟩ C K F hv D E gf x.op x.a x.b x.c ⟨x1,Z a2 K c2,Z gf (top+1) c3⟩ C F/\Ah w w (Ac (Ac w (Ak #[.pointer (some ⟨D,E,none⟩),.pointer (some ⟨gf,top*4,none⟩)] 143)) (Ak #[x.op,x.a,x.b,x.c] 25))):=⟨AG.of D E gf x.op x.a x.b x.c hB h hm,Ar (Al _ _) lR (Al _ _)⟩
 have H:Ae (↑F=top+1/\F[top]?=some y/\y.1.base=(b:Int)/\AV p f x/\AY p 0/\(∀z∈K,0<=z.word)/\p.az.length=3):=⟨hF,hy,hb,hx,cH,bS,h3⟩
 have HH:Ae (AB w B ⟨x1,Z a2 K c2,Z gf (top+1) c3⟩ C K F):=h;obtain⟨res,bB⟩:∃res,EH p f y.1 (A3 0 false c n C K F) x=res:=⟨_,rfl⟩;have bG:Ae (EH p f y.1 (A3 0 false c n C K F) x=res):=bB;rw[bB];have dy:top+1<=32:=oM;clear h hm hF cR hy hb hx cH bS h3 bB;go_enter func49,ntmps49;go_upto_region 1 with fail
 refine Av (λu=>Ae (AG w u B M top t d c n ⟨x1,Z a2 K c2,Z gf (top+1) c3⟩ C K F hv D E gf x.op x.a x.b x.c ⟨x1,Z a2 K c2,Z gf (top+1) c3⟩ C F/\Ah w w u)) E0 ?_
 rintro U T;clear E0;have f0:=T.1.fb.cell 0;have V:=T.1.ib.cell 0;have i1:=T.1.ib.cell 1;have i2:=T.1.ib.cell 2;have i3:=T.1.ib.cell 3;simp only[lQ,lO,lS]at f0 V i1 i2 i3;have G:=As U;have cQ:=Au G f0;have db:=Au G V;have dd:=Au G i1;have de:=Au G i2;have df:=Au G i3;have d0:=Au G (Au T.2 c0);have d1:=Au G (Au T.2 aR);have d2:=Au G (Au T.2 aK);have d3:=Au G (Au T.2 aS);have d4:=Au G (Au T.2 aT);have d5:=Au G (Au T.2 bi);have d6:=Au G (Au T.2 aW);have d7:=Au G (Au T.2 aX);have aa:Ae (w ⟨D,E,none⟩=some (Z r1 p.az r3)/\w ⟨D,E+1,none⟩=some (Z k1 p.b8 k3)/\w ⟨D,E+2,none⟩=some (Z f1 p.aC f3)/\w ⟨D,E+3,none⟩=some (Z t1 p.bO t3)/\w ⟨D,E+4,none⟩=some (Z g1 f.aP g3)/\w ⟨D,E+5,none⟩=some ↑f.cu/\w ⟨D,E+6,none⟩=some (Z g4 f.aB g6)/\w ⟨D,E+7,none⟩=some (Z g7 f.aU g9)):=⟨c0,aR,aK,aS,aT,bi,aW,aX⟩
 clear f0 V i1 i2 i3 c0 aR aK aS aT bi aW aX;obtain⟨ts,cK⟩:∃ts,B9 p f x=ts:=⟨_,rfl⟩;have aQ:Ae (B9 p f x=ts):=cK;clear cK;go_upto_region 1 with fail
 go_cut [7] (λs wx=>∃ta tc,s=Z ta ts tc/\Ae ((AG w wx B M top t d c n ⟨x1,Z a2 K c2,Z gf (top+1) c3⟩ C K F hv D E gf x.op x.a x.b x.c ⟨x1,Z a2 K c2,Z gf (top+1) c3⟩ C F/\Ah w w wx)/\Rd wx 1 (Z ta ts tc) ts (ts.flatMap At)))
 case first=>
  go_region_law (go_simp;go_at_call 114;refine(OA ⟨Z r1 p.az r3,Z k1 p.b8 k3,Z f1 p.aC f3,Z t1 p.bO t3⟩ p ⟨Z g1 f.aP g3,Z g4 f.aB g6,Z g7 f.aU g9⟩ f x U.drew cI H.2.2.2.2.2.2 hs (HP.av (Ar T.2 lR G) lR) (HR.av (Ar T.2 lR G) lR) H.2.2.2.1).mono ?_;rintro e O ⟨sv,rfl,aA,Q⟩;rw[aQ]at aA;obtain⟨ta,tc,rfl⟩:=aA.aD;have B1:Ae (Ah U U O):=Br Q lR;have E2:Ae ((AG w O B M top t d c n ⟨x1,Z a2 K c2,Z gf (top+1) c3⟩ C K F hv D E gf x.op x.a x.b x.c ⟨x1,Z a2 K c2,Z gf (top+1) c3⟩ C F/\Ah w w O)/\Rd O 1 (Z ta ts tc) ts (ts.flatMap At)):=⟨⟨T.1.av B1,Ar T.2 lR B1⟩,aA⟩;clear Q aA)
  all_goals
   go_wp2_with fail;go_meet;exact⟨ta,tc,rfl,E2⟩
 case rest=>
  obtain⟨ta,tc,rfl,E2⟩:=hcut;clear T cQ db dd de df d0 d1 d2 d3 d4 d5 d6 d7 G;obtain⟨m,hm⟩:∃m, ↑K=b+m:=⟨↑K-b,oM⟩
  have aq:Ae (↑K=b+m/\(K.drop b).length=m):=⟨hm,by rw[m8];omega⟩
  have aJ: ↑K-b=m:=oM
  have dv:m<=64:=oM;have cZ:(b:Int)<=(K:Int):=oM;have d8:(K:Int)<=(c2:Int):=oM;have d9:(b:Int)<=(c2:Int):=oM;clear hm;have m5:=E2.1.1.mb.at.2.2.2.2.2.1;simp only[]at m5;have f1:=E2.1.1.fb.cell 1;simp only[lQ,lO,lS]at f1;have ho:=E2.1.1.own.dk;simp only[]at ho;rw[H.1]at ho;have ax:=ho.cellAt (top*4+2) oM;rw[BI BE 4 Ca F top 2 _ H.2.1 oM]at ax;simp only[BE,lO,lS,H.2.2.1]at ax;clear ho;have inst:=Ax.some wc;go_upto_region 2 with fail
  go_cut [8] (λs wx=>∃a8 W,s=Z a8 m W/\m<=W/\Ae (((AG w wx B M top t d c n ⟨x1,Z a2 K c2,Z gf (top+1) c3⟩ C K F hv D E gf x.op x.a x.b x.c ⟨x1,Z a2 K c2,Z gf (top+1) c3⟩ C F/\Ah w w wx)/\Rd wx 1 (Z ta ts tc) ts (ts.flatMap At))/\Rd wx 2 (Z a8 m W) m (Ad MC.cells (K.drop b))))
  case first=>
   have cJ:=E2.1.1.own.fg.own (Z a2 K c2,K) sP;rcases Bf cJ with⟨e,e0⟩|⟨g2,aK,e⟩
   . simp only[lU]at e;obtain⟨rfl,cT,rfl⟩:=e;(have aG:Ae (m=0):=by show m=0;omega);clear cT e0;(have J0:= λn:Ax wc=>Ax.cell m5 n);(have J1:= λn:Ax wc=>Ax.cell f1 n);(have J2:= λn:Ax wc=>Ax.cell ax n);go_wp2_with fail;refine AC kR kR ?_;(repeat(go_big_quiet_step (fail)));refine wpQuiet_nil ?_;rintro A ⟨j,rfl⟩;go_wp2_with fail;go_meet;exact⟨_,_,rfl,by have:=aG.o;omega,⟨⟨E2.1.1.av j.h,Ar E2.1.2 lR j.h⟩,E2.2.av j.h lR⟩,C4 aG aq.2⟩
   simp only[lU,mj]at e;obtain⟨rfl,rfl⟩:=e;(have J0:= λn:Ax wc=>Ax.cell m5 n);(have J1:= λn:Ax wc=>Ax.cell f1 n);(have J2:= λn:Ax wc=>Ax.cell ax n);by_cases aM:c2=b
   . have bZ:((c2:Int)==(b:Int))=true:=oT;have ce:(c2==b)=true:=oT;have cj:c2-b=0:=oM;(have aG:Ae (m=0):=by show m=0;omega);clear aM;go_wp2_with fail;refine AC kR kR ?_;(repeat(go_big_quiet_step (fail)));refine wpQuiet_nil ?_;rintro A ⟨j,rfl⟩;go_wp2_with fail;go_meet;exact⟨_,_,rfl,by have:=aG.o;omega,⟨⟨E2.1.1.av j.h,Ar E2.1.2 lR j.h⟩,E2.2.av j.h lR⟩,C4 aG aq.2⟩
   have aZ:=TR (kl:=b) (m:=m) (c':=c2-b) (Rd.eP cJ) rfl aq.1;go_wp2_with fail;refine AC kR kR ?_;(repeat(go_big_quiet_step (fail)));refine wpQuiet_nil ?_;rintro A ⟨j,rfl⟩;go_wp2_with fail;go_meet;exact⟨_,_,rfl,by have:=aq.1;omega,⟨⟨E2.1.1.av j.h,Ar E2.1.2 lR j.h⟩,E2.2.av j.h lR⟩,aZ.av j.h lR⟩
  case rest =>
   obtain⟨a8,W,rfl,dw,q⟩:=hcut;clear E2 m5 f1 ax inst cZ d8 d9;have V:=q.1.1.1.ib.cell 0;simp only[lQ,lO]at V;have dh:ts.length<=64:=by
    rw[<-aQ];unfold B9;split
    . unfold Bn;split<;>simp
    have:=Pz (f:=f) (x:=x) H.2.2.2.2.1;omega
   by_cases aH:x.op=29
   . (have br:(x.op==29)=true:=by simpa using aH);(have aE:Ae (res=if(K.drop b).map MC.type=Bn f then 0 else 6):=by rw[<-bG];exact VR aH H.2.2.1);(have bH:Ae (ts=Bn f):=by rw[<-aQ];unfold B9;rw[mE aH];exact rfl);(go_upto_region 4 with fail);clear V br;go_wp2_with fail;refine(Kx FG (λx t w _=>KA x t w) (Z a8 m W) (Z ta ts tc) (K.drop b) ts wc (by rw[aq.2];omega) oM (λz hz=>H.2.2.2.2.2.1 z (pR hz)) (by rw[aq.2];exact q.2) q.1.2).mono ?_;rintro e O ⟨he,Q⟩;have HB:Ae (Ah w w O):=Ar q.1.1.2 lR Q;by_cases L:EM FG (K.drop b) ts
     . obtain rfl:=he.true L;(have ai:Ae (res=0):=by rw[aE,mE ((TS _ f).1 (bH.o▸L))];exact rfl);clear L he Q;go_wp2_with fail;refine(CC true 6 O).mono ?_;rintro e u2 ⟨rfl,rfl⟩;go_wp2_with fail;go_ret;exact⟨by rw[ai];rfl,HB⟩
     obtain rfl:=he.false L;(have ai:Ae (res=6):=by rw[aE,lY (λe=>L (bH.o▸(TS _ f).2 e))];exact rfl);clear L he Q;go_wp2_with fail;refine(CC false 6 O).mono ?_;rintro e u2 ⟨rfl,rfl⟩;go_wp2_with fail;go_ret;exact⟨by rw[ai];rfl,HB⟩
   (have br:(x.op==29)=false:=by simpa using aH);(have cM:Ae (AA p f x=ts):=by rw[<-aQ];unfold B9;rw[lY aH];exact rfl);have aE:Ae (res=_):=bG.symm.trans (RC (C:=C) (K:=K) (F:=F) (c:=c) (n:=n) aH H.2.2.1 cU cM);have dB:IntKind.i64.wrap ((m:Int)-(ts:Int))=(m:Int)-(ts:Int):=oY _ oM;by_cases aI:m< ↑ts
   . have hd:decide ((m:Int)-(ts:Int)<0)=true:=decide_eq_true oM;(have ai:Ae (res=1):=by rw[aE,mE (by rw[aJ];exact aI)];exact rfl);(go_upto_region 7 with fail);go_wp2_with fail;go_ret;exact⟨by rw[ai];rfl,q.1.1.2⟩
   obtain⟨l,hl⟩:∃l,m=l+ts.length:=⟨m-↑ts,oM⟩
   obtain⟨ar,aY⟩:∃ar,(K.drop b).drop l=ar:=⟨_,rfl⟩;have P:Ae (m=l+ ↑ts/\(K.drop b).drop l=ar/\ar.length= ↑ts/\K.drop (K.length-↑ts)=ar):=⟨hl,aY,by rw[<-aY,m8,aq.2];omega,by rw[<-aY,List.drop_drop];congr 1;have:=aq.1;omega⟩
   have dx:(m:Int)-(ts:Int)=(l:Int):=oM;have hd:decide ((l:Int)<0)=false:=nC oM;have dD:IntKind.i64.wrap (l:Int)=(l:Int):=oY _ oM;have du:m-l=ts.length:=oM;have dm:(l:Int)<=(m:Int):=oM;have dq:(m:Int)<=(W:Int):=oM;have dt:(l:Int)<=(W:Int):=oM;clear hl aY;(go_upto_region 8 with fail);clear V br;have f0:=q.1.1.1.fb.cell 0;have V:=q.1.1.1.ib.cell 0;have i1:=q.1.1.1.ib.cell 1;have i2:=q.1.1.1.ib.cell 2;have i3:=q.1.1.1.ib.cell 3;simp only[lQ,lO,lS]at f0 V i1 i2 i3;have d0:=Au q.1.1.2 aa.1;have d1:=Au q.1.1.2 aa.2.1;have d2:=Au q.1.1.2 aa.2.2.1;have d3:=Au q.1.1.2 aa.2.2.2.1;have d4:=Au q.1.1.2 aa.2.2.2.2.1;have d5:=Au q.1.1.2 aa.2.2.2.2.2.1;have d6:=Au q.1.1.2 aa.2.2.2.2.2.2.1;have d7:=Au q.1.1.2 aa.2.2.2.2.2.2.2;have inst:=Ax.some wc;go_cut [58] (λs wx=>∃bb:Bool,s=Ao bb/\Ae (bb=true↔(BH ar ts=false\/(x.op=27/\AJ f x.a≠3)))/\Ae ((AG w wx B M top t d c n ⟨x1,Z a2 K c2,Z gf (top+1) c3⟩ C K F hv D E gf x.op x.a x.b x.c ⟨x1,Z a2 K c2,Z gf (top+1) c3⟩ C F/\Ah w w wx)/\Rd wx 1 (Z ta ts tc) ts (ts.flatMap At)))
   case first =>
    (have G0:= λn:Ax wc=>Ax.cell f0 n);(have G1:= λn:Ax wc=>Ax.cell V n);(have G2:= λn:Ax wc=>Ax.cell i1 n);(have G3:= λn:Ax wc=>Ax.cell i2 n);(have G4:= λn:Ax wc=>Ax.cell i3 n);(have D0:= λn:Ax wc=>Ax.cell d0 n);(have D1:= λn:Ax wc=>Ax.cell d1 n);(have D2:= λn:Ax wc=>Ax.cell d2 n);(have D3:= λn:Ax wc=>Ax.cell d3 n);(have D4:= λn:Ax wc=>Ax.cell d4 n);(have D5:= λn:Ax wc=>Ax.cell d5 n);(have D6:= λn:Ax wc=>Ax.cell d6 n);(have D7:= λn:Ax wc=>Ax.cell d7 n);have au:Ae (∀u,Ah wc wc u->Ai Aq 118 #[An #[Z r1 p.az r3,Z k1 p.b8 k3,Z f1 p.aC f3,Z t1 p.bO t3,Z g1 f.aP g3,f.cu,Z g4 f.aB g6,Z g7 f.aU g9],An #[x.op,x.a,x.b,x.c]] u λe S=>AM e (¬(x.op=27/\AJ f x.a≠3))/\Ah u u S):= λu hu=>Hp ⟨Z r1 p.az r3,Z k1 p.b8 k3,Z f1 p.aC f3,Z t1 p.bO t3⟩ p ⟨Z g1 f.aP g3,Z g4 f.aB g6,Z g7 f.aU g9⟩ f x.op x.a x.b x.c u hs (HP.av (Ar q.1.1.2 lR hu) lR) (HR.av (Ar q.1.1.2 lR hu) lR) (λe=>H.2.2.2.1.local (.inr (.inr e)))
    have ae:Ae (∀(s:J) u,Ah wc wc u->Rd u 2 s ts (ar.flatMap MC.cells)->Ai Aq 116 #[s,Z ta ts tc,.func (.func 117) #[] #[]] u λe S=>AM e (EM FG ar ts)/\Ah u u S):= λs u hu aA=>Kx FG (λx t w _=>KA x t w) s (Z ta ts tc) ar ts u (by rw[P.2.2.1];omega) oM (λz hz=>H.2.2.2.2.2.1 z (by rw[<-P.2.1]at hz;exact pR (pR hz))) (by rw[P.2.2.1];exact aA) (q.1.2.av hu lR)
    rcases q.2.2 with⟨e0,_⟩|⟨g8,o8,dg,e8,cW⟩
    . (have aj :Ae (ts.length=0):=by have:=P.1;show ts.length=0;omega);have aG:Ae (m=0/\l=0):=by have:=P.1;show _/\_;omega
      clear e0;cases a8 with
      | none=>
        by_cases L:EM FG ar ts
        . have I:Ae (EM FG ar ts):=L;clear L;by_cases R:¬(x.op=27/\AJ f x.a≠3)
          . have N:Ae (¬(x.op=27/\AJ f x.a≠3)):=R
            clear R;go_wp2_with fail;refine AC kR kR ?_;(repeat(go_big_quiet_step (first|(go_at_call 116;rename_i j;exact(ae.o _ j.u j.h (C4 aj P.2.2.1)).mono λe A h=>⟨h.1.true I,⟨⟨A,Ar j.h lR h.2⟩,rfl⟩⟩)|(go_at_call 118;rename_i j;exact(au.o j.u j.h).mono λe A h=>⟨h.1.true N,⟨⟨A,Ar j.h lR h.2⟩,rfl⟩⟩))));refine wpQuiet_nil ?_;rintro A ⟨j,rfl⟩;go_wp2_with fail;go_meet;exact⟨false,rfl,⟨λe=>(by cases e), λe=>e.elim (λe=>by rw[(Dr ar ts).1 I]at e;cases e) (λe=>absurd e N.o)⟩,⟨⟨q.1.1.1.av j.h,Ar q.1.1.2 lR j.h⟩,q.1.2.av j.h lR⟩⟩
          have N:Ae (¬¬(x.op=27/\AJ f x.a≠3)):=R
          clear R;go_wp2_with fail;refine AC kR kR ?_;(repeat(go_big_quiet_step (first|(go_at_call 116;rename_i j;exact(ae.o _ j.u j.h (C4 aj P.2.2.1)).mono λe A h=>⟨h.1.true I,⟨⟨A,Ar j.h lR h.2⟩,rfl⟩⟩)|(go_at_call 118;rename_i j;exact(au.o j.u j.h).mono λe A h=>⟨h.1.false N,⟨⟨A,Ar j.h lR h.2⟩,rfl⟩⟩))));refine wpQuiet_nil ?_;rintro A ⟨j,rfl⟩;go_wp2_with fail;go_meet;exact⟨true,rfl,⟨λ_=>.inr (Classical.not_not.1 N), λ_=>rfl⟩,⟨⟨q.1.1.1.av j.h,Ar q.1.1.2 lR j.h⟩,q.1.2.av j.h lR⟩⟩
        have I:Ae (¬EM FG ar ts):=L;clear L;go_wp2_with fail;refine AC kR kR ?_;(repeat(go_big_quiet_step ((go_at_call 116;rename_i j;exact(ae.o _ j.u j.h (C4 aj P.2.2.1)).mono λe A h=>⟨h.1.false I,⟨⟨A,Ar j.h lR h.2⟩,rfl⟩⟩))));refine wpQuiet_nil ?_;rintro A ⟨j,rfl⟩;go_wp2_with fail;go_meet;exact⟨true,rfl,⟨λ_=>.inl (by cases h:BH ar ts with|false=>rfl|true=>exact absurd ((Dr ar ts).2 h) I.o), λ_=>rfl⟩,⟨⟨q.1.1.1.av j.h,Ar q.1.1.2 lR j.h⟩,q.1.2.av j.h lR⟩⟩
      | some ad=>
        by_cases aM:W=l
        . have bZ:((W:Int)==(l:Int))=true:=oT;have ce:(W==l)=true:=oT;have cj:W-l=0:=oM;clear aM;by_cases L:EM FG ar ts
          . have I:Ae (EM FG ar ts):=L;clear L;by_cases R:¬(x.op=27/\AJ f x.a≠3)
            . have N:Ae (¬(x.op=27/\AJ f x.a≠3)):=R
              clear R;go_wp2_with fail;refine AC kR kR ?_;(repeat(go_big_quiet_step (first|(go_at_call 116;rename_i j;exact(ae.o _ j.u j.h (C4 aj P.2.2.1)).mono λe A h=>⟨h.1.true I,⟨⟨A,Ar j.h lR h.2⟩,rfl⟩⟩)|(go_at_call 118;rename_i j;exact(au.o j.u j.h).mono λe A h=>⟨h.1.true N,⟨⟨A,Ar j.h lR h.2⟩,rfl⟩⟩))));refine wpQuiet_nil ?_;rintro A ⟨j,rfl⟩;go_wp2_with fail;go_meet;exact⟨false,rfl,⟨λe=>(by cases e), λe=>e.elim (λe=>by rw[(Dr ar ts).1 I]at e;cases e) (λe=>absurd e N.o)⟩,⟨⟨q.1.1.1.av j.h,Ar q.1.1.2 lR j.h⟩,q.1.2.av j.h lR⟩⟩
            have N:Ae (¬¬(x.op=27/\AJ f x.a≠3)):=R
            clear R;go_wp2_with fail;refine AC kR kR ?_;(repeat(go_big_quiet_step (first|(go_at_call 116;rename_i j;exact(ae.o _ j.u j.h (C4 aj P.2.2.1)).mono λe A h=>⟨h.1.true I,⟨⟨A,Ar j.h lR h.2⟩,rfl⟩⟩)|(go_at_call 118;rename_i j;exact(au.o j.u j.h).mono λe A h=>⟨h.1.false N,⟨⟨A,Ar j.h lR h.2⟩,rfl⟩⟩))));refine wpQuiet_nil ?_;rintro A ⟨j,rfl⟩;go_wp2_with fail;go_meet;exact⟨true,rfl,⟨λ_=>.inr (Classical.not_not.1 N), λ_=>rfl⟩,⟨⟨q.1.1.1.av j.h,Ar q.1.1.2 lR j.h⟩,q.1.2.av j.h lR⟩⟩
          have I:Ae (¬EM FG ar ts):=L;clear L;go_wp2_with fail;refine AC kR kR ?_;(repeat(go_big_quiet_step ((go_at_call 116;rename_i j;exact(ae.o _ j.u j.h (C4 aj P.2.2.1)).mono λe A h=>⟨h.1.false I,⟨⟨A,Ar j.h lR h.2⟩,rfl⟩⟩))));refine wpQuiet_nil ?_;rintro A ⟨j,rfl⟩;go_wp2_with fail;go_meet;exact⟨true,rfl,⟨λ_=>.inl (by cases h:BH ar ts with|false=>rfl|true=>exact absurd ((Dr ar ts).2 h) I.o), λ_=>rfl⟩,⟨⟨q.1.1.1.av j.h,Ar q.1.1.2 lR j.h⟩,q.1.2.av j.h lR⟩⟩
        (skip);by_cases L:EM FG ar ts
        . have I:Ae (EM FG ar ts):=L;clear L;by_cases R:¬(x.op=27/\AJ f x.a≠3)
          . have N:Ae (¬(x.op=27/\AJ f x.a≠3)):=R
            clear R;go_wp2_with fail;refine AC kR kR ?_;(repeat(go_big_quiet_step (first|(go_at_call 116;rename_i j;exact(ae.o _ j.u j.h (C4 aj P.2.2.1)).mono λe A h=>⟨h.1.true I,⟨⟨A,Ar j.h lR h.2⟩,rfl⟩⟩)|(go_at_call 118;rename_i j;exact(au.o j.u j.h).mono λe A h=>⟨h.1.true N,⟨⟨A,Ar j.h lR h.2⟩,rfl⟩⟩))));refine wpQuiet_nil ?_;rintro A ⟨j,rfl⟩;go_wp2_with fail;go_meet;exact⟨false,rfl,⟨λe=>(by cases e), λe=>e.elim (λe=>by rw[(Dr ar ts).1 I]at e;cases e) (λe=>absurd e N.o)⟩,⟨⟨q.1.1.1.av j.h,Ar q.1.1.2 lR j.h⟩,q.1.2.av j.h lR⟩⟩
          have N:Ae (¬¬(x.op=27/\AJ f x.a≠3)):=R
          clear R;go_wp2_with fail;refine AC kR kR ?_;(repeat(go_big_quiet_step (first|(go_at_call 116;rename_i j;exact(ae.o _ j.u j.h (C4 aj P.2.2.1)).mono λe A h=>⟨h.1.true I,⟨⟨A,Ar j.h lR h.2⟩,rfl⟩⟩)|(go_at_call 118;rename_i j;exact(au.o j.u j.h).mono λe A h=>⟨h.1.false N,⟨⟨A,Ar j.h lR h.2⟩,rfl⟩⟩))));refine wpQuiet_nil ?_;rintro A ⟨j,rfl⟩;go_wp2_with fail;go_meet;exact⟨true,rfl,⟨λ_=>.inr (Classical.not_not.1 N), λ_=>rfl⟩,⟨⟨q.1.1.1.av j.h,Ar q.1.1.2 lR j.h⟩,q.1.2.av j.h lR⟩⟩
        have I:Ae (¬EM FG ar ts):=L;clear L;go_wp2_with fail;refine AC kR kR ?_;(repeat(go_big_quiet_step ((go_at_call 116;rename_i j;exact(ae.o _ j.u j.h (C4 aj P.2.2.1)).mono λe A h=>⟨h.1.false I,⟨⟨A,Ar j.h lR h.2⟩,rfl⟩⟩))));refine wpQuiet_nil ?_;rintro A ⟨j,rfl⟩;go_wp2_with fail;go_meet;exact⟨true,rfl,⟨λ_=>.inl (by cases h:BH ar ts with|false=>rfl|true=>exact absurd ((Dr ar ts).2 h) I.o), λ_=>rfl⟩,⟨⟨q.1.1.1.av j.h,Ar q.1.1.2 lR j.h⟩,q.1.2.av j.h lR⟩⟩
    simp only[lU,mj]at e8;obtain⟨rfl,hx⟩:=e8;clear hx cW;by_cases aM:W=l
    . have bZ:((W:Int)==(l:Int))=true:=oT;have ce:(W==l)=true:=oT;have cj:W-l=0:=oM;(have aj:Ae (ts.length=0):=by have:=P.1;show ts.length=0;omega);clear aM;by_cases L:EM FG ar ts
      . have I:Ae (EM FG ar ts):=L;clear L;by_cases R:¬(x.op=27/\AJ f x.a≠3)
        . have N:Ae (¬(x.op=27/\AJ f x.a≠3)):=R
          clear R;go_wp2_with fail;refine AC kR kR ?_;(repeat(go_big_quiet_step (first|(go_at_call 116;rename_i j;exact(ae.o _ j.u j.h (C4 aj P.2.2.1)).mono λe A h=>⟨h.1.true I,⟨⟨A,Ar j.h lR h.2⟩,rfl⟩⟩)|(go_at_call 118;rename_i j;exact(au.o j.u j.h).mono λe A h=>⟨h.1.true N,⟨⟨A,Ar j.h lR h.2⟩,rfl⟩⟩))));refine wpQuiet_nil ?_;rintro A ⟨j,rfl⟩;go_wp2_with fail;go_meet;exact⟨false,rfl,⟨λe=>(by cases e), λe=>e.elim (λe=>by rw[(Dr ar ts).1 I]at e;cases e) (λe=>absurd e N.o)⟩,⟨⟨q.1.1.1.av j.h,Ar q.1.1.2 lR j.h⟩,q.1.2.av j.h lR⟩⟩
        have N:Ae (¬¬(x.op=27/\AJ f x.a≠3)):=R
        clear R;go_wp2_with fail;refine AC kR kR ?_;(repeat(go_big_quiet_step (first|(go_at_call 116;rename_i j;exact(ae.o _ j.u j.h (C4 aj P.2.2.1)).mono λe A h=>⟨h.1.true I,⟨⟨A,Ar j.h lR h.2⟩,rfl⟩⟩)|(go_at_call 118;rename_i j;exact(au.o j.u j.h).mono λe A h=>⟨h.1.false N,⟨⟨A,Ar j.h lR h.2⟩,rfl⟩⟩))));refine wpQuiet_nil ?_;rintro A ⟨j,rfl⟩;go_wp2_with fail;go_meet;exact⟨true,rfl,⟨λ_=>.inr (Classical.not_not.1 N), λ_=>rfl⟩,⟨⟨q.1.1.1.av j.h,Ar q.1.1.2 lR j.h⟩,q.1.2.av j.h lR⟩⟩
      have I:Ae (¬EM FG ar ts):=L;clear L;go_wp2_with fail;refine AC kR kR ?_;(repeat(go_big_quiet_step ((go_at_call 116;rename_i j;exact(ae.o _ j.u j.h (C4 aj P.2.2.1)).mono λe A h=>⟨h.1.false I,⟨⟨A,Ar j.h lR h.2⟩,rfl⟩⟩))));refine wpQuiet_nil ?_;rintro A ⟨j,rfl⟩;go_wp2_with fail;go_meet;exact⟨true,rfl,⟨λ_=>.inl (by cases h:BH ar ts with|false=>rfl|true=>exact absurd ((Dr ar ts).2 h) I.o), λ_=>rfl⟩,⟨⟨q.1.1.1.av j.h,Ar q.1.1.2 lR j.h⟩,q.1.2.av j.h lR⟩⟩
    (have aZ:Rd wc 2 (Z (some ⟨g8,o8+l*2,none⟩) ts (W-l)) ts (ar.flatMap MC.cells):=by rw[<-P.2.1];exact XT q.2 aq.2 P.1);have bg:Ae (Rd wc 2 (Z (some ⟨g8,o8+l*2,none⟩) ts (W-l)) ts (ar.flatMap MC.cells)):=aZ;clear aZ;by_cases L:EM FG ar ts
    . have I:Ae (EM FG ar ts):=L;clear L;by_cases R:¬(x.op=27/\AJ f x.a≠3)
      . have N:Ae (¬(x.op=27/\AJ f x.a≠3)):=R
        clear R;go_wp2_with fail;refine AC kR kR ?_;(repeat(go_big_quiet_step (first|(go_at_call 116;rename_i j;exact(ae.o _ j.u j.h (bg.av j.h lR)).mono λe A h=>⟨h.1.true I,⟨⟨A,Ar j.h lR h.2⟩,rfl⟩⟩)|(go_at_call 118;rename_i j;exact(au.o j.u j.h).mono λe A h=>⟨h.1.true N,⟨⟨A,Ar j.h lR h.2⟩,rfl⟩⟩))));refine wpQuiet_nil ?_;rintro A ⟨j,rfl⟩;go_wp2_with fail;go_meet;exact⟨false,rfl,⟨λe=>(by cases e), λe=>e.elim (λe=>by rw[(Dr ar ts).1 I]at e;cases e) (λe=>absurd e N.o)⟩,⟨⟨q.1.1.1.av j.h,Ar q.1.1.2 lR j.h⟩,q.1.2.av j.h lR⟩⟩
      have N:Ae (¬¬(x.op=27/\AJ f x.a≠3)):=R
      clear R;go_wp2_with fail;refine AC kR kR ?_;(repeat(go_big_quiet_step (first|(go_at_call 116;rename_i j;exact(ae.o _ j.u j.h (bg.av j.h lR)).mono λe A h=>⟨h.1.true I,⟨⟨A,Ar j.h lR h.2⟩,rfl⟩⟩)|(go_at_call 118;rename_i j;exact(au.o j.u j.h).mono λe A h=>⟨h.1.false N,⟨⟨A,Ar j.h lR h.2⟩,rfl⟩⟩))));refine wpQuiet_nil ?_;rintro A ⟨j,rfl⟩;go_wp2_with fail;go_meet;exact⟨true,rfl,⟨λ_=>.inr (Classical.not_not.1 N), λ_=>rfl⟩,⟨⟨q.1.1.1.av j.h,Ar q.1.1.2 lR j.h⟩,q.1.2.av j.h lR⟩⟩
    have I:Ae (¬EM FG ar ts):=L;clear L;go_wp2_with fail;refine AC kR kR ?_;(repeat(go_big_quiet_step ((go_at_call 116;rename_i j;exact(ae.o _ j.u j.h (bg.av j.h lR)).mono λe A h=>⟨h.1.false I,⟨⟨A,Ar j.h lR h.2⟩,rfl⟩⟩))));refine wpQuiet_nil ?_;rintro A ⟨j,rfl⟩;go_wp2_with fail;go_meet;exact⟨true,rfl,⟨λ_=>.inl (by cases h:BH ar ts with|false=>rfl|true=>exact absurd ((Dr ar ts).2 h) I.o), λ_=>rfl⟩,⟨⟨q.1.1.1.av j.h,Ar q.1.1.2 lR j.h⟩,q.1.2.av j.h lR⟩⟩
   case rest=>
    obtain⟨bb,rfl,bC,E4⟩:=hcut;clear q f0 V i1 i2 i3 d0 d1 d2 d3 d4 d5 d6 d7 inst;rcases Bool.eq_false_or_eq_true bb with bt|bt
    . subst bt;(have ai:Ae (res=2):=by rw[aE,lY (by rw[aJ];exact aI),mE (by rw[P.2.2.2];exact bC.1 rfl)];exact rfl);(go_upto_region 9 with fail);go_wp2_with fail;go_ret;exact⟨by rw[ai];rfl,E4.1.2⟩
    subst bt;have aO:Ae (¬(BH (K.drop (K.length-↑ts)) ts=false\/(x.op=27/\AJ f x.a≠3))):=by rw[P.2.2.2];exact λe=>by have:=bC.2 e;cases this
    have V:=E4.1.1.ib.cell 0;simp only[lQ,lO]at V;by_cases aF:x.op=28
    . (have bQ:(x.op==28)=true:=by simpa using aF);have m6:=E4.1.1.mb.at.2.2.2.2.2.2.1;simp only[]at m6;by_cases bV:top+1<32
      . have cX:decide ((top:Int)+1<32)=true:=decide_eq_true oM;(have ai:Ae (res=0):=by rw[aE,lY (by rw[aJ];exact aI),lY aO,mE aF,mE (by rw[H.1];exact bV)];exact rfl);go_wp2_with fail;refine(CC true 5 _).mono ?_;rintro e u2 ⟨rfl,rfl⟩;go_wp2_with fail;go_ret;exact⟨by rw[ai];rfl,E4.1.2⟩
      have cX:decide ((top:Int)+1<32)=false:=nC oM;(have ai:Ae (res=5):=by rw[aE,lY (by rw[aJ];exact aI),lY aO,mE aF,lY (by rw[H.1];exact bV)];exact rfl);go_wp2_with fail;refine(CC false 5 _).mono ?_;rintro e u2 ⟨rfl,rfl⟩;go_wp2_with fail;go_ret;exact⟨by rw[ai];rfl,E4.1.2⟩
    (have bQ:(x.op==28)=false:=by simpa using aF);(go_upto_region 12 with fail);clear V bQ;obtain⟨gs,bx⟩:∃gs,Bg p f x=gs:=⟨_,rfl⟩;have bu: ↑gs=Ef x:=by rw[<-bx];exact Nm p f x aF
    (have dj:gs.length<=2:=by rw[bu];unfold Ef;(repeat' split);all_goals omega);have bf:Ae (Bg p f x=gs/\ ↑gs=Ef x):=⟨bx,bu⟩
    clear bx bu;have dz:IntKind.i64.wrap ((b:Int)+(l:Int))=(b:Int)+(l:Int):=oY _ oM;have dA:IntKind.i64.wrap ((b:Int)+(l:Int)+(gs:Int))=(b:Int)+(l:Int)+(gs:Int):=oY _ oM;have bj:=E4.1.1.fb.cell 0;have bq:=E4.1.1.fb.cell 1;have V:=E4.1.1.ib.cell 0;have i1:=E4.1.1.ib.cell 1;have i2:=E4.1.1.ib.cell 2;have i3:=E4.1.1.ib.cell 3;simp only[lQ,lO,lS]at bj bq V i1 i2 i3;have d0:=Au E4.1.2 aa.1;have d1:=Au E4.1.2 aa.2.1;have d2:=Au E4.1.2 aa.2.2.1;have d3:=Au E4.1.2 aa.2.2.2.1;have d4:=Au E4.1.2 aa.2.2.2.2.1;have d5:=Au E4.1.2 aa.2.2.2.2.2.1;have d6:=Au E4.1.2 aa.2.2.2.2.2.2.1;have d7:=Au E4.1.2 aa.2.2.2.2.2.2.2;have ho:=E4.1.1.own.dk;simp only[]at ho;rw[H.1]at ho;have ax:=ho.cellAt (top*4+2) oM;rw[BI BE 4 Ca F top 2 _ H.2.1 oM]at ax;simp only[BE,lO,lS,H.2.2.1]at ax;clear ho;have G:=As wc;have KD:wc.drew w=some (.pointer (some ⟨D,E,none⟩))/\wc.drew ⟨w,1,none⟩=some (.pointer (some ⟨gf,top*4,none⟩))/\wc.drew ⟨gf,top*4+2,none⟩=some ↑b/\wc.drew ⟨D,E,none⟩=some (Z r1 p.az r3)/\wc.drew ⟨D,E+1,none⟩=some (Z k1 p.b8 k3)/\wc.drew ⟨D,E+2,none⟩=some (Z f1 p.aC f3)/\wc.drew ⟨D,E+3,none⟩=some (Z t1 p.bO t3)/\wc.drew ⟨D,E+4,none⟩=some (Z g1 f.aP g3)/\wc.drew ⟨D,E+5,none⟩=some ↑f.cu/\wc.drew ⟨D,E+6,none⟩=some (Z g4 f.aB g6)/\wc.drew ⟨D,E+7,none⟩=some (Z g7 f.aU g9)/\wc.drew ⟨(w:Nat)+1,0,none⟩=some ↑x.op/\wc.drew ⟨(w:Nat)+1,1,none⟩=some ↑x.a/\wc.drew ⟨(w:Nat)+1,2,none⟩=some ↑x.b/\wc.drew ⟨(w:Nat)+1,3,none⟩=some ↑x.c:=⟨Au G bj,Au G bq,Au G ax,Au G d0,Au G d1,Au G d2,Au G d3,Au G d4,Au G d5,Au G d6,Au G d7,Au G V,Au G i1,Au G i2,Au G i3⟩
    clear bj bq ax d0 d1 d2 d3 d4 d5 d6 d7 V i1 i2 i3;go_cut [10] (λs wx=>s=Ag Af ((b:Int)+(l:Int)+(gs:Int))/\Ae (Ah w w wx))
    case first=>
     go_region_held_law (λS=>S.cell? w=some (.pointer (some ⟨D,E,none⟩))/\S.cell? ⟨w,1,none⟩=some (.pointer (some ⟨gf,top*4,none⟩))/\S.cell? ⟨gf,top*4+2,none⟩=some ↑b/\S.cell? ⟨D,E,none⟩=some (Z r1 p.az r3)/\S.cell? ⟨D,E+1,none⟩=some (Z k1 p.b8 k3)/\S.cell? ⟨D,E+2,none⟩=some (Z f1 p.aC f3)/\S.cell? ⟨D,E+3,none⟩=some (Z t1 p.bO t3)/\S.cell? ⟨D,E+4,none⟩=some (Z g1 f.aP g3)/\S.cell? ⟨D,E+5,none⟩=some ↑f.cu/\S.cell? ⟨D,E+6,none⟩=some (Z g4 f.aB g6)/\S.cell? ⟨D,E+7,none⟩=some (Z g7 f.aU g9)/\S.cell? ⟨(w:Nat)+1,0,none⟩=some ↑x.op/\S.cell? ⟨(w:Nat)+1,1,none⟩=some ↑x.a/\S.cell? ⟨(w:Nat)+1,2,none⟩=some ↑x.b/\S.cell? ⟨(w:Nat)+1,3,none⟩=some ↑x.c) (first|exact KD|exact KW|go_keep) (first|(go_simp;go_at_call 119;refine(Oa ⟨Z r1 p.az r3,Z k1 p.b8 k3,Z f1 p.aC f3,Z t1 p.bO t3⟩ p ⟨Z g1 f.aP g3,Z g4 f.aB g6,Z g7 f.aU g9⟩ f x _ cI H.2.2.2.2.2.2 hs (HP.av (Ar E4.1.2 lR G) lR) (HR.av (Ar E4.1.2 lR G) lR) H.2.2.2.1).mono ?_;rintro e O ⟨sv,rfl,aA,Q⟩;rw[bf.1]at aA;obtain⟨sa,sc,rfl⟩:=aA.aD;have B1:Ae (Ah w w O):=Ar E4.1.2 lR (Br Q lR);have KW:O w=some (.pointer (some ⟨D,E,none⟩))/\O ⟨w,1,none⟩=some (.pointer (some ⟨gf,top*4,none⟩))/\O ⟨gf,top*4+2,none⟩=some ↑b/\O ⟨D,E,none⟩=some (Z r1 p.az r3)/\O ⟨D,E+1,none⟩=some (Z k1 p.b8 k3)/\O ⟨D,E+2,none⟩=some (Z f1 p.aC f3)/\O ⟨D,E+3,none⟩=some (Z t1 p.bO t3)/\O ⟨D,E+4,none⟩=some (Z g1 f.aP g3)/\O ⟨D,E+5,none⟩=some ↑f.cu/\O ⟨D,E+6,none⟩=some (Z g4 f.aB g6)/\O ⟨D,E+7,none⟩=some (Z g7 f.aU g9)/\O ⟨(w:Nat)+1,0,none⟩=some ↑x.op/\O ⟨(w:Nat)+1,1,none⟩=some ↑x.a/\O ⟨(w:Nat)+1,2,none⟩=some ↑x.b/\O ⟨(w:Nat)+1,3,none⟩=some ↑x.c:=⟨Au Q KD.1,Au Q KD.2.1,Au Q KD.2.2.1,Au Q KD.2.2.2.1,Au Q KD.2.2.2.2.1,Au Q KD.2.2.2.2.2.1,Au Q KD.2.2.2.2.2.2.1,Au Q KD.2.2.2.2.2.2.2.1,Au Q KD.2.2.2.2.2.2.2.2.1,Au Q KD.2.2.2.2.2.2.2.2.2.1,Au Q KD.2.2.2.2.2.2.2.2.2.2.1,Au Q KD.2.2.2.2.2.2.2.2.2.2.2.1,Au Q KD.2.2.2.2.2.2.2.2.2.2.2.2.1,Au Q KD.2.2.2.2.2.2.2.2.2.2.2.2.2.1,Au Q KD.2.2.2.2.2.2.2.2.2.2.2.2.2.2⟩;clear Q aA))
     all_goals
      go_wp2_with fail;go_meet;exact⟨rfl,B1⟩
    case rest=>
     obtain⟨rfl,HB⟩:=hcut;clear KD G E4;by_cases bY:b+l+ ↑gs<=64
     . have cY:decide ((b:Int)+(l:Int)+(gs:Int)<=64)=true:=decide_eq_true oM;(have ai:Ae (res=0):=by rw[aE,lY (by rw[aJ];exact aI),lY aO,lY aF,lY (by rw[<-bf.2];have:=P.1;have:=aq.1;omega)];exact rfl);clear bY;go_wp2_with fail;refine(CC true 3 _).mono ?_;rintro e u2 ⟨rfl,rfl⟩;go_wp2_with fail;go_ret;exact⟨by rw[ai];rfl,HB⟩
     have cY:decide ((b:Int)+(l:Int)+(gs:Int)<=64)=false:=nC oM;(have ai:Ae (res=3):=by rw[aE,lY (by rw[aJ];exact aI),lY aO,lY aF,mE (by rw[<-bf.2];have:=P.1;have:=aq.1;omega)];exact rfl);clear bY;go_wp2_with fail;refine(CC false 3 _).mono ?_;rintro e u2 ⟨rfl,rfl⟩;go_wp2_with fail;go_ret;exact⟨by rw[ai];rfl,HB⟩
end Go.Proofs.YtkgohaigebcgoaaGreatDoor
