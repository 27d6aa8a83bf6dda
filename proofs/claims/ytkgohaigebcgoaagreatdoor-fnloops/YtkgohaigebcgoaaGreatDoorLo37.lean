import Derived.Test.YtkgohaigebcgoaaGreatDoorLo36
namespace Go.Proofs.YtkgohaigebcgoaaGreatDoor
open Go.ChangeShapes Go.WideShapes Go.ChangeAt Go.RowKit Go.Proofs.Tryz
set_option linter.unusedVariables false
open Go.Value renaming slice → Z,int → Ag,agg → An,bool → Ao
open Option renaming none → M
open Go renaming Value → J,World → Y,Calls → Ai
open Go.RowKit renaming Hid → Ae,Below → Ah
open Go.IntKind renaming i64 → Af
open Go.Obj renaming cells → Ak
open Go.Ending renaming returned → Am
open Go.Proofs.Tryz renaming prog → Aq
open Go.World renaming alloc → Ac
open List renaming flatMap → Ad
set_option maxHeartbeats 8000000
set_option maxRecDepth 100000
def FK(v:MC)(t:Int):Prop:=t=0\/v.type=t
theorem NU{q:MC->Int->Prop}{v:MC}{e:List MC}{t:Int}{ts:List Int}:EU q (v::e) (t::ts)↔q v t/\EU q e ts:=by
 constructor
 . rintro⟨c,h⟩;exact⟨h 0 sP v rfl t rfl,by simpa using c, λj d x a y b=>h (j+1) oT x a y b⟩
 rintro⟨f,c,h⟩;refine⟨by simpa using c, λj d x a y b=> ?_⟩;cases j with
 | zero=>simp only[f8,jJ]at a b;subst a b;exact f
 |succ j=>exact h j (by simp at d;omega) x a y b
theorem Dx(a:List MC)(ts:List Int):EU FK a ts↔Bw a ts=true:=by
 induction a generalizing ts with
 | nil=>
   cases ts with
   |nil=>exact⟨λ_=>rfl, λ_=>⟨rfl, λj b=>by simp at b⟩⟩
   |cons t ts=>exact⟨λh=>by have:=h.1;simp at this, λh=>by simp[Bw]at h⟩
 | cons v a c=>
   cases ts with
   |nil=>exact⟨λh=>by have:=h.1;simp at this, λh=>by simp[Bw]at h⟩
   | cons t ts=>rw[NU,c];simp[Bw,FK]
theorem T3(a:List MC)(f:MF):EU FK a (Bj f)↔a.map MC.type=Bj f:=by
 unfold Bj;split
 . cases a with
   |nil=>exact⟨λ_=>rfl, λ_=>⟨rfl, λj b=>by simp at b⟩⟩
   |cons v a=>exact⟨λh=>by have:=h.1;simp at this, λh=>by simp at h⟩
 . rename_i c;cases a with
   |nil=>exact⟨λh=>by have:=h.1;simp at this, λh=>by simp at h⟩
   | cons v a=>
     rw[NU];cases a with
     | nil=>simp only[lM,List.map_nil,mK,mD];exact⟨λh=>h.1.resolve_left c, λh=>⟨.inr h,rfl, λj b=>by simp at b⟩⟩
     |cons u d=>exact⟨λh=>by have:=h.2.1;simp at this, λh=>by simp at h⟩
theorem Yi{w:Y}{g o n c c' kl m:Nat}{K:List MC}(h:Rd w 2 (Z (some ⟨g,o,M⟩) n c) n (Ad MC.cells K))(r: ↑K=n)(q:n=kl+m):Rd w 2 (Z (some ⟨g,o+kl*2,M⟩) m c') m (Ad MC.cells (K.drop kl)):=by
 refine⟨by rw[AV MC.cells 2 MC.bW,kZ];congr 1;omega,?_⟩;rcases h.2 with⟨e,_⟩|⟨p,s,l,e,i⟩
 . exact .inl ⟨oM,_,_,by rw[show m=0 from oM]⟩
 simp only[i8,jJ,lT,kW,mD]at e;obtain⟨⟨rfl,rfl⟩,_⟩:=e;refine .inr ⟨g,o+kl*2,c',rfl, λj u k=> ?_⟩;have:(Ad MC.cells K)[kl*2+j]?=some u:=by
  rw[<-k];have b:Ad MC.cells (K.drop kl)=(Ad MC.cells K).drop (kl*2):=by (have d:Ad MC.cells K=Ad MC.cells (K.take kl)++Ad MC.cells (K.drop kl):=by rw[<-kJ,lS]);rw[d];(have f:(Ad MC.cells (K.take kl)).length=kl*2:=by rw[AV MC.cells 2 MC.bW,kp,Nat.min_eq_left oM]);rw[<-f,List.drop_left]
  rw[b,mh]
 have a:=i _ _ this;rw[<-Nat.add_assoc]at a;exact a
theorem Ts (B M top:Nat)(t:Int)(d:Bool)(c n:Int)(X:VS)(C:List (J×List MC))(K:List MC)(F:List (MG×J))(hv:J)(A D gf c3 b:Nat)(y:MG×J)(v:VP)(p:MP)(g:VF)(f:MF)(x:MI)(w:Y)(hB:B<= ↑w)(h:AB w B X C K F)(hm:BF w M t d c n X hv)(hF: ↑F=top+1)(cK:F.length<=32)(hy:F[top]?=some y)(bQ:X.f=Z gf (top+1) c3)
 (hb:y.1.base=(b:Int)) (cQ:b<= ↑K) (hK:K.length<=64) (bP:∀z∈K,0<=z.word) (cg:p.small) (h3:p.az.length=3) (hs:f.small) (hP:ET w v p) (hr:FH w g f) (hx:AW p f x) (ce:AX p 0)
 (c0:w ⟨A,D,none⟩=some v.r) (aO:w ⟨A,D+1,none⟩=some v.k) (aI:w ⟨A,D+2,none⟩=some v.f) (aQ:w ⟨A,D+3,none⟩=some v.t) (aR:w ⟨A,D+4,none⟩=some g.p) (bf:w ⟨A,D+5,none⟩=some ↑f.cu) (aS:w ⟨A,D+6,none⟩=some g.l) (aT:w ⟨A,D+7,none⟩=some g.c):
 Ai Aq 49 #[.pointer M,An #[.pointer (some ⟨A,D,none⟩),.pointer (some ⟨gf,top*4,none⟩)],An #[x.op,x.a,x.b,x.c]] w λe R=>e=Am (Do p f y.1 (A3 0 false c n C K F) x)/\Ah w w R:=by
 obtain⟨r1,r3,er⟩:=(show∃a c,v.r=Z a p.az c from by obtain⟨_,_,h2,_⟩:=hP.az;exact h2.aP);obtain⟨k1,k3,ek⟩:=hP.b8.aP;obtain⟨t1,t3,et⟩:=hP.bO.aP;obtain⟨f1,f3,ef⟩:=(show∃a c,v.f=Z a p.aB c from by obtain⟨_,_,h2,_⟩:=hP.aB;exact h2.aP);obtain⟨g1,g3,bG⟩:=hr.1.aP;obtain⟨g4,g6,bH⟩:=hr.2.1.aP;obtain⟨g7,g9,bI⟩:=hr.2.2.aP;obtain⟨gp,gl,gc⟩:=g;obtain⟨vr,vk,vf,vt⟩:=v;simp only[]at er ek et ef bG bH bI;subst er ek et ef bG bH bI;have HP:Ae (ET w ⟨Z r1 p.az r3,Z k1 p.b8 k3,Z f1 p.aB f3,Z t1 p.bO t3⟩ p):=hP;have HR:Ae (FH w ⟨Z g1 f.aD g3,Z g4 f.a7 g6,Z g7 f.aU g9⟩ f):=hr;clear hP hr;simp only[]at c0 aO aI aQ aR aS aT;obtain⟨x1,x2,x3⟩:=X;simp only[]at bQ;subst bQ;obtain⟨a2,c2,e2⟩:=AF (h.eT.own (x2,K) sP);simp only[]at e2;have df: ↑K<=c2:=by have h2:=h.eT.own (x2,K) sP;simp only[]at h2;rw[e2]at h2;exact Gx h2
 subst e2;have E0:Ae (AH w (Ac (Ac w (Ak #[.pointer (some ⟨A,D,none⟩),.pointer (some ⟨gf,top*4,none⟩)] 143)) (Ak #[x.op,x.a,x.b,x.c] 25)) B M top t d c n ⟨x1,Z a2 K c2,Z gf (top+1) c3⟩ C K F hv A D gf x.op x.a x.b x.c ⟨x1,Z a2 K c2,Z gf (top+1) c3⟩ C F/\Ah w w (Ac (Ac w (Ak #[.pointer (some ⟨A,D,none⟩),.pointer (some ⟨gf,top*4,none⟩)] 143)) (Ak #[x.op,x.a,x.b,x.c] 25))):=⟨AH.of A D gf x.op x.a x.b x.c hB h hm,Ar (Al _ _) lR (Al _ _)⟩
 have H:Ae (↑F=top+1/\F[top]?=some y/\y.1.base=(b:Int)/\AW p f x/\AX p 0/\(∀z∈K,0<=z.word)/\p.az.length=3):=⟨hF,hy,hb,hx,ce,bP,h3⟩
 have HH:Ae (AB w B ⟨x1,Z a2 K c2,Z gf (top+1) c3⟩ C K F):=h;obtain⟨res,bu⟩:∃res,Do p f y.1 (A3 0 false c n C K F) x=res:=⟨_,rfl⟩;have bB:Ae (Do p f y.1 (A3 0 false c n C K F) x=res):=bu;rw[bu];have dv:top+1<=32:=oM;clear h hm hF cK hy hb hx ce bP h3 bu;go_enter func49,ntmps49;go_upto_region 1 with fail
 refine Av (λu=>Ae (AH w u B M top t d c n ⟨x1,Z a2 K c2,Z gf (top+1) c3⟩ C K F hv A D gf x.op x.a x.b x.c ⟨x1,Z a2 K c2,Z gf (top+1) c3⟩ C F/\Ah w w u)) E0 ?_
 rintro U E1;clear E0;have f0:=E1.1.fb.cell 0;have i0:=E1.1.ib.cell 0;have i1:=E1.1.ib.cell 1;have i2:=E1.1.ib.cell 2;have i3:=E1.1.ib.cell 3;simp only[i5,f8,i6]at f0 i0 i1 i2 i3;have E:=At U;have cJ:=Au E f0;have cZ:=Au E i0;have d8:=Au E i1;have d9:=Au E i2;have db:=Au E i3;have d0:=Au E (Au E1.2 c0);have d1:=Au E (Au E1.2 aO);have d2:=Au E (Au E1.2 aI);have d3:=Au E (Au E1.2 aQ);have d4:=Au E (Au E1.2 aR);have d5:=Au E (Au E1.2 bf);have d6:=Au E (Au E1.2 aS);have d7:=Au E (Au E1.2 aT);have V:Ae (w ⟨A,D,none⟩=some (Z r1 p.az r3)/\w ⟨A,D+1,none⟩=some (Z k1 p.b8 k3)/\w ⟨A,D+2,none⟩=some (Z f1 p.aB f3)/\w ⟨A,D+3,none⟩=some (Z t1 p.bO t3)/\w ⟨A,D+4,none⟩=some (Z g1 f.aD g3)/\w ⟨A,D+5,none⟩=some ↑f.cu/\w ⟨A,D+6,none⟩=some (Z g4 f.a7 g6)/\w ⟨A,D+7,none⟩=some (Z g7 f.aU g9)):=⟨c0,aO,aI,aQ,aR,bf,aS,aT⟩
 clear f0 i0 i1 i2 i3 c0 aO aI aQ aR bf aS aT;obtain⟨ts,cH⟩:∃ts,Ce p f x=ts:=⟨_,rfl⟩;have aM:Ae (Ce p f x=ts):=cH;clear cH;go_upto_region 1 with fail
 go_cut [7] (λs wx=>∃ta tc,s=Z ta ts tc/\Ae ((AH w wx B M top t d c n ⟨x1,Z a2 K c2,Z gf (top+1) c3⟩ C K F hv A D gf x.op x.a x.b x.c ⟨x1,Z a2 K c2,Z gf (top+1) c3⟩ C F/\Ah w w wx)/\Rd wx 1 (Z ta ts tc) ts (ts.flatMap As)))
 case first=>
  go_region_law (go_simp;go_at_call 114;refine(OI ⟨Z r1 p.az r3,Z k1 p.b8 k3,Z f1 p.aB f3,Z t1 p.bO t3⟩ p ⟨Z g1 f.aD g3,Z g4 f.a7 g6,Z g7 f.aU g9⟩ f x U.drew cg H.2.2.2.2.2.2 hs (HP.av (Ar E1.2 lR E) lR) (HR.av (Ar E1.2 lR E) lR) H.2.2.2.1).mono ?_;rintro e N ⟨sv,rfl,au,P⟩;rw[aM]at au;obtain⟨ta,tc,rfl⟩:=au.aP;have B1:Ae (Ah U U N):=Bs P lR;have T:Ae ((AH w N B M top t d c n ⟨x1,Z a2 K c2,Z gf (top+1) c3⟩ C K F hv A D gf x.op x.a x.b x.c ⟨x1,Z a2 K c2,Z gf (top+1) c3⟩ C F/\Ah w w N)/\Rd N 1 (Z ta ts tc) ts (ts.flatMap As)):=⟨⟨E1.1.av B1,Ar E1.2 lR B1⟩,au⟩;clear P au)
  all_goals
   go_wp2_with fail;go_meet;exact⟨ta,tc,rfl,T⟩
 case rest=>
  obtain⟨ta,tc,rfl,T⟩:=hcut;clear E1 cJ cZ d8 d9 db d0 d1 d2 d3 d4 d5 d6 d7 E;obtain⟨m,hm⟩:∃m, ↑K=b+m:=⟨↑K-b,oM⟩
  have ai:Ae (↑K=b+m/\(K.drop b).length=m):=⟨hm,by rw[kZ];omega⟩
  have aH: ↑K-b=m:=oM
  have dq:m<=64:=oM;have cW:(b:Int)<=(K:Int):=oM;have cX:(K:Int)<=(c2:Int):=oM;have cY:(b:Int)<=(c2:Int):=oM;clear hm;have m5:=T.1.1.mb.at.2.2.2.2.2.1;simp only[]at m5;have f1:=T.1.1.fb.cell 1;simp only[i5,f8,i6]at f1;have ho:=T.1.1.own.dk;simp only[]at ho;rw[H.1]at ho;have aq:=ho.cellAt (top*4+2) oM;rw[BM BG 4 Ch F top 2 _ H.2.1 oM]at aq;simp only[BG,f8,i6,H.2.2.1]at aq;clear ho;have inst:=Ax.some wc;go_upto_region 2 with fail
  go_cut [8] (λs wx=>∃a8 S,s=Z a8 m S/\m<=S/\Ae (((AH w wx B M top t d c n ⟨x1,Z a2 K c2,Z gf (top+1) c3⟩ C K F hv A D gf x.op x.a x.b x.c ⟨x1,Z a2 K c2,Z gf (top+1) c3⟩ C F/\Ah w w wx)/\Rd wx 1 (Z ta ts tc) ts (ts.flatMap As))/\Rd wx 2 (Z a8 m S) m (Ad MC.cells (K.drop b))))
  case first=>
   have cj:=T.1.1.own.eT.own (Z a2 K c2,K) sP;rcases Bi cj with⟨e,e0⟩|⟨g2,aI,e⟩
   . simp only[i8]at e;obtain⟨rfl,cM,rfl⟩:=e;(have aE:Ae (m=0):=by show m=0;omega);clear cM e0;(have J0:= λn:Ax wc=>Ax.cell m5 n);(have J1:= λn:Ax wc=>Ax.cell f1 n);(have J2:= λn:Ax wc=>Ax.cell aq n);go_wp2_with fail;refine AD kR kR ?_;(repeat(go_big_quiet_step (fail)));refine wpQuiet_nil ?_;rintro q ⟨i,rfl⟩;go_wp2_with fail;go_meet;exact⟨_,_,rfl,by have:=aE.o;omega,⟨⟨T.1.1.av i.h,Ar T.1.2 lR i.h⟩,T.2.av i.h lR⟩,C7 aE ai.2⟩
   simp only[i8,kW]at e;obtain⟨rfl,rfl⟩:=e;(have J0:= λn:Ax wc=>Ax.cell m5 n);(have J1:= λn:Ax wc=>Ax.cell f1 n);(have J2:= λn:Ax wc=>Ax.cell aq n);by_cases aJ:c2=b
   . have bV:((c2:Int)==(b:Int))=true:=oT;have bY:(c2==b)=true:=oT;have bZ:c2-b=0:=oM;(have aE:Ae (m=0):=by show m=0;omega);clear aJ;go_wp2_with fail;refine AD kR kR ?_;(repeat(go_big_quiet_step (fail)));refine wpQuiet_nil ?_;rintro q ⟨i,rfl⟩;go_wp2_with fail;go_meet;exact⟨_,_,rfl,by have:=aE.o;omega,⟨⟨T.1.1.av i.h,Ar T.1.2 lR i.h⟩,T.2.av i.h lR⟩,C7 aE ai.2⟩
   have aX:=T2 (kl:=b) (m:=m) (c':=c2-b) (Rd.eS cj) rfl ai.1;go_wp2_with fail;refine AD kR kR ?_;(repeat(go_big_quiet_step (fail)));refine wpQuiet_nil ?_;rintro q ⟨i,rfl⟩;go_wp2_with fail;go_meet;exact⟨_,_,rfl,by have:=ai.1;omega,⟨⟨T.1.1.av i.h,Ar T.1.2 lR i.h⟩,T.2.av i.h lR⟩,aX.av i.h lR⟩
  case rest =>
   obtain⟨a8,S,rfl,dt,j⟩:=hcut;clear T m5 f1 aq inst cW cX cY;have i0:=j.1.1.1.ib.cell 0;simp only[i5,f8]at i0;have de:ts.length<=64:=by
    rw[<-aM];unfold Ce;split
    . unfold Bj;split<;>simp
    have:=PK (f:=f) (x:=x) H.2.2.2.2.1;omega
   by_cases aF:x.op=29
   . (have bj:(x.op==29)=true:=by simpa using aF);(have ax:Ae (res=if(K.drop b).map MC.type=Bj f then 0 else 6):=by rw[<-bB];exact We aF H.2.2.1);(have bC:Ae (ts=Bj f):=by rw[<-aM];unfold Ce;rw[jP aF];exact rfl);(go_upto_region 4 with fail);clear i0 bj;go_wp2_with fail;refine(KK FK (λx t w _=>KN x t w) (Z a8 m S) (Z ta ts tc) (K.drop b) ts wc (by rw[ai.2];omega) oM (λz hz=>H.2.2.2.2.2.1 z (mr hz)) (by rw[ai.2];exact j.2) j.1.2).mono ?_;rintro e N ⟨he,P⟩;have HB:Ae (Ah w w N):=Ar j.1.1.2 lR P;by_cases I:EU FK (K.drop b) ts
     . obtain rfl:=he.true I;(have aa:Ae (res=0):=by rw[ax,jP ((T3 _ f).1 (bC.o▸I))];exact rfl);clear I he P;go_wp2_with fail;refine(CE true 6 N).mono ?_;rintro e u2 ⟨rfl,rfl⟩;go_wp2_with fail;go_ret;exact⟨by rw[aa];rfl,HB⟩
     obtain rfl:=he.false I;(have aa:Ae (res=6):=by rw[ax,jH (λe=>I (bC.o▸(T3 _ f).2 e))];exact rfl);clear I he P;go_wp2_with fail;refine(CE false 6 N).mono ?_;rintro e u2 ⟨rfl,rfl⟩;go_wp2_with fail;go_ret;exact⟨by rw[aa];rfl,HB⟩
   (have bj:(x.op==29)=false:=by simpa using aF);(have cI:Ae (AA p f x=ts):=by rw[<-aM];unfold Ce;rw[jH aF];exact rfl);have ax:Ae (res=_):=bB.symm.trans (RQ (C:=C) (K:=K) (F:=F) (c:=c) (n:=n) aF H.2.2.1 cQ cI);have dy:IntKind.i64.wrap ((m:Int)-(ts:Int))=(m:Int)-(ts:Int):=lr _ oM;by_cases aG:m< ↑ts
   . have hd:decide ((m:Int)-(ts:Int)<0)=true:=decide_eq_true oM;(have aa:Ae (res=1):=by rw[ax,jP (by rw[aH];exact aG)];exact rfl);(go_upto_region 7 with fail);go_wp2_with fail;go_ret;exact⟨by rw[aa];rfl,j.1.1.2⟩
   obtain⟨l,hl⟩:∃l,m=l+ts.length:=⟨m-↑ts,oM⟩
   obtain⟨ar,aW⟩:∃ar,(K.drop b).drop l=ar:=⟨_,rfl⟩;have O:Ae (m=l+ ↑ts/\(K.drop b).drop l=ar/\ar.length= ↑ts/\K.drop (K.length-↑ts)=ar):=⟨hl,aW,by rw[<-aW,kZ,ai.2];omega,by rw[<-aW,List.drop_drop];congr 1;have:=ai.1;omega⟩
   have du:(m:Int)-(ts:Int)=(l:Int):=oM;have hd:decide ((l:Int)<0)=false:=kj oM;have dz:IntKind.i64.wrap (l:Int)=(l:Int):=lr _ oM;have dm:m-l=ts.length:=oM;have dh:(l:Int)<=(m:Int):=oM;have di:(m:Int)<=(S:Int):=oM;have dj:(l:Int)<=(S:Int):=oM;clear hl aW;(go_upto_region 8 with fail);clear i0 bj;have f0:=j.1.1.1.fb.cell 0;have i0:=j.1.1.1.ib.cell 0;have i1:=j.1.1.1.ib.cell 1;have i2:=j.1.1.1.ib.cell 2;have i3:=j.1.1.1.ib.cell 3;simp only[i5,f8,i6]at f0 i0 i1 i2 i3;have d0:=Au j.1.1.2 V.1;have d1:=Au j.1.1.2 V.2.1;have d2:=Au j.1.1.2 V.2.2.1;have d3:=Au j.1.1.2 V.2.2.2.1;have d4:=Au j.1.1.2 V.2.2.2.2.1;have d5:=Au j.1.1.2 V.2.2.2.2.2.1;have d6:=Au j.1.1.2 V.2.2.2.2.2.2.1;have d7:=Au j.1.1.2 V.2.2.2.2.2.2.2;have inst:=Ax.some wc;go_cut [58] (λs wx=>∃bb:Bool,s=Ao bb/\Ae (bb=true↔(Bw ar ts=false\/(x.op=27/\AJ f x.a≠3)))/\Ae ((AH w wx B M top t d c n ⟨x1,Z a2 K c2,Z gf (top+1) c3⟩ C K F hv A D gf x.op x.a x.b x.c ⟨x1,Z a2 K c2,Z gf (top+1) c3⟩ C F/\Ah w w wx)/\Rd wx 1 (Z ta ts tc) ts (ts.flatMap As)))
   case first =>
    (have G0:= λn:Ax wc=>Ax.cell f0 n);(have G1:= λn:Ax wc=>Ax.cell i0 n);(have G2:= λn:Ax wc=>Ax.cell i1 n);(have G3:= λn:Ax wc=>Ax.cell i2 n);(have G4:= λn:Ax wc=>Ax.cell i3 n);(have D0:= λn:Ax wc=>Ax.cell d0 n);(have D1:= λn:Ax wc=>Ax.cell d1 n);(have D2:= λn:Ax wc=>Ax.cell d2 n);(have D3:= λn:Ax wc=>Ax.cell d3 n);(have D4:= λn:Ax wc=>Ax.cell d4 n);(have D5:= λn:Ax wc=>Ax.cell d5 n);(have D6:= λn:Ax wc=>Ax.cell d6 n);(have D7:= λn:Ax wc=>Ax.cell d7 n);have aj:Ae (∀u,Ah wc wc u->Ai Aq 118 #[An #[Z r1 p.az r3,Z k1 p.b8 k3,Z f1 p.aB f3,Z t1 p.bO t3,Z g1 f.aD g3,f.cu,Z g4 f.a7 g6,Z g7 f.aU g9],An #[x.op,x.a,x.b,x.c]] u λe R=>AM e (¬(x.op=27/\AJ f x.a≠3))/\Ah u u R):= λu hu=>Hu ⟨Z r1 p.az r3,Z k1 p.b8 k3,Z f1 p.aB f3,Z t1 p.bO t3⟩ p ⟨Z g1 f.aD g3,Z g4 f.a7 g6,Z g7 f.aU g9⟩ f x.op x.a x.b x.c u hs (HP.av (Ar j.1.1.2 lR hu) lR) (HR.av (Ar j.1.1.2 lR hu) lR) (λe=>H.2.2.2.1.local (.inr (.inr e)))
    have W:Ae (∀(s:J) u,Ah wc wc u->Rd u 2 s ts (ar.flatMap MC.cells)->Ai Aq 116 #[s,Z ta ts tc,.func (.func 117) #[] #[]] u λe R=>AM e (EU FK ar ts)/\Ah u u R):= λs u hu au=>KK FK (λx t w _=>KN x t w) s (Z ta ts tc) ar ts u (by rw[O.2.2.1];omega) oM (λz hz=>H.2.2.2.2.2.1 z (by rw[<-O.2.1]at hz;exact mr (mr hz))) (by rw[O.2.2.1];exact au) (j.1.2.av hu lR)
    rcases j.2.2 with⟨e0,_⟩|⟨g8,o8,dd,e8,cR⟩
    . (have ae :Ae (ts.length=0):=by have:=O.1;show ts.length=0;omega);have aE:Ae (m=0/\l=0):=by have:=O.1;show _/\_;omega
      clear e0;cases a8 with
      | none=>
        by_cases I:EU FK ar ts
        . have G:Ae (EU FK ar ts):=I;clear I;by_cases Q:¬(x.op=27/\AJ f x.a≠3)
          . have L:Ae (¬(x.op=27/\AJ f x.a≠3)):=Q
            clear Q;go_wp2_with fail;refine AD kR kR ?_;(repeat(go_big_quiet_step (first|(go_at_call 116;rename_i i;exact(W.o _ i.u i.h (C7 ae O.2.2.1)).mono λe q h=>⟨h.1.true G,⟨⟨q,Ar i.h lR h.2⟩,rfl⟩⟩)|(go_at_call 118;rename_i i;exact(aj.o i.u i.h).mono λe q h=>⟨h.1.true L,⟨⟨q,Ar i.h lR h.2⟩,rfl⟩⟩))));refine wpQuiet_nil ?_;rintro q ⟨i,rfl⟩;go_wp2_with fail;go_meet;exact⟨false,rfl,⟨λe=>(by cases e), λe=>e.elim (λe=>by rw[(Dx ar ts).1 G]at e;cases e) (λe=>absurd e L.o)⟩,⟨⟨j.1.1.1.av i.h,Ar j.1.1.2 lR i.h⟩,j.1.2.av i.h lR⟩⟩
          have L:Ae (¬¬(x.op=27/\AJ f x.a≠3)):=Q
          clear Q;go_wp2_with fail;refine AD kR kR ?_;(repeat(go_big_quiet_step (first|(go_at_call 116;rename_i i;exact(W.o _ i.u i.h (C7 ae O.2.2.1)).mono λe q h=>⟨h.1.true G,⟨⟨q,Ar i.h lR h.2⟩,rfl⟩⟩)|(go_at_call 118;rename_i i;exact(aj.o i.u i.h).mono λe q h=>⟨h.1.false L,⟨⟨q,Ar i.h lR h.2⟩,rfl⟩⟩))));refine wpQuiet_nil ?_;rintro q ⟨i,rfl⟩;go_wp2_with fail;go_meet;exact⟨true,rfl,⟨λ_=>.inr (Classical.not_not.1 L), λ_=>rfl⟩,⟨⟨j.1.1.1.av i.h,Ar j.1.1.2 lR i.h⟩,j.1.2.av i.h lR⟩⟩
        have G:Ae (¬EU FK ar ts):=I;clear I;go_wp2_with fail;refine AD kR kR ?_;(repeat(go_big_quiet_step ((go_at_call 116;rename_i i;exact(W.o _ i.u i.h (C7 ae O.2.2.1)).mono λe q h=>⟨h.1.false G,⟨⟨q,Ar i.h lR h.2⟩,rfl⟩⟩))));refine wpQuiet_nil ?_;rintro q ⟨i,rfl⟩;go_wp2_with fail;go_meet;exact⟨true,rfl,⟨λ_=>.inl (by cases h:Bw ar ts with|false=>rfl|true=>exact absurd ((Dx ar ts).2 h) G.o), λ_=>rfl⟩,⟨⟨j.1.1.1.av i.h,Ar j.1.1.2 lR i.h⟩,j.1.2.av i.h lR⟩⟩
      | some ad=>
        by_cases aJ:S=l
        . have bV:((S:Int)==(l:Int))=true:=oT;have bY:(S==l)=true:=oT;have bZ:S-l=0:=oM;clear aJ;by_cases I:EU FK ar ts
          . have G:Ae (EU FK ar ts):=I;clear I;by_cases Q:¬(x.op=27/\AJ f x.a≠3)
            . have L:Ae (¬(x.op=27/\AJ f x.a≠3)):=Q
              clear Q;go_wp2_with fail;refine AD kR kR ?_;(repeat(go_big_quiet_step (first|(go_at_call 116;rename_i i;exact(W.o _ i.u i.h (C7 ae O.2.2.1)).mono λe q h=>⟨h.1.true G,⟨⟨q,Ar i.h lR h.2⟩,rfl⟩⟩)|(go_at_call 118;rename_i i;exact(aj.o i.u i.h).mono λe q h=>⟨h.1.true L,⟨⟨q,Ar i.h lR h.2⟩,rfl⟩⟩))));refine wpQuiet_nil ?_;rintro q ⟨i,rfl⟩;go_wp2_with fail;go_meet;exact⟨false,rfl,⟨λe=>(by cases e), λe=>e.elim (λe=>by rw[(Dx ar ts).1 G]at e;cases e) (λe=>absurd e L.o)⟩,⟨⟨j.1.1.1.av i.h,Ar j.1.1.2 lR i.h⟩,j.1.2.av i.h lR⟩⟩
            have L:Ae (¬¬(x.op=27/\AJ f x.a≠3)):=Q
            clear Q;go_wp2_with fail;refine AD kR kR ?_;(repeat(go_big_quiet_step (first|(go_at_call 116;rename_i i;exact(W.o _ i.u i.h (C7 ae O.2.2.1)).mono λe q h=>⟨h.1.true G,⟨⟨q,Ar i.h lR h.2⟩,rfl⟩⟩)|(go_at_call 118;rename_i i;exact(aj.o i.u i.h).mono λe q h=>⟨h.1.false L,⟨⟨q,Ar i.h lR h.2⟩,rfl⟩⟩))));refine wpQuiet_nil ?_;rintro q ⟨i,rfl⟩;go_wp2_with fail;go_meet;exact⟨true,rfl,⟨λ_=>.inr (Classical.not_not.1 L), λ_=>rfl⟩,⟨⟨j.1.1.1.av i.h,Ar j.1.1.2 lR i.h⟩,j.1.2.av i.h lR⟩⟩
          have G:Ae (¬EU FK ar ts):=I;clear I;go_wp2_with fail;refine AD kR kR ?_;(repeat(go_big_quiet_step ((go_at_call 116;rename_i i;exact(W.o _ i.u i.h (C7 ae O.2.2.1)).mono λe q h=>⟨h.1.false G,⟨⟨q,Ar i.h lR h.2⟩,rfl⟩⟩))));refine wpQuiet_nil ?_;rintro q ⟨i,rfl⟩;go_wp2_with fail;go_meet;exact⟨true,rfl,⟨λ_=>.inl (by cases h:Bw ar ts with|false=>rfl|true=>exact absurd ((Dx ar ts).2 h) G.o), λ_=>rfl⟩,⟨⟨j.1.1.1.av i.h,Ar j.1.1.2 lR i.h⟩,j.1.2.av i.h lR⟩⟩
        (skip);by_cases I:EU FK ar ts
        . have G:Ae (EU FK ar ts):=I;clear I;by_cases Q:¬(x.op=27/\AJ f x.a≠3)
          . have L:Ae (¬(x.op=27/\AJ f x.a≠3)):=Q
            clear Q;go_wp2_with fail;refine AD kR kR ?_;(repeat(go_big_quiet_step (first|(go_at_call 116;rename_i i;exact(W.o _ i.u i.h (C7 ae O.2.2.1)).mono λe q h=>⟨h.1.true G,⟨⟨q,Ar i.h lR h.2⟩,rfl⟩⟩)|(go_at_call 118;rename_i i;exact(aj.o i.u i.h).mono λe q h=>⟨h.1.true L,⟨⟨q,Ar i.h lR h.2⟩,rfl⟩⟩))));refine wpQuiet_nil ?_;rintro q ⟨i,rfl⟩;go_wp2_with fail;go_meet;exact⟨false,rfl,⟨λe=>(by cases e), λe=>e.elim (λe=>by rw[(Dx ar ts).1 G]at e;cases e) (λe=>absurd e L.o)⟩,⟨⟨j.1.1.1.av i.h,Ar j.1.1.2 lR i.h⟩,j.1.2.av i.h lR⟩⟩
          have L:Ae (¬¬(x.op=27/\AJ f x.a≠3)):=Q
          clear Q;go_wp2_with fail;refine AD kR kR ?_;(repeat(go_big_quiet_step (first|(go_at_call 116;rename_i i;exact(W.o _ i.u i.h (C7 ae O.2.2.1)).mono λe q h=>⟨h.1.true G,⟨⟨q,Ar i.h lR h.2⟩,rfl⟩⟩)|(go_at_call 118;rename_i i;exact(aj.o i.u i.h).mono λe q h=>⟨h.1.false L,⟨⟨q,Ar i.h lR h.2⟩,rfl⟩⟩))));refine wpQuiet_nil ?_;rintro q ⟨i,rfl⟩;go_wp2_with fail;go_meet;exact⟨true,rfl,⟨λ_=>.inr (Classical.not_not.1 L), λ_=>rfl⟩,⟨⟨j.1.1.1.av i.h,Ar j.1.1.2 lR i.h⟩,j.1.2.av i.h lR⟩⟩
        have G:Ae (¬EU FK ar ts):=I;clear I;go_wp2_with fail;refine AD kR kR ?_;(repeat(go_big_quiet_step ((go_at_call 116;rename_i i;exact(W.o _ i.u i.h (C7 ae O.2.2.1)).mono λe q h=>⟨h.1.false G,⟨⟨q,Ar i.h lR h.2⟩,rfl⟩⟩))));refine wpQuiet_nil ?_;rintro q ⟨i,rfl⟩;go_wp2_with fail;go_meet;exact⟨true,rfl,⟨λ_=>.inl (by cases h:Bw ar ts with|false=>rfl|true=>exact absurd ((Dx ar ts).2 h) G.o), λ_=>rfl⟩,⟨⟨j.1.1.1.av i.h,Ar j.1.1.2 lR i.h⟩,j.1.2.av i.h lR⟩⟩
    simp only[i8,kW]at e8;obtain⟨rfl,hx⟩:=e8;clear hx cR;by_cases aJ:S=l
    . have bV:((S:Int)==(l:Int))=true:=oT;have bY:(S==l)=true:=oT;have bZ:S-l=0:=oM;(have ae:Ae (ts.length=0):=by have:=O.1;show ts.length=0;omega);clear aJ;by_cases I:EU FK ar ts
      . have G:Ae (EU FK ar ts):=I;clear I;by_cases Q:¬(x.op=27/\AJ f x.a≠3)
        . have L:Ae (¬(x.op=27/\AJ f x.a≠3)):=Q
          clear Q;go_wp2_with fail;refine AD kR kR ?_;(repeat(go_big_quiet_step (first|(go_at_call 116;rename_i i;exact(W.o _ i.u i.h (C7 ae O.2.2.1)).mono λe q h=>⟨h.1.true G,⟨⟨q,Ar i.h lR h.2⟩,rfl⟩⟩)|(go_at_call 118;rename_i i;exact(aj.o i.u i.h).mono λe q h=>⟨h.1.true L,⟨⟨q,Ar i.h lR h.2⟩,rfl⟩⟩))));refine wpQuiet_nil ?_;rintro q ⟨i,rfl⟩;go_wp2_with fail;go_meet;exact⟨false,rfl,⟨λe=>(by cases e), λe=>e.elim (λe=>by rw[(Dx ar ts).1 G]at e;cases e) (λe=>absurd e L.o)⟩,⟨⟨j.1.1.1.av i.h,Ar j.1.1.2 lR i.h⟩,j.1.2.av i.h lR⟩⟩
        have L:Ae (¬¬(x.op=27/\AJ f x.a≠3)):=Q
        clear Q;go_wp2_with fail;refine AD kR kR ?_;(repeat(go_big_quiet_step (first|(go_at_call 116;rename_i i;exact(W.o _ i.u i.h (C7 ae O.2.2.1)).mono λe q h=>⟨h.1.true G,⟨⟨q,Ar i.h lR h.2⟩,rfl⟩⟩)|(go_at_call 118;rename_i i;exact(aj.o i.u i.h).mono λe q h=>⟨h.1.false L,⟨⟨q,Ar i.h lR h.2⟩,rfl⟩⟩))));refine wpQuiet_nil ?_;rintro q ⟨i,rfl⟩;go_wp2_with fail;go_meet;exact⟨true,rfl,⟨λ_=>.inr (Classical.not_not.1 L), λ_=>rfl⟩,⟨⟨j.1.1.1.av i.h,Ar j.1.1.2 lR i.h⟩,j.1.2.av i.h lR⟩⟩
      have G:Ae (¬EU FK ar ts):=I;clear I;go_wp2_with fail;refine AD kR kR ?_;(repeat(go_big_quiet_step ((go_at_call 116;rename_i i;exact(W.o _ i.u i.h (C7 ae O.2.2.1)).mono λe q h=>⟨h.1.false G,⟨⟨q,Ar i.h lR h.2⟩,rfl⟩⟩))));refine wpQuiet_nil ?_;rintro q ⟨i,rfl⟩;go_wp2_with fail;go_meet;exact⟨true,rfl,⟨λ_=>.inl (by cases h:Bw ar ts with|false=>rfl|true=>exact absurd ((Dx ar ts).2 h) G.o), λ_=>rfl⟩,⟨⟨j.1.1.1.av i.h,Ar j.1.1.2 lR i.h⟩,j.1.2.av i.h lR⟩⟩
    (have aX:Rd wc 2 (Z (some ⟨g8,o8+l*2,none⟩) ts (S-l)) ts (ar.flatMap MC.cells):=by rw[<-O.2.1];exact Yi j.2 ai.2 O.1);have aZ:Ae (Rd wc 2 (Z (some ⟨g8,o8+l*2,none⟩) ts (S-l)) ts (ar.flatMap MC.cells)):=aX;clear aX;by_cases I:EU FK ar ts
    . have G:Ae (EU FK ar ts):=I;clear I;by_cases Q:¬(x.op=27/\AJ f x.a≠3)
      . have L:Ae (¬(x.op=27/\AJ f x.a≠3)):=Q
        clear Q;go_wp2_with fail;refine AD kR kR ?_;(repeat(go_big_quiet_step (first|(go_at_call 116;rename_i i;exact(W.o _ i.u i.h (aZ.av i.h lR)).mono λe q h=>⟨h.1.true G,⟨⟨q,Ar i.h lR h.2⟩,rfl⟩⟩)|(go_at_call 118;rename_i i;exact(aj.o i.u i.h).mono λe q h=>⟨h.1.true L,⟨⟨q,Ar i.h lR h.2⟩,rfl⟩⟩))));refine wpQuiet_nil ?_;rintro q ⟨i,rfl⟩;go_wp2_with fail;go_meet;exact⟨false,rfl,⟨λe=>(by cases e), λe=>e.elim (λe=>by rw[(Dx ar ts).1 G]at e;cases e) (λe=>absurd e L.o)⟩,⟨⟨j.1.1.1.av i.h,Ar j.1.1.2 lR i.h⟩,j.1.2.av i.h lR⟩⟩
      have L:Ae (¬¬(x.op=27/\AJ f x.a≠3)):=Q
      clear Q;go_wp2_with fail;refine AD kR kR ?_;(repeat(go_big_quiet_step (first|(go_at_call 116;rename_i i;exact(W.o _ i.u i.h (aZ.av i.h lR)).mono λe q h=>⟨h.1.true G,⟨⟨q,Ar i.h lR h.2⟩,rfl⟩⟩)|(go_at_call 118;rename_i i;exact(aj.o i.u i.h).mono λe q h=>⟨h.1.false L,⟨⟨q,Ar i.h lR h.2⟩,rfl⟩⟩))));refine wpQuiet_nil ?_;rintro q ⟨i,rfl⟩;go_wp2_with fail;go_meet;exact⟨true,rfl,⟨λ_=>.inr (Classical.not_not.1 L), λ_=>rfl⟩,⟨⟨j.1.1.1.av i.h,Ar j.1.1.2 lR i.h⟩,j.1.2.av i.h lR⟩⟩
    have G:Ae (¬EU FK ar ts):=I;clear I;go_wp2_with fail;refine AD kR kR ?_;(repeat(go_big_quiet_step ((go_at_call 116;rename_i i;exact(W.o _ i.u i.h (aZ.av i.h lR)).mono λe q h=>⟨h.1.false G,⟨⟨q,Ar i.h lR h.2⟩,rfl⟩⟩))));refine wpQuiet_nil ?_;rintro q ⟨i,rfl⟩;go_wp2_with fail;go_meet;exact⟨true,rfl,⟨λ_=>.inl (by cases h:Bw ar ts with|false=>rfl|true=>exact absurd ((Dx ar ts).2 h) G.o), λ_=>rfl⟩,⟨⟨j.1.1.1.av i.h,Ar j.1.1.2 lR i.h⟩,j.1.2.av i.h lR⟩⟩
   case rest=>
    obtain⟨bb,rfl,bx,E4⟩:=hcut;clear j f0 i0 i1 i2 i3 d0 d1 d2 d3 d4 d5 d6 d7 inst;rcases Bool.eq_false_or_eq_true bb with bq|bq
    . subst bq;(have aa:Ae (res=2):=by rw[ax,jH (by rw[aH];exact aG),jP (by rw[O.2.2.2];exact bx.1 rfl)];exact rfl);(go_upto_region 9 with fail);go_wp2_with fail;go_ret;exact⟨by rw[aa];rfl,E4.1.2⟩
    subst bq;have aK:Ae (¬(Bw (K.drop (K.length-↑ts)) ts=false\/(x.op=27/\AJ f x.a≠3))):=by rw[O.2.2.2];exact λe=>by have:=bx.2 e;cases this
    have i0:=E4.1.1.ib.cell 0;simp only[i5,f8]at i0;by_cases aA:x.op=28
    . (have bJ:(x.op==28)=true:=by simpa using aA);have m6:=E4.1.1.mb.at.2.2.2.2.2.2.1;simp only[]at m6;by_cases bS:top+1<32
      . have cT:decide ((top:Int)+1<32)=true:=decide_eq_true oM;(have aa:Ae (res=0):=by rw[ax,jH (by rw[aH];exact aG),jH aK,jP aA,jP (by rw[H.1];exact bS)];exact rfl);go_wp2_with fail;refine(CE true 5 _).mono ?_;rintro e u2 ⟨rfl,rfl⟩;go_wp2_with fail;go_ret;exact⟨by rw[aa];rfl,E4.1.2⟩
      have cT:decide ((top:Int)+1<32)=false:=kj oM;(have aa:Ae (res=5):=by rw[ax,jH (by rw[aH];exact aG),jH aK,jP aA,jH (by rw[H.1];exact bS)];exact rfl);go_wp2_with fail;refine(CE false 5 _).mono ?_;rintro e u2 ⟨rfl,rfl⟩;go_wp2_with fail;go_ret;exact⟨by rw[aa];rfl,E4.1.2⟩
    (have bJ:(x.op==28)=false:=by simpa using aA);(go_upto_region 12 with fail);clear i0 bJ;obtain⟨gs,bt⟩:∃gs,Bh p f x=gs:=⟨_,rfl⟩;have br: ↑gs=El x:=by rw[<-bt];exact Np p f x aA
    (have dg:gs.length<=2:=by rw[br];unfold El;(repeat' split);all_goals omega);have aY:Ae (Bh p f x=gs/\ ↑gs=El x):=⟨bt,br⟩
    clear bt br;have dw:IntKind.i64.wrap ((b:Int)+(l:Int))=(b:Int)+(l:Int):=lr _ oM;have dx:IntKind.i64.wrap ((b:Int)+(l:Int)+(gs:Int))=(b:Int)+(l:Int)+(gs:Int):=lr _ oM;have bg:=E4.1.1.fb.cell 0;have bi:=E4.1.1.fb.cell 1;have i0:=E4.1.1.ib.cell 0;have i1:=E4.1.1.ib.cell 1;have i2:=E4.1.1.ib.cell 2;have i3:=E4.1.1.ib.cell 3;simp only[i5,f8,i6]at bg bi i0 i1 i2 i3;have d0:=Au E4.1.2 V.1;have d1:=Au E4.1.2 V.2.1;have d2:=Au E4.1.2 V.2.2.1;have d3:=Au E4.1.2 V.2.2.2.1;have d4:=Au E4.1.2 V.2.2.2.2.1;have d5:=Au E4.1.2 V.2.2.2.2.2.1;have d6:=Au E4.1.2 V.2.2.2.2.2.2.1;have d7:=Au E4.1.2 V.2.2.2.2.2.2.2;have ho:=E4.1.1.own.dk;simp only[]at ho;rw[H.1]at ho;have aq:=ho.cellAt (top*4+2) oM;rw[BM BG 4 Ch F top 2 _ H.2.1 oM]at aq;simp only[BG,f8,i6,H.2.2.1]at aq;clear ho;have E:=At wc;have KD:wc.drew w=some (.pointer (some ⟨A,D,none⟩))/\wc.drew ⟨w,1,none⟩=some (.pointer (some ⟨gf,top*4,none⟩))/\wc.drew ⟨gf,top*4+2,none⟩=some ↑b/\wc.drew ⟨A,D,none⟩=some (Z r1 p.az r3)/\wc.drew ⟨A,D+1,none⟩=some (Z k1 p.b8 k3)/\wc.drew ⟨A,D+2,none⟩=some (Z f1 p.aB f3)/\wc.drew ⟨A,D+3,none⟩=some (Z t1 p.bO t3)/\wc.drew ⟨A,D+4,none⟩=some (Z g1 f.aD g3)/\wc.drew ⟨A,D+5,none⟩=some ↑f.cu/\wc.drew ⟨A,D+6,none⟩=some (Z g4 f.a7 g6)/\wc.drew ⟨A,D+7,none⟩=some (Z g7 f.aU g9)/\wc.drew ⟨(w:Nat)+1,0,none⟩=some ↑x.op/\wc.drew ⟨(w:Nat)+1,1,none⟩=some ↑x.a/\wc.drew ⟨(w:Nat)+1,2,none⟩=some ↑x.b/\wc.drew ⟨(w:Nat)+1,3,none⟩=some ↑x.c:=⟨Au E bg,Au E bi,Au E aq,Au E d0,Au E d1,Au E d2,Au E d3,Au E d4,Au E d5,Au E d6,Au E d7,Au E i0,Au E i1,Au E i2,Au E i3⟩
    clear bg bi aq d0 d1 d2 d3 d4 d5 d6 d7 i0 i1 i2 i3;go_cut [10] (λs wx=>s=Ag Af ((b:Int)+(l:Int)+(gs:Int))/\Ae (Ah w w wx))
    case first=>
     go_region_held_law (λR=>R.cell? w=some (.pointer (some ⟨A,D,none⟩))/\R.cell? ⟨w,1,none⟩=some (.pointer (some ⟨gf,top*4,none⟩))/\R.cell? ⟨gf,top*4+2,none⟩=some ↑b/\R.cell? ⟨A,D,none⟩=some (Z r1 p.az r3)/\R.cell? ⟨A,D+1,none⟩=some (Z k1 p.b8 k3)/\R.cell? ⟨A,D+2,none⟩=some (Z f1 p.aB f3)/\R.cell? ⟨A,D+3,none⟩=some (Z t1 p.bO t3)/\R.cell? ⟨A,D+4,none⟩=some (Z g1 f.aD g3)/\R.cell? ⟨A,D+5,none⟩=some ↑f.cu/\R.cell? ⟨A,D+6,none⟩=some (Z g4 f.a7 g6)/\R.cell? ⟨A,D+7,none⟩=some (Z g7 f.aU g9)/\R.cell? ⟨(w:Nat)+1,0,none⟩=some ↑x.op/\R.cell? ⟨(w:Nat)+1,1,none⟩=some ↑x.a/\R.cell? ⟨(w:Nat)+1,2,none⟩=some ↑x.b/\R.cell? ⟨(w:Nat)+1,3,none⟩=some ↑x.c) (first|exact KD|exact KW|go_keep) (first|(go_simp;go_at_call 119;refine(N7 ⟨Z r1 p.az r3,Z k1 p.b8 k3,Z f1 p.aB f3,Z t1 p.bO t3⟩ p ⟨Z g1 f.aD g3,Z g4 f.a7 g6,Z g7 f.aU g9⟩ f x _ cg H.2.2.2.2.2.2 hs (HP.av (Ar E4.1.2 lR E) lR) (HR.av (Ar E4.1.2 lR E) lR) H.2.2.2.1).mono ?_;rintro e N ⟨sv,rfl,au,P⟩;rw[aY.1]at au;obtain⟨sa,sc,rfl⟩:=au.aP;have B1:Ae (Ah w w N):=Ar E4.1.2 lR (Bs P lR);have KW:N w=some (.pointer (some ⟨A,D,none⟩))/\N ⟨w,1,none⟩=some (.pointer (some ⟨gf,top*4,none⟩))/\N ⟨gf,top*4+2,none⟩=some ↑b/\N ⟨A,D,none⟩=some (Z r1 p.az r3)/\N ⟨A,D+1,none⟩=some (Z k1 p.b8 k3)/\N ⟨A,D+2,none⟩=some (Z f1 p.aB f3)/\N ⟨A,D+3,none⟩=some (Z t1 p.bO t3)/\N ⟨A,D+4,none⟩=some (Z g1 f.aD g3)/\N ⟨A,D+5,none⟩=some ↑f.cu/\N ⟨A,D+6,none⟩=some (Z g4 f.a7 g6)/\N ⟨A,D+7,none⟩=some (Z g7 f.aU g9)/\N ⟨(w:Nat)+1,0,none⟩=some ↑x.op/\N ⟨(w:Nat)+1,1,none⟩=some ↑x.a/\N ⟨(w:Nat)+1,2,none⟩=some ↑x.b/\N ⟨(w:Nat)+1,3,none⟩=some ↑x.c:=⟨Au P KD.1,Au P KD.2.1,Au P KD.2.2.1,Au P KD.2.2.2.1,Au P KD.2.2.2.2.1,Au P KD.2.2.2.2.2.1,Au P KD.2.2.2.2.2.2.1,Au P KD.2.2.2.2.2.2.2.1,Au P KD.2.2.2.2.2.2.2.2.1,Au P KD.2.2.2.2.2.2.2.2.2.1,Au P KD.2.2.2.2.2.2.2.2.2.2.1,Au P KD.2.2.2.2.2.2.2.2.2.2.2.1,Au P KD.2.2.2.2.2.2.2.2.2.2.2.2.1,Au P KD.2.2.2.2.2.2.2.2.2.2.2.2.2.1,Au P KD.2.2.2.2.2.2.2.2.2.2.2.2.2.2⟩;clear P au))
     all_goals
      go_wp2_with fail;go_meet;exact⟨rfl,B1⟩
    case rest=>
     obtain⟨rfl,HB⟩:=hcut;clear KD E E4;by_cases bT:b+l+ ↑gs<=64
     . have cU:decide ((b:Int)+(l:Int)+(gs:Int)<=64)=true:=decide_eq_true oM;(have aa:Ae (res=0):=by rw[ax,jH (by rw[aH];exact aG),jH aK,jH aA,jH (by rw[<-aY.2];have:=O.1;have:=ai.1;omega)];exact rfl);clear bT;go_wp2_with fail;refine(CE true 3 _).mono ?_;rintro e u2 ⟨rfl,rfl⟩;go_wp2_with fail;go_ret;exact⟨by rw[aa];rfl,HB⟩
     have cU:decide ((b:Int)+(l:Int)+(gs:Int)<=64)=false:=kj oM;(have aa:Ae (res=3):=by rw[ax,jH (by rw[aH];exact aG),jH aK,jH aA,jP (by rw[<-aY.2];have:=O.1;have:=ai.1;omega)];exact rfl);clear bT;go_wp2_with fail;refine(CE false 3 _).mono ?_;rintro e u2 ⟨rfl,rfl⟩;go_wp2_with fail;go_ret;exact⟨by rw[aa];rfl,HB⟩
end Go.Proofs.YtkgohaigebcgoaaGreatDoor
