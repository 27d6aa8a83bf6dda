import Derived.Test.YtjnglocdoljgkaaGreatSw19
import Derived.Lib.AppendZerosOnto
import Derived.Lib.AppendZeros
import Derived.Laws.Append
import Derived.Test.YtjnglocdoljgkaaGreatSw15
namespace Go.Proofs.YtjnglocdoljgkaaGreat
open Go.ChangeShapes Go.WideShapes Go.ChangeAt Go.RowKit
set_option linter.unusedVariables false
open Go.Value renaming slice → Z,int → Ac
open Option renaming some → K,none → M
open Go renaming World → Y,Calls → Ae,Value → J,TypeId → Af
open Go.RowKit renaming Hid → Aa,Below → Ad
open Go.IntKind renaming i64 → Ab
set_option maxHeartbeats 8000000
set_option maxRecDepth 100000
variable {p:MP}{f:MF}{x:MI}{w u:Y}{i B b G n g k c base q:Nat}{s z V:J}{a:List MF}{bad:Bool}{I:List Nat}{C zs:List Int}{e:Af}{xs:List J}{v:VP}
theorem VZ:AG 8=5/\AG 9=5/\AG 10=5/\AG 11=5/\AG 12=5/\AG 13=6/\AG 14=6/\AG 15=6/\AG 16=6/\AG 20=7/\AG 21=5/\AG 22=8:=by decide+kernel
theorem AK.type(h:AK p f x)(e:(8<=x.op/\x.op<=16)\/x.op=20\/x.op=21):DC x.a=true:=by
 obtain⟨_,_,h⟩:=h;have g:AG x.op=5\/AG x.op=6\/AG x.op=7:=by
  have b:x.op=8\/x.op=9\/x.op=10\/x.op=11\/x.op=12\/x.op=13\/x.op=14\/x.op=15\/x.op=16\/x.op=20\/x.op=21:=oM
  obtain⟨i,j,k,l,m,n,q,r,s,t,u,v⟩:=VZ;rcases b with e|e|e|e|e|e|e|e|e|e|e<;>rw[e]<;>omega
 unfold BQ BM at h;rcases h with h|h|h|h|h|h|h|h|h|h<;>first|(exfalso;omega)|(rcases h.1 with h|h|h<;>first|exact h.2|(rcases h.2 with e|e<;>rw[e]<;>rfl))
theorem AK.conv(h:AK p f x)(e:x.op=22):DC x.a=true/\DC x.b=true:=by
 obtain⟨_,_,h⟩:=h;have g:AG x.op=8:=by rw[e];exact VZ.2.2.2.2.2.2.2.2.2.2.2
 unfold BQ BM at h;rcases h with h|h|h|h|h|h|h|h|h|h<;>first|(exfalso;omega)|exact⟨h.2.1,h.2.2.1⟩
theorem AK.kf(h:AK p f x)(e:x.op=2):Ay f x.a≠0:= λe0=>by
 have b:=h.2.2;have g:AG x.op=2:=by rw[e];exact GP.2.1
 unfold BQ BM at b;rcases b with h|h|h|h|h|h|h|h|h|h<;>first|(exfalso;omega)|exact h.2.1 e0
theorem Ja(L:A8 p 0)(i:AK p f x):(∀t∈Aw p f x,t=0->0<(Ax p f x).length)/\(Aw p f x).length<=2:=by
 have k:=L.parts;have one:∀t:Int,t≠0->(∀u∈[t],u=0->0<(Ax p f x).length)/\[t].length<=2:= λt j=>⟨λu H e=>by simp only[lT]at H;exact absurd (H.symm.trans e) j,sP⟩
 unfold Aw;by_cases c1:x.op=1
 . rw[lS c1];obtain⟨q,z,g,b⟩:=i.const c1;have I:=k.2.1.2 q (iV.1 b).1 z b;(have e3:VN p.aC x.a.toNat=z:=by unfold VN;rw[g,kM,b];rfl);rw[e3];exact one _ (Fp I.1)
 rw[lE c1];by_cases c2:x.op=2
 . rw[lS c2];exact one _ (i.kf c2)
 rw[lE c2];by_cases c4:x.op=4\/x.op=6
 . rw[lS c4];obtain⟨q,z,r,g,b,e3,e4⟩:=i.cell k.1.1 oM;have:=(k.1.2 q (iV.1 e3).1 r e3).2;exact one _ (Fp (nC.1 this _ (i8 e4)))
 rw[lE c4];by_cases G:8<=x.op/\x.op<=16
 . rw[lS G];exact one _ (Fp (i.type oM))
 rw[lE G];by_cases B:x.op=17\/x.op=18
 . rw[lS B];exact one _ dC
 rw[lE B];by_cases C:x.op=19
 . rw[lS C];exact one _ dC
 rw[lE C];by_cases D:x.op=20\/x.op=21
 . rw[lS D];exact one _ dC
 rw[lE D];by_cases l:x.op=22
 . rw[lS l];exact one _ (Fp (i.conv l).2)
 rw[lE l];by_cases F:x.op=23
 . rw[lS F];(have g:Ax p f x=[0]:=by unfold Ax;rw[lE oM,lE oM,lE oM,lE oM,lE oM,lE oM,lE oM,lE oM,lS oM]);rw[g];exact⟨λ_ _ _=>sP,sP⟩
 rw[lE F];by_cases s:x.op=28
 . rw[lS s];obtain⟨q,y,g,b⟩:=i.callee s;have N:Cd y:=k.2.2.1.2.2.1 q (iV.1 b).1 y b;rw[g,kM,b];simp only[];unfold AV;by_cases A:y.gz=0
   . rw[lS A];exact⟨λt j=>(by cases j),sP⟩
   rw[lE A];exact one _ A
 rw[lE s];exact⟨λt j=>(by cases j),sP⟩
theorem Tx(L:A8 p 0)(g:AK p f x):∀t∈Aw p f x,t=0->x.op=23:=by
 have k:=L.parts;have one:∀t:Int,t≠0->(∀u∈[t],u=0->x.op=23):= λt i u H e=>by simp only[lT]at H;exact absurd (H.symm.trans e) i
 unfold Aw;by_cases c1:x.op=1
 . rw[lS c1];obtain⟨q,z,j,b⟩:=g.const c1;have I:=k.2.1.2 q (iV.1 b).1 z b;(have e3:VN p.aC x.a.toNat=z:=by unfold VN;rw[j,kM,b];rfl);rw[e3];exact one _ (Fp I.1)
 rw[lE c1];by_cases c2:x.op=2
 . rw[lS c2];exact one _ (g.kf c2)
 rw[lE c2];by_cases c4:x.op=4\/x.op=6
 . rw[lS c4];obtain⟨q,z,r,j,b,e3,e4⟩:=g.cell k.1.1 oM;have:=(k.1.2 q (iV.1 e3).1 r e3).2;exact one _ (Fp (nC.1 this _ (i8 e4)))
 rw[lE c4];by_cases G:8<=x.op/\x.op<=16
 . rw[lS G];exact one _ (Fp (g.type oM))
 rw[lE G];by_cases C:x.op=17\/x.op=18
 . rw[lS C];exact one _ dC
 rw[lE C];by_cases D:x.op=19
 . rw[lS D];exact one _ dC
 rw[lE D];by_cases F:x.op=20\/x.op=21
 . rw[lS F];exact one _ dC
 rw[lE F];by_cases l:x.op=22
 . rw[lS l];exact one _ (Fp (g.conv l).2)
 rw[lE l];by_cases s:x.op=23
 . rw[lS s];exact λ_ _ _=>s
 rw[lE s];by_cases y:x.op=28
 . rw[lS y];obtain⟨q,A,j,b⟩:=g.callee y;have N:Cd A:=k.2.2.1.2.2.1 q (iV.1 b).1 A b;rw[j,kM,b];simp only[];unfold AV;by_cases B:A.gz=0
   . rw[lS B];exact λt i=>(by cases i)
   rw[lE B];exact one _ B
 rw[lE y];exact λt i=>(by cases i)
theorem LL(v:VP)(p:MP)(w:Y)(hs:p.small)(hw:p.wf)(hp:AP p.a7)(aA:Bn p.cC)(h:Cz w v p)(aw:Dm w v.r p.a7):
 Ae Tryz.prog 56 #[.agg #[v.r,v.k,v.f,v.t]] w λe w'=>AC e (CQ p)/\Ad w w w':=by
 obtain⟨xs,ys,R⟩:=Pg.of hs hw h;obtain⟨vr,vk,vf,vt⟩:=v;simp only[]at R;obtain⟨r3,c3,e3⟩:=R.fr.fu;have hm:=hs.cC;subst e3;have HH:=Ap (ji hp (ji aA aw));clear hs hw h hp aA aw;obtain⟨G,C,aM⟩:=R.rr.fu;obtain⟨H,D,aJ⟩:∃a c,vk=Z a p.aC c:=R.rd.aC.fu;obtain⟨I,F,aP⟩:∃a c,vt=Z a p.dr c:=R.rd.dr.fu;subst aM aJ aP;have B:Aa _:=R;clear R;have y:Aa _:=LG.of w (Z G p.a7 C) (Z H p.aC D) (Z r3 p.cC c3) (Z I p.dr F) 28;generalize hM:p.cC.length=m at*;have T:=Ap hM;clear hM;have B:=Ap B;go_enter Tryz.func56,Tryz.ntmps56;go_wp2;go_loopw [11] (λi wr=>∃k:Nat,k<=m/\i=iZ k/\Aa (∀j,j<k->∀f,p.cC[j]?=K f->Fd p f)/\Aa (LG w wr (Z G p.a7.length C) (Z H p.aC.length D) (Z r3 m c3) (Z I p.dr.length F))) (λi _=>m-(intOf i).toNat)
 case atStart=>exact⟨0,oM,rfl, λj hj=>oM,y⟩
 clear y;obtain⟨k,hk,rfl,HT,y⟩:=hrel;by_cases am:k<m
 . obtain⟨⟨f,v⟩,g⟩:∃x,ys[k]?=K x:=⟨_,an (by rw[B.o.fl,T.o];exact am)⟩;have s:=CT B.o.fm g;have A:=Ap (ji (B.o.fe _ (i8 g)) (ji (B.o.small.func _ (i8 s)) (ji s (ji (B.o.wf.cC _ (i8 s)) (HH.o.2.1.2.2.1 k (by rw[T.o];exact am) _ s)))));clear s;rcases B.o.fr.2 with⟨e0,_⟩|⟨b,o,c,s,ae⟩
   . rw[T.o]at e0;omega
   rw[T.o]at s;simp only[jc,lO]at s;obtain⟨rfl,rfl⟩:=s;have S:=Rd.elem Aq ae k _ g 0 _ rfl;have i1:=Rd.elem Aq ae k _ g 1 _ rfl;have i2:=Rd.elem Aq ae k _ g 2 _ rfl;have i3:=Rd.elem Aq ae k _ g 3 _ rfl;rw[<-y.o.gG.cell (jC S),kZ]at S;rw[<-y.o.gG.cell (jC i1)]at i1;rw[<-y.o.gG.cell (jC i2)]at i2;rw[<-y.o.gG.cell (jC i3)]at i3;clear ae g;simp only[]at S i1 i2 i3;obtain⟨L,O,ep⟩:=A.o.1.1.fu;obtain⟨al,cl,el⟩:=A.o.1.2.1.fu;obtain⟨Q,N,ec⟩:=A.o.1.2.2.fu;obtain⟨vp,vl,vc⟩:=v;simp only[]at ep el ec S i1 i2 i3;subst ep el ec;obtain⟨p0,p1,p2,p3⟩:=y.o.prog;have nb:¬b=wr.heap.size:=mE (jC S);have mb:b<wr.heap.size:=jC S;have np:¬(w:Nat)=wr.heap.size:=mE y.o.prog.lt;have mp:(w:Nat)<wr.heap.size:=y.o.prog.lt;have hz:=A.o.2.1.2.2;have l:Aa (LG w ((wr.alloc (.cells #[Z L f.d5 O,iZ f.gz,Z al f.en cl,Z Q f.ch N] 51)).alloc (.cells #[(Z G p.a7 C),(Z H p.aC D),sO b o m c3,(Z I p.dr F),Z L f.d5 O,iZ f.gz,Z al f.en cl,Z Q f.ch N] 53)) (Z G p.a7 C) (Z H p.aC D) (sO b o m c3) (Z I p.dr F)/\NO ((wr.alloc (.cells #[Z L f.d5 O,iZ f.gz,Z al f.en cl,Z Q f.ch N] 51)).alloc (.cells #[(Z G p.a7 C),(Z H p.aC D),sO b o m c3,(Z I p.dr F),Z L f.d5 O,iZ f.gz,Z al f.en cl,Z Q f.ch N] 53)) ((wr:Nat)+1) (Z G p.a7 C) (Z H p.aC D) (sO b o m c3) (Z I p.dr F) (Z L f.d5 O) (iZ f.gz) (Z al f.en cl) (Z Q f.ch N)):=by refine⟨y.o.bM (Ai (Ag _ _) lR (Ag _ _)),?_⟩;have:=NO.new (wr.alloc (.cells #[Z L f.d5 O,iZ f.gz,Z al f.en cl,Z Q f.ch N] 51)) (Z G p.a7 C) (Z H p.aC D) (sO b o m c3) (Z I p.dr F) (Z L f.d5 O) (iZ f.gz) (Z al f.en cl) (Z Q f.ch N) 53;simpa using this
   go_wp2;clear p0 p1 p2 p3 S i1 i2 i3 nb mb np mp;generalize hZ: ↑f.ch=z at*
   have HZ:=Ap hZ;clear hZ;generalize wr.heap.size+1=SB at l⊢;go_loopw [21] (λi aF=>∃q:Nat,q<=z/\i=iZ q/\Aa (∀j,j<q->∀x,f.ch[j]?=K x->AK p f x)/\Aa (LG w aF (Z G p.a7 C) (Z H p.aC D) (sO b o m c3) (Z I p.dr F)/\NO aF SB (Z G p.a7 C) (Z H p.aC D) (sO b o m c3) (Z I p.dr F) (Z L f.d5 O) (iZ f.gz) (Z al f.en cl) (Z Q z N))) (λi _=>z-(intOf i).toNat)
   (case atStart=>exact⟨0,oM,rfl, λj hj=>oM,l⟩);clear l;obtain⟨q,hq,rfl,aq,l⟩:=hrel;by_cases aD:q<z
   . obtain⟨x,g⟩:∃x,f.ch[q]?=K x:=⟨_,an (by rw[HZ.o];exact aD)⟩;have aE:=A.o.2.2.2.1.ch x (i8 g);rcases A.o.1.2.2.2 with⟨e0,_⟩|⟨b',o',c',s,ah⟩
     . rw[HZ.o]at e0;omega
     rw[HZ.o]at s;simp only[jc,lO]at s;obtain⟨rfl,rfl⟩:=s;have W:=Rd.elem MI.gH ah q x g 0 _ rfl;have j1:=Rd.elem MI.gH ah q x g 1 _ rfl;have j2:=Rd.elem MI.gH ah q x g 2 _ rfl;have j3:=Rd.elem MI.gH ah q x g 3 _ rfl;rw[<-l.o.1.gG.cell (jC W),kZ]at W;rw[<-l.o.1.gG.cell (jC j1)]at j1;rw[<-l.o.1.gG.cell (jC j2)]at j2;rw[<-l.o.1.gG.cell (jC j3)]at j3;have a8:=Ap (ji g aE);clear ah g aE;obtain⟨xo,xa,xb,xc⟩:=x;simp only[]at W j1 j2 j3;obtain⟨s0,s1,s2,s3,s4,s5,s6,s7⟩:=l.o.2;have nb:¬b'=wr.heap.size:=mE (jC W);have mb:b'<wr.heap.size:=jC W;have np:¬SB=wr.heap.size:=mE l.o.2.lt;have mp:SB<wr.heap.size:=l.o.2.lt;go_wp2_with fail;have bA:=Ag wr (.cells #[iZ xo,iZ xa,iZ xb,iZ xc] 60);have bW:=Ai l.o.1.gG lR bA;refine(Sk ⟨(Z G p.a7 C),(Z H p.aC D),sO b o m c3,(Z I p.dr F)⟩ p ⟨Z L f.d5 O,Z al f.en cl,sO b' o' z N⟩ f xo xa xb xc _ B.o.small HH.o.1 A.o.2.2.2.2 A.o.2.1 a8.o.2.2.1 a8.o.2.2.2.1 a8.o.2.2.2.2 (B.o.rd.bM bW lR) (HH.o.2.2.bM bW lR) (A.o.1.bM bW lR)).mono ?_;rintro e u4 ⟨⟨b4,rfl,aj⟩,au⟩;have bU:=Ai bA lR au;have ao:=Ap (ji (l.o.1.bM bU) (l.o.2.bM bU));clear bA bW au bU l W j1 j2 j3 s0 s1 s2 s3 s4 s5 s6 s7 nb mb np mp;cases b4
     . (have HN:Aa (¬CQ p):= λe=>by have:=e k (by rw[T.o];exact am) f A.o.2.2.1 q (by rw[HZ.o];exact aD) _ a8.o.1;simp[this]at aj);clear aj;go_wp2;go_ret;exact⟨.no HN.o,ao.o.1.gG⟩
     . have aI:Aa (AK p f ⟨xo,xa,xb,xc⟩):=aj.1 rfl;clear aj;go_wp2;go_roundw;(case rel=>exact⟨q+1,oM,by go_num,C4 a8.o.1 aI.o aq.o,ao⟩);exact oI
   have aR:z=q:=oM;subst aR;(have aH:Aa (Fd p f):= λj hj x g=>aq.o j (by rw[<-HZ.o];exact hj) x g);go_wp2;go_roundw;(case rel=>exact⟨k+1,oM,by go_num,C4 A.o.2.2.1 aH.o HT.o,l.o.1⟩);exact oI
 have aQ:m=k:=oM;subst aQ;have aG:Aa (CQ p):= λj hj f hf=>HT.o j (by rw[<-T.o];exact hj) f hf
 go_wp2;go_ret;exact⟨.ik aG.o,y.o.gG⟩
def FI(v:J):Prop:=v=sN\/∃ad n c,v=Z (K ad) n c
theorem MN(x y:MT)(w:Y):
 Ae Tryz.prog 93 #[.agg #[iZ x.func,iZ x.head,iZ x.gQ,Ac .u32 x.init],.agg #[iZ y.func,iZ y.head,iZ y.gQ,Ac .u32 y.init]] w λe b=>AC e (Ih x y)/\Ad w w b:=by
 have a:Aa (Ad w w ((w.alloc (.cells #[iZ x.func,iZ x.head,iZ x.gQ,Ac .u32 x.init] 121)).alloc (.cells #[iZ y.func,iZ y.head,iZ y.gQ,Ac .u32 y.init] 121))):=Ai (Ag _ _) lR (Ag _ _);go_enter Tryz.func93,Tryz.ntmps93;go_wp2;all_goals(go_ret;refine⟨AC.of ?_,by first|exact a.o|(rw[‹x.func=y.func›]at a;exact a.o)⟩;go_light;unfold Ih;simp_all<;>omega)
def GY(w:Y)(s:J)(b:List MF):Prop:=∃a:List (MF×VF),a.map Prod.fst=b/\Rd w 4 s b (a.flatMap AX)/\∀x∈a,Dt w x.2 x.1/\FI x.2.p/\FI x.2.l
theorem GY.bM{i:Y}(h:GY w s a)(f:Ad B w i)(e: ↑w<=B):GY i s a:=by obtain⟨j,h1,h2,b⟩:=h;exact⟨j,h1,h2.bM f e, λx g=>⟨(b x g).1.bM f e,(b x g).2⟩⟩
theorem P8{fn:Nat}(j:p.cC[fn]?=K f)(i b l:Int):Fc p ⟨fn,i,b,l⟩↔(0<=i/\i<(f.ch:Int))/\(0<=b/\b<((f.d5.length+ ↑f.en:Nat):Int))/\(f.d5++f.en)[b.toNat]?=K 3:=by
 constructor
 . rintro⟨g,h1,h2,e,h,a⟩;simp only[kM]at h1 e h a;rw[j]at h1;obtain rfl:=kN h1;unfold Ay at a;split at a
   . simp at a
   rename_i n;rw[lD]at a;by_cases q:b.toNat<(f.d5++f.en).length
   . rw[an q]at a⊢;refine⟨⟨e,h⟩,⟨oM,by rw[kJ]at q;omega⟩,?_⟩;simpa using a
   rw[lB oM]at a;simp at a
 rintro⟨⟨e,h⟩,⟨a,m⟩,k⟩;refine⟨f,by simp only[kM];exact j,oS,e,h,?_⟩;unfold Ay;rw[lE oS,lD,k];rfl
theorem Ee(v:VP)(p:MP)(I b g j:Int)(w:Y)(hs:p.small)(h:Cz w v p)(aF:GY w v.f p.cC):
 Ae Tryz.prog 92 #[.agg #[v.r,v.k,v.f,v.t],.agg #[iZ I,iZ b,iZ g,Ac .u32 j]] w λe w'=>AC e (Fc p ⟨I,b,g,j⟩)/\Ad w w w':=by
 obtain⟨vr,vk,vf,vt⟩:=v;obtain⟨ys,ao,aj,aq⟩:=aF;simp only[]at aj;obtain⟨D,l,aw⟩:∃a c,vr=Z a p.a7 c:=by obtain⟨_,_,hq,_⟩:=h.a7;exact hq.fu
 obtain⟨F,s,aA⟩:∃a c,vk=Z a p.aC c:=h.aC.fu;obtain⟨G,z,aD⟩:∃a c,vt=Z a p.dr c:=h.dr.fu;subst aw aA aD;have au:ys.length=p.cC.length:=by rw[<-ao];simp
 obtain⟨a2,c2,e2⟩:=aj.fu;subst e2;have W:=Ap (ji aj (ji ao (ji aq (ji hs.func au))));have hm:=hs.cC;clear aj ao aq au hs h;generalize p.a7.length=A at*;generalize p.aC.length=B at*;generalize p.dr.length=C at*;generalize hM:p.cC.length=m at*;have HL:=Ap hM;have O:Aa (Ad w w ((w.alloc (.cells #[Z D A l,Z F B s,Z a2 m c2,Z G C z] 28)).alloc (.cells #[iZ I,iZ b,iZ g,Ac .u32 j] 121))/\DU ((w.alloc (.cells #[Z D A l,Z F B s,Z a2 m c2,Z G C z] 28)).alloc (.cells #[iZ I,iZ b,iZ g,Ac .u32 j] 121)) ((w:Nat)+1) (iZ I) (iZ b) (iZ g) (Ac .u32 j)):=by refine⟨Ai (Ag _ _) lR (Ag _ _),?_⟩;have:=DU.new (w.alloc (.cells #[Z D A l,Z F B s,Z a2 m c2,Z G C z] 28)) (iZ I) (iZ b) (iZ g) (Ac .u32 j) 121;simpa using this
 by_cases q0:0<=I/\I<(m:Int)
 . have ah:decide (0<=I/\I<(m:Int))=true:=decide_eq_true q0
   obtain⟨fn,rfl⟩:=kU q0.1;have aJ:fn<m:=oM;clear q0;obtain⟨⟨f,v⟩,hy⟩:∃y,ys[fn]?=K y:=⟨_,an (by rw[W.o.2.2.2.2];omega)⟩;have e1:=CT W.o.2.1 hy;have am:=W.o.2.2.1 _ (i8 hy);have N:=Ap (ji am.1 (ji am.2.1 (ji am.2.2 (ji (W.o.2.2.2.1 _ (i8 e1)) e1))));rcases W.o.1.2 with⟨e0,_⟩|⟨i,H,c',e1,a8⟩
   . omega
   simp only[jc,lO]at e1;obtain⟨rfl,rfl⟩:=e1;have L:=Rd.elem Aq a8 fn _ hy 0 _ rfl;have j1:=Rd.elem Aq a8 fn _ hy 1 _ rfl;have j2:=Rd.elem Aq a8 fn _ hy 2 _ rfl;have j3:=Rd.elem Aq a8 fn _ hy 3 _ rfl;rw[kZ]at L;clear a8 hy;simp only[]at L j1 j2 j3;obtain⟨R,T,ep⟩:=N.o.1.1.fu;obtain⟨al,cl,el⟩:=N.o.1.2.1.fu;obtain⟨Q,S,ec⟩:=N.o.1.2.2.fu;obtain⟨vp,vl,vc⟩:=v;simp only[]at ep el ec L j1 j2 j3;subst ep el ec;have k0:=(O.o.1.cell (jC L)).trans L;have k1:=(O.o.1.cell (jC j1)).trans j1;have k2:=(O.o.1.cell (jC j2)).trans j2;have k3:=(O.o.1.cell (jC j3)).trans j3;have nb:¬i=w.heap.size:=mE (jC L);have aH:¬i= ↑w+1:=by have:=jC L;simp only[]at this;omega
   have aI:¬i= ↑w+1+1:=by have:=jC L;simp only[]at this;omega
   have mb:i<w.heap.size:=jC L;go_enter Tryz.func92,Tryz.ntmps92;go_wp2_with fail;refine(Bf (fn:Int) (m:Int) _).mono ?_;rintro e u ⟨rfl,rfl⟩;rw[ah];go_wp2_with fail;have aE:(fn:Int)<(m:Int):=oM;have BX:Ad w w (((w.alloc (.cells #[Z D A l,Z F B s,sO i H m c2,Z G C z] 28)).alloc (.cells #[iZ (fn:Int),iZ b,iZ g,Ac .u32 j] 121)).alloc (.cells #[sN,sN,sN,sN,sN,iZ 0,sN,sN] 53)).drew:=Ai (Ai O.o.1 lR (Ag _ _)) lR (Aj _);have x0:=(BX.cell (jC L)).trans L;have x1:=(BX.cell (jC j1)).trans j1;have x2:=(BX.cell (jC j2)).trans j2;have x3:=(BX.cell (jC j3)).trans j3;go_region;have B1:Aa (Ad w w ((((w.alloc (.cells #[Z D A l,Z F B s,sO i H m c2,Z G C z] 28)).alloc (.cells #[iZ (fn:Int),iZ b,iZ g,Ac .u32 j] 121)).alloc (.cells #[Z D A l,Z F B s,sO i H m c2,Z G C z,Z R f.d5 T,iZ f.gz,Z al f.en cl,Z Q f.ch S] 53)).drew)):=Ai (Ai O.o.1 lR (Ag _ _)) lR (Aj _);have A1:Aa (DU ((((w.alloc (.cells #[Z D A l,Z F B s,sO i H m c2,Z G C z] 28)).alloc (.cells #[iZ (fn:Int),iZ b,iZ g,Ac .u32 j] 121)).alloc (.cells #[Z D A l,Z F B s,sO i H m c2,Z G C z,Z R f.d5 T,iZ f.gz,Z al f.en cl,Z Q f.ch S] 53)).drew) ((w:Nat)+1) (iZ (fn:Int)) (iZ b) (iZ g) (Ac .u32 j)):=(O.o.2.alloc _).bM (Aj _);have A2:Aa (NO ((((w.alloc (.cells #[Z D A l,Z F B s,sO i H m c2,Z G C z] 28)).alloc (.cells #[iZ (fn:Int),iZ b,iZ g,Ac .u32 j] 121)).alloc (.cells #[Z D A l,Z F B s,sO i H m c2,Z G C z,Z R f.d5 T,iZ f.gz,Z al f.en cl,Z Q f.ch S] 53)).drew) ((w:Nat)+1+1) (Z D A l) (Z F B s) (sO i H m c2) (Z G C z) (Z R f.d5 T) (iZ f.gz) (Z al f.en cl) (Z Q f.ch S)):=by
    have:=(NO.new ((w.alloc (.cells #[Z D A l,Z F B s,sO i H m c2,Z G C z] 28)).alloc (.cells #[iZ (fn:Int),iZ b,iZ g,Ac .u32 j] 121)) (Z D A l) (Z F B s) (sO i H m c2) (Z G C z) (Z R f.d5 T) (iZ f.gz) (Z al f.en cl) (Z Q f.ch S) 53).bM (Aj _);have aG:((w.alloc (.cells #[Z D A l,Z F B s,sO i H m c2,Z G C z] 28)).alloc (.cells #[iZ (fn:Int),iZ b,iZ g,Ac .u32 j] 121)).heap.size= ↑w+1+1:=sP
    rw[aG]at this;exact this
   generalize (((w.alloc (.cells #[Z D A l,Z F B s,sO i H m c2,Z G C z] 28)).alloc (.cells #[iZ (fn:Int),iZ b,iZ g,Ac .u32 j] 121)).alloc (.cells #[Z D A l,Z F B s,sO i H m c2,Z G C z,Z R f.d5 T,iZ f.gz,Z al f.en cl,Z Q f.ch S] 53)).drew=W1 at B1 A1 A2⊢;have HK:=Ap (ji B1.o (ji A1.o A2.o));clear B1 A1 A2 O W L j1 j2 j3 k0 k1 k2 k3 nb aH aI mb ah x0 x1 x2 x3 aE;have HC:=Ap (P8 N.o.2.2.2.2 b g j);obtain⟨i0,i1,i2,i3⟩:=HK.o.2.1;obtain⟨g0,g1,g2,g3,g4,g5,g6,g7⟩:=HK.o.2.2;have aM:=N.o.2.2.2.1.2.2;go_wp2_with fail;refine(Bf b (f.ch:Int) _).mono ?_;rintro e u ⟨rfl,rfl⟩;by_cases qA:0<=b/\b<(f.ch:Int)
   . have hA:decide (0<=b/\b<(f.ch:Int))=true:=decide_eq_true qA
     rw[hA];go_wp2_with fail;refine(Gx (Z D A l) (Z F B s) (sO i H m c2) (Z G C z) ⟨Z R f.d5 T,Z al f.en cl,Z Q f.ch S⟩ f g _ N.o.2.2.2.1 (N.o.1.bM HK.o.1 lR)).mono ?_;rintro e u ⟨⟨bh,rfl,ae⟩,bl⟩;have HQ:=Ap (ji (Ai HK.o.1 lR bl) (ji (HK.o.2.1.bM bl) (HK.o.2.2.bM bl)));cases bh
     . (have HN:Aa (¬Fc p ⟨fn,b,g,j⟩):= λe=>absurd (ae.2 ⟨(HC.o.1 e).2.1.1,by have:=(HC.o.1 e).2.1.2;omega⟩) ms);clear ae qA hA;go_wp2;go_ret;exact⟨.no HN.o,HQ.o.1⟩
     have hl:IL f g:=ae.1 rfl;obtain⟨k,rfl⟩:=kU hl.1;(have hk:k<(f.d5++f.en).length:=by have:=hl.2;rw[kJ];omega);obtain⟨x,hx⟩:∃x,(f.d5++f.en)[k]?=K x:=⟨_,an hk⟩;(have HY:Aa ((x==3)=true↔Fc p ⟨fn,b,k,j⟩):=by show _↔_;have h2:=hl.2;rw[HC.o,kM,hx];simp[qA];intro _;omega);have HX:=Ap hx;clear ae qA hA hl hk hx HC;obtain⟨i0,i1,i2,i3⟩:=HQ.o.2.1;obtain⟨g0,g1,g2,g3,g4,g5,g6,g7⟩:=HQ.o.2.2;go_wp2_with fail;refine(Im (Z D A l) (Z F B s) (sO i H m c2) (Z G C z) ⟨Z R f.d5 T,Z al f.en cl,Z Q f.ch S⟩ f k x _ N.o.2.2.2.1 (N.o.1.bM HQ.o.1 lR) HX.o).mono ?_;rintro e u' ⟨rfl,bl⟩;have HE:=Ap (Ai HQ.o.1 lR bl);clear bl i0 i1 i2 i3 g0 g1 g2 g3 g4 g5 g6 g7;go_wp2;go_ret;exact⟨.of HY.o,HE.o⟩
   have hA:decide (0<=b/\b<(f.ch:Int))=false:=mj qA
   (have HN:Aa (¬Fc p ⟨fn,b,g,j⟩):= λe=>qA (HC.o.1 e).1);rw[hA];go_wp2;go_ret;exact⟨.no HN.o,HK.o.1⟩
 have HN:Aa (¬Fc p ⟨I,b,g,j⟩):= λ⟨f,h1,h2,_⟩=>q0 ⟨h2,by have:=(iV.1 h1).1;simp only[]at this h2;rw[HL.o]at this;omega⟩
 have ah:decide (0<=I/\I<(m:Int))=false:=mj q0
 clear W;go_enter Tryz.func92,Tryz.ntmps92;go_wp2_with fail;refine(Bf I (m:Int) _).mono ?_;rintro e u ⟨rfl,rfl⟩;rw[ah];go_wp2;go_ret;exact⟨.no HN.o,O.o.1⟩
theorem SC(w:Y)(a:Array J)(e:Af)(G:Nat)(h:a.size=G)(b:G<=maxLen):(w.alloc (.cells a e)).drew.ownsRow w e 1 (Z w 0 G) 0 []:=⟨rfl,.inr ⟨w,G,a,rfl,Nat.le_refl _,oe,mu _,b,oM,sP⟩⟩
theorem TA(n:Nat)(w:Y)(r:n<=4194304):
 Ae Tryz.prog 141 #[Z M 0 0,Ac Ab n] w λe h=>∃v,e=.returned v/\h.ownsRow w 2 1 v 0 []/\Ad w w h:=by
 obtain⟨b,k,m,p,g⟩:=lU Bt;by_cases q:n=0
 . subst q;go_enter Tryz.func141,Tryz.ntmps141;go_wp2;go_ret;exact⟨_,rfl,lq _ _ _ _,lQ _ _⟩
 have s:(0:Int)<(n:Int):=oM;have l:(Builtin.firstCells b.size 0 (Z M 0 0)).run Tryz.prog w.drew=.ok (([]:List J).toArray) w.drew:=run_firstCells_none w.drew b.size 0 0 0;have f:∀ty,(Builtin.append_ #[36,3] ty #[Z M 0 0,Ac Ab n]).run Tryz.prog w=.ok (Z w (0+n) (grownCap w (0+n) 0 2)) (w.drew.alloc (.cells (([]:List J).toArray++Builtin.zeroCells (Ac Ab 0).cells n++Builtin.zeroCells (Ac Ab 0).cells (grownCap w (0+n) 0 2-(0+n))) 2)):= λty=>
  Lib.run_append_grow_zeros w 36 3 ty 2 b (Ac Ab 0) Ab Ab Tryz.underlying36 Tryz.underlying3 k m M 0 0 [] l n oM (by rw[p];omega) oM oM (by rw[g];omega) (growslice_fits oM (by rw[g];omega))
 have j:=grownCap_ge w (0+n) 0 2;have a:=grownCap_le_maxLen w (0+n) 0 2 oX;generalize grownCap w (0+n) 0 2=G at f j a;have i:Aa (G<=maxLen):=a;unfold maxLen at a;go_enter Tryz.func141,Tryz.ntmps141;go_wp2_with (at_builtin;refine Lib.wpList_append_run _ rfl _ _ _ _ rfl _ _ rfl rfl _ _ (f _) ?_);all_goals
  go_ret;exact⟨_,rfl,SC w _ _ G (by simp[Builtin.zeroCells];omega) i.o,Ai (Ag _ _) lR (Aj _)⟩
structure GV where
 fc:Int
 fa:Int
 gb:Nat
 ob:Nat
 cb:Nat
 go:Nat
 oo:Nat
 co:Nat
 vi:J
 vl:J
 gi:Nat
 ci:Nat
 gc:Nat
 cc:Nat
def Md(x:Int):Prop:=0<=x/\x<=4294967295
structure Gr(w u:Y)(G n:Nat)(x:GV)(bad:Bool)(I:List Nat)(C:List Int):Prop where
 gR:Ar u G #[iZ x.fc,iZ x.fa,sO x.gb x.ob n x.cb,sO x.go x.oo n x.co,x.vi,x.vl,sG x.gi n x.ci,sG x.gc n x.cc,.bool bad] 203
 lo: ↑w<=G
 ig:u.ownsRow w 2 1 (sG x.gi n x.ci) n (nv I)
 cost:u.ownsRow w 2 1 (sG x.gc n x.cc) n (C.flatMap Ah)
 ne:x.gi≠x.gc
 gG:Ad w w u
 il: ↑I=n
 ib:∀y∈I,y<n
 cl: ↑C=n
 cb:∀y∈C,Md y
structure GF(w:Y)(n:Nat)(x:GV)(E:Nat->List Nat)(O:List Nat):Prop where
 gr:IK w x.gb x.ob n E
 ord:∀k y:Nat,O[k]?=K y->w.cell? ⟨x.go,x.oo+k,M⟩=K (iZ (y:Int))
 ol: ↑O=n
 ob:∀y∈O,y<n
 eb:∀b,b<n->∀y∈E b,y<n
 sz:∀b,(E b).length<=2
theorem Gr.bM{b:Y}{x:GV}(h:Gr w u G n x bad I C)(a:Ad u u b):Gr w b G n x bad I C:={h with gR:=h.gR.bM a,ig:=Am h.ig a lR,cost:=Am h.cost a lR,gG:=Ai h.gG lR a}
theorem Gr.jh{x:GV}(h:Gr w u G n x bad I C):x.gi≠G/\x.gc≠G:=by
 obtain⟨_,c1,a⟩:=AD h.ig;obtain⟨_,c2,b⟩:=AD h.cost;have e3:=h.gR;unfold Ar at e3;constructor
 . intro e;rw[e,e3]at a;cases a
 intro e;rw[e,e3]at b;cases b
theorem Ck(h:u.ownsRow B e k (sG g n c) n xs)(f:g≠b):(u.setCell ⟨b,i,M⟩ z).ownsRow B e k (sG g n c) n xs:=kO h (a:=⟨b,i,M⟩) (λe=>f (by simpa[Value.ownBlock]using e)) z
theorem Gr.i9{x:GV}(h:Gr w u G n x bad I C):Gr w (u.setCell ⟨G,8,M⟩ (.bool true)) G n x true I C:={h with gR:=by have:=h.gR.set 8 (.bool true);simpa using this,ig:=Ck h.ig h.jh.1,cost:=Ck h.cost h.jh.2,gG:=h.gG.setCell h.lo _}
theorem Gr.other{x:GV}(h:Gr w u G n x bad I C)(f: ↑w<=g)(h1:g≠G)(h2:g≠x.gi)(b:g≠x.gc):Gr w (u.setCell ⟨g,i,M⟩ z) G n x bad I C:={h with gR:=h.gR.other (a:=⟨g,i,M⟩) (λe=>h1 e.symm) _,ig:=Ck h.ig h2.symm,cost:=Ck h.cost b.symm,gG:=h.gG.setCell f _}
theorem Gr.cells{x:GV}(h:Gr w u G n x bad I C):u.cell? ⟨G,2,M⟩=K (sO x.gb x.ob n x.cb)/\u.cell? ⟨G,3,M⟩=K (sO x.go x.oo n x.co)/\u.cell? ⟨G,6,M⟩=K (sG x.gi n x.ci)/\u.cell? ⟨G,7,M⟩=K (sG x.gc n x.cc)/\u.cell? ⟨G,8,M⟩=K (.bool bad)/\u.frozen? ⟨G,8,M⟩=false:=⟨by rw[h.gR.cell];rfl,by rw[h.gR.cell];rfl,by rw[h.gR.cell];rfl,by rw[h.gR.cell];rfl,by rw[h.gR.cell];rfl,h.gR.frozen 8⟩
theorem Gr.iY{x:GV}(h:Gr w u G n x bad I C)(e:b<n):∃y,I[b]?=K y/\y<n/\u.cell? ⟨x.gi,b,M⟩=K (iZ (y:Int)):=by
 have a:b<I.length:=by rw[h.il];exact e
 have:=lV h.ig b oM;rw[Rr (an a)]at this;exact⟨_,an a,h.ib _ (mW a),this⟩
theorem Ik{y:Int}(h:C[b]?=K y):(C.flatMap Ah)[b]?=K (iZ y):=by
 have:C.flatMap Ah=C.map (Ac Ab):=by
  induction C generalizing b with
  |nil=>rfl
  | cons x r a=>
    have:List.flatMap Ah r=List.map (Ac Ab) r:=by
     clear a h;induction r with
     |nil=>rfl
     |cons x r a=>rw[kX,a];rfl
    rw[kX,this];rfl
 rw[this,lG,h];rfl
theorem Gr.iK{x:GV}(h:Gr w u G n x bad I C)(e:b<n):∃y,C[b]?=K y/\Md y/\u.cell? ⟨x.gc,b,M⟩=K (iZ y):=by
 have a:b<C.length:=by rw[h.cl];exact e
 have:=lV h.cost b oM;rw[Ik (an a)]at this;exact⟨_,an a,h.cb _ (mW a),this⟩
theorem GF.at_{x:GV}{E:Nat->List Nat}{O:List Nat}(h:GF w n x E O)(a:Ad w w u):(∀k,k<n->∃y:Nat,y<n/\u.cell? ⟨x.go,x.oo+k,M⟩=K (iZ (y:Int)))/\IK u x.gb x.ob n E:=⟨λk b=>⟨O[k]'(by rw[h.ol];exact b),h.ob _ (mW _),Ak a (h.ord k _ (an _))⟩,h.gr.bM a⟩
theorem F7(G:Nat)(a b:Int)(j:J)(u:Y)(g:Md a)(i:Md b)(h:u.cell? ⟨G,8,M⟩=K j)(q:u.frozen? ⟨G,8,M⟩=false):
 Ae Tryz.prog 146 #[.pointer G,iZ a,iZ b] u λe f=>∃c,e=.returned (iZ c)/\Md c/\(f=u\/f=u.setCell ⟨G,8,M⟩ (.bool true)):=by
 obtain⟨k,l⟩:=g;obtain⟨m,n⟩:=i;by_cases p:a+b>4294967295
 . go_enter Tryz.func146,Tryz.ntmps146;go_wp2;go_ret;exact⟨0,rfl,⟨oM,oM⟩,.inr rfl⟩
 go_enter Tryz.func146,Tryz.ntmps146;go_wp2;go_ret;exact⟨a+b,rfl,⟨oM,oM⟩,.inl rfl⟩
def Yd:J->Nat
 |.slice _ n _=>n
 |_=>0
def I7(zs:List Int)(n:Nat):List J:=(List.range n).map λ(i:Nat)=>Value.bool (zs.contains (i:Int))
theorem Ez(zs:List Int)(n:Nat):(I7 zs n).length=n:=by simp[I7]
theorem FY(zs:List Int)(n i:Nat)(h:i<n):(I7 zs n)[i]?=K (.bool (zs.contains (i:Int))):=by simp[I7,h]
theorem R7(n:Nat):List.replicate n (Value.bool false)=I7 [] n:=by
 apply mV;intro j;by_cases a:j<n
 . rw[FY _ _ _ a];simp[a]
 rw[lB oT,lB (by rw[Ez];omega)]
theorem R8(zs:List Int)(n i:Nat)(h:i<n):(I7 zs n).set i (.bool true)=I7 (zs++[(i:Int)]) n:=by
 apply mV;intro j;by_cases a:j<n
 . rw[FY _ _ _ a];by_cases e:j=i
   . subst e;rw[mG (by rw[Ez];exact h)];simp
   rw[mC oM,FY _ _ _ a];have:¬(j:Int)=(i:Int):=oM;simp[this]
 rw[lB (by simp[Ez];omega),lB (by rw[Ez];omega)]
def Ke(zs:List Int)(code:List MI)(k:Nat):Bool:=(code.take k).all λx=> !decide (x.op=28)||zs.contains x.a
theorem Lb(a:List MF)(zs:List Int)(i:Nat)(f:MF)(b:a[i]?=K f):Ft a zs i=(!zs.contains (i:Int)&&Ke zs f.ch f.ch):=by
 unfold Ft Ke Kh;rw[b,lu lR];congr 1
 simp only[List.all_map,List.all_filter,Function.comp_def]
theorem MA(zs:List Int)(code:List MI)(k:Nat)(x:MI)(e:code[k]?=K x):Ke zs code (k+1)=(Ke zs code k&&(!decide (x.op=28)||zs.contains x.a)):=by obtain⟨b,rfl⟩:=iV.1 e;unfold Ke;rw[lH b,List.all_append];simp
theorem QG(zs:List Int)(code:List MI)(k:Nat)(h:Ke zs code k=false):Ke zs code code=false:=by unfold Ke at*;rw[lu lR];rw[List.all_eq_false]at*;obtain⟨x,a,h2⟩:=h;exact⟨x,m6 a,h2⟩
theorem QC(n:Nat):(madeCells (Value.bool false).cells (n*1)).toList=List.replicate n (.bool false):=by rw[Ej (λb:Bool=>[Value.bool b]) [.bool false] [] n (.bool false) 1 rfl rfl oM];simp[CJ,List.flatten_replicate_singleton]
structure CW(w u:Y)(v:VP)(n bd:Nat)(V:J)(zs:List Int):Prop where
 pb:DU u w v.r v.k v.f v.t
 done:u.ownsRow w 4 1 (Z bd n n) n (I7 zs n)
 o:u.ownsRow ((w:Nat)+1) 2 1 V zs (zs.flatMap Ah)
 gG:Ad w w u
theorem CW.bM{e:Y}(h:CW w u v n b V zs)(a:Ad u u e):CW w e v n b V zs:=⟨h.pb.bM a,Am h.done a lR,Am h.o a lR,Ai h.gG lR a⟩
theorem Rd.j5{ad:Addr}{xs:List Int}(h:Rd w 1 (Z (K ad) n c) n (xs.flatMap Ah)):∀j u,(xs.flatMap Ah)[j]?=K u->w.cell? (ad.add j)=K u:=by
 intro j u a;rcases h.2 with⟨rfl,_⟩|⟨g,o,c',e,b⟩
 . have:=(iV.1 a).1;rw[h.1]at this;omega
 simp only[jc,kK,lO]at e;obtain⟨rfl,rfl⟩:=e;rw[Addr.add_lit];exact b j u a
theorem BZ(xs:List Int):∀u∈xs.flatMap Ah,u.oneCell'=true:=by intro u b;obtain⟨x,_,a⟩:=mN.1 b;simp[Ah]at a;subst a;rfl
theorem O6{v:J}{xs:List Int}(h:w.ownsRow base e 1 v n (xs.flatMap Ah))(a:List Int)(b:a.length=0):w.ownsRow base e 1 v (n+ ↑a) ((xs++a).flatMap Ah):=by obtain rfl:=lP b;simpa using h
theorem Mh{b:Y}{v:J}(h:Ad B w u)(i:u.ownsRow w e 1 v n xs)(a:B<= ↑w)(f:u.grownBy b v.ownBlock):Ad B w b:=h.grown f (kT a h.size) (λk g=>kT a (i.lt k g).1)
theorem Og(g:Nat)(n p:J)(xs a:List Int)(w:Y)(U:xs.length<=1048576)(V:a.length<=1048576)(h1:Rd w 1 n xs (xs.flatMap Ah))(h2:Rd w 1 p a (a.flatMap Ah))(L:FI n)(N:FI p)
 (j:w.cell? g=K n) (k:w.cell? ⟨g,1,M⟩=K p):
 Ae Tryz.prog 109 #[Z g 2 2] w λe i=>∃v,e=.returned v/\i.ownsRow w 2 1 v (xs.length+ ↑a) ((xs++a).flatMap Ah)/\Ad w w i:=by
 have H:Aa (xs.length<=1048576/\a.length<=1048576/\Rd w 1 n xs (xs.flatMap Ah)/\Rd w 1 p a (a.flatMap Ah)/\FI n/\FI p):=⟨U,V,h1,h2,L,N⟩
 obtain⟨R,c1,rfl⟩:=h1.fu;obtain⟨S,c2,rfl⟩:=h2.fu;clear h1 h2 L N;obtain⟨r,q,F,G,I⟩:=lU Bt;have D:Aa (w.cell? g=K (Z R xs c1)/\w.cell? ⟨g,1,M⟩=K (Z S a c2)):=⟨j,k⟩
 go_enter Tryz.func109,Tryz.ntmps109;go_wp2;go_loopw [3,11] (λs c wr=>((c=Ac Ab 0/\s=Ac Ab 0)\/(c=Ac Ab 1/\s=Ac Ab (xs:Int))\/(c=Ac Ab 2/\s=Ac Ab ((xs.length+ ↑a:Nat):Int)))/\wr=w) (λ_ c _=>2-(intOf c).toNat)
 case atStart=>exact⟨.inl ⟨rfl,rfl⟩,rfl⟩
 obtain⟨A,rfl⟩:=hrel;rcases A with⟨rfl,rfl⟩|⟨rfl,rfl⟩|⟨rfl,rfl⟩
 . go_wp2;go_roundw;(case rel=>exact⟨.inr (.inl ⟨rfl,sP⟩),by trivial⟩);simp[intOf]
 . go_wp2;go_roundw;(case rel=>exact⟨.inr (.inr ⟨rfl,sP⟩),by trivial⟩);simp[intOf]
 go_wp2_with fail;refine(TA (xs.length+a.length) _ oM).mono ?_;rintro e Q ⟨X,rfl,O,E⟩;have b:Aa (Q.ownsRow wr 2 1 X 0 []/\Ad wr wr Q):=⟨O,E⟩
 clear O E j k;obtain⟨W,T⟩:∃W,W=wr:=⟨_,rfl⟩;subst T;go_wp2;go_loopw [6,27] (λv c wr=>((c=Ac Ab 0/\Aa (wr.ownsRow W 2 1 v 0 ([]:List J)))\/(c=Ac Ab 1/\Aa (wr.ownsRow W 2 1 v (0+xs.length) (([]++xs).flatMap Ah)))\/(c=Ac Ab 2/\Aa (wr.ownsRow W 2 1 v (xs.length+ ↑a) ((xs++a).flatMap Ah))))/\Aa (Ad W W wr)) (λ_ c _=>2-(intOf c).toNat)
 case atStart=>exact⟨.inl ⟨rfl,b.o.1⟩,b.o.2⟩
 clear b;obtain⟨A,f⟩:=hrel;have j:=D.o.1;have k:=D.o.2;rw[<-f.o.cell (jC j)]at j;rw[<-f.o.cell (jC k)]at k;rcases A with⟨rfl,b⟩|⟨rfl,b⟩|⟨rfl,b⟩
 . rcases H.o.2.2.2.2.1 with e|⟨ad,n',c',e⟩
   . simp only[jc]at e;obtain⟨rfl,h,rfl⟩:=e;have z:Aa (xs.length=0):=h;rw[h]at j;(have C:∀ty,(Builtin.append_ #[36,36] ty #[u6,Z M 0 0]).run Tryz.prog wr=.ok u6 wr:= λty=>run_append_owned_none (P:=Tryz.prog) wr W 36 ty 2 r 1 Tryz.underlying36 q u6 _ _ b.o);clear h;go_wp2_with (at_builtin;refine Lib.wpList_append_run _ rfl _ _ _ _ rfl _ _ rfl rfl _ _ (C _) ?_);go_roundw;(case rel=>exact⟨.inr (.inl ⟨rfl,O6 (xs:=[]) b.o xs z.o⟩),f⟩);simp[intOf]
   simp only[jc]at e;obtain⟨rfl,h,rfl⟩:=e;have y:Aa (Rd wr 1 (Z (K ad) xs c1) xs (xs.flatMap Ah)):=H.o.2.2.1.bM f.o lR;clear h;go_wp2_with (at_builtin;refine wpList_append_own _ rfl _ _ 36 rfl W 2 r (Ac Ab 0) 1 8 Tryz.underlying36 q F G I rfl dC _ _ _ rfl b.o ad xs c1 (xs.flatMap Ah) rfl ?c1 ?c2 ?c3 ?c4 ?c5 ?c6 ?_);(case c1=>rw[Au Ah 1 Ao]);(case c2=>exact y.o.j5);(case c3=>exact BZ _);(case c4=>unfold maxLen;omega);(case c5=>omega);(case c6=>exact f.o.size);intro v' i m l B;(have u:Aa (i.ownsRow W 2 1 v' (0+xs.length) (([]++xs).flatMap Ah)):=by show World.ownsRow _ _ _ _ _ _ _;simpa using m);have t:Aa (Ad W W i):=Mh f.o b.o lR l;clear m l B;go_wp2;go_roundw;(case rel=>exact⟨.inr (.inl ⟨rfl,u⟩),t⟩);simp[intOf]
 . rcases H.o.2.2.2.2.2 with e|⟨ad,n',c',e⟩
   . simp only[jc]at e;obtain⟨rfl,h,rfl⟩:=e;have z:Aa (a.length=0):=h;rw[h]at k;(have C:∀ty,(Builtin.append_ #[36,36] ty #[u6,Z M 0 0]).run Tryz.prog wr=.ok u6 wr:= λty=>run_append_owned_none (P:=Tryz.prog) wr W 36 ty 2 r 1 Tryz.underlying36 q u6 _ _ b.o);clear h;go_wp2_with (at_builtin;refine Lib.wpList_append_run _ rfl _ _ _ _ rfl _ _ rfl rfl _ _ (C _) ?_);go_roundw;(case rel=>exact⟨.inr (.inr ⟨rfl,by have:=O6 (xs:=[]++xs) b.o a z.o;simpa[Aa]using this⟩),f⟩);simp[intOf]
   simp only[jc]at e;obtain⟨rfl,h,rfl⟩:=e;have y:Aa (Rd wr 1 (Z (K ad) a c2) a (a.flatMap Ah)):=H.o.2.2.2.1.bM f.o lR;clear h;go_wp2_with (at_builtin;refine wpList_append_own _ rfl _ _ 36 rfl W 2 r (Ac Ab 0) 1 8 Tryz.underlying36 q F G I rfl dC _ _ _ rfl b.o ad a c2 (a.flatMap Ah) rfl ?c1 ?c2 ?c3 ?c4 ?c5 ?c6 ?_);(case c1=>rw[Au Ah 1 Ao]);(case c2=>exact y.o.j5);(case c3=>exact BZ _);(case c4=>unfold maxLen;omega);(case c5=>omega);(case c6=>exact f.o.size);intro v' i m l B;have u:Aa (i.ownsRow W 2 1 v' (xs.length+ ↑a) ((xs++a).flatMap Ah)):=by show World.ownsRow _ _ _ _ _ _ _;simpa using m
   have t:Aa (Ad W W i):=Mh f.o b.o lR l;clear m l B;go_wp2;go_roundw;(case rel=>exact⟨.inr (.inr ⟨rfl,u⟩),t⟩);simp[intOf]
 go_wp2;go_ret;exact⟨_,rfl,b.o,f.o⟩
theorem LK(v:VP)(p:MP)(w:Y)(hs:p.small)(h:Cz w v p)(aw:GY w v.f p.cC):
 Ae Tryz.prog 57 #[.agg #[v.r,v.k,v.f,v.t]] w λe w'=>AC e (BD p)/\Ad w w w':=by
 obtain⟨G,vk,F,vt⟩:=v;have B:=Ap (ji h.dr (ji hs (ji h aw)));have hn:=hs.dr;obtain⟨a1,c1,e1⟩:∃a c,vt=Z a p.dr c:=h.dr.fu;subst e1;clear h hs aw;have D:Aa _:=LG.of w G vk F (Z a1 p.dr c1) 28;generalize au:p.dr.length=n at*;have N:=Ap au;clear au;by_cases q0:64<n
 . (have S:Aa (¬BD p):= λe=>absurd e.1 (by rw[N.o];omega));have aA:(64:Int)<(n:Int):=oM;clear B;go_enter Tryz.func57,Tryz.ntmps57;go_wp2;go_ret;exact⟨.no S.o,D.o.gG⟩
 have aA:¬(64:Int)<(n:Int):=oM;go_enter Tryz.func57,Tryz.ntmps57;go_wp2;go_loopw [12] (λi wr=>∃k:Nat,k<=n/\i=iZ k/\Aa (∀j,j<k->Fb p p.dr j)/\Aa (LG w wr G vk F (Z a1 n c1))) (λi _=>n-(intOf i).toNat)
 case atStart=>exact⟨0,oM,rfl, λj hj=>oM,D⟩
 clear D;obtain⟨k,hk,rfl,HT,D⟩:=hrel;by_cases aq:k<n
 . obtain⟨x,Q⟩:∃x,p.dr[k]?=K x:=⟨_,an (by rw[N.o];exact aq)⟩;rcases B.o.1.2 with⟨e0,_⟩|⟨b,o,c,e1,O⟩
   . omega
   simp only[jc,lO]at e1;obtain⟨rfl,rfl⟩:=e1;have R:=Rd.elem MT.gH O k x Q 0 _ rfl;have i1:=Rd.elem MT.gH O k x Q 1 _ rfl;have i2:=Rd.elem MT.gH O k x Q 2 _ rfl;have i3:=Rd.elem MT.gH O k x Q 3 _ rfl;rw[<-D.o.gG.cell (jC R),kZ]at R;rw[<-D.o.gG.cell (jC i1)]at i1;rw[<-D.o.gG.cell (jC i2)]at i2;rw[<-D.o.gG.cell (jC i3)]at i3;have HX:=Ap Q;have HC:=Ap O;clear O Q;obtain⟨s,y,l,z⟩:=x;simp only[]at R i1 i2 i3;have nb:¬b=wr.heap.size:=mE (jC R);have mb:b<wr.heap.size:=jC R;have ao:Aa (Ad w w (wr.alloc (.cells #[iZ s,iZ y,iZ l,Ac .u32 z] 121))/\DU (wr.alloc (.cells #[iZ s,iZ y,iZ l,Ac .u32 z] 121)) w G vk F (sO b o n c1)/\DU (wr.alloc (.cells #[iZ s,iZ y,iZ l,Ac .u32 z] 121)) wr (iZ s) (iZ y) (iZ l) (Ac .u32 z)):=⟨Ai D.o.gG lR (Ag _ _),D.o.prog.alloc _,DU.new _ _ _ _ _ _⟩
   go_wp2_with fail;generalize wr.alloc (.cells #[iZ s,iZ y,iZ l,Ac .u32 z] 121)=C at ao⊢;have g:=Ap ao;clear ao R i1 i2 i3 nb mb D aA;obtain⟨p0,p1,p2,p3⟩:=g.o.2.1;obtain⟨r0,r1,r2,r3⟩:=g.o.2.2;have inst:=Av.some C;(have P0:= λn:Av C=>Av.cell p0 n);(have P1:= λn:Av C=>Av.cell p1 n);(have P2:= λn:Av C=>Av.cell p2 n);(have P3:= λn:Av C=>Av.cell p3 n);(have R0:= λn:Av C=>Av.cell r0 n);(have R1:= λn:Av C=>Av.cell r1 n);(have R2:= λn:Av C=>Av.cell r2 n);(have R3:= λn:Av C=>Av.cell r3 n);by_cases am:Fc p ⟨s,y,l,z⟩
   . have I:Aa (Fc p ⟨s,y,l,z⟩):=am;clear am;by_cases q5:k=0
     . subst q5;(have HA:Aa (Fb p p.dr 0):= λc hc=>by rw[HX.o]at hc;obtain rfl:=kN hc;exact⟨I.o, λi d hi=>oM⟩);refine AL kR kR ?_;(repeat(go_big_quiet_step ((first|(go_at_call 92;rename_i n';exact(Ee ⟨G,vk,F,sO b o n c1⟩ p s y l z n'.u B.o.2.1 (B.o.2.2.1.bM (Ai g.o.1 lR n'.h) lR) (B.o.2.2.2.bM (Ai g.o.1 lR n'.h) lR)).mono λe A h=>⟨h.1.true I.o,⟨⟨A,Ai n'.h lR h.2⟩,rfl⟩⟩)))));refine wpQuiet_nil ?_;rintro A ⟨n',rfl⟩;have L:Aa (LG w n'.u G vk F (sO b o n c1)):=⟨Ai g.o.1 lR n'.h,g.o.2.1.bM n'.h⟩;go_wp2;go_roundw;(case rel=>exact⟨1,oM,by go_num,Gu HA.o HT.o,L⟩);exact oI
     obtain⟨i,rfl⟩:∃i,k=i+1:=⟨k-1,oM⟩;obtain⟨d,H⟩:∃d,p.dr[i]?=K d:=⟨_,an (by rw[N.o];omega)⟩;have y0:=Rd.elem MT.gH HC.o i d H 0 _ rfl;have y1:=Rd.elem MT.gH HC.o i d H 1 _ rfl;have y2:=Rd.elem MT.gH HC.o i d H 2 _ rfl;have y3:=Rd.elem MT.gH HC.o i d H 3 _ rfl;rw[<-g.o.1.cell (jC y0),kZ]at y0;rw[<-g.o.1.cell (jC y1)]at y1;rw[<-g.o.1.cell (jC y2)]at y2;rw[<-g.o.1.cell (jC y3)]at y3;obtain⟨W,a8,T,ae⟩:=d;simp only[]at y0 y1 y2 y3;have HD:=Ap H;clear H;(have Y0:= λn:Av C=>Av.cell y0 n);(have Y1:= λn:Av C=>Av.cell y1 n);(have Y2:= λn:Av C=>Av.cell y2 n);(have Y3:= λn:Av C=>Av.cell y3 n);have aE:((i+1:Nat):Int)-1=(i:Int):=oM;have aF:(0:Int)<((i+1:Nat):Int):=oM;by_cases ah:Ih ⟨W,a8,T,ae⟩ ⟨s,y,l,z⟩
     . have aj:Aa (Ih ⟨W,a8,T,ae⟩ ⟨s,y,l,z⟩):=ah;(have HA:Aa (Fb p p.dr (i+1)):= λc hc=>by rw[HX.o]at hc;obtain rfl:=kN hc;refine⟨I.o, λi' d' hi H=> ?_⟩;obtain rfl:i'=i:=oM;rw[HD.o]at H;obtain rfl:=kN H;exact ah);clear ah;refine AL kR kR ?_;(repeat(go_big_quiet_step ((first|(go_at_call 92;rename_i n';exact(Ee ⟨G,vk,F,sO b o n c1⟩ p s y l z n'.u B.o.2.1 (B.o.2.2.1.bM (Ai g.o.1 lR n'.h) lR) (B.o.2.2.2.bM (Ai g.o.1 lR n'.h) lR)).mono λe A h=>⟨h.1.true I.o,⟨⟨A,Ai n'.h lR h.2⟩,rfl⟩⟩)|(go_at_call 93;rename_i n';exact(MN ⟨W,a8,T,ae⟩ ⟨s,y,l,z⟩ n'.u).mono λe A h=>⟨h.1.true aj.o,⟨⟨A,Ai n'.h lR h.2⟩,rfl⟩⟩)))));refine wpQuiet_nil ?_;rintro A ⟨n',rfl⟩;have L:Aa (LG w n'.u G vk F (sO b o n c1)):=⟨Ai g.o.1 lR n'.h,g.o.2.1.bM n'.h⟩;go_wp2;go_roundw;(case rel=>exact⟨i+1+1,oM,by go_num,Gu HA.o HT.o,L⟩);exact oI
     have aj:Aa (¬Ih ⟨W,a8,T,ae⟩ ⟨s,y,l,z⟩):=ah;clear ah;(have S:Aa (¬BD p):= λe=>by exact aj.o ((e.2 (i+1) (by rw[N.o];exact aq) _ HX.o).2 i _ rfl HD.o));refine AL kR kR ?_;(repeat(go_big_quiet_step ((first|(go_at_call 92;rename_i n';exact(Ee ⟨G,vk,F,sO b o n c1⟩ p s y l z n'.u B.o.2.1 (B.o.2.2.1.bM (Ai g.o.1 lR n'.h) lR) (B.o.2.2.2.bM (Ai g.o.1 lR n'.h) lR)).mono λe A h=>⟨h.1.true I.o,⟨⟨A,Ai n'.h lR h.2⟩,rfl⟩⟩)|(go_at_call 93;rename_i n';exact(MN ⟨W,a8,T,ae⟩ ⟨s,y,l,z⟩ n'.u).mono λe A h=>⟨h.1.false aj.o,⟨⟨A,Ai n'.h lR h.2⟩,rfl⟩⟩)))));refine wpQuiet_nil ?_;rintro A ⟨n',rfl⟩;have L:Aa (LG w n'.u G vk F (sO b o n c1)):=⟨Ai g.o.1 lR n'.h,g.o.2.1.bM n'.h⟩;go_wp2;go_ret;exact⟨.no S.o,L.o.gG⟩
   have I:Aa (¬Fc p ⟨s,y,l,z⟩):=am;clear am;(have S:Aa (¬BD p):= λe=>by exact I.o (e.2 k (by rw[N.o];exact aq) _ HX.o).1);refine AL kR kR ?_;(repeat(go_big_quiet_step ((first|(go_at_call 92;rename_i n';exact(Ee ⟨G,vk,F,sO b o n c1⟩ p s y l z n'.u B.o.2.1 (B.o.2.2.1.bM (Ai g.o.1 lR n'.h) lR) (B.o.2.2.2.bM (Ai g.o.1 lR n'.h) lR)).mono λe A h=>⟨h.1.false I.o,⟨⟨A,Ai n'.h lR h.2⟩,rfl⟩⟩)))));refine wpQuiet_nil ?_;rintro A ⟨n',rfl⟩;have L:Aa (LG w n'.u G vk F (sO b o n c1)):=⟨Ai g.o.1 lR n'.h,g.o.2.1.bM n'.h⟩;go_wp2;go_ret;exact⟨.no S.o,L.o.gG⟩
 have aD:n=k:=oM;subst aD;have HY:Aa (BD p):=⟨by rw[N.o];omega,by rw[N.o];exact HT.o⟩;go_wp2;go_ret;exact⟨.ik HY.o,D.o.gG⟩
def UM(p:MP)(zs:List Int):Prop:=(A8 p 0/\zs=IC p.cC)\/(¬A8 p 0/\zs=[])
theorem KD(h:A8 p 0):Bn p.cC/\CQ p:=by
 rcases h with h|h|h|h|h|h
 . exact absurd h.1 dC
 . exact absurd h.1 dC
 . exact absurd h.1 dC
 . exact absurd h.1 dC
 . exact absurd h.1 dC
 exact⟨h.2.2.2.1,h.2.2.2.2.1⟩
def Ig(a:List MF)(zs:List Int)(n j:Nat)(b:Int):Prop:=(b=-1/\∀k,j<=k->k<n->Ft a zs k=false)\/∃q:Nat,b=(q:Int)/\j<=q/\q<n/\Ft a zs q=true/\∀k,j<=k->k<q->Ft a zs k=false
theorem Ig.ik{g:Int}(h:Ig a zs n (b+1) g)(e:b<n)(f:Ft a zs b=true):Ig a zs n b (b:Int):=.inr ⟨b,rfl,Nat.le_refl _,e,f, λk h1 h2=>oM⟩
theorem Ig.no{i:Int}(h:Ig a zs n (b+1) i)(g:Ft a zs b=false):Ig a zs n b i:=by
 rcases h with⟨h1,h2⟩|⟨q,h1,h2,j,l,m⟩
 . refine .inl ⟨h1, λk p f=> ?_⟩;by_cases e:k=b
   . subst e;exact g
   exact h2 k oM f
 refine .inr ⟨q,h1,oM,j,l, λk p f=> ?_⟩;by_cases e:k=b
 . subst e;exact g
 exact m k oM f
theorem N3(b:Ad w w u){a:Addr}{x:J}(h:w.cell? a=K x):u.cell? a=K x:=by rw[b.cell (jC h)];exact h
structure N0(w u:Y)(v:VP)(n bd:Nat)(V:J)(zs:List Int)(q:Nat):Prop where
 pb:DU u w v.r v.k v.f v.t
 done:u.ownsRow w 4 1 (Z bd n n) n (I7 (zs++[(q:Int)]) n)
 o:u.ownsRow ((w:Nat)+1) 2 1 V zs (zs.flatMap Ah)
 gG:Ad w w u
 far: ↑w<bd
theorem T2(h:w.ownsRow base e k (Z g n c) n xs):base<=g/\∃a,w.heap[g]?=K (Obj.cells a e (0,0)):=by
 rcases h.2 with⟨b,_⟩|⟨l,j,a,b,f,i,_⟩
 . cases b
 cases b
 exact⟨f,a,i⟩
theorem QK{j p n':Nat}{f:Af}{r:List J}(h:u.ownsRow B e k s n xs)(l:u.ownsRow j f p (Z g n' c) n' r)(m:e≠f)(i:Nat)(z:J):(u.setCell ⟨g,i,M⟩ z).ownsRow B e k s n xs:=by
 obtain⟨_,v,h1⟩:=T2 l;refine kO h (a:=⟨g,i,M⟩) (λq=> ?_) z;rcases h.2 with⟨rfl,_⟩|⟨A,t,y,rfl,_,b,_⟩
 . cases q
 simp only[Value.ownBlock,kK]at q;subst q;rw[h1]at b;simp only[kK,mh]at b;exact m b.2.1.symm
theorem QJ{j:Y}{i:Af}{v:J}{A m:Nat}{l:List J}(h:w.ownsRow base e k s n xs)(t:w.grownBy j v.ownBlock)(y:w.ownsRow B i A v m l)(u:e≠i):j.ownsRow base e k s n xs:=by
 refine⟨h.1,?_⟩;rcases h.2 with h|⟨g,cap,p,q,r,b,z⟩
 . exact .inl h
 refine .inr ⟨g,cap,p,q,r,?_,z⟩;rw[t.block g (lC.1 b).1 ?_]
 . exact b
 intro f;rcases y.2 with⟨rfl,_⟩|⟨E,C,D,rfl,_,a,_⟩
 . cases f
 simp only[Value.ownBlock,kK]at f;subst f;rw[b]at a;simp only[kK,mh]at a;exact u a.2.1
theorem Sz(U:Y)(z:Int):∀j u,[(Ac Ab z:J)][j]?=K u->(U.alloc (.cells #[Ac Ab z] 2)).cell? ((⟨U,0,M⟩:Addr).add j)=K u:= λj u a=>by rw[Da,lY,(Ar.new U #[Ac Ab z] 2).cell j];simpa using a
theorem DU.ix{x y t:J}(h:DU u b x y z t)(f:b≠g):DU (u.setCell ⟨g,i,M⟩ V) b x y z t:=by
 have k:∀(j:Nat) (a:J),u.cell? ⟨b,j,M⟩=K a->(u.setCell ⟨g,i,M⟩ V).cell? ⟨b,j,M⟩=K a:= λj a e=>by have:=lZ u ⟨g,i,M⟩ b V f;unfold World.cell? at*;rw[this];exact e
 exact⟨k 0 _ h.c0,k 1 _ h.c1,k 2 _ h.c2,k 3 _ h.c3⟩
theorem N0.of{a:Nat}(h:CW w u v n a V zs)(e:q<n)(b: ↑w<a):N0 w (u.setCell ⟨a,q,M⟩ (.bool true)) v n a V zs q:=by refine⟨h.pb.ix oM,?_,QK h.o h.done dC q _,h.gG.setCell oS _,b⟩;have:=(h.done.stored q (.bool true)).1;rw[R8 zs n q e]at this;exact this
theorem N0.al{a:Nat}(h:N0 w u v n a V zs q)(o:Obj):(u.alloc o).ownsRow ((w:Nat)+1) 2 1 V zs (zs.flatMap Ah)/\ ↑w+1<=(u.alloc o).heap.size:=⟨Am h.o (Ag _ _) lR,kT h.pb.lt (Ag _ _).size⟩
theorem N0.next{f:Y}{l:Nat}{V':J}(h:N0 w u v n l V zs q)(r:f.ownsRow ((w:Nat)+1) 2 1 V' (zs.length+1) (zs.flatMap Ah++[Ac Ab (q:Int)]))(g:(u.alloc (.cells #[Ac Ab (q:Int)] 2)).grownBy f V.ownBlock):CW w f v n l V' (zs++[(q:Int)]):=by
 have b:=Ag u (.cells #[Ac Ab (q:Int)] 2);have s:=Am h.o b lR;refine⟨?_,QJ (Am h.done b lR) g s dC,?_,(Ai h.gG lR b).grown g (kT h.gG.size b.size) (λi p=>by have:=(h.o.lt i p).1;omega)⟩
 . (have k:∀(j:Nat) (a:J),u.cell? ⟨w,j,M⟩=K a->f.cell? ⟨w,j,M⟩=K a:= λj a m=>by have h1:=Ak b m;have h2:=g.block w (lm h.pb.lt b.size) (λe=>by have:=(h.o.lt _ e.symm).1;omega);unfold World.cell? at*;rw[h2];exact h1);exact⟨k 0 _ h.pb.c0,k 1 _ h.pb.c1,k 2 _ h.pb.c2,k 3 _ h.pb.c3⟩
 . rw[kJ,kQ,lJ];exact r
theorem L8 (v :VP)(p:MP)(w:Y)(hs:p.small)(hw:p.wf)(h:Cz w v p):
 Ae Tryz.prog 86 #[.agg #[v.r,v.k,v.f,v.t]] w λe w'=>∃V zs,e=.returned V/\Rd w' 1 V zs.length (zs.flatMap Ah)/\UM p zs/\Ad w.heap.size w w':=by
 obtain⟨j0,hj,bz,bB,bC⟩:=lU DL;obtain⟨k0,hk,br,bt,bu⟩:=lU Bt;have H:=Ap (ji hs (ji hw h));have a8:Aa (DU ((w.alloc (.cells #[v.r,v.k,v.f,v.t] 28)).alloc (.cells #[] 2)) w v.r v.k v.f v.t/\Ar ((w.alloc (.cells #[v.r,v.k,v.f,v.t] 28)).alloc (.cells #[] 2)) ((w:Nat)+1) #[] 2/\Ad w w ((w.alloc (.cells #[v.r,v.k,v.f,v.t] 28)).alloc (.cells #[] 2))):=by refine⟨(DU.new w _ _ _ _ _).alloc _,?_,Ai (Ag _ _) lR (Ag _ _)⟩;have:=Ar.new (w.alloc (.cells #[v.r,v.k,v.f,v.t] 28)) #[] 2;simpa using this
 go_enter Tryz.func86,Tryz.ntmps86;go_wp2_with fail;refine(CZ v p _ H.o.1 H.o.2.1 (H.o.2.2.bM a8.o.2.2 lR)).mono ?_;rintro e u1 ⟨⟨nf,rfl,aQ⟩,b1⟩;have A:=Ap (ji (a8.o.1.bM b1) (ji (a8.o.2.1.bM b1) (Ai a8.o.2.2 lR b1)));by_cases q0:nf=0
 . subst q0;have Q:=Ap aQ;obtain⟨ys,bF,aR,bf⟩:=H.o.2.2.cC;obtain⟨F,vk,vf,G⟩:=v;obtain⟨af,cf,ef⟩:∃a c,vf=Z a p.cC c:=aR.fu;subst ef;have bg:=(KD Q.o).1.2.1;have aP:=(KD Q.o).1.1;have R:=Ap (ji bF (ji aR bf));generalize aY:p.cC.length=n at bg aP R A;have S:=Ap aY;obtain⟨gf,of,rfl,aT⟩:∃gf of,af=K ⟨gf,of,M⟩/\Aa (∀j u,(ys.flatMap AX)[j]?=K u->w.cell? ⟨gf,of+j,M⟩=K u):=by
    rcases R.o.2.1.2 with⟨e0,_⟩|⟨gf,of,c',e1,O⟩
    . exact absurd e0 aP
    simp only[jc,lO]at e1;exact⟨gf,of,e1.1,O⟩
   obtain⟨p0,p1,p2,p3⟩:=A.o.1;go_wp2_with (at_make;refine mX _ rfl _ _ 56 rfl w 4 j0 (.bool false) 1 Tryz.underlying56 hj bz bB Ab Ab _ _ n rfl rfl rfl rfl (by rw[bC];omega) oX A.o.2.2.size ?_;intro w3 hown hgrow;rw[QC,R7]at hown);(have aG:Aa (CW w w3 ⟨F,vk,Z (K ⟨gf,of,M⟩) n cf,G⟩ n u1 (Z (K ⟨(w:Nat)+1,0,M⟩) 0 0) []):=by have aq:Ad u1 u1 w3:=(lQ _ _).grown hgrow lR (λk hk=>by cases hk);exact⟨A.o.1.bM aq,hown,⟨rfl,.inr ⟨(w:Nat)+1,0,#[],rfl,Nat.le_refl _,A.o.2.1.bM aq,Nat.le_refl _,mu _,rfl,rfl⟩⟩,Ai A.o.2.2 lR aq⟩);have aS:=Ap A.o.1.lt;have aF:=Ap aS.o;generalize u1.heap.size=N at aG aF⊢;go_wp2;go_loopw [3] (λV wr=>∃zs:List Int, ↑zs<=n/\(∃a c,V=Z a zs c)/\Aa (CW w wr ⟨F,vk,Z (K ⟨gf,of,M⟩) n cf,G⟩ n N V zs/\GB p.cC (n-↑zs) zs=IC p.cC)) (λV _=>n-Yd V)
   (case atStart=>exact⟨[],sP,⟨_,_,rfl⟩,⟨aG.o,by unfold IC;rw[S.o];rfl⟩⟩);obtain⟨zs,bS,⟨aV,cV,rfl⟩,I⟩:=hrel;by_cases bO: ↑zs<n
   . have bP :(zs:Int)<(n:Int):=oM;go_wp2;go_loopw [6,7] (λnx i wr=>∃(j:Nat) (D:Int),j<=n/\nx=Ac Ab D/\i=Ac Ab ((j:Int)-1)/\Aa (Ig p.cC zs n j D/\CW w wr ⟨F,vk,Z (K ⟨gf,of,M⟩) n cf,G⟩ n N (Z aV zs cV) zs)) (λ_ i _=>(intOf i+1).toNat)
     (case atStart=>exact⟨n,-1,Nat.le_refl _,rfl,rfl,⟨.inl ⟨rfl, λk h1 h2=>oM⟩,I.o.1⟩⟩);obtain⟨j,D,bJ,rfl,rfl,l⟩:=hrel;cases j with
     | succ b =>
       rw[show(((b+1:Nat):Int)-1)=(b:Int)from oM];obtain⟨⟨f,z⟩,hy⟩:∃y,ys[b]?=K y:=⟨_,an (by have:=congrArg List.length R.o.1;rw[kW,S.o]at this;omega)⟩;have aJ:=CT R.o.1 hy;have aE:=R.o.2.2 _ (i8 hy);simp only[]at aE;obtain⟨zp,zl,zc⟩:=z;obtain⟨ac,cc,ec⟩:∃a c,zc=Z a f.ch c:=aE.2.2.fu;subst ec;have L:=Ap (ji aE (ji (H.o.1.func f (i8 aJ)) aJ));have bI:f.ch.length<=1048576:=L.o.2.1.2.2;have i3:=Rd.elem Aq aT.o b _ hy 3 _ rfl;have aU:=Ap i3;have d0:=l.o.2.done.cellAt b oM;rw[FY _ _ _ oM]at d0;obtain⟨cb,aw⟩:∃cb,cb=zs.contains (b:Int):=⟨_,rfl⟩;rw[<-aw]at d0;have ah:=Ap aw;clear aw;have bG:(b:Int)<(n:Int):=oM;go_wp2;go_loopw [8,9] (λr i wr=>∃(k:Nat) (rb:Bool),k<= ↑f.ch/\r=.bool rb/\i=Ac Ab k/\Aa (rb=(!cb&&Ke zs f.ch k)/\CW w wr ⟨F,vk,Z (K ⟨gf,of,M⟩) n cf,G⟩ n N (Z aV zs cV) zs)) (λ_ i _=> ↑f.ch-(intOf i).toNat)
       (case atStart=>exact⟨0,!cb,oM,rfl,rfl,⟨by simp[Ke],l.o.2⟩⟩);obtain⟨k,rb,bK,rfl,rfl,g⟩:=hrel;obtain⟨p0,p1,p2,p3⟩:=g.o.2.pb;have i3:=N3 g.o.2.gG aU.o;by_cases aA:k< ↑f.ch
       . have bL:(k:Int)<(f.ch:Int):=oM;cases rb
         . have aj:Aa (Ig p.cC zs n b D):=l.o.1.no (by
            rw[Lb p.cC zs b f L.o.2.2,<-ah.o];have:=g.o.1;cases C:cb
            . rw[C]at this;rw[QG zs f.ch k (by simpa using this.symm)];rfl
            rfl)
           go_wp2;go_roundw;(case rel=>exact⟨b,D,oM,rfl,by go_num,⟨aj.o,g.o.2⟩⟩);simp[intOf]
         . obtain⟨x,hx⟩:∃x,f.ch[k]?=K x:=⟨_,an aA⟩;have ao:=Ap hx;have aZ:=L.o.1.2.2.bM g.o.2.gG lR;rcases aZ.2 with⟨e0,_⟩|⟨gc,oc,c',e1,O⟩
           . omega
           simp only[jc,lO]at e1;obtain⟨rfl,rfl⟩:=e1;have x0:=Rd.elem MI.gH O k _ hx 0 _ rfl;have x1:=Rd.elem MI.gH O k _ hx 1 _ rfl;have x2:=Rd.elem MI.gH O k _ hx 2 _ rfl;have x3:=Rd.elem MI.gH O k _ hx 3 _ rfl;rw[kZ]at x0;obtain⟨wo,bq⟩:∃W,W=wr:=⟨_,rfl⟩;subst bq;(go_upto_region 16 with fail);refine An (λu=>Aa (CW w u ⟨F,vk,Z (K ⟨gf,of,M⟩) n cf,G⟩ n N (Z aV zs cV) zs/\Ar u wo #[Ac Ab x.op,Ac Ab x.a,Ac Ab x.b,Ac Ab x.c] 60)) ⟨g.o.2.bM (Ag _ _),Ar.new _ _ _⟩ ?_
           intro U1 s;have a0:=s.o.2.cell 0;have a1:=s.o.2.cell 1;simp only[kL,jt,kI]at a0 a1;by_cases C:x.op=28
           . rw[C]at a0;have aM:=Ti (KD Q.o).2 L.o.2.2 (a:=x.a) (lK.2 ⟨x,nj.2 ⟨i8 ao.o,by simpa using C⟩,rfl⟩);rw[S.o]at aM;obtain⟨aa,aI⟩:∃aa:Nat,x.a=(aa:Int):=⟨x.a.toNat,oM⟩;rw[aI]at a1 aM;have hd:=s.o.1.done.cellAt aa oM;rw[FY _ _ _ oM]at hd;obtain⟨ca,au⟩:∃ca,ca=zs.contains (aa:Int):=⟨_,rfl⟩;rw[<-au]at hd;(have B:Aa (ca=(!cb&&Ke zs f.ch (k+1))):=by show _=_;rw[MA zs f.ch k x ao.o,aI,<-au,<-Bool.and_assoc,<-g.o.1];simp[C]);clear au;go_wp2;go_roundw;(case rel=>exact⟨k+1,ca,oM,rfl,by go_num,⟨B.o,s.o.1⟩⟩);exact oI
           (have bH:(x.op != 28)=true:=by simpa using C);(have B:Aa (true=(!cb&&Ke zs f.ch (k+1))):=by show _=_;rw[MA zs f.ch k x ao.o,<-Bool.and_assoc,<-g.o.1];simp[C]);go_wp2;go_roundw;(case rel=>exact⟨k+1,true,oM,rfl,by go_num,⟨B.o,s.o.1⟩⟩);exact oI
       obtain rfl:k=f.ch.length:=oM;cases rb
       . have aj:Aa (Ig p.cC zs n b D):=l.o.1.no (by rw[Lb p.cC zs b f L.o.2.2,<-ah.o,<-g.o.1]);go_wp2;go_roundw;(case rel=>exact⟨b,D,oM,rfl,by go_num,⟨aj.o,g.o.2⟩⟩);simp[intOf]
       have aX:Aa (Ig p.cC zs n b (b:Int)):=l.o.1.ik oM (by rw[Lb p.cC zs b f L.o.2.2,<-ah.o,<-g.o.1]);go_wp2;go_roundw;(case rel=>exact⟨b,(b:Int),oM,rfl,by go_num,⟨aX.o,g.o.2⟩⟩);simp[intOf]
     | zero=>
       rw[show(((0:Nat):Int)-1)=-1 from rfl];rcases l.o.1 with⟨rfl,bi⟩|⟨q,rfl,_,aD,bp,bj⟩
       . have T:Aa (IC p.cC=[]):=by
          show _=_;rw[<-I.o.2,show n-↑zs=(n-↑zs-1)+1 from oM]
          simp only[GB];rw[OR (λj hj=>bi j (mu _) (by rw[<-S.o];exact hj))]
         have ae:=Ap l.o.2.gG;go_wp2;go_ret;exact⟨_,[],rfl,⟨rfl,.inl ⟨rfl,_,_,rfl⟩⟩,.inl ⟨Q.o,T.o.symm⟩,Ai ae.o lR (Ag _ _)⟩
       . have T:Aa (GB p.cC (n-(zs++[(q:Int)]).length) (zs++[(q:Int)])=IC p.cC):=by
          show _=_;rw[<-I.o.2,show n-↑zs=(n-↑zs-1)+1 from oM]
          simp only[GB];rw[OS (by rw[S.o];exact aD) bp (λj hj=>bj j (mu _) hj),kJ,kQ,Nat.sub_add_eq]
         have d0:=l.o.2.done.cellAt q oM;rw[FY _ _ _ aD]at d0;generalize zs.contains (q:Int)=cq at d0;have d1:=l.o.2.done.frozenAt q;have aW:=Ap (N0.of l.o.2 aD aF.o);have bR:(q:Int)<(n:Int):=oM;have bQ:¬(q:Int)<0:=oM;(go_upto_region 22 with fail);refine An (λu=>Aa (N0 w u ⟨F,vk,Z (K ⟨gf,of,M⟩) n cf,G⟩ n N (Z aV zs cV) zs q)) aW ?_;intro U1 s;go_wp2_with (at_builtin;refine wpList_append_lies _ rfl _ _ 36 rfl ((w:Nat)+1) 2 k0 (Ac Ab 0) 1 8 Tryz.underlying36 hk br bt bu rfl dC _ zs (zs.flatMap Ah) rfl (s.o.al (.cells #[Ac Ab (q:Int)] 2)).1 U1 1 1 [Ac Ab (q:Int)] rfl rfl (Sz U1 (q:Int)) (λu hu=>by simp at hu;subst hu;rfl) oM oX oM (s.o.al (.cells #[Ac Ab (q:Int)] 2)).2 _ rfl ?_;intro g3 aH w3 hown hgrow hat aA;have B:Aa (CW w w3 ⟨F,vk,Z (K ⟨gf,of,M⟩) n cf,G⟩ n N (Z g3 (zs.length+1) aH) (zs++[(q:Int)])):=s.o.next hown hgrow;clear hown hgrow hat aA);go_wp2;go_roundw;(case rel=>exact⟨zs++[(q:Int)],by simp only[kJ,kQ];omega,⟨K g3,aH,by rw[kJ,kQ]⟩,⟨B.o,T.o⟩⟩);simp only[Yd];omega
   have hz: ↑zs=n:=oM
   (have T:Aa (zs=IC p.cC):=by have:=I.o.2;rw[hz,ng]at this;exact this);have am:=Ap (ji (Rd.gM I.o.1.o) I.o.1.gG);rw[hz]at am⊢;go_wp2;go_ret;refine⟨_,zs,rfl,?_,.inl ⟨Q.o,T.o⟩,am.o.2⟩;rw[hz];exact am.o.1
 have B:Aa (¬A8 p 0):= λe=>q0 (A8.one aQ e)
 have bT:(nf != 0)=true:=by simpa using q0
 have ae:=Ap A.o.2.2;go_wp2;go_ret;exact⟨_,[],rfl,⟨rfl,.inl ⟨rfl,_,_,rfl⟩⟩,.inr ⟨B.o,rfl⟩,ae.o⟩
end Go.Proofs.YtjnglocdoljgkaaGreat
