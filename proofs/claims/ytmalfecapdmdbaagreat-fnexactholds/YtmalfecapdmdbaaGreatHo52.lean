import Derived.Test.YtmalfecapdmdbaaGreatHo48
import Derived.Test.YtmalfecapdmdbaaGreatHo51
namespace Go.Proofs.YtmalfecapdmdbaaGreat
open Go.ChangeShapes Go.WideShapes Go.ChangeAt Go.RowKit Go.Proofs.Tryz
set_option linter.unusedVariables false
open Go.Value renaming slice → Z,agg → Am
open Option renaming some → K,none → M
open Go renaming Value → J,World → Y,Calls → Ai
open Go.RowKit renaming Hid → Ae,Below → Ah
open Go.IntKind renaming i64 → Af
open Go.Obj renaming cells → Ak
open Go.Proofs.Tryz renaming prog → Ap
open Go.World renaming setCell → Aa,alloc → Ac,ownsRow → Ab
open Go.Ending renaming returned → Al
open List renaming flatMap → Ad
set_option maxHeartbeats 16000000
set_option maxRecDepth 100000
variable {fs:List MF}{b rest:List Nat}{D C:List Int}{q X cc gd n:Nat}{w u:Y}{P:Array J}
structure Wo(fs:List MF)(dn:List Nat)(rest:List Nat)(D:List Int):Prop where
 cal:Vj fs dn rest
 no:∀n∈rest,n∉dn
 nd:rest.Nodup
 z:∀n∈rest,cf D n=0
theorem Wo.head(h:Wo fs b (q::rest) D):q< ↑fs/\cf D q=0/\∀f,fs[q]?=K f->∀x∈f.eC,x.op=28->x.a≠(q:Int):=by obtain⟨c,d,_⟩:=h.cal;refine⟨c,h.z q (lV ..), λf g x k j e=> ?_⟩;obtain⟨n,i,l⟩:=d f g x.a (lA.2 ⟨x,mO.2 ⟨k,by simpa using j⟩,rfl⟩);have:n=q:=oM;exact h.no q (lV ..) (this▸i)
theorem Wo.next(h:Wo fs b (q::rest) D)(d:Int):Wo fs (q::b) rest (D.set q d):=by
 obtain⟨j,k,f⟩:=h.cal;obtain⟨c,i⟩:=List.nodup_cons.1 h.nd;refine⟨f, λn a e=> ?_,i, λn a=> ?_⟩
 . rcases kY.1 e with rfl|e
   . exact c a
   exact h.no n (lU _ a) e
 have g:n≠q:= λe=>c (e▸a)
 have:=h.z n (lU _ a);unfold cf at this⊢;rw[kL]at this⊢;rw[List.getElem?_set,kP (λe=>g e.symm)];exact this
theorem Tt{zs:List Int}(h:zs=BT fs)(p:zs.length≠0)(m:∀n,cf D n=0):Wo fs [] (zs.map Int.toNat) D:=by
 have b:BT fs≠[]:= λe=>p (by rw[h,e];rfl)
 obtain⟨r,c,f,_⟩:=IM (fs:=fs) fs [] b sP (λn b=>by simp at b) .nil;obtain⟨d,a⟩:=Nl (fs:=fs) fs [] .nil;have j:zs.map Int.toNat=r:=by rw[h];unfold BT;rw[show([]:List Int)=ints []from rfl,c];unfold ints;rw[nE,lu];exact(nF λx _=>kA x).trans (List.map_id' r)
 rw[j];refine⟨f,(λn _ e=>by cases e),?_, λn _=>m n⟩;rcases a with a|⟨a,g⟩
 . exact absurd a b
 have:ints r=ints d:=by rw[<-a,c];rfl
 have i:r=d:=by
  have:=congrArg (List.map Int.toNat) this;unfold ints at this;rw[nE,nE]at this;have k:∀l:List Nat,l.map (Int.toNat ∘ λ(x:Nat)=>(x:Int))=l:= λl=>(nF λx _=>kA x).trans (List.map_id' l)
  rwa [k,k]at this
 rw[i];exact g
structure Vf(w u:Y)(X gc cc gd cd n:Nat)(P4:Array J)(C D:List Int):Prop where
 bd:Bd w u u u gc cc gd cd n C D
 pb:AC u X P4 36
 lo:X< ↑w
theorem Vf.a7{e:Y}{c b:Nat}{a:Array J}(h:Vf w u X c cc gd b n a C D)(d:Ah u u e):Vf w e X c cc gd b n a C D:=⟨(h.bd.a7 d).re,h.pb.a7 d,h.lo⟩
theorem Vf.of{j:Y}{a b:Nat}{g:Array J}{e f:List Int}(h:Vf w u X a cc gd b n g C D)(i:Bd w u j u a cc gd b n e f):Vf w j X a cc gd b n g e f:=by have l:=(h.bd.c.lt a rfl).1;have m:=(h.bd.d.lt gd rfl).1;have p:=h.lo;have k:=h.pb.lt;refine⟨i.re,?_,h.lo⟩;have:=i.fr X k oM oM;unfold AC;rw[this];exact h.pb
theorem MN(S:List (List (List Int)))(s:Ey)(v:VP)(p:MP)(w:Y)(hs:p.small)(hw:p.wf)(h:Da w v p)(hS:Iz w (Z s.a s.n s.c) S):
 Ai Ap 6 #[Am #[v.r,v.k,v.f,v.t],Z s.a s.n s.c] w λe w'=>AJ e (OP p S)/\Ah w w w':=by
 obtain⟨k0,b7,bp,bq,br⟩:=lS Bp;obtain⟨x,y,l,m,A,B,f1,f3,rfl⟩:=h.sl;have bQ:=hs.bW;have hn:s.n=S.length:=by obtain⟨a,c,e⟩:=hS.dk;injection e
 have H:=Av (d5 hs (d5 hw (d5 h hS)));have HN:=Av hn;have E0:Ae (AC (Ac w (Ak #[Z x p.bO y,Z l p.ej m,Z f1 p.bW f3,Z A p.eD B] 36)) w #[Z x p.bO y,Z l p.ej m,Z f1 p.bW f3,Z A p.eD B] 36/\Ah w w (Ac w (Ak #[Z x p.bO y,Z l p.ej m,Z f1 p.bW f3,Z A p.eD B] 36))):=⟨AC.new _ _ _,Aq _ _⟩
 clear hs hw h hS hn;go_enter func6,ntmps6;go_upto_region 1 with fail
 refine Ax (λu=>Ae (AC u w #[Z x p.bO y,Z l p.ej m,Z f1 p.bW f3,Z A p.eD B] 36/\Ah w w u)) E0 ?_
 rintro U E1;clear E0;obtain⟨R,T,W,X⟩:=BP E1.1;go_wp2_with fail;refine(MO ⟨Z x p.bO y,Z l p.ej m,Z f1 p.bW f3,Z A p.eD B⟩ p U H.1 H.2.1 (H.2.2.1.a7 E1.2 lR)).mono ?_;rintro e wD ⟨V,zs,rfl,hV,hO,O⟩;obtain⟨aV,cV,eV⟩:=hV.dk;subst eV;have E2:=Av (d5 (E1.1.a7 O) (Ar E1.2 lR O));have HV:=Av (d5 hV hO);clear hV hO O E1 R T W X;obtain⟨R,T,W,X⟩:=BP E2.1;go_wp2_with fail;refine(Dj ⟨Z x p.bO y,Z l p.ej m,Z f1 p.bW f3,Z A p.eD B⟩ p wD H.1 H.2.1 (H.2.2.1.a7 E2.2 lR)).mono ?_;rintro e d ⟨⟨n,rfl,hn⟩,O⟩;have E:=Av (d5 (E2.1.a7 O) (d5 (Ar E2.2 lR O) (HV.1.a7 O lR)));have HO:Ae (NR p zs):=HV.2;have aE:=Av hn;clear O hn E2 HV R T W X;obtain⟨R,T,W,X⟩:=BP E.1;by_cases aI:n=0;case neg=>
  have bP:(n != 0)=true:=by simpa using aI
  have L:Ae (¬OP p S):=OP.not (c:=1) (g:=0) (a:=0) (C:=[]) (D:=[]) (.inl ⟨λe=>aI (aE.one e),rfl,rfl,rfl,rfl,rfl⟩) dC;go_wp2_with fail;go_ret;exact⟨⟨false,rfl,(λe=>by cases e), λe=>absurd e L.o⟩,E.2.1⟩
 subst aI;have aq:Ae (A4 p 0):=aE.o;have ae:Ae (zs=BT p.bW):=by
  rcases HO.o with⟨_,e⟩|⟨e,_⟩
  . exact e
  exact absurd aq.o e
 have HZ:Ae (∀z∈zs,∃q:Nat,z=(q:Int)/\q< ↑p.bW):=by rw[ae];exact(H2 p.bW p.bW [] (λz Q=>by cases Q)).1
 have bV:zs.length<=1048576:=by have:=(H2 p.bW p.bW [] (λz Q=>by cases Q)).2;rw[ae];unfold BT;simp at this;omega
 clear HO aE;by_cases aM:zs.length=0;case pos=>
  have bK:((zs:Int)==0)=true:=by rw[beq_iff_eq];omega
  have L:Ae (¬OP p S):=OP.not (c:=2) (g:=0) (a:=0) (C:=[]) (D:=[]) (.inr (.inl ⟨aq,by rw[<-ae];exact List.length_eq_zero_iff.1 aM,rfl,rfl,rfl,rfl,rfl⟩)) dC;go_wp2_with fail;go_ret;exact⟨⟨false,rfl,(λe=>by cases e), λe=>absurd e L.o⟩,E.2.1⟩
 have bK:((zs:Int)==0)=false:=by rw[nX];omega
 by_cases bo:s.n= ↑p.bW
 case neg=>
  have bJ:((s.n:Int) != (p.bW:Int))=true:=oT;have L:Ae (¬OP p S):= λe=>bo (by rw[HN,e.1])
  go_wp2_with fail;go_ret;exact⟨⟨false,rfl,(λe=>by cases e), λe=>absurd e L.o⟩,E.2.1⟩
 have bJ:((s.n:Int) != (p.bW:Int))=false:=oT;have aS:=Av bo;have bH:=E.1.lt;go_upto_region 5 with(at_make;refine l8 _ rfl _ _ 46 rfl d 2 k0 (iZ 0) 1 underlying46 b7 bp bq Af Af _ _ p.bW rfl rfl rfl rfl (by rw[br];omega) oX lR ?_;intro w1 aw aY;rw[LG]at aw)
 have aG:Ah d d w1:=(kS _ _).grown aY lR (λk hk=>by cases hk);have bT:=(aw.lt d rfl).2;have N:=Av (d5 (E.1.a7 aG) (d5 aw aG));clear aw aY aG R T W X;obtain⟨R,T,W,X⟩:=BP N.1;go_wp2_with (at_make;refine l8 _ rfl _ _ 46 rfl d 2 k0 (iZ 0) 1 underlying46 b7 bp bq Af Af _ _ p.bW rfl rfl rfl rfl (by rw[br];omega) oX N.2.2.size ?_;intro w2 aA aZ;rw[LG]at aA);have ah:Ah w1 w1 w2:=(kS _ _).grown aZ lR (λk hk=>by cases hk);have E5:Ae (Vf d w2 w d p.bW w1 p.bW p.bW #[Z x p.bO y,Z l p.ej m,Z f1 p.bW f3,Z A p.eD B] (List.replicate p.bW 0) (List.replicate p.bW 0)):=⟨⟨mK,Aw N.2.1 ah lR,mK,aA,oM,Ar N.2.2 lR ah,⟨(Aw N.2.1 ah lR).lt _ rfl|>.2,(aA.lt _ rfl).2,by have:=N.2.2.size;have:=ah.size;omega⟩,Nat.le_refl _, λ_ _ _ _=>rfl⟩,N.1.a7 ah,bH⟩;clear N aA aZ ah R T W X;generalize d.heap.size=P at E5⊢;generalize w1.heap.size=gd at E5⊢;go_loopw [8] (λi wr=>∃(k:Nat) (C:List Int),k<= ↑p.bW/\i=iZ k/\Ae (Vf d wr w P p.bW gd p.bW p.bW #[Z x p.bO y,Z l p.ej m,Z f1 p.bW f3,Z A p.eD B] C (List.replicate p.bW 0))) (λi _=> ↑p.bW-(intOf i).toNat)
 case atStart=>exact⟨0,_,oM,rfl,E5⟩
 clear E5;obtain⟨k,C,hk,rfl,F⟩:=hrel;by_cases aH:k< ↑p.bW
 case pos=>
  have bI:(k:Int)<(p.bW:Int):=oM;obtain⟨⟨zc,c0⟩,c1,bj⟩:=F.bd.cost aH;have bF: ↑w≠P:=by have:=(F.bd.c.lt P rfl).1;have:=F.lo;omega
  have E7:Ae (Vf d (Aa wr ⟨P,k,M⟩ (iZ (-1))) w P p.bW gd p.bW p.bW #[Z x p.bO y,Z l p.ej m,Z f1 p.bW f3,Z A p.eD B] (C.set k (-1)) (List.replicate p.bW 0)):=⟨(bj (-1)).1.re,F.pb.other (a:=⟨P,k,M⟩) bF _,F.lo⟩;clear bj;go_wp2_with fail;go_roundw;case rel=>exact⟨k+1,_,oM,by go_num,E7⟩
  exact oI
 case neg=>
  obtain rfl:k=p.bW.length:=oM;have aQ:Ae (∀c g a G I,R6 (BM p S) p ((zs.drop 0).map Int.toNat) C (List.replicate p.bW 0) c g a G I->QL (BM p S) p c g a G I):= λc g a G I h=>.inr (.inr ⟨aq, λe=>aM (by rw[ae,e];rfl),C,_,F.bd.cl,F.bd.dl,by rw[<-ae];exact h⟩)
  have aR:Ae (Wo p.bW [] ((zs.drop 0).map Int.toNat) (List.replicate p.bW 0)):=Tt ae aM λn=>by unfold cf;rw[kL,List.getElem?_replicate];split<;>rfl
  go_wp2_with fail;go_loopw [9] (λi wr=>∃(j:Nat) (C D:List Int) (dn:List Nat),j<= ↑zs/\i=iZ j/\Ae (∀c g a G I,R6 (BM p S) p ((zs.drop j).map Int.toNat) C D c g a G I->QL (BM p S) p c g a G I)/\Ae (Wo p.bW dn ((zs.drop j).map Int.toNat) D)/\Ae (Vf d wr w P p.bW gd p.bW p.bW #[Z x p.bO y,Z l p.ej m,Z f1 p.bW f3,Z A p.eD B] C D)) (λi _=> ↑zs-(intOf i).toNat)
  case atStart=>exact⟨0,C,_,[],oM,rfl,aQ,aR,F⟩
  clear F aQ aR;obtain⟨j,C,D,dn,hj,rfl,ao,aF,F⟩:=hrel;by_cases aH:j< ↑zs
  case neg=>have L:Ae (OP p S):=⟨by rw[<-HN];exact aS,0,0,C,D,ao.o _ _ _ _ _ (by rw[nD oM];exact .nil)⟩;go_wp2_with fail;go_ret;exact⟨⟨true,rfl, λ_=>L.o, λ_=>rfl⟩,Ar E.2.1 lR F.bd.e8⟩
  have bI:(j:Int)<(zs:Int):=oM;obtain⟨z,Q⟩:∃z,zs[j]?=K z:=⟨_,an aH⟩;obtain⟨q,eq,hq⟩:=HZ.o z (i7 Q);subst eq;obtain⟨ga,oa,ea,kz⟩:∃ga oa,aV=K ⟨ga,oa,M⟩/\d ⟨ga,oa+j,M⟩=K ↑q:=by
   rcases E.2.2.2 with⟨e0,_⟩|⟨g1,o1,bL,e1,hc⟩
   . omega
   simp only[i8,lB]at e1;exact⟨g1,o1,e1.1,hc j _ (Db Q)⟩
  subst ea;have bu:Ae ((zs.drop j).map Int.toNat=q::(zs.drop (j+1)).map Int.toNat):=by obtain⟨l1,e1⟩:=i6.1 Q;show(zs.drop j).map Int.toNat=_;rw[mD l1,e1,mX,kA]
  rw[bu]at ao aF;have bS:q<s.n:=by have:=aS.o;omega
  have bR:(q:Int)<(s.n:Int):=oM;obtain⟨sh,aJ⟩:∃sh,S[q]?=K sh:=⟨_,an (by have:=HN.o;omega)⟩;obtain⟨gs,os,sa,sc,es,en,ks,bi,bf,bg⟩:=(H.2.2.2.a7 E.2.1 lR).at aJ;clear en;have au:=Av (d5 aJ (d5 bi (d5 bf bg)));clear aJ bi bf bg;have HC:Ae (∀U:Y,Ah d d U->U w=K (Z x p.bO y)/\U ⟨w,1,M⟩=K (Z l p.ej m)/\U ⟨w,2,M⟩=K (Z f1 p.bW f3)/\U ⟨w,3,M⟩=K (Z A p.eD B)/\U ⟨ga,oa+j,M⟩=K ↑q/\U ⟨gs,os+q,M⟩=K (Z sa sh sc)):= λU hU=>by obtain⟨q0,q1,q2,q3⟩:=BP (E.1.a7 hU);exact⟨q0,q1,q2,q3,Au hU kz,Au hU ks⟩
  clear kz ks Q;rw[es];clear es;go_upto_region 13 with fail
  have ED:=Av (F.a7 (At _));refine wp_region_held_drew (S:= λU=>U w=K (Z x p.bO y)/\U ⟨w,1,M⟩=K (Z l p.ej m)/\U ⟨w,2,M⟩=K (Z f1 p.bW f3)/\U ⟨w,3,M⟩=K (Z A p.eD B)/\U ⟨ga,oa+j,M⟩=K ↑q/\U ⟨gs,os+q,M⟩=K (Z sa sh sc)) kR (HC.o _ ED.bd.e8) (λaj=> ?_)
  generalize wr.drew=UD at ED aj⊢;refine AK 0 ?_;refine AK 1 ?_;refine AK 2 ?_;refine AK 3 ?_;refine AK 4 ?_;refine AK 5 ?_;refine AK 6 ?_;refine AK 7 ?_;refine AK 8 ?_;refine AK 9 ?_;refine AK 10 ?_;refine AK 11 ?_;refine AK 12 ?_;refine AK 13 ?_;refine D3 14 ?_;intro KC aT;go_simp;obtain⟨_,bC,bG⟩:=aF.head;refine(Ti S sh ⟨Z x p.bO y,Z l p.ej m,Z f1 p.bW f3,Z A p.eD B⟩ p q UD P p.bW gd p.bW C D sa sc d UD rfl H.1 H.2.1 aq (H.2.2.1.a7 E.2.1 lR) hq au.1 au.2.1 au.2.2.1 au.2.2.2 bG bC ED.bd).mono ?_;rintro e u6 ⟨b,rfl,ht,hf⟩;cases b
  case false=>obtain⟨⟨rc,ra,rv,rd,aX,am⟩,aW⟩:=hf rfl;have L:Ae (¬OP p S):=OP.not (ao.o _ _ _ _ _ (.bad am aX)) aX;have aP:=Av aW;clear ht hf am aW;refine aT.o _ _ (HC.o _ aP) (λaj=> ?_);refine AK 15 ?_;refine wpAnyH_done kR ?_ _;clear aj;go_simp;go_wp2_with fail;go_ret;exact⟨⟨false,rfl,(λe=>by cases e), λe=>absurd e L.o⟩,Ar E.2.1 lR aP⟩
  obtain⟨rv,rd,am,aU⟩:=ht rfl;have EN:=Av (ED.of aU);have bB:=Av am;clear ht hf am aU;refine aT.o _ _ (HC.o _ EN.bd.e8) (λaj=> ?_);refine AK 15 ?_;refine wpAnyH_done kR ?_ _;clear aj;go_simp;have bt:Ae (∀c g a G I,R6 (BM p S) p ((zs.drop (j+1)).map Int.toNat) (C.set q rv) (D.set q rd) c g a G I->QL (BM p S) p c g a G I):= λc g a G I h=>ao.o c g a G I (.step bB h)
  have bx:=Av (aF.next rd);go_wp2_with fail;go_roundw;case rel=>exact⟨j+1,_,_,q::dn,oM,by go_num,bt,bx,EN⟩
  exact oI
theorem CI.kj{a:Y}{base:Nat}{L:List (J×List Int)}(h:CI w base L)(b:Ah w w a):CI a base L:=⟨λx c=>Aw (h.own x c) b lR,h.sep⟩
def BoI(S:List (List (List Int)))(p:MP)(w:Y)(e:Ending)(f:Y):Prop:=∃(c g a:Int) (b d:J) (C D:List Int),e=Al (Am #[c,g,a,b,d])/\QL (BM p S) p c g a C D/\CI f w [(b,C),(d,D)]/\Ah w w f
theorem K9(u:Y)(b:Nat):CI u b [(sN,[]),(sN,[])]:=⟨λx a=>by
 rcases kY.1 a with rfl|a
 . exact lQ _ _ _ _
 . rw[ld.1 a];exact lQ _ _ _ _,by
 refine .cons (λy c=> ?_) (.cons (λy c=>by cases c) .nil);intro g d;cases d⟩
structure XD(w u:Y)(P:Array J):Prop where
 pb:AC u w P 36
 rb:AC u ((w:Nat)+1) #[iZ 0,iZ 0,iZ 0,sN,sN] 55
 e8:Ah w w u
theorem XD.a7{b:Y}(h:XD w u P)(a:Ah u u b):XD w b P:=⟨h.pb.a7 a,h.rb.a7 a,Ar h.e8 lR a⟩
theorem XD.jk(h:XD w u P)(a b c d e:J):Ah w w (Aa (Aa (Aa (Aa (Aa u ⟨(w:Nat)+1,0,M⟩ a) ⟨(w:Nat)+1,1,M⟩ b) ⟨(w:Nat)+1,2,M⟩ c) ⟨(w:Nat)+1,3,M⟩ d) ⟨(w:Nat)+1,4,M⟩ e):=((((h.e8.setCell (by show(w:Nat)<= ↑w+1;omega) _).setCell (by show(w:Nat)<= ↑w+1;omega) _).setCell (by show(w:Nat)<= ↑w+1;omega) _).setCell (by show(w:Nat)<= ↑w+1;omega) _).setCell (by show(w:Nat)<= ↑w+1;omega) _
theorem Mg.a7{s:J}(h:Mg w s fs)(d:Ah w w u):Mg u s fs:=by obtain⟨e,a,b,c⟩:=h;exact⟨e,a,b.a7 d lR,c⟩
theorem GK.new{b W:Y}{r k t s:Ey}{gk ok fc d e:Nat}(h:Ab W b 2 1 (sG d n n) n (Ad As (List.replicate n (0:Int))))(i:Ab W b 2 1 (sG e n n) n (Ad As (List.replicate n (0:Int))))(g:d≠e)(f:Ah b b W):GK b (Ac W (Ak #[.iface 57 (Z s.a s.n s.c),Z r.a r.n r.c,Z k.a k.n k.c,sO gk ok n fc,Z t.a t.n t.c,sG d n n,sG e n n] 107)) W r k t s gk ok fc d n e n n (List.replicate n 0) (List.replicate n 0):=⟨AC.new _ _ _,mK,Aw h (Aq _ _) lR,mK,Aw i (Aq _ _) lR,g,f.size,Ar f lR (Aq _ _)⟩
theorem O6(S:List (List (List Int)))(s:Ey)(v:VP)(p:MP)(w:Y)(hS:Iz w (Z s.a s.n s.c) S)(b7:S.length= ↑p.bW)(hs:p.small)(hw:p.wf)(h:Da w v p)(bf:EP w v.r p.bO)(bi:Mh w v.f p.bW)(bg:Mg w v.f p.bW):
 Ai Ap 23 #[Am #[v.r,v.k,v.f,v.t],.iface 57 (Z s.a s.n s.c)] w (BoI S p w):=by
 have HS:=Av (d5 hS b7);clear hS b7;obtain⟨k0,bj,bx,bB,bC⟩:=lS Bp;have H:=Av (d5 hs (d5 hw (d5 h (d5 bf (d5 bi bg)))));have bK:=hs.bW;obtain⟨r1,r3,Q,R,t1,t3,f1,f3,rfl⟩:=h.sl;clear hs hw h bf bi bg;generalize bq:p.bW.length=l at H bK⊢;have ae:=Av bq;clear bq;generalize p.bO.length=X at H⊢;generalize p.ej.length=T at H⊢;generalize p.eD.length=nt at H⊢;simp only[]at H;have E0:=BL w #[Z r1 X r3,Z Q T R,Z f1 l f3,Z t1 nt t3] #[iZ 0,iZ 0,iZ 0,sN,sN] 36 55;go_enter func23,ntmps23;go_upto_region 1 with fail
 refine Ax (λu=>Ae (XD w u #[Z r1 X r3,Z Q T R,Z f1 l f3,Z t1 nt t3])) ⟨E0.1,E0.2.1,E0.2.2⟩ ?_;rintro U E1;clear E0;obtain⟨p0,p1,p2,p3⟩:=BP E1.pb;go_wp2_with fail;refine(FZ ⟨Z r1 X r3,Z Q T R,Z f1 l f3,Z t1 nt t3⟩ p U H.1 H.2.1 (H.2.2.1.a7 E1.e8 lR) (H.2.2.2.1.a7 E1.e8 lR) (H.2.2.2.2.1.a7 E1.e8 lR)).mono ?_;rintro e u1 ⟨⟨n,rfl,hn⟩,bb⟩;have E2:=Av (E1.a7 bb);clear bb E1 p0 p1 p2 p3;by_cases aP:n=0;case neg=>rw[show MZ n=.iface 149 n from by unfold MZ;rw[kP aP]];have ao:Ae (QL (BM p S) p 1 0 0 [] []):=.inl ⟨λe=>aP (hn.one e),rfl,rfl,rfl,rfl,rfl⟩;clear hn;obtain⟨a0,F,I,L,N⟩:=Pb E2.rb;obtain⟨aE,aF,aG,aH,aI⟩:=Vz E2.rb;go_wp2_with fail;have G:Ae _:=((((E2.rb.set 0 (iZ 1)).set 1 (iZ 0)).set 2 (iZ 0)).set 3 sN).set 4 sN;simp only[lF,lI,lT]at G;clear a0 F I L N;obtain⟨a0,F,I,L,N⟩:=Pb G;exact kQ (v:=Am #[iZ 1,iZ 0,iZ 0,sN,sN]) (by simp[results,results23,go_sem,a0,F,I,L,N]) rfl ⟨1,0,0,sN,sN,[],[],rfl,ao,K9 _ _,E2.jk _ _ _ _ _⟩
 subst aP;rw[show MZ 0=.nilIface from rfl];have aw:=Av hn;clear hn;obtain⟨p0,p1,p2,p3⟩:=BP E2.pb;go_wp2_with fail;refine(My ⟨Z r1 X r3,Z Q T R,Z f1 l f3,Z t1 nt t3⟩ p u1 H.1 H.2.1 (H.2.2.1.a7 E2.e8 lR) (H.2.2.2.1.a7 E2.e8 lR) (H.2.2.2.2.1.a7 E2.e8 lR)).mono ?_;rintro e A ⟨V,zs,rfl,aQ,hO,bb⟩;obtain⟨aV,cV,eV⟩:=AO aQ;subst eV;have au:Ae (zs=BT p.bW):=by
  rcases hO with⟨_,e⟩|⟨e,_⟩
  . exact e
  exact absurd aw.o e
 have HO:Ae (Rd A 1 (Z aV zs cV) zs (Ad As zs)/\∀z∈zs,∃q:Nat,z=(q:Int)/\q<l):=⟨Rd.gM aQ,by rw[au,<-ae];exact(H2 p.bW p.bW [] (λz hz=>by cases hz)).1⟩
 have bV:zs.length<=1048576:=by rw[au];have:=(H2 p.bW p.bW [] (λz hz=>by cases hz)).2;unfold BT;simp at this;have:=ae.o;omega
 have O:=Av (E2.a7 bb);clear aQ hO bb E2 p0 p1 p2 p3;by_cases aR:zs.length=0;case pos=>
  have bL:((zs:Int)==0)=true:=by rw[beq_iff_eq];omega
  have ao:Ae (QL (BM p S) p 2 0 0 [] []):=.inr (.inl ⟨aw,by rw[<-au];exact List.length_eq_zero_iff.1 aR,rfl,rfl,rfl,rfl,rfl⟩);obtain⟨a0,F,I,L,N⟩:=Pb O.rb;obtain⟨aE,aF,aG,aH,aI⟩:=Vz O.rb;go_wp2_with fail;have G:Ae _:=((((O.rb.set 0 (iZ 2)).set 1 (iZ 0)).set 2 (iZ 0)).set 3 sN).set 4 sN;simp only[lF,lI,lT]at G;clear a0 F I L N;obtain⟨a0,F,I,L,N⟩:=Pb G;exact kQ (v:=Am #[iZ 2,iZ 0,iZ 0,sN,sN]) (by simp[results,results23,go_sem,a0,F,I,L,N]) rfl ⟨2,0,0,sN,sN,[],[],rfl,ao,K9 _ _,O.jk _ _ _ _ _⟩
 have bL:((zs:Int)==0)=false:=by rw[nX];omega
 have bI:=Av aR;obtain⟨gk,ok,ef⟩:∃gk ok,f1=K ⟨gk,ok,M⟩:=by
  obtain⟨z,hz⟩:∃z,zs[0]?=K z:=⟨_,an oM⟩;obtain⟨q,_,hq⟩:=HO.2 z (i7 hz);obtain⟨gk,ok,ck,aZ,_⟩:=Io H.2.2.1.bW (an (show q< ↑p.bW by rw[ae];exact hq))
  simp only[i8]at aZ;exact⟨gk,ok,aZ.1⟩
 subst ef;clear aR;have bH:Ae (Iz A (Z s.a s.n s.c) S):=HS.1.a7 O.e8 lR;have aX:Ae (Da A ⟨Z r1 X r3,Z Q T R,sO gk ok p.bW f3,Z t1 nt t3⟩ p/\Mg A (sO gk ok p.bW f3) p.bW):=by rw[ae];exact⟨H.2.2.1.a7 O.e8 lR,H.2.2.2.2.2.a7 O.e8⟩
 obtain⟨p0,p1,p2,p3⟩:=BP O.pb;have aj:(w:Nat)+1<A.heap.size:=O.rb.lt;go_upto_region 6 with fail
 go_cut [6] (λsl wx=>∃KB gC gD:Nat,sl=.pointer KB/\Ae (GK A wx KB ⟨r1,X,r3⟩ ⟨Q,T,R⟩ ⟨t1,nt,t3⟩ s gk ok f3 gC l gD l l (List.replicate l 0) (List.replicate l 0)))
 case first=>
  obtain⟨p0,p1,p2,p3⟩:=BP (O.a7 (At A)).pb;obtain⟨wA,eA,oA,gA⟩:=run_make_full (P:=Ap) A.drew A 46 2 k0 (iZ 0) 1 underlying46 bj bx bB Af Af l (by rw[bC];omega) oX lR;obtain⟨bY,bR,aS,aJ⟩:=run_make_full (P:=Ap) wA A 46 2 k0 (iZ 0) 1 underlying46 bj bx bB Af Af l (by rw[bC];omega) oX gA.size;rw[LG]at oA aS;have bp:(A.drew:Nat)≠wA.heap.size:=by obtain⟨_,bQ,e⟩:=AD oA;have:=(kM.1 e).1;omega
  have bA:Ah A A wA:=Ar (At A) lR (Cn gA);have B:=Av (d5 (Aw oA (Cn aJ) lR) (d5 aS (d5 bp (d5 bA (Ar bA lR (Cn aJ))))));clear oA aS gA aJ bp bA p0 p1 p2 p3;have am:Ae (∀W:Y,Ah A A W->W w=K (Z r1 X r3)/\W ⟨w,1,M⟩=K (Z Q T R)/\W ⟨w,2,M⟩=K (sO gk ok l f3)/\W ⟨w,3,M⟩=K (Z t1 nt t3)):= λW hW=>BP (O.a7 hW).pb
  refine wp_region_held_drew (S:= λW=>W w=K (Z r1 X r3)/\W ⟨w,1,M⟩=K (Z Q T R)/\W ⟨w,2,M⟩=K (sO gk ok l f3)/\W ⟨w,3,M⟩=K (Z t1 nt t3)) kR (am.o _ (At _)) (λah=> ?_)
  refine AK 0 ?_;refine AK 1 ?_;refine AK 2 ?_;refine AK 3 ?_;refine AK 4 ?_;refine AK 6 ?_;refine AK 7 ?_;refine AK 8 ?_;refine wpAnyH_ready (rs:=[5,9]) kR sP ?_;refine AllReadyH.cons rfl (λE m=> ?_) (AllReadyH.cons rfl (λE m=> ?_) AllReadyH.nil);focus
   go_simp;refine m.o _ _ (am.o _ B.2.2.2.1) (λah=> ?_);clear m E;refine D3 9 ?_;intro E m;go_simp;refine m.o _ _ (am.o _ B.2.2.2.2) (λah=> ?_);clear m E;refine AK 10 ?_;refine D3 11 ?_;intro E m;go_simp;refine m.o _ _ (am.o _ (Ar B.2.2.2.2 lR (Aq _ _))) (λah=> ?_);clear m E;refine D3 12 ?_;intro E m;go_simp;refine m.o _ _ (am.o _ (Ar B.2.2.2.2 lR (Aq _ _))) (λah=> ?_);clear m E;refine wpAnyH_done kR ?_ _;clear ah;go_wp2_with fail;go_meet;exact⟨_,_,_,rfl,GK.new (r:=⟨r1,X,r3⟩) (k:=⟨Q,T,R⟩) (t:=⟨t1,nt,t3⟩) (s:=s) (gk:=gk) (ok:=ok) (fc:=f3) B.1 B.2.1 B.2.2.1 B.2.2.2.2⟩
  focus
   go_simp;refine m.o _ _ (am.o _ B.2.2.2.1) (λah=> ?_);clear m E;refine D3 5 ?_;intro E m;go_simp;refine m.o _ _ (am.o _ B.2.2.2.2) (λah=> ?_);clear m E;refine AK 10 ?_;refine D3 11 ?_;intro E m;go_simp;refine m.o _ _ (am.o _ (Ar B.2.2.2.2 lR (Aq _ _))) (λah=> ?_);clear m E;refine D3 12 ?_;intro E m;go_simp;refine m.o _ _ (am.o _ (Ar B.2.2.2.2 lR (Aq _ _))) (λah=> ?_);clear m E;refine wpAnyH_done kR ?_ _;clear ah;go_wp2_with fail;go_meet;exact⟨_,_,_,rfl,GK.new (r:=⟨r1,X,r3⟩) (k:=⟨Q,T,R⟩) (t:=⟨t1,nt,t3⟩) (s:=s) (gk:=gk) (ok:=ok) (fc:=f3) B.2.1 B.1 B.2.2.1.symm B.2.2.2.2⟩
 case rest=>
 obtain⟨KB,gC,gD,rfl,aW⟩:=hcut;clear p0 p1 p2 p3;have aT:Ae (∀c g a C1 D1,R6 (BM p S) p ((zs.drop 0).map Int.toNat) (List.replicate l 0) (List.replicate l 0) c g a C1 D1->QL (BM p S) p c g a C1 D1):= λc g a C1 D1 h=>.inr (.inr ⟨aw, λe=>bI.o (by rw[au,e];rfl),List.replicate l 0,List.replicate l 0,by rw[mK];exact ae.symm,by rw[mK];exact ae.symm,by rw[<-au];exact h⟩)
 go_wp2_with fail;go_loopw [35] (λi wr=>∃(j:Nat) (C D:List Int),j<= ↑zs/\i=iZ j/\Ae (∀c g a C1 D1,R6 (BM p S) p ((zs.drop j).map Int.toNat) C D c g a C1 D1->QL (BM p S) p c g a C1 D1)/\Ae (GK A wr KB ⟨r1,X,r3⟩ ⟨Q,T,R⟩ ⟨t1,nt,t3⟩ s gk ok f3 gC l gD l l C D)) (λi _=> ↑zs-(intOf i).toNat)
 case atStart=>exact⟨0,_,_,oM,rfl,aT,aW⟩
 case round=>
 clear aT aW;obtain⟨j,C,D,hj,rfl,aA,EK⟩:=hrel;by_cases bJ:j< ↑zs
 case neg=>
  have ao:=Av (aA.o _ _ _ _ _ (by rw[nD oM];exact .nil));have E5:=Av (O.a7 EK.e8);have EB:=Av (d5 E5.o EK.o);have bu:=O.e8.size;have bF:Ae (∀x0 x1 x2 x3 x4,CI (Aa (Aa (Aa (Aa (Aa wr ⟨(w:Nat)+1,0,M⟩ x0) ⟨(w:Nat)+1,1,M⟩ x1) ⟨(w:Nat)+1,2,M⟩ x2) ⟨(w:Nat)+1,3,M⟩ x3) ⟨(w:Nat)+1,4,M⟩ x4) w [(sG gC l l,C),(sG gD l l,D)]):= λx0 x1 x2 x3 x4=>⟨λx hx=>by
   rcases kY.1 hx with rfl|hx
   . have:=Br (lP (lP (lP (lP (lP EB.2.c (a:=⟨(w:Nat)+1,0,M⟩) aj x0) (a:=⟨(w:Nat)+1,1,M⟩) aj x1) (a:=⟨(w:Nat)+1,2,M⟩) aj x2) (a:=⟨(w:Nat)+1,3,M⟩) aj x3) (a:=⟨(w:Nat)+1,4,M⟩) aj x4) bu;simp only[EB.2.cl];exact this
   . rw[ld.1 hx];have:=Br (lP (lP (lP (lP (lP EB.2.d (a:=⟨(w:Nat)+1,0,M⟩) aj x0) (a:=⟨(w:Nat)+1,1,M⟩) aj x1) (a:=⟨(w:Nat)+1,2,M⟩) aj x2) (a:=⟨(w:Nat)+1,3,M⟩) aj x3) (a:=⟨(w:Nat)+1,4,M⟩) aj x4) bu;simp only[EB.2.dl];exact this,by
   refine .cons (λy hy=> ?_) (.cons (λy hy=>by cases hy) .nil);rw[ld.1 hy];intro g hg e;(cases hg);(cases e);exact EB.2.ne rfl⟩
  obtain⟨a0,F,I,L,N⟩:=Pb EB.1.rb;obtain⟨aE,aF,aG,aH,aI⟩:=Vz EB.1.rb;obtain⟨_,_,_,_,_,b5,b6⟩:=EB.2.cells;have G:Ae _:=((((E5.rb.set 0 (iZ 0)).set 1 (iZ 0)).set 2 (iZ 0)).set 3 (sG gC l l)).set 4 (sG gD l l);simp only[lF,lI,lT]at G;have G2:=Av (AC.a7 (b:=(w:Nat)+1) (t:=55) G (At _));go_upto_region 14 with fail
  go_region;all_goals go_wp2_with fail
  all_goals clear a0 F I L N
  all_goals obtain⟨a0,F,I,L,N⟩:=Pb G2
  all_goals exact kQ (v:=Am #[iZ 0,iZ 0,iZ 0,sG gC l l,sG gD l l]) (by simp[results,results23,go_sem,a0,F,I,L,N]) rfl ⟨0,0,0,_,_,C,D,rfl,ao,(bF.o _ _ _ _ _).kj (At _),Ar (E5.jk _ _ _ _ _) lR (At _)⟩
 have bT:(j:Int)<(zs:Int):=oM;obtain⟨z,hz⟩:∃z,zs[j]?=K z:=⟨_,an bJ⟩;obtain⟨q,eq,hq⟩:=HO.2 z (i7 hz);subst eq;obtain⟨ga,oa,ea,kz⟩:∃ga oa,aV=K ⟨ga,oa,M⟩/\wr ⟨ga,oa+j,M⟩=K ↑q:=by
  rcases(HO.1.a7 EK.e8 lR).2 with⟨e0,_⟩|⟨g1,o1,bP,e1,hc⟩
  . omega
  simp only[i8,lB]at e1;exact⟨g1,o1,e1.1,hc j _ (Db hz)⟩
 subst ea;have aU:Ae ((zs.drop j).map Int.toNat=q::(zs.drop (j+1)).map Int.toNat):=by obtain⟨l1,e1⟩:=i6.1 hz;show(zs.drop j).map Int.toNat=_;rw[mD l1,e1,mX,kA]
 clear hz;have aY:Ae (Ai Ap 46 #[.pointer KB,q] wr (TkR S p q C D A KB ⟨r1,X,r3⟩ ⟨Q,T,R⟩ ⟨t1,nt,t3⟩ s gk ok f3 gC l gD l l)):=by have:=UQ S p q KB ⟨r1,X,r3⟩ ⟨Q,T,R⟩ ⟨t1,nt,t3⟩ s gk ok f3 gC l gD l C D A wr bH (by have:=HS.2;first|exact this|(rw[this];exact ae.symm)|(rw[this];exact ae)) H.1 H.2.1 aw aX.1 aX.2 (by rw[ae];exact hq) (by rw[ae];exact EK);rw[ae]at this;exact this
 go_wp2_with fail;refine aY.mono ?_;rintro e u5 ⟨rc,ra,rv,rd,C',D',rfl,br,bt,bo⟩;have aq:=Av (d5 br (d5 bt bo));clear br bt bo kz aY;by_cases aM:rc=0;case pos=>
  subst aM;have bG:Ae (∀c g a C1 D1,R6 (BM p S) p ((zs.drop (j+1)).map Int.toNat) C' D' c g a C1 D1->QL (BM p S) p c g a C1 D1):= λc g a C1 D1 h=>aA.o c g a C1 D1 (by obtain⟨rfl,rfl⟩:=aq.2.1 rfl;rw[aU];have e:=aq.1.a0;exact .step (e▸aq.1) h)
  go_wp2_with fail;go_roundw;case rel=>exact⟨j+1,C',D',oM,by go_num,bG,aq.2.2⟩
  exact oI
 have bS:(rc != 0)=true:=by simpa using aM
 have ao:=Av (aA.o _ _ _ _ _ (by rw[aU];exact .bad aq.1 aM));have E5:=Av (O.a7 aq.2.2.e8);obtain⟨a0,F,I,L,N⟩:=Pb E5.rb;obtain⟨aE,aF,aG,aH,aI⟩:=Vz E5.rb;go_wp2_with fail;have G:Ae _:=((((E5.rb.set 0 rc).set 1 q).set 2 ra).set 3 sN).set 4 sN;simp only[lF,lI,lT]at G;clear a0 F I L N;obtain⟨a0,F,I,L,N⟩:=Pb G;exact kQ (v:=Am #[rc,q,ra,sN,sN]) (by simp[results,results23,go_sem,a0,F,I,L,N]) rfl ⟨rc,(q:Int),ra,sN,sN,[],[],rfl,ao,K9 _ _,E5.jk _ _ _ _ _⟩
theorem QY(c g a:Int)(b d:Option Addr)(e c1 f c2:Nat)(W:Y):(Instr.field 55 (Am #[c,g,a,Z b e c1,Z d f c2]) 0).run Ap W=.ok c W:=kR
theorem Mx(S:List (List (List Int)))(s:Ey)(v:VP)(p:MP)(w:Y)(hs:p.small)(hw:p.wf)(h:Da w v p)(ae:EP w v.r p.bO)(aj:Mh w v.f p.bW)(ah:Mg w v.f p.bW)(E:Iz w (Z s.a s.n s.c) S):
 Ai Ap 9 #[Am #[v.r,v.k,v.f,v.t],Z s.a s.n s.c] w λe w'=>AJ e (OP p S)/\Ah w w w':=by
 have hn:s.n=S.length:=by obtain⟨a,c,e⟩:=E.dk;injection e
 have H:=Av (d5 hs (d5 hw (d5 h (d5 ae (d5 aj (d5 ah E))))));obtain⟨y,z,j,l,A,B,f1,f3,rfl⟩:=h.sl;clear hs hw h ae aj ah E;have Q:=Av hn;clear hn;generalize am:p.bW.length=d at H⊢;have R:=Av am;clear am;generalize p.bO.length=q at H⊢;generalize p.ej.length=m at H⊢;generalize p.eD.length=x at H⊢;simp only[]at H;have L:Ae (AC (Ac w (Ak #[Z y q z,Z j m l,Z f1 d f3,Z A x B] 36)) w #[Z y q z,Z j m l,Z f1 d f3,Z A x B] 36/\Ah w w (Ac w (Ak #[Z y q z,Z j m l,Z f1 d f3,Z A x B] 36))):=⟨AC.new _ _ _,Aq _ _⟩
 go_enter func9,ntmps9;go_upto_region 1 with fail
 refine Ax (λu=>Ae (AC u w #[Z y q z,Z j m l,Z f1 d f3,Z A x B] 36/\Ah w w u)) L ?_
 rintro U b;clear L;obtain⟨p0,p1,p2,p3⟩:=BP b.1;by_cases I:s.n=d;case neg=>
  have ao:((s.n:Int)==(d:Int))=false:=oT;have i:Ae (¬OP p S):= λe=>I (by rw[Q,e.1,R])
  go_wp2_with fail;go_ret;exact⟨⟨false,rfl,(λe=>by cases e), λe=>absurd e i.o⟩,b.2⟩
 have ao:((s.n:Int)==(d:Int))=true:=oT;have P:Ae (S.length= ↑p.bW):=by show S.length= ↑p.bW;rw[<-Q,I,R]
 clear I;go_wp2_with fail;refine(O6 S s ⟨Z y q z,Z j m l,Z f1 d f3,Z A x B⟩ p U (H.2.2.2.2.2.2.a7 b.2 lR) P H.1 H.2.1 (H.2.2.1.a7 b.2 lR) (H.2.2.2.1.a7 b.2 lR) (H.2.2.2.2.1.a7 b.2 lR) (H.2.2.2.2.2.1.a7 b.2)).mono ?_;rintro e u1 ⟨c,g,a,vC,vD,C,D,rfl,X,G,T⟩;obtain⟨aC,cC,V⟩:=AO (G.own (vC,C) sP);obtain⟨aD,cD,W⟩:=AO (G.own (vD,D) sP);simp only[]at V W;subst V W;have aq:=QY c g a aC aD C cC D cD;have O:=Av X;have N:=Av (Ar b.2 lR T);clear X G T b p0 p1 p2 p3;by_cases F:c=0;case pos=>subst F;have i:Ae (OP p S):=⟨P,g,a,C,D,O⟩;go_wp2_with fail;go_ret;exact⟨⟨true,rfl, λ_=>i.o, λ_=>rfl⟩,N⟩
 have au:(c==0)=false:=by simpa using F
 have i:Ae (¬OP p S):=OP.not O F;go_wp2_with fail;go_ret;exact⟨⟨false,rfl,(λe=>by cases e), λe=>absurd e i.o⟩,N⟩
end Go.Proofs.YtmalfecapdmdbaaGreat
