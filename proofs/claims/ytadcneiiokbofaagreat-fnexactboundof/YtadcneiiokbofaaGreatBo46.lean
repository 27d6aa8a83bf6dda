import Derived.Test.YtadcneiiokbofaaGreatBo45
namespace Go.Proofs.YtadcneiiokbofaaGreat
open Go.ChangeShapes Go.WideShapes Go.ChangeAt Go.RowKit Go.Proofs.Tryz
set_option linter.unusedVariables false
open Go.Value renaming slice → Z,int → Ag,agg → Am,bool → An
open Option renaming some → K,none → M
open Go renaming Value → J,World → Y,Calls → Ai,TypeId → Aj
open Go.RowKit renaming Hid → Ae,Below → Ah
open Go.IntKind renaming i64 → Af
open Go.Obj renaming cells → Ak
open Go.Ending renaming returned → Al
open Go.Proofs.Tryz renaming prog → Ap
open Go.World renaming setCell → Aa,ownsRow → Ab,alloc → Ac
open List renaming flatMap → Ad
set_option maxHeartbeats 8000000
set_option maxRecDepth 100000
variable {w U u:Y}{r:CS}
theorem Nc(f:MF):(Ba f).length<=1048576:=by unfold Ba;split<;>simp
theorem TX{b:Nat}{t:Aj}{a:Array J}(h:AA w b a t):w.frozen? b=false/\w.frozen? ⟨b,1,M⟩=false/\w.frozen? ⟨b,2,M⟩=false/\w.frozen? ⟨b,3,M⟩=false:=⟨h.frozen 0,h.frozen 1,h.frozen 2,h.frozen 3⟩
theorem JI(u:Y)(c:Nat):I5 u (Z M 0 c) []:=⟨[],rfl,⟨rfl,.inl ⟨rfl,_,_,rfl⟩⟩, λx a=>by cases a⟩
theorem Uj{i l k j:J}(h:DQ w i l k j r):∃d c1 e c2 f c3 g c4,i=Z d r.a8 c1/\l=Z e r.gY c2/\k=Z f r.ig c3/\j=Z g r.gX c4:=by
 obtain⟨d,c1,m⟩:∃a c,i=Z a r.a8 c:=by obtain⟨_,_,b,_⟩:=h.a8;exact b.bW
 obtain⟨e,c2,n⟩:=h.gY.bW;obtain⟨f,c3,p⟩:=h.ig.bW;obtain⟨g,c4,q⟩:∃a c,j=Z a r.gX c:=by obtain⟨_,_,b,_⟩:=h.gX;exact b.bW
 exact⟨d,c1,e,c2,f,c3,g,c4,m,n,p,q⟩
theorem DQ.jn{g:Y}{c f d e:J}(h:DQ w c f d e r){B:Nat}(b:Ah B w g)(a: ↑w<=B):DQ g c f d e r:=⟨h.a8.a7 b a,h.gY.a7 b a,h.ig.a7 b a,h.gX.a7 b a⟩
theorem Il.start{n h f d GF:Nat}{m p z3 q:J}(lb:AA u U #[r.bO,r.at_,m,p,z3,q] 84)(s:Ah U U u)(w:Ab u U 29 1 (Z f n n) n (List.replicate n (Z M 0 0)))(ob:AA u h #[Ag Af 0,Ag Af 0,Ag Af 0,Z f n n] 87)(x:Ab u U 4 1 (Z d r.a8 r.a8) r.a8 (List.replicate r.a8 false))(y:Ab u U 29 1 (Z GF r.a8 r.a8) r.a8 (List.replicate r.a8 (Z M 0 0)))(a:TyB U h f d GF u):Il U (u.setCell d true) n h f d GF u r m p z3 q (List.replicate n (Z M 0 0)) (List.replicate r.a8 (Z M 0 0)) Mq:=by
 have z:=a.h3;have A:=a.h4;have B:=a.h5;have C:=a.h6;have D:=a.h7;refine⟨lb.other oS _,ob.other oS _,lI w (by simp[Value.ownBlock];omega) _,?_,lI y (by simp[Value.ownBlock];omega) _,sP,sP, λj V e=> ?_, λb V e=> ?_,s.setCell oS _,a,by rw[FH];exact Nat.le_refl _⟩
 . have e:(List.replicate r.a8 (Value.bool false)).set 0 (An true)=(List.range r.a8).map λb=>Value.bool (Mq.c b).isSome:=by
    apply nB;intro i;by_cases l:i=0
    . subst l;by_cases g:0<r.a8.length
      . rw[mi (by simpa using g)];simp[Mq,g]
      have v:r.a8.length=0:=oM;rw[v];rfl
    rw[mu (λe=>l e.symm)];by_cases g:i< ↑r.a8
    . simp[Mq,g,l]
    rw[lW (by rw[nH];omega),lW (by rw[mD,m8];omega)]
   rw[<-e];exact(x.stored 0 true).1
 . have k:=List.eq_of_mem_replicate (lA e);subst k;exact Ch.nil _ _
 have k:=List.eq_of_mem_replicate (lA e);subst k;have t:(Mq.c b).getD []=[]:=by simp only[Mq];split<;>rfl
 rw[t];exact Ch.nil _ _
structure YQ(xs:List MI)(r:CS):Prop where
 ie:r.a8=AL xs
 pos:0<r.a8.length
 len:r.gY.length<=1024
 ord:∀z∈r.gY,∃b:Nat,z=(b:Int)/\b< ↑r.a8
 jO:∀(b:Nat) (m:MB),r.a8[b]?=K m->∀z∈m.next,∃t:Nat,z=(t:Int)/\t< ↑r.a8
theorem Il.told{n:Nat}{l c k GF B:Nat}{L N z3 O:J}{b m:List J}{s:WS}(h:Il U u n l c k GF B r L N z3 O b m s){X:Nat}(W:X< ↑U)(F G H I:J):I5 (Aa (Aa (Aa (u.setCell X F) ⟨X,1,M⟩ G) ⟨X,2,M⟩ H) ⟨X,3,M⟩ I) (Z c n n) ((List.range n).map s.t):=by
 have P:=h.tb.h3;have Q:=h.tb.h4;have S:=h.tb.h5;have T:=h.tb.h6;have V:=h.tb.h7;have f:((List.range n).map s.t).length=b.length:=by simp[h.sl]
 refine⟨((List.range n).map s.t).zip b,List.map_fst_zip (Nat.le_of_eq f),?_, λx D=> ?_⟩
 . have e:Ad BH (((List.range n).map s.t).zip b)=b:=by
    have:∀(A:List (List Int)) (R:List J),A.length= ↑R->Ad BH (A.zip R)=R:=by
     intro A;induction A with
     |nil=>intro R h;cases R with|nil=>rfl|cons _ _=>simp at h
     | cons a A E=>intro R h;cases R with
       |nil=>simp at h
       |cons v R=>rw[List.zip_cons_cons,mF,E R (by simpa using h)];rfl
    exact this _ _ f
   rw[e,mD,m8];exact Rd.ij (lV (lV (lV (lV h.sa oS _) oS _) oS _) oS _)
 . obtain⟨j,y⟩:=mJ D;obtain⟨d,p⟩:((List.range n).map s.t)[j]?=K x.1/\b[j]?=K x.2:=List.getElem?_zip_eq_some.1 y
   (have w:s.t j=x.1:=by rw[mE]at d;obtain⟨q,z,C⟩:=m6.1 d;obtain⟨i1,i⟩:=i8.1 z;rw[List.getElem_range]at i;subst i;exact C);have g:=h.rs j x.2 p;rw[w]at g;exact Rd.ij ((((g.set (a:=⟨X,0,M⟩) oS _).set (a:=⟨X,1,M⟩) oS _).set (a:=⟨X,2,M⟩) oS _).set (a:=⟨X,3,M⟩) oS _)
theorem Be.ord{xs:List MI}(h:Be xs r)(a:r.bO=0):YQ xs r:=by
 cases h with
 |none _=>cases a
 |off _ _ _=>cases a
 |lost _ _ _ _ _ _ _ _=>cases a
 |two _ _ _ _ _ _ _ _=>cases a
 | good g x1 o1 v1 s1 d1 b1 i1 l1=>
   obtain⟨l,n,f,j,_⟩:=CA (Es g) (JF g) v1 s1;refine⟨rfl,Es g,?_, λz c=> ?_, λb m i z c=> ?_⟩
   . simp only[];rw[AV,mv,f];exact EM g
   . obtain⟨b,e,rfl⟩:=mG.1 c;exact⟨b,rfl,(j b).1 (m7.1 e)⟩
   obtain⟨d,k⟩:=G4 g i c;exact⟨z.toNat,(oZ d).symm,oS⟩
def YU(w:Y)(p:MP)(b:Int)(e:Ending)(a:Y):Prop:=∃(y:RC) (s:J),e=Al (Am #[y.bO,y.at_,y.depth,s])/\KQ p b y/\I5 a s y.ia/\Ah w w a
theorem Mv{q:Prop}(h:q:=by obtain⟨q0,q1,q2,q3⟩:=A7 E2.2.1;obtain⟨fz0,fz1,fz2,fz3⟩:=TX E2.2.1;go_wp2_with fail;have G:Ae _:=(((E2.2.1.set 0 (Ag Af (6))).set 1 (Ag Af (0))).set 2 (Ag Af (0))).set 3 (Z M 0 0);simp only[lM,lU,lX]at G;clear q0 q1 q2 q3;obtain⟨q0,q1,q2,q3⟩:=A7 G;exact lO (v:=Am #[Ag Af (6),Ag Af (0),Ag Af (0),Z M 0 0]) (by simp[results,results44,go_sem,q0,q1,q2,q3]) rfl ⟨⟨6,0,0,[]⟩,Z M 0 0,rfl,.inl ⟨HN,rfl⟩,JI _ 0,((((E2.2.2.setCell (by simp only[];omega) _).setCell (by simp only[];omega) _).setCell (by simp only[];omega) _).setCell (by simp only[];omega) _)⟩):q:=h
theorem Ni(v:VP)(p:MP)(fi:Int)(w:World)(hs:p.small)(hw:p.wf)(dE:Dv fi)(h:Dm w v p):
 Ai Ap 44 #[Am #[v.r,v.k,v.f,v.t],fi] w (YU w p fi):=by
 obtain⟨r1,r3,k1,k3,t1,t3,f1,f3,rfl⟩:=h.sl
 obtain⟨i0,hi,fS,fT,fU⟩:=mN Br
 obtain⟨j0,hj,fg,fh,fj⟩:=mN D8
 obtain⟨l0,hl,dH,dI,dJ⟩:=mN OR
 have H:Ae (p.small/\p.wf/\Dv fi/\Dm w ⟨Z r1 p.aC r3,Z k1 p.dk k3,Z f1 p.aD f3,Z t1 p.e8 t3⟩ p):=⟨hs,hw,dE,h⟩
 clear hs hw dE h
 have E0:=Bu w #[Z r1 p.aC r3,Z k1 p.dk k3,Z f1 p.aD f3,Z t1 p.e8 t3] #[Ag Af 0,Ag Af 0,Ag Af 0,Z M 0 0] 37 87
 go_enter func44,ntmps44
 go_upto_region 1 with fail
 refine Ax (λu=>Ae (AA u w #[Z r1 p.aC r3,Z k1 p.dk k3,Z f1 p.aD f3,Z t1 p.e8 t3] 37/\AA u ((w:Nat)+1) #[Ag Af 0,Ag Af 0,Ag Af 0,Z M 0 0] 87/\Ah w w u)) E0 ?_
 rintro U0 E1
 clear E0
 obtain⟨p0,p1,p2,p3⟩:=A7 E1.1
 go_wp2_with fail
 refine(Du ⟨Z r1 p.aC r3,Z k1 p.dk k3,Z f1 p.aD f3,Z t1 p.e8 t3⟩ p U0 H.1 H.2.1 (H.2.2.2.a7 E1.2.2 lR)).mono ?_
 rintro e u1 ⟨⟨n,rfl,hn⟩,bb⟩
 have E2:Ae (AA u1 w #[Z r1 p.aC r3,Z k1 p.dk k3,Z f1 p.aD f3,Z t1 p.e8 t3] 37/\AA u1 ((w:Nat)+1) #[Ag Af 0,Ag Af 0,Ag Af 0,Z M 0 0] 87/\Ah w w u1):=⟨E1.1.a7 bb,E1.2.1.a7 bb,Ar E1.2.2 lR bb⟩
 clear bb E1 p0 p1 p2 p3
 clear U0
 have p2:=E2.1.cell 2
 simp only[lE,lC,lF]at p2
 by_cases dL:n=0
 case neg=>
  have HN:Ae (¬PA p fi):= λe=>dL (hn.one e.1)
  clear hn
  exact Mv
 subst dL
 have bg:=Av hn
 clear hn
 by_cases eT:fi<0
 case pos=>
  have HN:Ae (¬PA p fi):= λe=>absurd e.2.1 oM
  have fP:decide (fi<0)=true:=by simpa using eT
  exact Mv
 by_cases fQ:(p.aD:Int)<=fi
 case pos=>
  have HN:Ae (¬PA p fi):= λe=>by
   obtain⟨f,hf,_⟩:=e.2.2
   have:=(i8.1 hf).1
   omega
  exact Mv
 obtain⟨q,rfl⟩:=mA (show 0<=fi from oM)
 obtain⟨f,hf⟩:∃f,p.aD[q]?=K f:=⟨_,an oM⟩
 obtain⟨gk,ok,ck,dp,g,cU,m0,m1,m2,m3⟩:=Hr H.2.2.2.aD hf
 simp only[lB,mB]at dp
 obtain⟨rfl,rfl⟩:=dp
 obtain⟨g1,g3,g4,g6,g7,g9,rfl⟩:=Ec cU
 have gG:(q:Int)<(p.aD:Int):=oM
 have HF:Ae (p.aD[q]?=K f/\f.small/\DF w ⟨Z g1 f.gU g3,Z g4 f.gW g6,Z g7 f.bO g9⟩ f/\0<f.bO.length/\f.wf):=⟨hf,H.1.func f (lA hf),cU,Nat.pos_of_ne_zero (bg.parts.2.2.1.2.2.1 q (i8.1 hf).1 f hf).jq,H.2.1.aD f (lA hf)⟩
 have dd:Ae (p.aD[((q:Nat):Int).toNat]?=K f):=by
  show p.aD[((q:Nat):Int).toNat]?=K f
  rw[lD]
  exact hf
 simp only[]at m0 m1 m2 m3
 rw[<-E2.2.2.cell (g8 m0)]at m0
 rw[<-E2.2.2.cell (g8 m1)]at m1
 rw[<-E2.2.2.cell (g8 m2)]at m2
 rw[<-E2.2.2.cell (g8 m3)]at m3
 clear cU hf
 go_upto_region 4 with fail
 refine Ax (λu=>Ae ((AA u w #[Z r1 p.aC r3,Z k1 p.dk k3,Z (K ⟨gk,ok,M⟩) p.aD f3,Z t1 p.e8 t3] 37/\AA u ((w:Nat)+1) #[Ag Af 0,Ag Af 0,Ag Af 0,Z M 0 0] 87/\Ah w w u)/\AA u u1 #[Z g1 f.gU g3,f.gV,Z g4 f.gW g6,Z g7 f.bO g9] 76)) ⟨⟨E2.1.a7 (Aq _ _),E2.2.1.a7 (Aq _ _),Ar E2.2.2 lR (Aq _ _)⟩,AA.new _ _ _⟩ ?_
 rintro U4 E4
 generalize u1.heap.size=Y at E4⊢
 clear E2 m0 m1 m2 m3 p2
 clear u1
 have y3:=E4.2.cell 3
 simp only[lE,lC,lF]at y3
 go_wp2_with fail
 refine(Fj (Z g7 f.bO g9) f.bO U4 HF.2.1.2.2 (Rd.a7 HF.2.2.1.2.2 E4.1.2.2 lR)).mono ?_
 rintro e U ⟨r,vb,vo,vi,vl,rfl,dF,cT,bb⟩
 obtain⟨v1,c1,v2,c2,N,c3,O,c4,rfl,rfl,rfl,rfl⟩:=Uj cT
 have E5:Ae ((AA U w #[Z r1 p.aC r3,Z k1 p.dk k3,Z (K ⟨gk,ok,M⟩) p.aD f3,Z t1 p.e8 t3] 37/\AA U ((w:Nat)+1) #[Ag Af 0,Ag Af 0,Ag Af 0,Z M 0 0] 87/\Ah w w U)/\AA U Y #[Z g1 f.gU g3,f.gV,Z g4 f.gW g6,Z g7 f.bO g9] 76/\DQ U (Z v1 r.a8 c1) (Z v2 r.gY c2) (Z N r.ig c3) (Z O r.gX c4) r):=⟨⟨E4.1.1.a7 bb,E4.1.2.1.a7 bb,Ar E4.1.2.2 lR bb⟩,E4.2.a7 bb,cT⟩
 have bx:=Av dF
 clear dF cT bb E4 y3
 clear U4
 go_upto_region 5 with fail
 refine Ax (λu=>Ae ((AA u w #[Z r1 p.aC r3,Z k1 p.dk k3,Z (K ⟨gk,ok,M⟩) p.aD f3,Z t1 p.e8 t3] 37/\AA u ((w:Nat)+1) #[Ag Af 0,Ag Af 0,Ag Af 0,Z M 0 0] 87/\Ah w w u)/\AA u Y #[Z g1 f.gU g3,f.gV,Z g4 f.gW g6,Z g7 f.bO g9] 76/\AA u U #[r.bO,r.at_,Z v1 r.a8 c1,Z v2 r.gY c2,Z N r.ig c3,Z O r.gX c4] 84/\Ah U U u)) ⟨⟨E5.1.1.a7 (Aq _ _),E5.1.2.1.a7 (Aq _ _),Ar E5.1.2.2 lR (Aq _ _)⟩,E5.2.1.a7 (Aq _ _),AA.new _ _ _,Aq _ _⟩ ?_
 rintro U6 E6
 obtain⟨y0,y1,y2,y3,y4,y5⟩:=Eg E6.2.2.1
 by_cases aZ:r.bO=0
 case neg=>
  have fK:(r.bO != 0)=true:=by simpa using aZ
  have HN:Ae (¬PA p (q:Int)):= λe=>by
   obtain⟨f',dD,r',f8,eJ⟩:=e.2.2
   rw[dd]at dD
   have ef:=lP dD
   subst ef
   have er:=f8.one bx
   subst er
   exact aZ eJ
  have E7:=Av E6.1
  obtain⟨q0,q1,q2,q3⟩:=A7 E7.2.1
  obtain⟨fz0,fz1,fz2,fz3⟩:=TX E7.2.1
  go_wp2_with fail
  have G:Ae _:=(((E7.2.1.set 0 (Ag Af (6))).set 1 (Ag Af (0))).set 2 (Ag Af (0))).set 3 (Z M 0 0)
  simp only[lM,lU,lX]at G
  clear q0 q1 q2 q3
  obtain⟨q0,q1,q2,q3⟩:=A7 G
  exact lO (v:=Am #[Ag Af (6),Ag Af (0),Ag Af (0),Z M 0 0]) (by simp[results,results44,go_sem,q0,q1,q2,q3]) rfl ⟨⟨6,0,0,[]⟩,Z M 0 0,rfl,.inl ⟨HN,rfl⟩,JI _ 0,((((E7.2.2.setCell oS _).setCell oS _).setCell oS _).setCell oS _)⟩
 rw[aZ]at y0
 have HI:=Av (bx.iq aZ)
 have HO:=Av (bx.ord aZ)
 have gj:r.a8.length<=1024:=HI.nb
 have gq:f.bO.length<=1024:=HI.len
 have x3:=E6.2.1.cell 3
 simp only[lE,lC,lF]at x3
 have I:=Av E5
 clear E5
 have aP:=E6.2.2.2.size
 go_upto_region 8 with(at_make;refine mm _ rfl _ _ 22 rfl U 29 l0 (Z M 0 0) 1 underlying22 hl dH dI Af Af _ _ f.bO rfl rfl rfl rfl (by rw[dJ];omega) oX aP ?_;intro P ae aQ;rw[Fp]at ae)
 obtain⟨j,ce⟩:∃G,G=U6.heap.size:=⟨_,rfl⟩
 obtain⟨x,bH⟩:∃G,G=P.heap.size:=⟨_,rfl⟩
 have E8:Ae (AA (Ac P (Ak #[Ag Af 0,Ag Af 0,Ag Af 0,Z j f.bO f.bO] 87)) U #[r.bO,r.at_,Z v1 r.a8 c1,Z v2 r.gY c2,Z N r.ig c3,Z O r.gX c4] 84/\Ah U U (Ac P (Ak #[Ag Af 0,Ag Af 0,Ag Af 0,Z j f.bO f.bO] 87))/\Ab (Ac P (Ak #[Ag Af 0,Ag Af 0,Ag Af 0,Z j f.bO f.bO] 87)) U 29 1 (Z j f.bO f.bO) f.bO (List.replicate f.bO (Z M 0 0))/\AA (Ac P (Ak #[Ag Af 0,Ag Af 0,Ag Af 0,Z j f.bO f.bO] 87)) x #[Ag Af 0,Ag Af 0,Ag Af 0,Z j f.bO f.bO] 87/\ ↑U<j/\j<x/\x<(Ac P (Ak #[Ag Af 0,Ag Af 0,Ag Af 0,Z j f.bO f.bO] 87)).heap.size):=by
  have b7:=BD aQ
  have aA:=(ae.lt _ rfl).2
  have l6:=E6.2.2.1.lt
  simp only[]at aA
  rw[<-ce]at ae aA
  refine⟨(E6.2.2.1.a7 b7).a7 (Aq _ _),Ar (Ar E6.2.2.2 lR b7) lR (Aq _ _),Aw ae (Aq _ _) lR,by rw[bH];exact AA.new _ _ _,oM,oM,by rw[bH];simp⟩
 rw[<-ce,<-bH]
 refine Ax (λu=>Ae (AA u U #[r.bO,r.at_,Z v1 r.a8 c1,Z v2 r.gY c2,Z N r.ig c3,Z O r.gX c4] 84/\Ah U U u/\Ab u U 29 1 (Z j f.bO f.bO) f.bO (List.replicate f.bO (Z M 0 0))/\AA u x #[Ag Af 0,Ag Af 0,Ag Af 0,Z j f.bO f.bO] 87/\ ↑U<j/\j<x/\x< ↑u)) E8 ?_
 clear ae aQ E6 y0 y1 y2 y3 y4 y5 x3 aP ce bH E8
 clear P U6
 rintro U8 E8
 obtain⟨y0,y1,y2,y3,y4,y5⟩:=Eg E8.1
 have aP:=E8.2.1.size
 go_upto_region 9 with(at_make;refine mm _ rfl _ _ 80 rfl U 4 j0 false 1 underlying80 hj fg fh Af Af _ _ r.a8 rfl rfl rfl rfl (by rw[fj];omega) oX aP ?_;intro P ae aQ;rw[DJ]at ae)
 obtain⟨l,bG⟩:∃G,G=U8.heap.size:=⟨_,rfl⟩
 have E9:Ae (AA P U #[r.bO,r.at_,Z v1 r.a8 c1,Z v2 r.gY c2,Z N r.ig c3,Z O r.gX c4] 84/\Ah U U P/\Ab P U 29 1 (Z j f.bO f.bO) f.bO (List.replicate f.bO (Z M 0 0))/\AA P x #[Ag Af 0,Ag Af 0,Ag Af 0,Z j f.bO f.bO] 87/\ ↑U<j/\j<x/\Ab P U 4 1 (Z l r.a8 r.a8) r.a8 (List.replicate r.a8 false)/\x<l/\l< ↑P):=by
  have b7:=BD aQ
  have aA:=(ae.lt _ rfl).2
  simp only[]at aA
  rw[<-bG]at ae aA
  exact⟨E8.1.a7 b7,Ar E8.2.1 lR b7,Aw E8.2.2.1 b7 lR,E8.2.2.2.1.a7 b7,E8.2.2.2.2.1,E8.2.2.2.2.2.1,ae,by rw[bG];exact E8.2.2.2.2.2.2,aA⟩
 rw[<-bG]
 refine Ax (λu=>Ae (AA u U #[r.bO,r.at_,Z v1 r.a8 c1,Z v2 r.gY c2,Z N r.ig c3,Z O r.gX c4] 84/\Ah U U u/\Ab u U 29 1 (Z j f.bO f.bO) f.bO (List.replicate f.bO (Z M 0 0))/\AA u x #[Ag Af 0,Ag Af 0,Ag Af 0,Z j f.bO f.bO] 87/\ ↑U<j/\j<x/\Ab u U 4 1 (Z l r.a8 r.a8) r.a8 (List.replicate r.a8 false)/\x<l/\l< ↑u)) E9 ?_
 clear ae aQ E8 y0 y1 y2 y3 y4 y5 aP bG E9
 clear P U8
 rintro U9 E9
 obtain⟨y0,y1,y2,y3,y4,y5⟩:=Eg E9.1
 have aP:=E9.2.1.size
 go_upto_region 10 with(at_make;refine mm _ rfl _ _ 22 rfl U 29 l0 (Z M 0 0) 1 underlying22 hl dH dI Af Af _ _ r.a8 rfl rfl rfl rfl (by rw[dJ];omega) oX aP ?_;intro P ae aQ;rw[Fp]at ae)
 obtain⟨GF,bZ⟩:∃G,G=U9.heap.size:=⟨_,rfl⟩
 have bu:Ae (Il U (P.setCell l true) f.bO x j l GF P r (Z v1 r.a8 c1) (Z v2 r.gY c2) (Z N r.ig c3) (Z O r.gX c4) (List.replicate f.bO (Z M 0 0)) (List.replicate r.a8 (Z M 0 0)) Mq/\P l=K ↑false/\P.frozen? l=false):=by
  have b7:=BD aQ
  have aA:=(ae.lt _ rfl).2
  simp only[]at aA
  rw[<-bZ]at ae aA
  have cI:=Aw E9.2.2.2.2.2.2.1 b7 lR
  refine⟨Il.start (E9.1.a7 b7) (Ar E9.2.1 lR b7) (Aw E9.2.2.1 b7 lR) (E9.2.2.2.1.a7 b7) cI ae ⟨E9.2.2.2.2.1,E9.2.2.2.2.2.1,E9.2.2.2.2.2.2.2.1,by have:=E9.2.2.2.2.2.2.2.2;omega,aA⟩,?_,cI.frozenAt 0⟩
  have:=cI.cellAt 0 (by simp;exact HO.pos)
  simpa[HO.pos]using this
 rw[<-bZ]
 obtain⟨B,eB⟩:∃B,B=P.heap.size:=⟨_,rfl⟩
 rw[<-eB]at bu
 clear ae aQ E9 y0 y1 y2 y3 y4 y5 aP bZ eB
 obtain⟨fk,fp⟩:=bu.2
 have gE:(0:Int)<(r.a8:Int):=by have:=HO.pos;omega
 have gy:=HO.pos
 go_upto_region 11 with fail
 refine Ax (λu=>Ae (Il U u f.bO x j l GF B r (Z v1 r.a8 c1) (Z v2 r.gY c2) (Z N r.ig c3) (Z O r.gX c4) (List.replicate f.bO (Z M 0 0)) (List.replicate r.a8 (Z M 0 0)) Mq)) bu.1 ?_
 clear bu fk fp
 clear P U9
 rintro fD d6
 obtain⟨aF,du⟩:∃R,R=FU p f r.a8 (r.gY.map Int.toNat) Mq:=⟨_,rfl⟩
 have dh:=Av du.symm
 clear du
 have bB:Ae (KQ p ((q:Nat):Int) (Q1 f.bO aF)):=.inr ⟨bg,Int.natCast_nonneg _,f,r,dd,bx,aZ,by rw[dh]⟩
 go_wp2_with fail
 go_loopw [10] (λi wr=>∃(k:Nat) (RS L:List J) (s:WS),k<= ↑r.gY/\i=Ag Af k/\Ae (FU p f r.a8 ((r.gY.map Int.toNat).drop k) s=aF/\(∀b sh,s.c b=K sh-> ↑sh<=s.d)/\s.d<=64)/\Ae (Il U wr f.bO x j l GF B r (Z v1 r.a8 c1) (Z v2 r.gY c2) (Z N r.ig c3) (Z O r.gX c4) RS L s)) (λi _=> ↑r.gY-(intOf i).toNat)
 case atStart=>exact⟨0,_,_,Mq,oM,rfl,⟨dh, λb sh e=>by simp only[Mq]at e⊢;split at e<;>simp at e;subst e;simp,by simp[Mq]⟩,d6⟩
 case round=>
 clear d6
 obtain⟨k,RS,L,s,hk,rfl,HS,E⟩:=hrel
 have gu:r.gY.length<=1024:=HO.len
 by_cases eZ:k< ↑r.gY
 case pos=>
  obtain⟨z,hz⟩:∃z,r.gY[k]?=K z:=⟨_,an eZ⟩
  obtain⟨b,ez,hb⟩:=HO.ord z (lA hz)
  obtain⟨m,hm⟩:∃m,r.a8[b]?=K m:=⟨_,an hb⟩
  obtain⟨Q,me,cg,cj,fY,gh⟩:=HI.ie b m hm
  obtain⟨gb,ob,xa,xc,ev,x0,x1,x2,bt⟩:=Oy I.2.2.a8 hm
  subst ev
  rw[cg,<-E.ej.cell (g8 x0)]at x0
  rw[cj,<-E.ej.cell (g8 x1)]at x1
  rw[<-E.ej.cell (g8 x2)]at x2
  rcases I.2.2.gY.2 with⟨q0,_⟩|⟨gd,od,cd,q1,dz⟩
  . omega
  simp only[lB,mB]at q1
  obtain⟨rfl,rfl⟩:=q1
  have z0:=Rd.elem Ay dz k z hz 0 _ rfl
  rw[mO,lJ,ez]at z0
  have A:Ae (r.gY[k]?=K z/\z=(b:Int)/\r.a8[b]?=K m/\m.gZ=(Q:Int)/\m.last=(me:Int)/\Ux U (Z xa m.next xc) m/\U ⟨gd,od+k,M⟩=K ↑b):=⟨hz,ez,hm,cg,cj,bt,z0⟩
  rw[<-E.ej.cell (g8 z0)]at z0
  clear dz hz ez hm cg cj bt
  have fI:(b:Int)<(r.a8:Int):=oM
  obtain⟨y0,y1,y2,y3,y4,y5⟩:=Eg E.lb
  clear y0 y1 y4 y5
  have s1:¬(U:Nat)=wr.heap.size:=mR (g8 y2)
  have s2:(U:Nat)<wr.heap.size:=g8 y2
  have s5:¬gb=wr.heap.size:=mR (g8 x0)
  have s6:gb<wr.heap.size:=g8 x0
  have s7:¬gd=wr.heap.size:=mR (g8 z0)
  have s8:gd<wr.heap.size:=g8 z0
  go_upto_region 14 with fail
  go_region
  refine AY (λu=>Ae (Il U u f.bO x j l GF B r (Z (K ⟨gb,ob,M⟩) r.a8 c1) (Z (K ⟨gd,od,M⟩) r.gY c2) (Z N r.ig c3) (Z O r.gX c4) RS L s/\AA u wr #[Q,me,Z xa m.next xc] 90)) ?_ ?_
  . exact⟨(E.a7 (Aq _ _)).a7 (At _),(AA.new wr _ _).a7 (At _)⟩
  rintro aT F1
  have eR:B<=wr.heap.size:=E.sz
  generalize wr.heap.size=XB at F1 eR⊢
  clear s1 s2 s5 s6 s7 s8 x0 x1 x2 z0 y2 y3 E
  obtain⟨V0,cG⟩:∃V,L[b]?=K V:=⟨_,an (by rw[F1.1.fl];exact hb)⟩
  have dO:=F1.1.ki b V0 cG
  have c9:=F1.1.fa.cellAt b oM
  rw[cG]at c9
  have z0:=A.2.2.2.2.2.2
  rw[<-F1.1.ej.cell (g8 z0)]at z0
  obtain⟨y0,y1,y2,y3,y4,y5⟩:=Eg F1.1.lb
  have gJ:((s.c b).getD []).length<=64:=by
   cases e:s.c b with
   |none=>simp
   | some sh=>
     have h1:=HS.2.1 b sh e
     have h2:=HS.2.2
     simp only[ov]
     omega
  have dx:=F1.1.sz
  have s7:¬gd=aT.heap.size:=mR (g8 z0)
  have s8:gd<aT.heap.size:=g8 z0
  have s9:¬GF=aT.heap.size:=mR (g8 c9)
  have fv:GF<aT.heap.size:=g8 c9
  have fw:¬(U:Nat)=aT.heap.size:=mR (g8 y3)
  have fy:(U:Nat)<aT.heap.size:=g8 y3
  go_upto_region 16 with(at_builtin;refine Q7 rfl _ _ rfl aT B B V0 ((s.c b).getD []) rfl rfl dO dx oM ?_;intro fA fB dP bV)
  refine Ax (λu=>Ae ((Il U u f.bO x j l GF B r (Z (K ⟨gb,ob,M⟩) r.a8 c1) (Z (K ⟨gd,od,M⟩) r.gY c2) (Z N r.ig c3) (Z O r.gX c4) RS L s/\AA u XB #[Q,me,Z xa m.next xc] 90)/\Ch u B fA ((s.c b).getD []))) ⟨⟨F1.1.a7 bV,F1.2.a7 bV⟩,dP⟩ ?_
  clear dP bV dO c9 z0 y0 y1 y2 y3 y4 y5 dx s7 s8 s9 fv fw fy F1 cG
  clear fB
  rintro fE F2
  obtain⟨R0,dt⟩:∃R,R=CY p f (me+1-Q) Q ((s.c b).getD []) s.t s.d:=⟨_,rfl⟩
  have aX:=Av dt.symm
  clear dt
  have di:Ae (((s.c b).getD []).length<=s.d):=by
   show((s.c b).getD []).length<=s.d
   cases e:s.c b with
   |none=>simp
   |some sh=>exact HS.2.1 b sh e
  obtain⟨x0,x1,x2⟩:=B9 F2.1.2
  go_wp2_with fail
  go_loopw [12,13] (λV i wr=>∃(d:Nat) (RS:List J) (sh:List Int) (T:Nat->List Int) (D:Nat),Q<=d/\d<=me+1/\i=Ag Af d/\Ae ((CY p f (me+1-d) d sh T D=R0\/(d=me+1/\R0=.inr ([],T,D)/\m.next=[]))/\ ↑sh<=D/\D<=64/\s.d<=D/\Ch wr B V sh)/\Ae (Il U wr f.bO x j l GF B r (Z (K ⟨gb,ob,M⟩) r.a8 c1) (Z (K ⟨gd,od,M⟩) r.gY c2) (Z N r.ig c3) (Z O r.gX c4) RS L ⟨s.c,T,D⟩/\AA wr XB #[Q,me,Z xa m.next xc] 90)) (λ_ i _=>me+1-(intOf i).toNat)
  case atStart=>exact⟨Q,RS,_,s.t,s.d,oM,oM,rfl,⟨.inl aX,di,HS.2.2,Nat.le_refl _,F2.2⟩,F2.1⟩
  case round=>
  clear F2 x0 x1 x2 di
  obtain⟨d,am,sh,T,D,fM,fN,rfl,HK,F⟩:=hrel
  obtain⟨x0,x1,x2⟩:=B9 F.2
  have gI:sh.length<=64:=lQ HK.2.1 HK.2.2.1
  by_cases dK:d<=me
  case pos=>
   have eY:(d:Int)<=(me:Int):=oM
   have dw:CY p f (me+1-d) d sh T D=R0:=HK.1.elim id λe=>absurd e.1 oM
   obtain⟨⟨yo,ya,yb,yc⟩,dT⟩:∃y,f.bO[d]?=K y:=⟨_,an oM⟩
   have HY:Ae (f.bO[d]?=K ⟨yo,ya,yb,yc⟩/\CY p f (me+1-d) d sh T D=R0):=⟨dT,dw⟩
   clear dw dT
   have fO:(d:Int)<(f.bO:Int):=oM
   obtain⟨o0,o1,o2,o3⟩:=A7 F.1.ob
   go_upto_region 19 with fail
   have dR:=F.1.sa.cellAt d oM
   have fd:=F.1.sa.frozenAt d
   obtain⟨V1,dy⟩:∃V,am[d]?=K V:=⟨_,an (by rw[F.1.sl];omega)⟩
   rw[dy]at dR
   obtain⟨X,vc,eV⟩:=AF HK.2.2.2.2
   subst eV
   have aJ:Ae (Il U wr.drew f.bO x j l GF B r (Z (K ⟨gb,ob,M⟩) r.a8 c1) (Z (K ⟨gd,od,M⟩) r.gY c2) (Z N r.ig c3) (Z O r.gX c4) am L ⟨s.c,T,D⟩/\AA wr.drew XB #[Q,me,Z xa m.next xc] 90/\Ch wr.drew B (Z X sh vc) sh):=⟨F.1.a7 (At _),F.2.a7 (At _),HK.2.2.2.2.a7 (At _)⟩
   have dq:B<=wr.drew.heap.size:=aJ.1.sz
   have bo:wr.drew ⟨x,3,M⟩=K (Z j f.bO f.bO):=aJ.1.ob.cell 3
   refine wp_region_held_drew (S:= λw'=>w' ⟨x,3,M⟩=K (Z j f.bO f.bO)) kR bo (λbI=> ?_)
   refine AH 0 ?_
   refine AH 1 ?_
   refine AH 2 ?_
   refine AH 4 ?_
   refine CX 3 ?_
   intro KC aM
   go_simp
   refine aM.o _ _ (by have:=(aJ.1.a7 (Aq wr.drew (Ak #[] 2))).ob.cell 3;exact this) (λbI=> ?_)
   clear aM KC
   refine CX 5 ?_
   intro KC aM
   refine Ur rfl _ _ rfl wr.drew B B (Z X sh vc) sh oE oE aJ.2.2 dq oM ?_
   intro gT cZ cW bC
   obtain⟨aG,aH,eu⟩:=AF cW
   subst eu
   have aq:=Av (d5 (aJ.1.a7 bC) (d5 (aJ.2.1.a7 bC) (aJ.2.2.a7 bC)))
   go_simp
   refine aM.o _ _ (by have:=aq.1.ob.cell 3;exact this) (λbI=> ?_)
   clear aM KC
   refine AH 6 ?_
   refine CX 7 ?_
   intro KC aM
   have dm:=aq.1.sa.cellAt d oM
   rw[dy]at dm
   have fC:=aq.1.sa.frozenAt d
   have bP:Ae (Il U (Aa cZ ⟨j,d,M⟩ (Z aG sh aH)) f.bO x j l GF B r (Z (K ⟨gb,ob,M⟩) r.a8 c1) (Z (K ⟨gd,od,M⟩) r.gY c2) (Z N r.ig c3) (Z O r.gX c4) (am.set d (Z aG sh aH)) L ⟨s.c,CR T d sh,D⟩/\AA (Aa cZ ⟨j,d,M⟩ (Z aG sh aH)) XB #[Q,me,Z xa m.next xc] 90/\Ch (Aa cZ ⟨j,d,M⟩ (Z aG sh aH)) B (Z X sh vc) sh):=by
    have t3:=aq.1.tb.h4
    have t4:=aq.1.tb.h5
    have t5:=aq.1.tb.h6
    have t6:=aq.1.tb.h7
    exact⟨aq.1.iO cW,aq.2.1.other oS _,aq.2.2.set oS _⟩
   go_simp
   refine aM.o _ _ (by have:=bP.1.ob.cell 3;exact this) (λbI=> ?_)
   clear aM KC
   refine wpAnyH_done kR ?_ _
   go_upto_region 20 with fail
   refine Ax (λu=>Ae (Il U u f.bO x j l GF B r (Z (K ⟨gb,ob,M⟩) r.a8 c1) (Z (K ⟨gd,od,M⟩) r.gY c2) (Z N r.ig c3) (Z O r.gX c4) (am.set d (Z aG sh aH)) L ⟨s.c,CR T d sh,D⟩/\AA u XB #[Q,me,Z xa m.next xc] 90/\Ch u B (Z X sh vc) sh)) bP ?_
   clear bI bP aq aJ cW bC dm fC dq bo o0 o1 o2 o3 dR fd x0 x1 x2 F
   rintro bj F
   have dU:=HF.2.2.1
   have au:Ah w w bj:=Ar I.1.2.2 lR F.1.ej
   rcases dU.2.2.2 with⟨q0,_⟩|⟨gc,oc,cc,q1,br⟩
   . omega
   simp only[lB,mB]at q1
   have HQ:=Av q1.1
   have w0:=Rd.elem MI.dr br d _ HY.1 0 _ rfl
   have w1:=Rd.elem MI.dr br d _ HY.1 1 _ rfl
   have w2:=Rd.elem MI.dr br d _ HY.1 2 _ rfl
   have w3:=Rd.elem MI.dr br d _ HY.1 3 _ rfl
   rw[<-au.cell (g8 w0),lJ]at w0
   rw[<-au.cell (g8 w1)]at w1
   rw[<-au.cell (g8 w2)]at w2
   rw[<-au.cell (g8 w3)]at w3
   simp only[]at w0 w1 w2 w3
   have aY:=(I.2.1.a7 F.1.ej).cell 3
   simp only[lE,lC,lF,HQ.o]at aY
   clear br q1 dU
   have s1:¬gc=bj.heap.size:=mR (g8 w0)
   have s2:gc<bj.heap.size:=g8 w0
   go_upto_region 21 with fail
   refine Ax (λu=>Ae ((Il U u f.bO x j l GF B r (Z (K ⟨gb,ob,M⟩) r.a8 c1) (Z (K ⟨gd,od,M⟩) r.gY c2) (Z N r.ig c3) (Z O r.gX c4) (am.set d (Z aG sh aH)) L ⟨s.c,CR T d sh,D⟩/\AA u XB #[Q,me,Z xa m.next xc] 90/\Ch u B (Z X sh vc) sh)/\AA u bj #[yo,ya,yb,yc] 79)) ⟨⟨F.1.a7 (Aq _ _),F.2.1.a7 (Aq _ _),F.2.2.a7 (Aq _ _)⟩,AA.new _ _ _⟩ ?_
   clear w0 w1 w2 w3 aY s1 s2 F au
   rintro dj F
   generalize bj.heap.size=IB at F⊢
   obtain⟨w0,w1,w2,w3⟩:=A7 F.2
   have df:=Av (bg.iY HF.1 HY.1)
   have au:=Av (Ar I.1.2.2 lR F.1.1.ej)
   by_cases bK:yo=29
   case pos=>
    subst bK
    obtain⟨cu,cw,cA,aY⟩:=A7 (I.2.1.a7 F.1.1.ej)
    go_wp2_with fail
    refine(OT ⟨Z g1 f.gU g3,Z g4 f.gW g6,Z g7 f.bO g9⟩ f dj (HF.2.2.1.a7 au lR)).mono ?_
    rintro e aI ⟨s5,rfl,dN,bF⟩
    have aW:Ae (Il U aI f.bO x j l GF B r (Z (K ⟨gb,ob,M⟩) r.a8 c1) (Z (K ⟨gd,od,M⟩) r.gY c2) (Z N r.ig c3) (Z O r.gX c4) (am.set d (Z aG sh aH)) L ⟨s.c,CR T d sh,D⟩/\AA aI XB #[Q,me,Z xa m.next xc] 90/\Ch aI B (Z X sh vc) sh/\Rd aI 1 s5 (Ba f).length (Ad As (Ba f))):=⟨F.1.1.a7 bF,F.1.2.1.a7 bF,F.1.2.2.a7 bF,dN⟩
    clear dN bF F w0 w1 w2 w3 cu cw cA aY au
    go_wp2_with fail
    refine(GY (Z X sh vc) s5 sh (Ba f) aI oM (Nc f) (Rd.ij aW.2.2.1) aW.2.2.2).mono ?_
    rintro e gQ ⟨⟨bb,rfl,bp⟩,cY⟩
    obtain⟨m4,rfl⟩:=cY
    have aE:Ae (Il U (aI.drewN m4) f.bO x j l GF B r (Z (K ⟨gb,ob,M⟩) r.a8 c1) (Z (K ⟨gd,od,M⟩) r.gY c2) (Z N r.ig c3) (Z O r.gX c4) (am.set d (Z aG sh aH)) L ⟨s.c,CR T d sh,D⟩/\AA (aI.drewN m4) XB #[Q,me,Z xa m.next xc] 90/\Ch (aI.drewN m4) B (Z X sh vc) sh):=⟨aW.1.a7 (AB _ _ _),aW.2.1.a7 (AB _ _ _),aW.2.2.1.a7 (AB _ _ _)⟩
    have bf:=Av bp
    clear bp aW
    generalize aI.drewN m4=fF at aE⊢
    have ah:CY p f (me+1-d) d sh T D=R0:=HY.2
    rw[Kd HY.1 dK]at ah
    cases bb
    case false=>
     have cR:¬sh=Ba f:= λe=>by have:=bf.2 e;cases this
     have bq:BJ p f ⟨29,ya,yb,yc⟩ sh=5:=by unfold BJ;rw[lZ rfl,lS cR]
     have aw:Ae (aF=.inl (5,d)):=by
      refine JQ.bad HS.1 A.1 A.2.1 A.2.2.1 A.2.2.2.1 A.2.2.2.2.1 ?_
      rw[aX,<-ah,bq,lS dC]
     clear ah bq cR
     obtain⟨q0,q1,q2,q3⟩:=A7 (I.1.2.1.a7 aE.1.ej)
     obtain⟨fz0,fz1,fz2,fz3⟩:=TX (I.1.2.1.a7 aE.1.ej)
     go_wp2_with fail
     have G:Ae _:=((((I.1.2.1.a7 aE.1.ej).set 0 (Ag Af (5))).set 1 (Ag Af ((d:Int)))).set 2 (Ag Af (0))).set 3 (Z M 0 0)
     simp only[lM,lU,lX]at G
     clear q0 q1 q2 q3
     obtain⟨q0,q1,q2,q3⟩:=A7 G
     exact lO (v:=Am #[Ag Af (5),Ag Af ((d:Int)),Ag Af (0),Z M 0 0]) (by simp[results,results44,go_sem,q0,q1,q2,q3]) rfl ⟨⟨5,(d:Int),0,[]⟩,Z M 0 0,rfl,by have:=bB.o;rw[aw]at this;exact this,JI _ 0,(((((Ar I.1.2.2 lR aE.1.ej).setCell oS _).setCell oS _).setCell oS _).setCell oS _)⟩
    case true=>
     have dB:sh=Ba f:=bf.1 rfl
     have bq:BJ p f ⟨29,ya,yb,yc⟩ sh=0:=by unfold BJ;rw[lZ rfl,lZ dB]
     have dM:Dt p f ⟨29,ya,yb,yc⟩ sh=[]:=by unfold Dt;rw[lZ rfl]
     have cH:(AL f.bO)[b]?=K m:=by rw[<-HO.ie];exact A.2.2.1
     have cM:d=me:=by
      apply mr
      intro cR
      exact VY cH HY.1 (by rw[A.2.2.2.1];omega) (by rw[A.2.2.2.2.1];omega) rfl
     have aw:Ae (R0=.inr ([],CR T d sh,D)/\m.next=[]):=by
      refine⟨?_,VZ cH (A.2.2.2.2.1.trans (by rw[cM])) HY.1 rfl⟩
      rw[<-ah,bq,lZ rfl,dM,Mj oM]
      simp
     have o2:=aE.1.ob.cell 2
     simp only[lE,lC,lF]at o2
     have eM:¬(D:Int)<(sh:Int):=by have:=HK.2.1;omega
     clear ah bq dM cH dB
     go_wp2_with fail
     go_roundw
     case rel=>exact⟨d+1,_,sh,CR T d sh,D,oM,oM,by go_num,⟨.inr ⟨oM,aw.1,aw.2⟩,HK.2.1,HK.2.2.1,HK.2.2.2.1,aE.2.2⟩,aE.1,aE.2.1⟩
     exact oI
   case neg=>
    have gw:(yo==29)=false:=by simp[bK]
    obtain⟨p0,p1,p2,p3⟩:=A7 (I.1.1.a7 F.1.1.ej)
    obtain⟨cu,cw,cA,aY⟩:=A7 (I.2.1.a7 F.1.1.ej)
    go_wp2_with fail
    have bR:=Qf bg df
    refine(Sd ⟨Z r1 p.aC r3,Z k1 p.dk k3,Z (K ⟨gk,ok,M⟩) p.aD f3,Z t1 p.e8 t3⟩ p ⟨Z g1 f.gU g3,Z g4 f.gW g6,Z g7 f.bO g9⟩ f ⟨yo,ya,yb,yc⟩ (Z X sh vc) sh dj H.1 bg.parts.1.1 HF.2.1 (HF.2.2.2.2.bO _ (lA HY.1)) (H.2.2.2.a7 au lR) (HF.2.2.1.a7 au lR) df (Rd.ij F.1.2.2) oM (λa c e=>by obtain⟨a',c',e',fJ⟩:=Md F.1.2.2;rw[e]at e';simp only[lB]at e';omega) bR.1 bR.2).mono ?_
    clear bR
    rintro e bL ⟨dY,rfl,dQ,bY⟩
    have aj:Ae (Il U bL f.bO x j l GF B r (Z (K ⟨gb,ob,M⟩) r.a8 c1) (Z (K ⟨gd,od,M⟩) r.gY c2) (Z N r.ig c3) (Z O r.gX c4) (am.set d (Z aG sh aH)) L ⟨s.c,CR T d sh,D⟩/\AA bL XB #[Q,me,Z xa m.next xc] 90):=⟨F.1.1.a7 bY,F.1.2.1.a7 bY⟩
    have bi:Ae (Cf p f ⟨yo,ya,yb,yc⟩ sh=0->Ch bL B dY (FR p f ⟨yo,ya,yb,yc⟩ sh)):= λe=>A9 (dQ e) F.1.1.sz
    have aS:Ae (BJ p f ⟨yo,ya,yb,yc⟩ sh=Cf p f ⟨yo,ya,yb,yc⟩ sh/\Dt p f ⟨yo,ya,yb,yc⟩ sh=FR p f ⟨yo,ya,yb,yc⟩ sh/\(Cf p f ⟨yo,ya,yb,yc⟩ sh=0->(FR p f ⟨yo,ya,yb,yc⟩ sh).length<=64)):=⟨by unfold BJ;rw[lS bK],by unfold Dt;rw[lS bK],Kz⟩
    have ah:CY p f (me+1-d) d sh T D=R0:=HY.2
    rw[Kd HY.1 dK,aS.1,aS.2.1]at ah
    clear dQ bY F w0 w1 w2 w3 cu cw cA aY p0 p1 p2 p3 au
    generalize Cf p f ⟨yo,ya,yb,yc⟩ sh=cc at bi aS ah⊢
    generalize FR p f ⟨yo,ya,yb,yc⟩ sh=oo at bi aS ah⊢
    by_cases cJ:cc=0
    case neg=>
     have fL:(cc != 0)=true:=by simpa using cJ
     have aw:Ae (aF=.inl (cc,d)):=by
      refine JQ.bad HS.1 A.1 A.2.1 A.2.2.1 A.2.2.2.1 A.2.2.2.2.1 ?_
      rw[aX,<-ah,lS cJ]
     clear ah bi aS
     obtain⟨q0,q1,q2,q3⟩:=A7 (I.1.2.1.a7 aj.1.ej)
     obtain⟨fz0,fz1,fz2,fz3⟩:=TX (I.1.2.1.a7 aj.1.ej)
     go_wp2_with fail
     have G:Ae _:=((((I.1.2.1.a7 aj.1.ej).set 0 (Ag Af (cc))).set 1 (Ag Af ((d:Int)))).set 2 (Ag Af (0))).set 3 (Z M 0 0)
     simp only[lM,lU,lX]at G
     clear q0 q1 q2 q3
     obtain⟨q0,q1,q2,q3⟩:=A7 G
     exact lO (v:=Am #[Ag Af (cc),Ag Af ((d:Int)),Ag Af (0),Z M 0 0]) (by simp[results,results44,go_sem,q0,q1,q2,q3]) rfl ⟨⟨cc,(d:Int),0,[]⟩,Z M 0 0,rfl,by have:=bB.o;rw[aw]at this;exact this,JI _ 0,(((((Ar I.1.2.2 lR aj.1.ej).setCell oS _).setCell oS _).setCell oS _).setCell oS _)⟩
    case pos=>
     subst cJ
     rw[lZ rfl]at ah
     have dg:Ae _:=ah
     have cX:=bi.o rfl
     obtain⟨dZ,ft,eF⟩:=AF cX
     subst eF
     have bS:Ae (Ch bL B (Z dZ oo ft) oo/\oo.length<=64):=⟨cX,aS.2.2 rfl⟩
     have f7:oo.length<=64:=bS.2
     clear ah cX bi aS
     obtain⟨o0,o1,o2,o3⟩:=A7 aj.1.ob
     have gM:=aj.1.ob.frozen 2
     by_cases eM:(D:Int)<(oo:Int)
     case pos=>
      go_wp2_with fail
      go_roundw
      case rel=>
       have cQ:max D oo=oo.length:=oM
       have t5:=aj.1.tb.h5
       have t6:=aj.1.tb.h6
       have t7:=aj.1.tb.h7
       exact⟨d+1,_,oo,CR T d sh,oo,oM,oM,by go_num,⟨.inl (by have:=dg.o;rw[cQ]at this;exact this),Nat.le_refl _,f7,by have:=HK.2.2.2.1;omega,bS.1.set oS _⟩,aj.1.jl oo,aj.2.other oS _⟩
      case measure=>exact oI
     case neg=>
      go_wp2_with fail
      go_roundw
      case rel=>
       have cQ:max D oo=D:=oM
       exact⟨d+1,_,oo,CR T d sh,D,oM,oM,by go_num,⟨.inl (by have:=dg.o;rw[cQ]at this;exact this),oM,HK.2.2.1,HK.2.2.2.1,bS.1⟩,aj.1,aj.2⟩
      case measure=>exact oI
  case neg=>
   have cM:d=me+1:=oM
   have eY:¬(d:Int)<=(me:Int):=oM
   have d8:Ae (JQ p f r.a8 ((r.gY.map Int.toNat).drop (k+1)) me ((m.next.map Int.toNat).drop 0) sh s.c T D aF):=by
    rw[List.drop_zero]
    rcases HK.1 with e|⟨_,e1,e2⟩
    . rw[Mj cM]at e
      exact JQ.of HS.1 A.1 A.2.1 A.2.2.1 A.2.2.2.1 A.2.2.2.2.1 (by rw[aX,<-e]) (.inl rfl)
    exact JQ.of HS.1 A.1 A.2.1 A.2.2.1 A.2.2.2.1 A.2.2.2.2.1 (by rw[aX,e1]) (.inr e2)
   have d9:Ae (∀b ao,s.c b=K ao-> ↑ao<=D):= λb ao e=>lQ (HS.2.1 b ao e) HK.2.2.2.1
   have bT:=HK.2.2.2.2
   obtain⟨X,vc,eV⟩:=AF bT
   subst eV
   have d7:Ae (Il U wr f.bO x j l GF B r (Z (K ⟨gb,ob,M⟩) r.a8 c1) (Z (K ⟨gd,od,M⟩) r.gY c2) (Z N r.ig c3) (Z O r.gX c4) am L ⟨s.c,T,D⟩/\AA wr XB #[Q,me,Z xa m.next xc] 90/\Ch wr B (Z X sh vc) sh):=⟨F.1,F.2,bT⟩
   have eL:D<=64:=HK.2.2.1
   have dX:=Av HK.2.1
   clear bT HK F aX
   have fZ:m.next.length<=2:=HI.two m (lA A.2.2.1)
   go_wp2_with fail
   clear x0 x1 x2
   go_loopw [17] (λq wr=>∃(i:Nat) (L:List J) (C:Nat->Option (List Int)),i<= ↑m.next/\q=Ag Af i/\Ae (JQ p f r.a8 ((r.gY.map Int.toNat).drop (k+1)) me ((m.next.map Int.toNat).drop i) sh C T D aF/\∀b ao,C b=K ao-> ↑ao<=D)/\Ae (Il U wr f.bO x j l GF B r (Z (K ⟨gb,ob,M⟩) r.a8 c1) (Z (K ⟨gd,od,M⟩) r.gY c2) (Z N r.ig c3) (Z O r.gX c4) am L ⟨C,T,D⟩/\AA wr XB #[Q,me,Z xa m.next xc] 90/\Ch wr B (Z X sh vc) sh)) (λq _=> ↑m.next-(intOf q).toNat)
   case atStart=>exact⟨0,L,s.c,oM,rfl,⟨d8,d9⟩,d7⟩
   case round=>
   clear d7 d8 d9
   obtain⟨i,L,C,fR,rfl,HA,F⟩:=hrel
   obtain⟨x0,x1,x2⟩:=B9 F.2.1
   by_cases eX:i< ↑m.next
   case pos=>
    obtain⟨z,hz⟩:∃z,m.next[i]?=K z:=⟨_,an eX⟩
    obtain⟨t,eG,dS⟩:=HO.jO b m A.2.2.1 z (lA hz)
    subst eG
    have bt:=A.2.2.2.2.2.1
    rcases bt.2 with⟨q0,_⟩|⟨gn,on,cn,q1,dA⟩
    . omega
    simp only[lB,mB]at q1
    rw[q1.1]at x2
    have n0:=Rd.elem Ay dA i _ hz 0 _ rfl
    rw[mO,lJ,<-F.1.ej.cell (g8 n0)]at n0
    have HN:Ae ((m.next.map Int.toNat).drop i=t::(m.next.map Int.toNat).drop (i+1)):=K9 (by rw[mE,hz];simp)
    clear dA hz bt q1
    have eU:(i:Int)<(m.next:Int):=oM
    have gK:(t:Int)<(r.a8:Int):=oM
    have aU:=F.1.ca.cellAt t oM
    have e9:=F.1.ca.frozenAt t
    obtain⟨W0,bJ⟩:∃W,L[t]?=K W:=⟨_,an (by rw[F.1.fl];exact dS)⟩
    have cE:=F.1.fa.cellAt t oM
    have eH:=F.1.fa.frozenAt t
    rw[bJ]at cE
    rw[mE,pB dS]at aU
    simp only[oL]at aU
    have eP:¬GF=l:=by have:=F.1.tb.h6;omega
    have fH:¬l=GF:= λe=>eP e.symm
    have hW:=F.1.ki t W0 bJ
    obtain⟨wa,wc,eW⟩:=AF hW
    subst eW
    have HW:Ae _:=hW
    have de:=Av bJ
    clear hW bJ
    cases hC:C t with
    | none=>
      rw[hC]at aU
      simp only[Option.isSome_none]at aU
      have dW:Ae (Il U (Aa (Aa wr ⟨l,t,M⟩ true) ⟨GF,t,M⟩ (Z X sh vc)) f.bO x j l GF B r (Z (K ⟨gb,ob,M⟩) r.a8 c1) (Z (K ⟨gd,od,M⟩) r.gY c2) (Z N r.ig c3) (Z O r.gX c4) am (L.set t (Z X sh vc)) ⟨Gy C t sh,T,D⟩/\AA (Aa (Aa wr ⟨l,t,M⟩ true) ⟨GF,t,M⟩ (Z X sh vc)) XB #[Q,me,Z xa m.next xc] 90/\Ch (Aa (Aa wr ⟨l,t,M⟩ true) ⟨GF,t,M⟩ (Z X sh vc)) B (Z X sh vc) sh):=by
       have t5:=F.1.tb.h5
       have t6:=F.1.tb.h6
       have t7:=F.1.tb.h7
       exact⟨F.1.iI F.2.2,(F.2.1.other oS _).other oS _,(F.2.2.set oS _).set oS _⟩
      have bQ:Ae (JQ p f r.a8 ((r.gY.map Int.toNat).drop (k+1)) me ((m.next.map Int.toNat).drop (i+1)) sh (Gy C t sh) T D aF/\∀b ao,Gy C t sh b=K ao-> ↑ao<=D):=by
       refine⟨JQ.new (by rw[<-HN];exact HA.1) hC, λb ao e=> ?_⟩
       simp only[Gy]at e
       split at e
       . cases e;exact dX
       exact HA.2 b ao e
      clear HW de
      go_wp2_with fail
      go_roundw
      case rel=>exact⟨i+1,_,Gy C t sh,oM,by go_num,bQ,dW⟩
      exact oI
    | some s1=>
      rw[hC]at aU
      simp only[Option.isSome_some]at aU
      have dG:(C t).getD []=s1:=by rw[hC];rfl
      have gH: ↑s1<=D:=HA.2 t s1 hC
      have db:=Av hC
      simp only[dG]at HW cE
      clear hC dG de
      go_wp2_with fail
      refine(GY (Z wa s1 wc) (Z X sh vc) s1 sh wr oM oM (Rd.ij HW) (Rd.ij F.2.2)).mono ?_
      rintro e gR ⟨⟨bb,rfl,bp⟩,cY⟩
      obtain⟨m4,rfl⟩:=cY
      have aR:Ae (Il U (wr.drewN m4) f.bO x j l GF B r (Z (K ⟨gb,ob,M⟩) r.a8 c1) (Z (K ⟨gd,od,M⟩) r.gY c2) (Z N r.ig c3) (Z O r.gX c4) am L ⟨C,T,D⟩/\AA (wr.drewN m4) XB #[Q,me,Z xa m.next xc] 90/\Ch (wr.drewN m4) B (Z X sh vc) sh):=⟨F.1.a7 (AB _ _ _),F.2.1.a7 (AB _ _ _),F.2.2.a7 (AB _ _ _)⟩
      have bf:=Av bp
      clear bp F HW x0 x1 x2 aU e9 cE eH n0
      generalize wr.drewN m4=fG at aR⊢
      obtain⟨x0,x1,x2⟩:=B9 aR.2.1
      cases bb
      case false=>
       have aw:=Av (JQ.none_ (by rw[<-HN];exact HA.1) db (λe=>by have:=bf.2 e;cases this))
       obtain⟨q0,q1,q2,q3⟩:=A7 (I.1.2.1.a7 aR.1.ej)
       obtain⟨fz0,fz1,fz2,fz3⟩:=TX (I.1.2.1.a7 aR.1.ej)
       go_wp2_with fail
       have G:Ae _:=((((I.1.2.1.a7 aR.1.ej).set 0 (Ag Af (4))).set 1 (Ag Af ((me:Int)))).set 2 (Ag Af (0))).set 3 (Z M 0 0)
       simp only[lM,lU,lX]at G
       clear q0 q1 q2 q3
       obtain⟨q0,q1,q2,q3⟩:=A7 G
       exact lO (v:=Am #[Ag Af (4),Ag Af ((me:Int)),Ag Af (0),Z M 0 0]) (by simp[results,results44,go_sem,q0,q1,q2,q3]) rfl ⟨⟨4,(me:Int),0,[]⟩,Z M 0 0,rfl,by have:=bB.o;rw[aw]at this;exact this,JI _ 0,(((((Ar I.1.2.2 lR aR.1.ej).setCell oS _).setCell oS _).setCell oS _).setCell oS _)⟩
      case true=>
       have bQ:=Av (d5 (JQ.same (by rw[<-HN];exact HA.1) db (bf.1 rfl)) HA.2)
       go_wp2_with fail
       go_roundw
       case rel=>exact⟨i+1,L,C,oM,by go_num,bQ,aR⟩
       exact oI
   case neg=>
    have fV:i=m.next.length:=oM
    have dV:Ae (FU p f r.a8 ((r.gY.map Int.toNat).drop (k+1)) ⟨C,T,D⟩=aF/\(∀b sh,C b=K sh-> ↑sh<=D)/\D<=64):=by
     refine⟨JQ.some_ (sh:=sh) (me:=me) ?_,HA.2,eL⟩
     have:=HA.1
     have eS:(m.next.map Int.toNat).drop i=[]:=List.drop_eq_nil_of_le (by rw[mD];omega)
     rw[eS]at this
     exact this
    have eU:¬(i:Int)<(m.next:Int):=oM
    go_wp2_with fail
    go_roundw
    case rel=>exact⟨k+1,_,L,⟨C,T,D⟩,oM,by go_num,dV,F.1⟩
    exact oI
 case neg=>
  have fX:k=r.gY.length:=oM
  have aw:Ae (aF=.inr s):=by
   have:=HS.1
   rw[List.drop_eq_nil_of_le (by rw[mD];omega),FU]at this
   exact this.symm
  have fW:¬(k:Int)<(r.gY:Int):=oM
  obtain⟨y0,y1,y2,y3,y4,y5⟩:=Eg E.lb
  obtain⟨o0,o1,o2,o3⟩:=A7 E.ob
  have eQ:(w:Nat)+1<U.heap.size:=I.1.2.1.lt
  obtain⟨q0,q1,q2,q3⟩:=A7 (I.1.2.1.a7 E.ej)
  obtain⟨fz0,fz1,fz2,fz3⟩:=TX (I.1.2.1.a7 E.ej)
  go_wp2_with fail
  have G:Ae _:=((((I.1.2.1.a7 E.ej).set 0 (Ag Af (0))).set 1 (Ag Af (0))).set 2 (Ag Af ((s.d:Int)))).set 3 (Z j f.bO f.bO)
  simp only[lM,lU,lX]at G
  clear q0 q1 q2 q3
  obtain⟨q0,q1,q2,q3⟩:=A7 G
  exact lO (v:=Am #[Ag Af (0),Ag Af (0),Ag Af ((s.d:Int)),Z j f.bO f.bO]) (by simp[results,results44,go_sem,q0,q1,q2,q3]) rfl ⟨⟨0,0,(s.d:Int),(List.range f.bO).map s.t⟩,Z j f.bO f.bO,rfl,by have:=bB.o;rw[aw]at this;exact this,E.told eQ _ _ _ _,(((((Ar I.1.2.2 lR E.ej).setCell oS _).setCell oS _).setCell oS _).setCell oS _)⟩
end Go.Proofs.YtadcneiiokbofaaGreat
