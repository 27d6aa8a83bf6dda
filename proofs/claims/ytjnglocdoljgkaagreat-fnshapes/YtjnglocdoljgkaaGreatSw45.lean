import Derived.Test.YtjnglocdoljgkaaGreatSw44
import Derived.Deep.RegionHeldLaw
namespace Go.Proofs.YtjnglocdoljgkaaGreat
open Go.ChangeShapes Go.WideShapes Go.ChangeAt Go.RowKit
set_option linter.unusedVariables false
open Go.Value renaming slice → Z,int → Ac
open Option renaming some → K,none → M
open Go renaming Value → J,World → Y,Calls → Ae,TypeId → Af
open Go.RowKit renaming Hid → Aa,Below → Ad
open Go.IntKind renaming i64 → Ab
set_option maxHeartbeats 8000000
set_option maxRecDepth 100000
variable {w U u:Y}{f i g z3:J}{r:Fy}{B n GS GF:Nat}
theorem L3(f:MF):(AV f).length<=1048576:=by unfold AV;split<;>simp
theorem Sg{b:Nat}{t:Af}{a:Array J}(h:Ar w b a t):w.frozen? b=false/\w.frozen? ⟨b,1,M⟩=false/\w.frozen? ⟨b,2,M⟩=false/\w.frozen? ⟨b,3,M⟩=false:=⟨h.frozen 0,h.frozen 1,h.frozen 2,h.frozen 3⟩
theorem Jj(u:Y)(c:Nat):NM u (Z M 0 c) []:=⟨[],rfl,⟨rfl,.inl ⟨rfl,_,_,rfl⟩⟩, λx a=>by cases a⟩
theorem SI{j:J}(h:Dg w f j i g r):∃v1 c1 v2 c2 v3 c3 b c4,f=Z v1 r.ej c1/\j=Z v2 r.gJ c2/\i=Z v3 r.gS c3/\g=Z b r.gI c4:=by
 obtain⟨v1,c1,k⟩:∃a c,f=Z a r.ej c:=by obtain⟨_,_,h2,_⟩:=h.ej;exact h2.fu
 obtain⟨v2,c2,l⟩:=h.gJ.fu;obtain⟨v3,c3,e3⟩:=h.gS.fu;obtain⟨b,c4,e4⟩:∃a c,g=Z a r.gI c:=by obtain⟨_,_,h2,_⟩:=h.gI;exact h2.fu
 exact⟨v1,c1,v2,c2,v3,c3,b,c4,k,l,e3,e4⟩
theorem Dg.jQ{j:Y}{e:J}(h:Dg w e i f g r)(b:Ad B w j)(a: ↑w<=B):Dg j e i f g r:=⟨h.ej.bM b a,h.gJ.bM b a,h.gS.bM b a,h.gI.bM b a⟩
theorem Hp.start{h f:Nat}{m p q:J}(lb:Ar u U #[Ac Ab r.ch,Ac Ab r.at_,m,p,z3,q] 45)(s:Ad U U u)(h2:u.ownsRow U 36 1 (Z GS n n) n (List.replicate n (Z M 0 0)))(ob:Ar u h #[Ac Ab 0,Ac Ab 0,Ac Ab 0,Z GS n n] 32)(y:u.ownsRow U 4 1 (Z f r.ej r.ej) r.ej (List.replicate r.ej (.bool false)))(z:u.ownsRow U 36 1 (Z GF r.ej r.ej) r.ej (List.replicate r.ej (Z M 0 0)))(a:TyB U h GS f GF u):Hp U (u.setCell f (.bool true)) n h GS f GF u r m p z3 q (List.replicate n (Z M 0 0)) (List.replicate r.ej (Z M 0 0)) Jo:=by
 have A:=a.h3;have B:=a.h4;have C:=a.h5;have D:=a.h6;have E:=a.h7;refine⟨lb.other oS _,ob.other oS _,kO h2 (by simp[Value.ownBlock];omega) _,?_,kO z (by simp[Value.ownBlock];omega) _,sP,sP, λj V e=> ?_, λb V e=> ?_,s.setCell oS _,a,by rw[Fm];exact Nat.le_refl _⟩
 . have e:(List.replicate r.ej (Value.bool false)).set 0 (.bool true)=(List.range r.ej).map λb=>Value.bool (Jo.c b).isSome:=by
    apply mV;intro i;by_cases l:i=0
    . subst l;by_cases g:0<r.ej.length
      . rw[mG (by simpa using g)];simp[Jo,g]
      have v:r.ej.length=0:=oM;rw[v];rfl
    rw[mC (λe=>l e.symm)];by_cases g:i< ↑r.ej
    . simp[Jo,g,l]
    rw[lB (by rw[nH];omega),lB (by rw[kW,mS];omega)]
   rw[<-e];exact(y.stored 0 (.bool true)).1
 . have k:=List.eq_of_mem_replicate (i8 e);subst k;exact Cm.nil _ _
 have k:=List.eq_of_mem_replicate (i8 e);subst k;have t:(Jo.c b).getD []=[]:=by simp only[Jo];split<;>rfl
 rw[t];exact Cm.nil _ _
structure Xt(xs:List MI)(r:Fy):Prop where
 gR:r.ej=At xs
 pos:0<r.ej.length
 len:r.gJ.length<=1024
 ord:∀z∈r.gJ,∃b:Nat,z=(b:Int)/\b< ↑r.ej
 nxt:∀(b:Nat) (m:MB),r.ej[b]?=K m->∀z∈m.next,∃t:Nat,z=(t:Int)/\t< ↑r.ej
theorem Hp.told{p l:Nat}{z1 z2 L:J}{b y:List J}{s:WS}(h:Hp U u n p GS l GF B r z1 z2 z3 L b y s){X:Nat}(W:X< ↑U)(I x1 x2 x3:J):NM ((((u.setCell X I).setCell ⟨X,1,M⟩ x1).setCell ⟨X,2,M⟩ x2).setCell ⟨X,3,M⟩ x3) (Z GS n n) ((List.range n).map s.t):=by
 have N:=h.tb.h3;have O:=h.tb.h4;have Q:=h.tb.h5;have S:=h.tb.h6;have T:=h.tb.h7;have g:((List.range n).map s.t).length=b.length:=by simp[h.sl]
 refine⟨((List.range n).map s.t).zip b,List.map_fst_zip (Nat.le_of_eq g),?_, λx G=> ?_⟩
 . have e:(((List.range n).map s.t).zip b).flatMap AZ=b:=by
    have:∀(A:List (List Int)) (R:List J),A.length= ↑R->(A.zip R).flatMap AZ=R:=by
     intro A;induction A with
     |nil=>intro R h;cases R with|nil=>rfl|cons _ _=>simp at h
     | cons a A H=>intro R h;cases R with
       |nil=>simp at h
       |cons v R=>rw[List.zip_cons_cons,kX,H R (by simpa using h)];rfl
    exact this _ _ g
   rw[e,kW,mS];exact Rd.gM (lL (lL (lL (lL h.sa oS _) oS _) oS _) oS _)
 . obtain⟨j,C⟩:=lw G;obtain⟨f,z⟩:((List.range n).map s.t)[j]?=K x.1/\b[j]?=K x.2:=List.getElem?_zip_eq_some.1 C
   (have e3:s.t j=x.1:=by rw[lG]at f;obtain⟨q,D,F⟩:=mK.1 f;obtain⟨i1,k⟩:=iV.1 D;rw[List.getElem_range]at k;subst k;exact F);have i:=h.rs j x.2 z;rw[e3]at i;exact Rd.gM ((((i.set (a:=⟨X,0,M⟩) oS _).set (a:=⟨X,1,M⟩) oS _).set (a:=⟨X,2,M⟩) oS _).set (a:=⟨X,3,M⟩) oS _)
theorem Bc.ord{xs:List MI}(h:Bc xs r)(a:r.ch=0):Xt xs r:=by
 cases h with
 |none _=>cases a
 |off _ _ _=>cases a
 |lost _ _ _ _ _ _ _ _=>cases a
 |two _ _ _ _ _ _ _ _=>cases a
 | good g x1 o1 v1 s1 d1 b1 i1 l1=>
   obtain⟨l,n,i,k,_⟩:=Cx (Dj g) (Io g) v1 s1;refine⟨rfl,Dj g,?_, λz e=> ?_, λb m j z e=> ?_⟩
   . simp only[];rw[AU,mF,i];exact Eo g
   . obtain⟨b,f,rfl⟩:=lK.1 e;exact⟨b,rfl,(k b).1 (mT.1 f)⟩
   obtain⟨h1,h2⟩:=GG g j e;exact⟨z.toNat,(nE h1).symm,oS⟩
def XC(w:Y)(p:MP)(b:Int)(e:Ending)(a:Y):Prop:=∃(y:RQ) (s:J),e=.returned (.agg #[Ac Ab y.ch,Ac Ab y.at_,Ac Ab y.depth,s])/\IU p b y/\NM a s y.gU/\Ad w w a
theorem LD{q:Prop}(h:q:=by obtain⟨q0,q1,q2,q3⟩:=Bi E2.o.2.1;obtain⟨fz0,fz1,fz2,fz3⟩:=Sg E2.o.2.1;go_wp2_with fail;have G:Aa _:=(((E2.o.2.1.set 0 (Ac Ab (6))).set 1 (Ac Ab (0))).set 2 (Ac Ab (0))).set 3 (Z M 0 0);simp only[kV,lI,lM]at G;clear q0 q1 q2 q3;obtain⟨q0,q1,q2,q3⟩:=Bi G.o;exact kY (v:=.agg #[Ac Ab (6),Ac Ab (0),Ac Ab (0),Z M 0 0]) (by simp[results,Tryz.results6,go_sem,q0,q1,q2,q3]) rfl ⟨⟨6,0,0,[]⟩,Z M 0 0,rfl,.inl ⟨HN.o,rfl⟩,Jj _ 0,((((E2.o.2.2.setCell (by simp only[];omega) _).setCell (by simp only[];omega) _).setCell (by simp only[];omega) _).setCell (by simp only[];omega) _)⟩):q:=h
theorem Iq(v:VP)(p:MP)(fi:Int)(w:World)(hs:p.small)(hw:p.wf)(dy:CO fi)(h:Cz w v p):
 Ae Tryz.prog 6 #[.agg #[v.r,v.k,v.f,v.t],Ac Ab fi] w (XC w p fi):=by
 obtain⟨r1,r3,k1,k3,t1,t3,f1,f3,rfl⟩:=h.sl
 obtain⟨i0,hi,fK,fL,fM⟩:=lU Bt
 obtain⟨j0,hj,eT,eU,eX⟩:=lU DL
 obtain⟨l0,hl,dB,dD,dE⟩:=lU KO
 have H:Aa (p.small/\p.wf/\CO fi/\Cz w ⟨Z r1 p.a7 r3,Z k1 p.aC k3,Z f1 p.cC f3,Z t1 p.dr t3⟩ p):=⟨hs,hw,dy,h⟩
 clear hs hw dy h
 have E0:=Ef w #[Z r1 p.a7 r3,Z k1 p.aC k3,Z f1 p.cC f3,Z t1 p.dr t3] #[Ac Ab 0,Ac Ab 0,Ac Ab 0,Z M 0 0] 28 32
 go_enter Tryz.func6,Tryz.ntmps6
 go_upto_region 1 with fail
 refine An (λu=>Aa (Ar u w #[Z r1 p.a7 r3,Z k1 p.aC k3,Z f1 p.cC f3,Z t1 p.dr t3] 28/\Ar u ((w:Nat)+1) #[Ac Ab 0,Ac Ab 0,Ac Ab 0,Z M 0 0] 32/\Ad w w u)) E0 ?_
 rintro U0 E1
 clear E0
 obtain⟨p0,p1,p2,p3⟩:=Bi E1.o.1
 go_wp2_with fail
 refine(CZ ⟨Z r1 p.a7 r3,Z k1 p.aC k3,Z f1 p.cC f3,Z t1 p.dr t3⟩ p U0 H.o.1 H.o.2.1 (H.o.2.2.2.bM E1.o.2.2 lR)).mono ?_
 rintro e u1 ⟨⟨n,rfl,hn⟩,bb⟩
 have E2:Aa (Ar u1 w #[Z r1 p.a7 r3,Z k1 p.aC k3,Z f1 p.cC f3,Z t1 p.dr t3] 28/\Ar u1 ((w:Nat)+1) #[Ac Ab 0,Ac Ab 0,Ac Ab 0,Z M 0 0] 32/\Ad w w u1):=⟨E1.o.1.bM bb,E1.o.2.1.bM bb,Ai E1.o.2.2 lR bb⟩
 clear bb E1 p0 p1 p2 p3
 clear U0
 have p2:=E2.o.1.cell 2
 simp only[kL,jt,kI]at p2
 by_cases dG:n=0
 case neg=>
  have HN:Aa (¬GJ p fi):= λe=>dG (hn.one e.1)
  clear hn
  exact LD
 subst dG
 have aZ:=Ap hn
 clear hn
 by_cases eH:fi<0
 case pos=>
  have HN:Aa (¬GJ p fi):= λe=>absurd e.2.1 oM
  have fH:decide (fi<0)=true:=by simpa using eH
  exact LD
 by_cases fI:(p.cC:Int)<=fi
 case pos=>
  have HN:Aa (¬GJ p fi):= λe=>by
   obtain⟨f,hf,_⟩:=e.2.2
   have:=(iV.1 hf).1
   omega
  exact LD
 obtain⟨q,rfl⟩:=kU (show 0<=fi from oM)
 obtain⟨f,hf⟩:∃f,p.cC[q]?=K f:=⟨_,an oM⟩
 obtain⟨gk,ok,ck,dh,g,cM,m0,m1,m2,m3⟩:=GO H.o.2.2.2.cC hf
 simp only[jc,lO]at dh
 obtain⟨rfl,rfl⟩:=dh
 obtain⟨g1,g3,g4,g6,g7,g9,rfl⟩:=C5 cM
 have fZ:(q:Int)<(p.cC:Int):=oM
 have HF:Aa (p.cC[q]?=K f/\f.small/\Dt w ⟨Z g1 f.d5 g3,Z g4 f.en g6,Z g7 f.ch g9⟩ f/\0<f.ch.length/\f.wf):=⟨hf,H.o.1.func f (i8 hf),cM,Nat.pos_of_ne_zero (aZ.o.parts.2.2.1.2.2.1 q (iV.1 hf).1 f hf).iG,H.o.2.1.cC f (i8 hf)⟩
 have d7:Aa (p.cC[((q:Nat):Int).toNat]?=K f):=by
  show p.cC[((q:Nat):Int).toNat]?=K f
  rw[kM]
  exact hf
 simp only[]at m0 m1 m2 m3
 rw[<-E2.o.2.2.cell (jC m0)]at m0
 rw[<-E2.o.2.2.cell (jC m1)]at m1
 rw[<-E2.o.2.2.cell (jC m2)]at m2
 rw[<-E2.o.2.2.cell (jC m3)]at m3
 clear cM hf
 go_upto_region 4 with fail
 refine An (λu=>Aa ((Ar u w #[Z r1 p.a7 r3,Z k1 p.aC k3,Z (K ⟨gk,ok,M⟩) p.cC f3,Z t1 p.dr t3] 28/\Ar u ((w:Nat)+1) #[Ac Ab 0,Ac Ab 0,Ac Ab 0,Z M 0 0] 32/\Ad w w u)/\Ar u u1 #[Z g1 f.d5 g3,Ac Ab f.gz,Z g4 f.en g6,Z g7 f.ch g9] 51)) ⟨⟨E2.o.1.bM (Ag _ _),E2.o.2.1.bM (Ag _ _),Ai E2.o.2.2 lR (Ag _ _)⟩,Ar.new _ _ _⟩ ?_
 rintro U4 E4
 generalize u1.heap.size=Y at E4⊢
 clear E2 m0 m1 m2 m3 p2
 clear u1
 have y3:=E4.o.2.cell 3
 simp only[kL,jt,kI]at y3
 go_wp2_with fail
 refine(DT (Z g7 f.ch g9) f.ch U4 HF.o.2.1.2.2 (Rd.bM HF.o.2.2.1.2.2 E4.o.1.2.2 lR)).mono ?_
 rintro e U ⟨r,vb,vo,vi,vl,rfl,dz,cJ,bb⟩
 obtain⟨v1,c1,v2,c2,v3,c3,N,c4,rfl,rfl,rfl,rfl⟩:=SI cJ
 have E5:Aa ((Ar U w #[Z r1 p.a7 r3,Z k1 p.aC k3,Z (K ⟨gk,ok,M⟩) p.cC f3,Z t1 p.dr t3] 28/\Ar U ((w:Nat)+1) #[Ac Ab 0,Ac Ab 0,Ac Ab 0,Z M 0 0] 32/\Ad w w U)/\Ar U Y #[Z g1 f.d5 g3,Ac Ab f.gz,Z g4 f.en g6,Z g7 f.ch g9] 51/\Dg U (Z v1 r.ej c1) (Z v2 r.gJ c2) (Z v3 r.gS c3) (Z N r.gI c4) r):=⟨⟨E4.o.1.1.bM bb,E4.o.1.2.1.bM bb,Ai E4.o.1.2.2 lR bb⟩,E4.o.2.bM bb,cJ⟩
 have bt:=Ap dz
 clear dz cJ bb E4 y3
 clear U4
 go_upto_region 5 with fail
 refine An (λu=>Aa ((Ar u w #[Z r1 p.a7 r3,Z k1 p.aC k3,Z (K ⟨gk,ok,M⟩) p.cC f3,Z t1 p.dr t3] 28/\Ar u ((w:Nat)+1) #[Ac Ab 0,Ac Ab 0,Ac Ab 0,Z M 0 0] 32/\Ad w w u)/\Ar u Y #[Z g1 f.d5 g3,Ac Ab f.gz,Z g4 f.en g6,Z g7 f.ch g9] 51/\Ar u U #[Ac Ab r.ch,Ac Ab r.at_,Z v1 r.ej c1,Z v2 r.gJ c2,Z v3 r.gS c3,Z N r.gI c4] 45/\Ad U U u)) ⟨⟨E5.o.1.1.bM (Ag _ _),E5.o.1.2.1.bM (Ag _ _),Ai E5.o.1.2.2 lR (Ag _ _)⟩,E5.o.2.1.bM (Ag _ _),Ar.new _ _ _,Ag _ _⟩ ?_
 rintro U6 E6
 obtain⟨y0,y1,y2,y3,y4,y5⟩:=Dq E6.o.2.2.1
 by_cases aX:r.ch=0
 case neg=>
  have fC:(r.ch != 0)=true:=by simpa using aX
  have HN:Aa (¬GJ p (q:Int)):= λe=>by
   obtain⟨f',dx,r',eR,e8⟩:=e.2.2
   rw[d7.o]at dx
   have ef:=kN dx
   subst ef
   have er:=eR.one bt.o
   subst er
   exact aX e8
  have E7:=Ap E6.o.1
  obtain⟨q0,q1,q2,q3⟩:=Bi E7.o.2.1
  obtain⟨fz0,fz1,fz2,fz3⟩:=Sg E7.o.2.1
  go_wp2_with fail
  have G:Aa _:=(((E7.o.2.1.set 0 (Ac Ab (6))).set 1 (Ac Ab (0))).set 2 (Ac Ab (0))).set 3 (Z M 0 0)
  simp only[kV,lI,lM]at G
  clear q0 q1 q2 q3
  obtain⟨q0,q1,q2,q3⟩:=Bi G.o
  exact kY (v:=.agg #[Ac Ab (6),Ac Ab (0),Ac Ab (0),Z M 0 0]) (by simp[results,Tryz.results6,go_sem,q0,q1,q2,q3]) rfl ⟨⟨6,0,0,[]⟩,Z M 0 0,rfl,.inl ⟨HN.o,rfl⟩,Jj _ 0,((((E7.o.2.2.setCell oS _).setCell oS _).setCell oS _).setCell oS _)⟩
 rw[aX]at y0
 have HI:=Ap (bt.o.ii aX)
 have HO:=Ap (bt.o.ord aX)
 have fT:r.ej.length<=1024:=HI.o.nb
 have fU:f.ch.length<=1024:=HI.o.len
 have x3:=E6.o.2.1.cell 3
 simp only[kL,jt,kI]at x3
 have I:=Ap E5
 clear E5
 have aJ:=E6.o.2.2.2.size
 go_upto_region 8 with(at_make;refine mX _ rfl _ _ 23 rfl U 36 l0 (Z M 0 0) 1 Tryz.underlying23 hl dB dD Ab Ab _ _ f.ch rfl rfl rfl rfl (by rw[dE];omega) oX aJ ?_;intro O a8 aM;rw[EU]at a8)
 obtain⟨GS,bV⟩:∃G,G=U6.heap.size:=⟨_,rfl⟩
 obtain⟨l,bF⟩:∃G,G=O.heap.size:=⟨_,rfl⟩
 have E8:Aa (Ar (O.alloc (.cells #[Ac Ab 0,Ac Ab 0,Ac Ab 0,Z GS f.ch f.ch] 32)) U #[Ac Ab r.ch,Ac Ab r.at_,Z v1 r.ej c1,Z v2 r.gJ c2,Z v3 r.gS c3,Z N r.gI c4] 45/\Ad U U (O.alloc (.cells #[Ac Ab 0,Ac Ab 0,Ac Ab 0,Z GS f.ch f.ch] 32))/\(O.alloc (.cells #[Ac Ab 0,Ac Ab 0,Ac Ab 0,Z GS f.ch f.ch] 32)).ownsRow U 36 1 (Z GS f.ch f.ch) f.ch (List.replicate f.ch (Z M 0 0))/\Ar (O.alloc (.cells #[Ac Ab 0,Ac Ab 0,Ac Ab 0,Z GS f.ch f.ch] 32)) l #[Ac Ab 0,Ac Ab 0,Ac Ab 0,Z GS f.ch f.ch] 32/\ ↑U<GS/\GS<l/\l<(O.alloc (.cells #[Ac Ab 0,Ac Ab 0,Ac Ab 0,Z GS f.ch f.ch] 32)).heap.size):=by
  have b7:=Ca aM
  have aw:=(a8.lt _ rfl).2
  have l6:=E6.o.2.2.1.lt
  simp only[]at aw
  rw[<-bV]at a8 aw
  refine⟨(E6.o.2.2.1.bM b7).bM (Ag _ _),Ai (Ai E6.o.2.2.2 lR b7) lR (Ag _ _),Am a8 (Ag _ _) lR,by rw[bF];exact Ar.new _ _ _,oM,oM,by rw[bF];simp⟩
 rw[<-bV,<-bF]
 refine An (λu=>Aa (Ar u U #[Ac Ab r.ch,Ac Ab r.at_,Z v1 r.ej c1,Z v2 r.gJ c2,Z v3 r.gS c3,Z N r.gI c4] 45/\Ad U U u/\u.ownsRow U 36 1 (Z GS f.ch f.ch) f.ch (List.replicate f.ch (Z M 0 0))/\Ar u l #[Ac Ab 0,Ac Ab 0,Ac Ab 0,Z GS f.ch f.ch] 32/\ ↑U<GS/\GS<l/\l< ↑u)) E8 ?_
 clear a8 aM E6 y0 y1 y2 y3 y4 y5 x3 aJ bV bF E8
 clear O U6
 rintro U8 E8
 obtain⟨y0,y1,y2,y3,y4,y5⟩:=Dq E8.o.1
 have aJ:=E8.o.2.1.size
 go_upto_region 9 with(at_make;refine mX _ rfl _ _ 56 rfl U 4 j0 (.bool false) 1 Tryz.underlying56 hj eT eU Ab Ab _ _ r.ej rfl rfl rfl rfl (by rw[eX];omega) oX aJ ?_;intro O a8 aM;rw[Dz]at a8)
 obtain⟨j,bC⟩:∃G,G=U8.heap.size:=⟨_,rfl⟩
 have E9:Aa (Ar O U #[Ac Ab r.ch,Ac Ab r.at_,Z v1 r.ej c1,Z v2 r.gJ c2,Z v3 r.gS c3,Z N r.gI c4] 45/\Ad U U O/\O.ownsRow U 36 1 (Z GS f.ch f.ch) f.ch (List.replicate f.ch (Z M 0 0))/\Ar O l #[Ac Ab 0,Ac Ab 0,Ac Ab 0,Z GS f.ch f.ch] 32/\ ↑U<GS/\GS<l/\O.ownsRow U 4 1 (Z j r.ej r.ej) r.ej (List.replicate r.ej (.bool false))/\l<j/\j< ↑O):=by
  have b7:=Ca aM
  have aw:=(a8.lt _ rfl).2
  simp only[]at aw
  rw[<-bC]at a8 aw
  exact⟨E8.o.1.bM b7,Ai E8.o.2.1 lR b7,Am E8.o.2.2.1 b7 lR,E8.o.2.2.2.1.bM b7,E8.o.2.2.2.2.1,E8.o.2.2.2.2.2.1,a8,by rw[bC];exact E8.o.2.2.2.2.2.2,aw⟩
 rw[<-bC]
 refine An (λu=>Aa (Ar u U #[Ac Ab r.ch,Ac Ab r.at_,Z v1 r.ej c1,Z v2 r.gJ c2,Z v3 r.gS c3,Z N r.gI c4] 45/\Ad U U u/\u.ownsRow U 36 1 (Z GS f.ch f.ch) f.ch (List.replicate f.ch (Z M 0 0))/\Ar u l #[Ac Ab 0,Ac Ab 0,Ac Ab 0,Z GS f.ch f.ch] 32/\ ↑U<GS/\GS<l/\u.ownsRow U 4 1 (Z j r.ej r.ej) r.ej (List.replicate r.ej (.bool false))/\l<j/\j< ↑u)) E9 ?_
 clear a8 aM E8 y0 y1 y2 y3 y4 y5 aJ bC E9
 clear O U8
 rintro U9 E9
 obtain⟨y0,y1,y2,y3,y4,y5⟩:=Dq E9.o.1
 have aJ:=E9.o.2.1.size
 go_upto_region 10 with(at_make;refine mX _ rfl _ _ 23 rfl U 36 l0 (Z M 0 0) 1 Tryz.underlying23 hl dB dD Ab Ab _ _ r.ej rfl rfl rfl rfl (by rw[dE];omega) oX aJ ?_;intro O a8 aM;rw[EU]at a8)
 obtain⟨GF,bT⟩:∃G,G=U9.heap.size:=⟨_,rfl⟩
 have br:Aa (Hp U (O.setCell j (.bool true)) f.ch l GS j GF O r (Z v1 r.ej c1) (Z v2 r.gJ c2) (Z v3 r.gS c3) (Z N r.gI c4) (List.replicate f.ch (Z M 0 0)) (List.replicate r.ej (Z M 0 0)) Jo/\O.cell? j=K (.bool false)/\O.frozen? j=false):=by
  have b7:=Ca aM
  have aw:=(a8.lt _ rfl).2
  simp only[]at aw
  rw[<-bT]at a8 aw
  have cD:=Am E9.o.2.2.2.2.2.2.1 b7 lR
  refine⟨Hp.start (E9.o.1.bM b7) (Ai E9.o.2.1 lR b7) (Am E9.o.2.2.1 b7 lR) (E9.o.2.2.2.1.bM b7) cD a8 ⟨E9.o.2.2.2.2.1,E9.o.2.2.2.2.2.1,E9.o.2.2.2.2.2.2.2.1,by have:=E9.o.2.2.2.2.2.2.2.2;omega,aw⟩,?_,cD.frozenAt 0⟩
  have:=cD.cellAt 0 (by simp;exact HO.o.pos)
  simpa[HO.o.pos]using this
 rw[<-bT]
 obtain⟨B,eB⟩:∃B,B=O.heap.size:=⟨_,rfl⟩
 rw[<-eB]at br
 clear a8 aM E9 y0 y1 y2 y3 y4 y5 aJ bT eB
 obtain⟨eY,eZ⟩:=br.o.2
 have fY:(0:Int)<(r.ej:Int):=by have:=HO.o.pos;omega
 have fX:=HO.o.pos
 go_upto_region 11 with fail
 refine An (λu=>Aa (Hp U u f.ch l GS j GF B r (Z v1 r.ej c1) (Z v2 r.gJ c2) (Z v3 r.gS c3) (Z N r.gI c4) (List.replicate f.ch (Z M 0 0)) (List.replicate r.ej (Z M 0 0)) Jo)) br.o.1 ?_
 clear br eY eZ
 clear O U9
 rintro fk cW
 obtain⟨aD,dk⟩:∃R,R=Ds p f r.ej (r.gJ.map Int.toNat) Jo:=⟨_,rfl⟩
 have dd:=Ap dk.symm
 clear dk
 have bu:Aa (IU p ((q:Nat):Int) (Lv f.ch aD)):=.inr ⟨aZ.o,Int.natCast_nonneg _,f,r,d7.o,bt.o,aX,by rw[dd.o]⟩
 go_wp2_with fail
 go_loopw [10] (λi wr=>∃(k:Nat) (RS L:List J) (s:WS),k<= ↑r.gJ/\i=Ac Ab k/\Aa (Ds p f r.ej ((r.gJ.map Int.toNat).drop k) s=aD/\(∀b sh,s.c b=K sh-> ↑sh<=s.d)/\s.d<=64)/\Aa (Hp U wr f.ch l GS j GF B r (Z v1 r.ej c1) (Z v2 r.gJ c2) (Z v3 r.gS c3) (Z N r.gI c4) RS L s)) (λi _=> ↑r.gJ-(intOf i).toNat)
 case atStart=>exact⟨0,_,_,Jo,oM,rfl,⟨dd.o, λb sh e=>by simp only[Jo]at e⊢;split at e<;>simp at e;subst e;simp,by simp[Jo]⟩,cW⟩
 case round=>
 clear cW
 obtain⟨k,RS,L,s,hk,rfl,HS,E⟩:=hrel
 have fV:r.gJ.length<=1024:=HO.o.len
 by_cases eP:k< ↑r.gJ
 case pos=>
  obtain⟨z,hz⟩:∃z,r.gJ[k]?=K z:=⟨_,an eP⟩
  obtain⟨b,ez,hb⟩:=HO.o.ord z (i8 hz)
  obtain⟨m,hm⟩:∃m,r.ej[b]?=K m:=⟨_,an hb⟩
  obtain⟨Q,me,bX,bY,fQ,fS⟩:=HI.o.gR b m hm
  obtain⟨gb,ob,xa,xc,ev,x0,x1,x2,bq⟩:=Nf I.o.2.2.ej hm
  subst ev
  rw[bX,<-E.o.gG.cell (jC x0)]at x0
  rw[bY,<-E.o.gG.cell (jC x1)]at x1
  rw[<-E.o.gG.cell (jC x2)]at x2
  rcases I.o.2.2.gJ.2 with⟨q0,_⟩|⟨P,od,cd,q1,dt⟩
  . omega
  simp only[jc,lO]at q1
  obtain⟨rfl,rfl⟩:=q1
  have z0:=Rd.elem Ao dt k z hz 0 _ rfl
  rw[lr,kZ,ez]at z0
  have A:Aa (r.gJ[k]?=K z/\z=(b:Int)/\r.ej[b]?=K m/\m.gK=(Q:Int)/\m.last=(me:Int)/\UO U (Z xa m.next xc) m/\U.cell? ⟨P,od+k,M⟩=K (Ac Ab (b:Int))):=⟨hz,ez,hm,bX,bY,bq,z0⟩
  rw[<-E.o.gG.cell (jC z0)]at z0
  clear dt hz ez hm bX bY bq
  have fA:(b:Int)<(r.ej:Int):=oM
  obtain⟨y0,y1,y2,y3,y4,y5⟩:=Dq E.o.lb
  clear y0 y1 y4 y5
  have s1:¬(U:Nat)=wr.heap.size:=mE (jC y2)
  have s2:(U:Nat)<wr.heap.size:=jC y2
  have s5:¬gb=wr.heap.size:=mE (jC x0)
  have s6:gb<wr.heap.size:=jC x0
  have s7:¬P=wr.heap.size:=mE (jC z0)
  have s8:P<wr.heap.size:=jC z0
  go_upto_region 14 with fail
  go_region
  refine A3 (λu=>Aa (Hp U u f.ch l GS j GF B r (Z (K ⟨gb,ob,M⟩) r.ej c1) (Z (K ⟨P,od,M⟩) r.gJ c2) (Z v3 r.gS c3) (Z N r.gI c4) RS L s/\Ar u wr #[Ac Ab (Q:Int),Ac Ab (me:Int),Z xa m.next xc] 58)) ?_ ?_
  . exact⟨(E.o.bM (Ag _ _)).bM (Aj _),(Ar.new wr _ _).bM (Aj _)⟩
  rintro aR F1
  have eF:B<=wr.heap.size:=E.o.sz
  generalize wr.heap.size=XB at F1 eF⊢
  clear s1 s2 s5 s6 s7 s8 x0 x1 x2 z0 y2 y3 E
  obtain⟨V0,cu⟩:∃V,L[b]?=K V:=⟨_,an (by rw[F1.o.1.fl];exact hb)⟩
  have dJ:=F1.o.1.jI b V0 cu
  have c9:=F1.o.1.fa.cellAt b oM
  rw[cu]at c9
  have z0:=A.o.2.2.2.2.2.2
  rw[<-F1.o.1.gG.cell (jC z0)]at z0
  obtain⟨y0,y1,y2,y3,y4,y5⟩:=Dq F1.o.1.lb
  have gj:((s.c b).getD []).length<=64:=by
   cases e:s.c b with
   |none=>simp
   | some sh=>
     have h1:=HS.o.2.1 b sh e
     have h2:=HS.o.2.2
     simp only[nT]
     omega
  have dp:=F1.o.1.sz
  have s7:¬P=aR.heap.size:=mE (jC z0)
  have s8:P<aR.heap.size:=jC z0
  have s9:¬GF=aR.heap.size:=mE (jC c9)
  have f7:GF<aR.heap.size:=jC c9
  have f8:¬(U:Nat)=aR.heap.size:=mE (jC y3)
  have fd:(U:Nat)<aR.heap.size:=jC y3
  go_upto_region 16 with(at_builtin;refine Ps rfl _ _ rfl aR B B V0 ((s.c b).getD []) rfl rfl dJ dp oM ?_;intro fg fh dK bR)
  refine An (λu=>Aa ((Hp U u f.ch l GS j GF B r (Z (K ⟨gb,ob,M⟩) r.ej c1) (Z (K ⟨P,od,M⟩) r.gJ c2) (Z v3 r.gS c3) (Z N r.gI c4) RS L s/\Ar u XB #[Ac Ab (Q:Int),Ac Ab (me:Int),Z xa m.next xc] 58)/\Cm u B fg ((s.c b).getD []))) ⟨⟨F1.o.1.bM bR,F1.o.2.bM bR⟩,dK⟩ ?_
  clear dK bR dJ c9 z0 y0 y1 y2 y3 y4 y5 dp s7 s8 s9 f7 f8 fd F1 cu
  clear fh
  rintro fv F2
  obtain⟨R0,dj⟩:∃R,R=Cv p f (me+1-Q) Q ((s.c b).getD []) s.t s.d:=⟨_,rfl⟩
  have aU:=Ap dj.symm
  clear dj
  have de:Aa (((s.c b).getD []).length<=s.d):=by
   show((s.c b).getD []).length<=s.d
   cases e:s.c b with
   |none=>simp
   |some sh=>exact HS.o.2.1 b sh e
  obtain⟨x0,x1,x2⟩:=Fx F2.o.1.2
  go_wp2_with fail
  go_loopw [12,13] (λV i wr=>∃(d:Nat) (RS:List J) (sh:List Int) (T:Nat->List Int) (D:Nat),Q<=d/\d<=me+1/\i=Ac Ab d/\Aa ((Cv p f (me+1-d) d sh T D=R0\/(d=me+1/\R0=.inr ([],T,D)/\m.next=[]))/\ ↑sh<=D/\D<=64/\s.d<=D/\Cm wr B V sh)/\Aa (Hp U wr f.ch l GS j GF B r (Z (K ⟨gb,ob,M⟩) r.ej c1) (Z (K ⟨P,od,M⟩) r.gJ c2) (Z v3 r.gS c3) (Z N r.gI c4) RS L ⟨s.c,T,D⟩/\Ar wr XB #[Ac Ab (Q:Int),Ac Ab (me:Int),Z xa m.next xc] 58)) (λ_ i _=>me+1-(intOf i).toNat)
  case atStart=>exact⟨Q,RS,_,s.t,s.d,oM,oM,rfl,⟨.inl aU.o,de.o,HS.o.2.2,Nat.le_refl _,F2.o.2⟩,F2.o.1⟩
  case round=>
  clear F2 x0 x1 x2 de
  obtain⟨d,aj,sh,T,D,fE,fF,rfl,HK,F⟩:=hrel
  obtain⟨x0,x1,x2⟩:=Fx F.o.2
  have gh:sh.length<=64:=kT HK.o.2.1 HK.o.2.2.1
  by_cases dF:d<=me
  case pos=>
   have eM:(d:Int)<=(me:Int):=oM
   have dm:Cv p f (me+1-d) d sh T D=R0:=HK.o.1.elim id λe=>absurd e.1 oM
   obtain⟨⟨yo,ya,yb,yc⟩,dO⟩:∃y,f.ch[d]?=K y:=⟨_,an oM⟩
   have HY:Aa (f.ch[d]?=K ⟨yo,ya,yb,yc⟩/\Cv p f (me+1-d) d sh T D=R0):=⟨dO,dm⟩
   clear dm dO
   have fG:(d:Int)<(f.ch:Int):=oM
   obtain⟨o0,o1,o2,o3⟩:=Bi F.o.1.ob
   go_upto_region 19 with fail
   have dM:=F.o.1.sa.cellAt d oM
   have eS:=F.o.1.sa.frozenAt d
   obtain⟨V1,dq⟩:∃V,aj[d]?=K V:=⟨_,an (by rw[F.o.1.sl];omega)⟩
   rw[dq]at dM
   obtain⟨X,vc,eV⟩:=Az HK.o.2.2.2.2
   subst eV
   have aH:Aa (Hp U wr.drew f.ch l GS j GF B r (Z (K ⟨gb,ob,M⟩) r.ej c1) (Z (K ⟨P,od,M⟩) r.gJ c2) (Z v3 r.gS c3) (Z N r.gI c4) aj L ⟨s.c,T,D⟩/\Ar wr.drew XB #[Ac Ab (Q:Int),Ac Ab (me:Int),Z xa m.next xc] 58/\Cm wr.drew B (Z X sh vc) sh):=⟨F.o.1.bM (Aj _),F.o.2.bM (Aj _),HK.o.2.2.2.2.bM (Aj _)⟩
   have di:B<=wr.drew.heap.size:=aH.o.1.sz
   have bo:wr.drew.cell? ⟨l,3,M⟩=K (Z GS f.ch f.ch):=aH.o.1.ob.cell 3
   refine wp_region_held_drew (S:= λw'=>w'.cell? ⟨l,3,M⟩=K (Z GS f.ch f.ch)) kR bo (λbG=> ?_)
   refine AE 0 ?_
   refine AE 1 ?_
   refine AE 2 ?_
   refine AE 4 ?_
   refine rdH 3 ?_
   intro KC aI
   go_simp
   refine aI.o _ _ (by have:=(aH.o.1.bM (Ag wr.drew (.cells #[] 2))).ob.cell 3;exact this) (λbG=> ?_)
   clear aI KC
   refine rdH 5 ?_
   intro KC aI
   refine SQ rfl _ _ rfl wr.drew B B (Z X sh vc) sh oE oE aH.o.2.2 di oM ?_
   intro gD cU cQ bz
   obtain⟨aE,aF,dW⟩:=Az cQ
   subst dW
   have ao:=Ap (ji (aH.o.1.bM bz) (ji (aH.o.2.1.bM bz) (aH.o.2.2.bM bz)))
   go_simp
   refine aI.o _ _ (by have:=ao.o.1.ob.cell 3;exact this) (λbG=> ?_)
   clear aI KC
   refine AE 6 ?_
   refine rdH 7 ?_
   intro KC aI
   have dg:=ao.o.1.sa.cellAt d oM
   rw[dq]at dg
   have fj:=ao.o.1.sa.frozenAt d
   have bK:Aa (Hp U (cU.setCell ⟨GS,d,M⟩ (Z aE sh aF)) f.ch l GS j GF B r (Z (K ⟨gb,ob,M⟩) r.ej c1) (Z (K ⟨P,od,M⟩) r.gJ c2) (Z v3 r.gS c3) (Z N r.gI c4) (aj.set d (Z aE sh aF)) L ⟨s.c,CE T d sh,D⟩/\Ar (cU.setCell ⟨GS,d,M⟩ (Z aE sh aF)) XB #[Ac Ab (Q:Int),Ac Ab (me:Int),Z xa m.next xc] 58/\Cm (cU.setCell ⟨GS,d,M⟩ (Z aE sh aF)) B (Z X sh vc) sh):=by
    have t3:=ao.o.1.tb.h4
    have t4:=ao.o.1.tb.h5
    have t5:=ao.o.1.tb.h6
    have t6:=ao.o.1.tb.h7
    exact⟨ao.o.1.jf cQ,ao.o.2.1.other oS _,ao.o.2.2.set oS _⟩
   go_simp
   refine aI.o _ _ (by have:=bK.o.1.ob.cell 3;exact this) (λbG=> ?_)
   clear aI KC
   refine wpAnyH_done kR ?_ _
   go_upto_region 20 with fail
   refine An (λu=>Aa (Hp U u f.ch l GS j GF B r (Z (K ⟨gb,ob,M⟩) r.ej c1) (Z (K ⟨P,od,M⟩) r.gJ c2) (Z v3 r.gS c3) (Z N r.gI c4) (aj.set d (Z aE sh aF)) L ⟨s.c,CE T d sh,D⟩/\Ar u XB #[Ac Ab (Q:Int),Ac Ab (me:Int),Z xa m.next xc] 58/\Cm u B (Z X sh vc) sh)) bK.o ?_
   clear bG bK ao aH cQ bz dg fj di bo o0 o1 o2 o3 dM eS x0 x1 x2 F
   rintro bg F
   have dP:=HF.o.2.2.1
   have aq:Ad w w bg:=Ai I.o.1.2.2 lR F.o.1.gG
   rcases dP.2.2.2 with⟨q0,_⟩|⟨gc,oc,cc,q1,bp⟩
   . omega
   simp only[jc,lO]at q1
   have HQ:=Ap q1.1
   have w0:=Rd.elem MI.gH bp d _ HY.o.1 0 _ rfl
   have w1:=Rd.elem MI.gH bp d _ HY.o.1 1 _ rfl
   have w2:=Rd.elem MI.gH bp d _ HY.o.1 2 _ rfl
   have w3:=Rd.elem MI.gH bp d _ HY.o.1 3 _ rfl
   rw[<-aq.cell (jC w0),kZ]at w0
   rw[<-aq.cell (jC w1)]at w1
   rw[<-aq.cell (jC w2)]at w2
   rw[<-aq.cell (jC w3)]at w3
   simp only[]at w0 w1 w2 w3
   have aW:=(I.o.2.1.bM F.o.1.gG).cell 3
   simp only[kL,jt,kI,HQ.o]at aW
   clear bp q1 dP
   have s1:¬gc=bg.heap.size:=mE (jC w0)
   have s2:gc<bg.heap.size:=jC w0
   go_upto_region 21 with fail
   refine An (λu=>Aa ((Hp U u f.ch l GS j GF B r (Z (K ⟨gb,ob,M⟩) r.ej c1) (Z (K ⟨P,od,M⟩) r.gJ c2) (Z v3 r.gS c3) (Z N r.gI c4) (aj.set d (Z aE sh aF)) L ⟨s.c,CE T d sh,D⟩/\Ar u XB #[Ac Ab (Q:Int),Ac Ab (me:Int),Z xa m.next xc] 58/\Cm u B (Z X sh vc) sh)/\Ar u bg #[Ac Ab yo,Ac Ab ya,Ac Ab yb,Ac Ab yc] 60)) ⟨⟨F.o.1.bM (Ag _ _),F.o.2.1.bM (Ag _ _),F.o.2.2.bM (Ag _ _)⟩,Ar.new _ _ _⟩ ?_
   clear w0 w1 w2 w3 aW s1 s2 F aq
   rintro df F
   generalize bg.heap.size=IB at F⊢
   obtain⟨w0,w1,w2,w3⟩:=Bi F.o.2
   have d9:=Ap (aZ.o.jk HF.o.1 HY.o.1)
   have aq:=Ap (Ai I.o.1.2.2 lR F.o.1.1.gG)
   by_cases bI:yo=29
   case pos=>
    subst bI
    obtain⟨bZ,ce,cg,aW⟩:=Bi (I.o.2.1.bM F.o.1.1.gG)
    go_wp2_with fail
    refine(Jd ⟨Z g1 f.d5 g3,Z g4 f.en g6,Z g7 f.ch g9⟩ f df (HF.o.2.2.1.bM aq.o lR)).mono ?_
    rintro e aG ⟨s5,rfl,dI,bB⟩
    have aT:Aa (Hp U aG f.ch l GS j GF B r (Z (K ⟨gb,ob,M⟩) r.ej c1) (Z (K ⟨P,od,M⟩) r.gJ c2) (Z v3 r.gS c3) (Z N r.gI c4) (aj.set d (Z aE sh aF)) L ⟨s.c,CE T d sh,D⟩/\Ar aG XB #[Ac Ab (Q:Int),Ac Ab (me:Int),Z xa m.next xc] 58/\Cm aG B (Z X sh vc) sh/\Rd aG 1 s5 (AV f).length ((AV f).flatMap Ah)):=⟨F.o.1.1.bM bB,F.o.1.2.1.bM bB,F.o.1.2.2.bM bB,dI⟩
    clear dI bB F w0 w1 w2 w3 bZ ce cg aW aq
    go_wp2_with fail
    refine(Dv (Z X sh vc) s5 sh (AV f) aG oM (L3 f) (Rd.gM aT.o.2.2.1) aT.o.2.2.2).mono ?_
    rintro e gw ⟨⟨bb,rfl,bi⟩,cT⟩
    obtain⟨m4,rfl⟩:=cT
    have aA:Aa (Hp U (aG.drewN m4) f.ch l GS j GF B r (Z (K ⟨gb,ob,M⟩) r.ej c1) (Z (K ⟨P,od,M⟩) r.gJ c2) (Z v3 r.gS c3) (Z N r.gI c4) (aj.set d (Z aE sh aF)) L ⟨s.c,CE T d sh,D⟩/\Ar (aG.drewN m4) XB #[Ac Ab (Q:Int),Ac Ab (me:Int),Z xa m.next xc] 58/\Cm (aG.drewN m4) B (Z X sh vc) sh):=⟨aT.o.1.bM (As _ _ _),aT.o.2.1.bM (As _ _ _),aT.o.2.2.1.bM (As _ _ _)⟩
    have aY:=Ap bi
    clear bi aT
    generalize aG.drewN m4=fw at aA⊢
    have ae:Cv p f (me+1-d) d sh T D=R0:=HY.o.2
    rw[JJ HY.o.1 dF]at ae
    cases bb
    case false=>
     have cI:¬sh=AV f:= λe=>by have:=aY.o.2 e;cases this
     have bj:A6 p f ⟨29,ya,yb,yc⟩ sh=5:=by unfold A6;rw[lS rfl,lE cI]
     have au:Aa (aD=.inl (5,d)):=by
      refine Jr.bad HS.o.1 A.o.1 A.o.2.1 A.o.2.2.1 A.o.2.2.2.1 A.o.2.2.2.2.1 ?_
      rw[aU.o,<-ae,bj,lE dC]
     clear ae bj cI
     obtain⟨q0,q1,q2,q3⟩:=Bi (I.o.1.2.1.bM aA.o.1.gG)
     obtain⟨fz0,fz1,fz2,fz3⟩:=Sg (I.o.1.2.1.bM aA.o.1.gG)
     go_wp2_with fail
     have G:Aa _:=((((I.o.1.2.1.bM aA.o.1.gG).set 0 (Ac Ab (5))).set 1 (Ac Ab ((d:Int)))).set 2 (Ac Ab (0))).set 3 (Z M 0 0)
     simp only[kV,lI,lM]at G
     clear q0 q1 q2 q3
     obtain⟨q0,q1,q2,q3⟩:=Bi G.o
     exact kY (v:=.agg #[Ac Ab (5),Ac Ab ((d:Int)),Ac Ab (0),Z M 0 0]) (by simp[results,Tryz.results6,go_sem,q0,q1,q2,q3]) rfl ⟨⟨5,(d:Int),0,[]⟩,Z M 0 0,rfl,by have:=bu.o;rw[au.o]at this;exact this,Jj _ 0,(((((Ai I.o.1.2.2 lR aA.o.1.gG).setCell oS _).setCell oS _).setCell oS _).setCell oS _)⟩
    case true=>
     have dw:sh=AV f:=aY.o.1 rfl
     have bj:A6 p f ⟨29,ya,yb,yc⟩ sh=0:=by unfold A6;rw[lS rfl,lS dw]
     have dH:Bv p f ⟨29,ya,yb,yc⟩ sh=[]:=by unfold Bv;rw[lS rfl]
     have cA:(At f.ch)[b]?=K m:=by rw[<-HO.o.gR];exact A.o.2.2.1
     have cG:d=me:=by
      apply ly
      intro cI
      exact Pf cA HY.o.1 (by rw[A.o.2.2.2.1];omega) (by rw[A.o.2.2.2.2.1];omega) rfl
     have au:Aa (R0=.inr ([],CE T d sh,D)/\m.next=[]):=by
      refine⟨?_,Ua cA (A.o.2.2.2.2.1.trans (by rw[cG])) HY.o.1 rfl⟩
      rw[<-ae,bj,lS rfl,dH,Lh oM]
      simp
     have o2:=aA.o.1.ob.cell 2
     simp only[kL,jt,kI]at o2
     have eo:¬(D:Int)<(sh:Int):=by have:=HK.o.2.1;omega
     clear ae bj dH cA dw
     go_wp2_with fail
     go_roundw
     case rel=>exact⟨d+1,_,sh,CE T d sh,D,oM,oM,by go_num,⟨.inr ⟨oM,au.o.1,au.o.2⟩,HK.o.2.1,HK.o.2.2.1,HK.o.2.2.2.1,aA.o.2.2⟩,aA.o.1,aA.o.2.1⟩
     exact oI
   case neg=>
    have fW:(yo==29)=false:=by simp[bI]
    obtain⟨p0,p1,p2,p3⟩:=Bi (I.o.1.1.bM F.o.1.1.gG)
    obtain⟨bZ,ce,cg,aW⟩:=Bi (I.o.2.1.bM F.o.1.1.gG)
    go_wp2_with fail
    have bO:=Ja aZ.o d9.o
    refine(KU ⟨Z r1 p.a7 r3,Z k1 p.aC k3,Z (K ⟨gk,ok,M⟩) p.cC f3,Z t1 p.dr t3⟩ p ⟨Z g1 f.d5 g3,Z g4 f.en g6,Z g7 f.ch g9⟩ f ⟨yo,ya,yb,yc⟩ (Z X sh vc) sh df H.o.1 aZ.o.parts.1.1 HF.o.2.1 (HF.o.2.2.2.2.ch _ (i8 HY.o.1)) (H.o.2.2.2.bM aq.o lR) (HF.o.2.2.1.bM aq.o lR) d9.o (Rd.gM F.o.1.2.2) oM (λa c e=>by obtain⟨a',c',e',fB⟩:=DR F.o.1.2.2;rw[e]at e';simp only[jc]at e';omega) bO.1 bO.2).mono ?_
    clear bO
    rintro e bJ ⟨dT,rfl,dL,bS⟩
    have ah:Aa (Hp U bJ f.ch l GS j GF B r (Z (K ⟨gb,ob,M⟩) r.ej c1) (Z (K ⟨P,od,M⟩) r.gJ c2) (Z v3 r.gS c3) (Z N r.gI c4) (aj.set d (Z aE sh aF)) L ⟨s.c,CE T d sh,D⟩/\Ar bJ XB #[Ac Ab (Q:Int),Ac Ab (me:Int),Z xa m.next xc] 58):=⟨F.o.1.1.bM bS,F.o.1.2.1.bM bS⟩
    have bf:Aa (BJ p f ⟨yo,ya,yb,yc⟩ sh=0->Cm bJ B dT (BT p f ⟨yo,ya,yb,yc⟩ sh)):= λe=>Bb (dL e) F.o.1.1.sz
    have aQ:Aa (A6 p f ⟨yo,ya,yb,yc⟩ sh=BJ p f ⟨yo,ya,yb,yc⟩ sh/\Bv p f ⟨yo,ya,yb,yc⟩ sh=BT p f ⟨yo,ya,yb,yc⟩ sh/\(BJ p f ⟨yo,ya,yb,yc⟩ sh=0->(BT p f ⟨yo,ya,yb,yc⟩ sh).length<=64)):=⟨by unfold A6;rw[lE bI],by unfold Bv;rw[lE bI],G5⟩
    have ae:Cv p f (me+1-d) d sh T D=R0:=HY.o.2
    rw[JJ HY.o.1 dF,aQ.o.1,aQ.o.2.1]at ae
    clear dL bS F w0 w1 w2 w3 bZ ce cg aW p0 p1 p2 p3 aq
    generalize BJ p f ⟨yo,ya,yb,yc⟩ sh=cc at bf aQ ae⊢
    generalize BT p f ⟨yo,ya,yb,yc⟩ sh=oo at bf aQ ae⊢
    by_cases cE:cc=0
    case neg=>
     have fD:(cc != 0)=true:=by simpa using cE
     have au:Aa (aD=.inl (cc,d)):=by
      refine Jr.bad HS.o.1 A.o.1 A.o.2.1 A.o.2.2.1 A.o.2.2.2.1 A.o.2.2.2.2.1 ?_
      rw[aU.o,<-ae,lE cE]
     clear ae bf aQ
     obtain⟨q0,q1,q2,q3⟩:=Bi (I.o.1.2.1.bM ah.o.1.gG)
     obtain⟨fz0,fz1,fz2,fz3⟩:=Sg (I.o.1.2.1.bM ah.o.1.gG)
     go_wp2_with fail
     have G:Aa _:=((((I.o.1.2.1.bM ah.o.1.gG).set 0 (Ac Ab (cc))).set 1 (Ac Ab ((d:Int)))).set 2 (Ac Ab (0))).set 3 (Z M 0 0)
     simp only[kV,lI,lM]at G
     clear q0 q1 q2 q3
     obtain⟨q0,q1,q2,q3⟩:=Bi G.o
     exact kY (v:=.agg #[Ac Ab (cc),Ac Ab ((d:Int)),Ac Ab (0),Z M 0 0]) (by simp[results,Tryz.results6,go_sem,q0,q1,q2,q3]) rfl ⟨⟨cc,(d:Int),0,[]⟩,Z M 0 0,rfl,by have:=bu.o;rw[au.o]at this;exact this,Jj _ 0,(((((Ai I.o.1.2.2 lR ah.o.1.gG).setCell oS _).setCell oS _).setCell oS _).setCell oS _)⟩
    case pos=>
     subst cE
     rw[lS rfl]at ae
     have db:Aa _:=ae
     have cR:=bf.o rfl
     obtain⟨dU,f6,dX⟩:=Az cR
     subst dX
     have bP:Aa (Cm bJ B (Z dU oo f6) oo/\oo.length<=64):=⟨cR,aQ.o.2.2 rfl⟩
     have eQ:oo.length<=64:=bP.o.2
     clear ae cR bf aQ
     obtain⟨o0,o1,o2,o3⟩:=Bi ah.o.1.ob
     have gu:=ah.o.1.ob.frozen 2
     by_cases eo:(D:Int)<(oo:Int)
     case pos=>
      go_wp2_with fail
      go_roundw
      case rel=>
       have cH:max D oo=oo.length:=oM
       have t5:=ah.o.1.tb.h5
       have t6:=ah.o.1.tb.h6
       have t7:=ah.o.1.tb.h7
       exact⟨d+1,_,oo,CE T d sh,oo,oM,oM,by go_num,⟨.inl (by have:=db.o;rw[cH]at this;exact this),Nat.le_refl _,eQ,by have:=HK.o.2.2.2.1;omega,bP.o.1.set oS _⟩,ah.o.1.jq oo,ah.o.2.other oS _⟩
      case measure=>exact oI
     case neg=>
      go_wp2_with fail
      go_roundw
      case rel=>
       have cH:max D oo=D:=oM
       exact⟨d+1,_,oo,CE T d sh,D,oM,oM,by go_num,⟨.inl (by have:=db.o;rw[cH]at this;exact this),oM,HK.o.2.2.1,HK.o.2.2.2.1,bP.o.1⟩,ah.o.1,ah.o.2⟩
      case measure=>exact oI
  case neg=>
   have cG:d=me+1:=oM
   have eM:¬(d:Int)<=(me:Int):=oM
   have cY:Aa (Jr p f r.ej ((r.gJ.map Int.toNat).drop (k+1)) me ((m.next.map Int.toNat).drop 0) sh s.c T D aD):=by
    rw[List.drop_zero]
    rcases HK.o.1 with e|⟨_,e1,e2⟩
    . rw[Lh cG]at e
      exact Jr.of HS.o.1 A.o.1 A.o.2.1 A.o.2.2.1 A.o.2.2.2.1 A.o.2.2.2.2.1 (by rw[aU.o,<-e]) (.inl rfl)
    exact Jr.of HS.o.1 A.o.1 A.o.2.1 A.o.2.2.1 A.o.2.2.2.1 A.o.2.2.2.2.1 (by rw[aU.o,e1]) (.inr e2)
   have cZ:Aa (∀b am,s.c b=K am-> ↑am<=D):= λb am e=>kT (HS.o.2.1 b am e) HK.o.2.2.2.1
   have bQ:=HK.o.2.2.2.2
   obtain⟨X,vc,eV⟩:=Az bQ
   subst eV
   have cX:Aa (Hp U wr f.ch l GS j GF B r (Z (K ⟨gb,ob,M⟩) r.ej c1) (Z (K ⟨P,od,M⟩) r.gJ c2) (Z v3 r.gS c3) (Z N r.gI c4) aj L ⟨s.c,T,D⟩/\Ar wr XB #[Ac Ab (Q:Int),Ac Ab (me:Int),Z xa m.next xc] 58/\Cm wr B (Z X sh vc) sh):=⟨F.o.1,F.o.2,bQ⟩
   have eh:D<=64:=HK.o.2.2.1
   have dS:=Ap HK.o.2.1
   clear bQ HK F aU
   have fR:m.next.length<=2:=HI.o.two m (i8 A.o.2.2.1)
   go_wp2_with fail
   clear x0 x1 x2
   go_loopw [17] (λq wr=>∃(i:Nat) (L:List J) (C:Nat->Option (List Int)),i<= ↑m.next/\q=Ac Ab i/\Aa (Jr p f r.ej ((r.gJ.map Int.toNat).drop (k+1)) me ((m.next.map Int.toNat).drop i) sh C T D aD/\∀b am,C b=K am-> ↑am<=D)/\Aa (Hp U wr f.ch l GS j GF B r (Z (K ⟨gb,ob,M⟩) r.ej c1) (Z (K ⟨P,od,M⟩) r.gJ c2) (Z v3 r.gS c3) (Z N r.gI c4) aj L ⟨C,T,D⟩/\Ar wr XB #[Ac Ab (Q:Int),Ac Ab (me:Int),Z xa m.next xc] 58/\Cm wr B (Z X sh vc) sh)) (λq _=> ↑m.next-(intOf q).toNat)
   case atStart=>exact⟨0,L,s.c,oM,rfl,⟨cY.o,cZ.o⟩,cX⟩
   case round=>
   clear cX cY cZ
   obtain⟨i,L,C,fJ,rfl,HA,F⟩:=hrel
   obtain⟨x0,x1,x2⟩:=Fx F.o.2.1
   by_cases eL:i< ↑m.next
   case pos=>
    obtain⟨z,hz⟩:∃z,m.next[i]?=K z:=⟨_,an eL⟩
    obtain⟨t,dY,dN⟩:=HO.o.nxt b m A.o.2.2.1 z (i8 hz)
    subst dY
    have bq:=A.o.2.2.2.2.2.1
    rcases bq.2 with⟨q0,_⟩|⟨gn,on,cn,q1,du⟩
    . omega
    simp only[jc,lO]at q1
    rw[q1.1]at x2
    have n0:=Rd.elem Ao du i _ hz 0 _ rfl
    rw[lr,kZ,<-F.o.1.gG.cell (jC n0)]at n0
    have HN:Aa ((m.next.map Int.toNat).drop i=t::(m.next.map Int.toNat).drop (i+1)):=Ki (by rw[lG,hz];simp)
    clear du hz bq q1
    have eJ:(i:Int)<(m.next:Int):=oM
    have gq:(t:Int)<(r.ej:Int):=oM
    have aS:=F.o.1.ca.cellAt t oM
    have dV:=F.o.1.ca.frozenAt t
    obtain⟨W0,bH⟩:∃W,L[t]?=K W:=⟨_,an (by rw[F.o.1.fl];exact dN)⟩
    have cj:=F.o.1.fa.cellAt t oM
    have dZ:=F.o.1.fa.frozenAt t
    rw[bH]at cj
    rw[lG,oy dN]at aS
    simp only[nW]at aS
    have eu:¬GF=j:=by have:=F.o.1.tb.h6;omega
    have fz:¬j=GF:= λe=>eu e.symm
    have hW:=F.o.1.jI t W0 bH
    obtain⟨wa,wc,eW⟩:=Az hW
    subst eW
    have HW:Aa _:=hW
    have d8:=Ap bH
    clear hW bH
    cases hC:C t with
    | none=>
      rw[hC]at aS
      simp only[Option.isSome_none]at aS
      have dR:Aa (Hp U ((wr.setCell ⟨j,t,M⟩ (.bool true)).setCell ⟨GF,t,M⟩ (Z X sh vc)) f.ch l GS j GF B r (Z (K ⟨gb,ob,M⟩) r.ej c1) (Z (K ⟨P,od,M⟩) r.gJ c2) (Z v3 r.gS c3) (Z N r.gI c4) aj (L.set t (Z X sh vc)) ⟨Fv C t sh,T,D⟩/\Ar ((wr.setCell ⟨j,t,M⟩ (.bool true)).setCell ⟨GF,t,M⟩ (Z X sh vc)) XB #[Ac Ab (Q:Int),Ac Ab (me:Int),Z xa m.next xc] 58/\Cm ((wr.setCell ⟨j,t,M⟩ (.bool true)).setCell ⟨GF,t,M⟩ (Z X sh vc)) B (Z X sh vc) sh):=by
       have t5:=F.o.1.tb.h5
       have t6:=F.o.1.tb.h6
       have t7:=F.o.1.tb.h7
       exact⟨F.o.1.ix F.o.2.2,(F.o.2.1.other oS _).other oS _,(F.o.2.2.set oS _).set oS _⟩
      have bL:Aa (Jr p f r.ej ((r.gJ.map Int.toNat).drop (k+1)) me ((m.next.map Int.toNat).drop (i+1)) sh (Fv C t sh) T D aD/\∀b am,Fv C t sh b=K am-> ↑am<=D):=by
       refine⟨Jr.new (by rw[<-HN.o];exact HA.o.1) hC, λb am e=> ?_⟩
       simp only[Fv]at e
       split at e
       . cases e;exact dS.o
       exact HA.o.2 b am e
      clear HW d8
      go_wp2_with fail
      go_roundw
      case rel=>exact⟨i+1,_,Fv C t sh,oM,by go_num,bL,dR⟩
      exact oI
    | some s1=>
      rw[hC]at aS
      simp only[Option.isSome_some]at aS
      have dA:(C t).getD []=s1:=by rw[hC];rfl
      have g8: ↑s1<=D:=HA.o.2 t s1 hC
      have d6:=Ap hC
      simp only[dA]at HW cj
      clear hC dA d8
      go_wp2_with fail
      refine(Dv (Z wa s1 wc) (Z X sh vc) s1 sh wr oM oM (Rd.gM HW.o) (Rd.gM F.o.2.2)).mono ?_
      rintro e gy ⟨⟨bb,rfl,bi⟩,cT⟩
      obtain⟨m4,rfl⟩:=cT
      have aP:Aa (Hp U (wr.drewN m4) f.ch l GS j GF B r (Z (K ⟨gb,ob,M⟩) r.ej c1) (Z (K ⟨P,od,M⟩) r.gJ c2) (Z v3 r.gS c3) (Z N r.gI c4) aj L ⟨C,T,D⟩/\Ar (wr.drewN m4) XB #[Ac Ab (Q:Int),Ac Ab (me:Int),Z xa m.next xc] 58/\Cm (wr.drewN m4) B (Z X sh vc) sh):=⟨F.o.1.bM (As _ _ _),F.o.2.1.bM (As _ _ _),F.o.2.2.bM (As _ _ _)⟩
      have aY:=Ap bi
      clear bi F HW x0 x1 x2 aS dV cj dZ n0
      generalize wr.drewN m4=fy at aP⊢
      obtain⟨x0,x1,x2⟩:=Fx aP.o.2.1
      cases bb
      case false=>
       have au:=Ap (Jr.none_ (by rw[<-HN.o];exact HA.o.1) d6.o (λe=>by have:=aY.o.2 e;cases this))
       obtain⟨q0,q1,q2,q3⟩:=Bi (I.o.1.2.1.bM aP.o.1.gG)
       obtain⟨fz0,fz1,fz2,fz3⟩:=Sg (I.o.1.2.1.bM aP.o.1.gG)
       go_wp2_with fail
       have G:Aa _:=((((I.o.1.2.1.bM aP.o.1.gG).set 0 (Ac Ab (4))).set 1 (Ac Ab ((me:Int)))).set 2 (Ac Ab (0))).set 3 (Z M 0 0)
       simp only[kV,lI,lM]at G
       clear q0 q1 q2 q3
       obtain⟨q0,q1,q2,q3⟩:=Bi G.o
       exact kY (v:=.agg #[Ac Ab (4),Ac Ab ((me:Int)),Ac Ab (0),Z M 0 0]) (by simp[results,Tryz.results6,go_sem,q0,q1,q2,q3]) rfl ⟨⟨4,(me:Int),0,[]⟩,Z M 0 0,rfl,by have:=bu.o;rw[au.o]at this;exact this,Jj _ 0,(((((Ai I.o.1.2.2 lR aP.o.1.gG).setCell oS _).setCell oS _).setCell oS _).setCell oS _)⟩
      case true=>
       have bL:=Ap (ji (Jr.same (by rw[<-HN.o];exact HA.o.1) d6.o (aY.o.1 rfl)) HA.o.2)
       go_wp2_with fail
       go_roundw
       case rel=>exact⟨i+1,L,C,oM,by go_num,bL,aP⟩
       exact oI
   case neg=>
    have fN:i=m.next.length:=oM
    have dQ:Aa (Ds p f r.ej ((r.gJ.map Int.toNat).drop (k+1)) ⟨C,T,D⟩=aD/\(∀b sh,C b=K sh-> ↑sh<=D)/\D<=64):=by
     refine⟨Jr.some_ (sh:=sh) (me:=me) ?_,HA.o.2,eh⟩
     have:=HA.o.1
     have eG:(m.next.map Int.toNat).drop i=[]:=List.drop_eq_nil_of_le (by rw[kW];omega)
     rw[eG]at this
     exact this
    have eJ:¬(i:Int)<(m.next:Int):=oM
    go_wp2_with fail
    go_roundw
    case rel=>exact⟨k+1,_,L,⟨C,T,D⟩,oM,by go_num,dQ,F.o.1⟩
    exact oI
 case neg=>
  have fP:k=r.gJ.length:=oM
  have au:Aa (aD=.inr s):=by
   have:=HS.o.1
   rw[List.drop_eq_nil_of_le (by rw[kW];omega),Ds]at this
   exact this.symm
  have fO:¬(k:Int)<(r.gJ:Int):=oM
  obtain⟨y0,y1,y2,y3,y4,y5⟩:=Dq E.o.lb
  obtain⟨o0,o1,o2,o3⟩:=Bi E.o.ob
  have eE:(w:Nat)+1<U.heap.size:=I.o.1.2.1.lt
  obtain⟨q0,q1,q2,q3⟩:=Bi (I.o.1.2.1.bM E.o.gG)
  obtain⟨fz0,fz1,fz2,fz3⟩:=Sg (I.o.1.2.1.bM E.o.gG)
  go_wp2_with fail
  have G:Aa _:=((((I.o.1.2.1.bM E.o.gG).set 0 (Ac Ab (0))).set 1 (Ac Ab (0))).set 2 (Ac Ab ((s.d:Int)))).set 3 (Z GS f.ch f.ch)
  simp only[kV,lI,lM]at G
  clear q0 q1 q2 q3
  obtain⟨q0,q1,q2,q3⟩:=Bi G.o
  exact kY (v:=.agg #[Ac Ab (0),Ac Ab (0),Ac Ab ((s.d:Int)),Z GS f.ch f.ch]) (by simp[results,Tryz.results6,go_sem,q0,q1,q2,q3]) rfl ⟨⟨0,0,(s.d:Int),(List.range f.ch).map s.t⟩,Z GS f.ch f.ch,rfl,by have:=bu.o;rw[au.o]at this;exact this,E.o.told eE _ _ _ _,(((((Ai I.o.1.2.2 lR E.o.gG).setCell oS _).setCell oS _).setCell oS _).setCell oS _)⟩
end Go.Proofs.YtjnglocdoljgkaaGreat
