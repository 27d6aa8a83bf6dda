import Derived.Test.YtkgohaigebcgoaaGreatDoorCh29
import Derived.Test.YtkgohaigebcgoaaGreatDoorCh30
import Derived.Test.YtkgohaigebcgoaaGreatDoorCh31
import Derived.Test.YtkgohaigebcgoaaGreatDoorCh39
import Derived.Test.YtkgohaigebcgoaaGreatDoorCh38
namespace Go.Proofs.YtkgohaigebcgoaaGreatDoor
open Go.ChangeShapes Go.WideShapes Go.ChangeAt Go.RowKit Go.Proofs.Tryz
set_option linter.unusedVariables false
open Go.Value renaming slice → Z,agg → An,int → Ag,tuple → Ap
open Option renaming none → M,some → K
open Go renaming Value → J,World → Y,Calls → Ai,TypeId → Aj
open Go.Proofs.Tryz renaming prog → Aq
open List renaming flatMap → Ad
open Go.RowKit renaming Hid → Ae,Below → Ah
open Go.IntKind renaming i64 → Af
open Go.Obj renaming cells → Ak
open Go.Ending renaming returned → Am
open Go.World renaming setCell → Aa,alloc → Ac,ownsRow → Ab
set_option maxHeartbeats 8000000
set_option maxRecDepth 100000
variable {c n t:Int}{a top base g d b q B k j gf l m c3:Nat}{p:MP}{f:MF}{x:MI}{F:List (MG×J)}{w u:Y}{e vl:J}{ys:List (ML×J×J)}{r:DQ}{X:VS}{C:List (J×List MC)}{y:MG×J}{v:VP}
def K9(w:Y)(B h:Nat)(t:Int)(c n:Int)(k:J)(j:VS)(f:List (J×List MC))(g:List (MG×J))(s':MS)(e:Ending)(l:Y):Prop:=∃d C2 b a,B4 w B h t d c n C2 b a k j f g e l/\A3 t d c n C2 b a=s'
theorem Cl{z:MC}{c:List MC}{a:Int}{ts:List Int}(h:BH (z::c) (a::ts)=true)(b:a≠0):z.type=a:=by simp only[BH,mu,Bool.or_eq_true,beq_iff_eq]at h;exact h.1.resolve_left b
theorem AV.jB(h:AV p f x){F:Int}(c:AH x.op=F)(g:F=5\/F=6\/F=7):Ci F x.a=true/\x.a≠0:=by
 obtain⟨_,_,h⟩:=h;rw[c]at h;have d:BW F x.a:=by unfold BQ at h;rcases h with h|h|h|h|h|h|h|h|h|h<;>first|(exfalso;omega)|exact h.1
 rcases d with⟨rfl,b⟩|⟨rfl,b⟩|⟨rfl,b⟩
 . exact⟨by simp[Ci];exact b,oM⟩
 . exact⟨by simp[Ci];exact b,oM⟩
 refine⟨by simp[Ci];exact b, λe=> ?_⟩;rw[e]at b;exact absurd b dC
theorem Fq:AH 8=5/\AH 9=5/\AH 10=5/\AH 11=5/\AH 12=5/\AH 13=6/\AH 14=6/\AH 15=6/\AH 16=6/\AH 20=7/\AH 21=5:=by decide+kernel
theorem JA(z:MG×J):(F.set top z).take top=F.take top:=by rw[List.take_set_of_le lR]
theorem Yx(v:VP)(p:MP)(f:MF)(x:MI)(B D top:Nat)(t:Int)(c n:Int)(X:VS)(C:List (J×List MC))(K ar:List MC)(F0:List (MG×J))(G:J)(E H gf c3:Nat)(y0:MG×J)(w:Y)(P:B<= ↑w)(h:AB w B X C (K++ar) (F0.set top ({y0.1 with at_:=y0.1.at_+1},y0.2)))(S:BC w D t false c n X G)(hF: ↑F0=top+1)(Q:top<=1048576)(hy:F0[top]?=some y0)(R:X.f=Z gf (top+1) c3)(s:FI p f y0.1 x C ar)(ae:BH ar (AA p f x)=true)(aQ:x.op=27->AJ f x.a=3)(hK:K.length+ ↑ar<=64)(aW:y0.1.aB.length<=32)
 (hP:Rd w 2 v.k p.b8 (Ad MC.cells p.b8)) (aO:p.b8.length<=1048576) (aK:w ⟨E,H+1,M⟩=some v.k) (I:Nat) (d:x.op=(I:Int)) (aT:I<28):
 Ai Aq (Kr I) #[.pointer D,An #[.pointer (some ⟨E,H,M⟩),.pointer (some ⟨gf,top*4,M⟩)],An #[x.op,x.a,x.b,x.c]] w (K9 w B D t c n G X C (F0.set top ({y0.1 with at_:=y0.1.at_+1},y0.2)) (DR p f y0.1 (A3 t false c n C (K++ar) F0) x)):=by
 generalize aH:F0.set top ({y0.1 with at_:=y0.1.at_+1},y0.2)=F at h⊢;have y: ↑F=top+1:=by rw[<-aH,mF,hF]
 have A:F[top]?=some ({y0.1 with at_:=y0.1.at_+1},y0.2):=by rw[<-aH,nK oM]
 have L:(A3 t false c n C (K++ar) F0).stack.drop ((A3 t false c n C (K++ar) F0).stack.length-(AA p f x).length)=ar:=by rw[<-s.ij];simp only[A3,mB,Nat.add_sub_cancel];exact List.drop_left
 have N:(A3 t false c n C (K++ar) F0).stack.take ((A3 t false c n C (K++ar) F0).stack.length-(AA p f x).length)=K:=by rw[<-s.ij];simp only[A3,mB,Nat.add_sub_cancel];exact List.take_left
 have O:Du (A3 t false c n C (K++ar) F0).dk (λh=>{h with at_:=y0.1.at_+1})=F.map Prod.fst:=by rw[<-aH];exact Ei hF hy _
 have aM:I=0\/I=1\/I=2\/I=3\/I=4\/I=5\/I=6\/I=7\/I=8\/I=9\/I=10\/I=11\/I=12\/I=13\/I=14\/I=15\/I=16\/I=17\/I=18\/I=19\/I=20\/I=21\/I=22\/I=23\/I=24\/I=25\/I=26\/I=27:=oM
 rcases aM with rfl|rfl|rfl|rfl|rfl|rfl|rfl|rfl|rfl|rfl|rfl|rfl|rfl|rfl|rfl|rfl|rfl|rfl|rfl|rfl|rfl|rfl|rfl|rfl|rfl|rfl|rfl|rfl
 . have d:x.op=0:=d;show Ai Aq 95 _ _ _;(have al:ar.length=0:=by rw[s.ij];simp[AA,d]);have ai:=mG al;subst ai;rw[nm]at h;refine(Zv B D top t false c n X C K F G E H gf c3 _ x.op x.a x.b x.c w P h S y Q A R).mono ?_;intro e T l;refine⟨_,_,_,_,l,?_⟩;simp only[DR,L,N,O,d];simp[A3]
 . have d:x.op=1:=d;show Ai Aq 96 _ _ _;(have al:ar.length=0:=by rw[s.ij];simp[AA,d]);have ai:=mG al;subst ai;rw[nm]at h;obtain⟨q,z,V,U⟩:=s.ins.const d;have aR:=(f7.1 U).1;rcases hP.2 with⟨e,_⟩|⟨gk,ok,ck,e,hc⟩
   . omega
   rw[e]at aK;refine(O7 B D top t false c n X C K F G E H gf c3 _ x.op x.a x.b x.c w P h S y Q A R oM q p.b8 gk ok ck z V aR aO aK (Rd.elem MC.bW hc q z U 0 _ rfl) (Rd.elem MC.bW hc q z U 1 _ rfl)).mono ?_;intro e T l;refine⟨_,_,_,_,l,?_⟩;simp only[DR,L,N,O,d];simp[A3,C5,V,U]
 . have d:x.op=2:=d;show Ai Aq 97 _ _ _;(have al:ar.length=0:=by rw[s.ij];simp[AA,d]);have ai:=mG al;subst ai;rw[nm]at h;obtain⟨q,z,V,U,_⟩:=s.loc oM;refine(Nx B D top t false c n X C K F G E H gf c3 _ x.op x.a x.b x.c w P h S y Q A R oM q z V U oS).mono ?_;intro e T l;refine⟨_,_,_,_,l,?_⟩;simp only[DR,L,N,O,d];simp[A3,C5,V,U]
 . have d:x.op=3:=d;show Ai Aq 98 _ _ _;(have al:ar.length=1:=by rw[s.ij];simp[AA,d]);obtain⟨j,rfl⟩:=GR al;obtain⟨q,z,V,U,_⟩:=s.loc oM;refine(ME j B D top t false c n X C K F G E H gf c3 _ x.op x.a x.b x.c w P h S y Q A R oM q z V U oS).mono ?_;intro e T l;refine⟨_,_,_,_,l,?_⟩;simp only[DR,L,N,O,d];simp[A3,C5,V,Ei y A]
 . have d:x.op=4:=d;show Ai Aq 99 _ _ _;(have al:ar.length=0:=by rw[s.ij];simp[AA,d]);have ai:=mG al;subst ai;rw[nm]at h;obtain⟨q,i,r,rt,V,hi,l,aS,aA,ht,aG,h3⟩:=s.cell oM;obtain⟨z,U,_⟩:=JO aA ht;refine(Xq B D top t false c n X C K F G E H gf c3 _ x.op x.a x.b x.c w P h S y Q A R oM q i r z V hi l U oM oM).mono ?_;intro e T aq;refine⟨_,_,_,_,aq,?_⟩;simp only[DR,L,N,O,d];simp[A3,cellAt,C5,V,hi,l,U]
 . have d:x.op=5:=d;show Ai Aq 100 _ _ _;(have al:ar.length=1:=by rw[s.ij];simp[AA,d]);obtain⟨j,rfl⟩:=GR al;obtain⟨q,i,r,rt,V,hi,l,aS,aA,ht,aG,h3⟩:=s.cell oM;obtain⟨z,U,_⟩:=JO aA ht;refine(VQ j B D top t false c n X C K F G E H gf c3 _ x.op x.a x.b x.c w P h S y Q A R oM q i r z V hi l U oM oM).mono ?_;intro e T aq;refine⟨_,_,_,_,aq,?_⟩;simp only[DR,L,N,O,d];simp[A3,C5,V,hi,Mn l]
 . have d:x.op=6:=d;show Ai Aq 101 _ _ _;(have al:ar.length=1:=by rw[s.ij];simp[AA,d]);obtain⟨j,rfl⟩:=GR al;obtain⟨q,b0,m0,r,V,ax,aE,aA,l,aG,h3,aI⟩:=s.masked oM;obtain⟨w0,au,aF⟩:=PD (s.awf j sP);obtain⟨z,U,_⟩:=aI w0;have aJ:=(f7.1 U).1;obtain⟨gl,cl,el⟩:∃g c,r.1=Z (some ⟨g,0,M⟩) r.2.length c:=by
    rcases Bf (h.fg.own r (by simp only[mA];exact .inl (.inl (lP l))))with⟨_,e⟩|hh
    . omega
    exact hh
   refine(SS j B D top t false c n X C K F G E H gf c3 _ x.op x.a x.b x.c w P h S y Q A R oM q b0 m0 w0 _ gl r.2 cl r z V ax aE l el U aJ oM oM au rfl aF oM).mono ?_;intro e T aq;refine⟨_,_,_,_,aq,?_⟩;simp only[DR,L,N,O,d];simp[A3,cellAt,C5,V,ax,aE,au,l,U]
 . have d:x.op=7:=d;show Ai Aq 102 _ _ _;(have al:ar.length=2:=by rw[s.ij];simp[AA,d]);obtain⟨j,m,rfl⟩:=Em al;rw[show K++[j,m]=K++[j]++[m]from sP]at h;obtain⟨q,b0,m0,r,V,ax,aE,aA,l,aG,h3,aI⟩:=s.masked oM;obtain⟨w0,au,aF⟩:=PD (s.awf j sP);obtain⟨z,U,_⟩:=aI w0;have aJ:=(f7.1 U).1;obtain⟨gl,cl,el⟩:∃g c,r.1=Z (some ⟨g,0,M⟩) r.2.length c:=by
    rcases Bf (h.fg.own r (by simp only[mA];exact .inl (.inl (lP l))))with⟨_,e⟩|hh
    . omega
    exact hh
   refine(Ry j m B D top t false c n X C K F G E H gf c3 _ x.op x.a x.b x.c w P h S y Q A R (by simp at hK;omega) q b0 m0 w0 _ gl r.2 cl r z V ax aE l el U aJ oM oM au rfl aF oM).mono ?_;intro e T aq;refine⟨_,_,_,_,aq,?_⟩;simp only[DR,L,N,O,d];simp[A3,C5,V,ax,aE,au,Mn l]
 . have d:x.op=8:=d;show Ai Aq 103 _ _ _;(have al:ar.length=2:=by rw[s.ij];simp[AA,d]);obtain⟨j,m,rfl⟩:=Em al;rw[show K++[j,m]=K++[j]++[m]from sP]at h;obtain⟨u,aa⟩:=s.ins.jB (F:=5) (by rw[d];exact Fq.1) dC;have W:j.type=x.a:=Cl (by have:=ae;simp only[AA,d]at this;simpa using this) aa;rw[<-W]at u;refine(Bs (YS j.type j.word m.word) 8 81 j m B D top t false c n X C K F G E H gf c3 _ x.op x.a x.b x.c w P h S y Q A R (by simp at hK;omega) d oM rfl (rH _ _ _) (λ_ _=>kR)).mono ?_;intro e T l;refine⟨_,_,_,_,l,?_⟩;simp only[DR,L,N,O,d];simp[A3,C5,Ds,u]
 . have d:x.op=9:=d;show Ai Aq 103 _ _ _;(have al:ar.length=2:=by rw[s.ij];simp[AA,d]);obtain⟨j,m,rfl⟩:=Em al;rw[show K++[j,m]=K++[j]++[m]from sP]at h;obtain⟨u,aa⟩:=s.ins.jB (F:=5) (by rw[d];exact Fq.2.1) dC;have W:j.type=x.a:=Cl (by have:=ae;simp only[AA,d]at this;simpa using this) aa;rw[<-W]at u;refine(Bs (YX j.type j.word m.word) 9 82 j m B D top t false c n X C K F G E H gf c3 _ x.op x.a x.b x.c w P h S y Q A R (by simp at hK;omega) d oM rfl (Q9 _ _ _) (λ_ _=>kR)).mono ?_;intro e T l;refine⟨_,_,_,_,l,?_⟩;simp only[DR,L,N,O,d];simp[A3,C5,Ds,u]
 . have d:x.op=10:=d;show Ai Aq 103 _ _ _;(have al:ar.length=2:=by rw[s.ij];simp[AA,d]);obtain⟨j,m,rfl⟩:=Em al;rw[show K++[j,m]=K++[j]++[m]from sP]at h;obtain⟨u,aa⟩:=s.ins.jB (F:=5) (by rw[d];exact Fq.2.2.1) dC;have W:j.type=x.a:=Cl (by have:=ae;simp only[AA,d]at this;simpa using this) aa;rw[<-W]at u;refine(Bs (YT j.type j.word m.word) 10 83 j m B D top t false c n X C K F G E H gf c3 _ x.op x.a x.b x.c w P h S y Q A R (by simp at hK;omega) d oM rfl (Q8 _ _ _) (λ_ _=>kR)).mono ?_;intro e T l;refine⟨_,_,_,_,l,?_⟩;simp only[DR,L,N,O,d];simp[A3,C5,Ds,u]
 . have d:x.op=11:=d;show Ai Aq 103 _ _ _;(have al:ar.length=2:=by rw[s.ij];simp[AA,d]);obtain⟨j,m,rfl⟩:=Em al;rw[show K++[j,m]=K++[j]++[m]from sP]at h;obtain⟨u,aa⟩:=s.ins.jB (F:=5) (by rw[d];exact Fq.2.2.2.1) dC;have W:j.type=x.a:=Cl (by have:=ae;simp only[AA,d]at this;simpa using this) aa;rw[<-W]at u;refine(Bs (UH j.type j.word m.word) 11 84 j m B D top t false c n X C K F G E H gf c3 _ x.op x.a x.b x.c w P h S y Q A R (by simp at hK;omega) d oM rfl (Vg _ _ _) (λ_ _=>kR)).mono ?_;intro e T l;refine⟨_,_,_,_,l,?_⟩;simp only[DR,L,N,O,d];simp[A3,C5,Ds,u]
 . have d:x.op=12:=d;show Ai Aq 103 _ _ _;(have al:ar.length=2:=by rw[s.ij];simp[AA,d]);obtain⟨j,m,rfl⟩:=Em al;rw[show K++[j,m]=K++[j]++[m]from sP]at h;obtain⟨u,aa⟩:=s.ins.jB (F:=5) (by rw[d];exact Fq.2.2.2.2.1) dC;have W:j.type=x.a:=Cl (by have:=ae;simp only[AA,d]at this;simpa using this) aa;rw[<-W]at u;refine(Bs (UI j.type j.word m.word) 12 85 j m B D top t false c n X C K F G E H gf c3 _ x.op x.a x.b x.c w P h S y Q A R (by simp at hK;omega) d oM rfl (Vh _ _ _) (λ_ _=>kR)).mono ?_;intro e T l;refine⟨_,_,_,_,l,?_⟩;simp only[DR,L,N,O,d];simp[A3,C5,Ds,u]
 . have d:x.op=13:=d;show Ai Aq 103 _ _ _;(have al:ar.length=2:=by rw[s.ij];simp[AA,d]);obtain⟨j,m,rfl⟩:=Em al;rw[show K++[j,m]=K++[j]++[m]from sP]at h;obtain⟨u,aa⟩:=s.ins.jB (F:=6) (by rw[d];exact Fq.2.2.2.2.2.1) dC;have W:j.type=x.a:=Cl (by have:=ae;simp only[AA,d]at this;simpa using this) aa;rw[<-W]at u;refine(Bs (rh j.type j.word m.word) 13 86 j m B D top t false c n X C K F G E H gf c3 _ x.op x.a x.b x.c w P h S y Q A R (by simp at hK;omega) d oM rfl (Ve _ _ _) (λ_ _=>kR)).mono ?_;intro e T l;refine⟨_,_,_,_,l,?_⟩;simp only[DR,L,N,O,d];simp[A3,C5,Ds,u]
 . have d:x.op=14:=d;show Ai Aq 103 _ _ _;(have al:ar.length=2:=by rw[s.ij];simp[AA,d]);obtain⟨j,m,rfl⟩:=Em al;rw[show K++[j,m]=K++[j]++[m]from sP]at h;obtain⟨u,aa⟩:=s.ins.jB (F:=6) (by rw[d];exact Fq.2.2.2.2.2.2.1) dC;have W:j.type=x.a:=Cl (by have:=ae;simp only[AA,d]at this;simpa using this) aa;rw[<-W]at u;refine(Bs (uk j.type j.word m.word) 14 87 j m B D top t false c n X C K F G E H gf c3 _ x.op x.a x.b x.c w P h S y Q A R (by simp at hK;omega) d oM rfl (XD _ _ _) (λ_ _=>kR)).mono ?_;intro e T l;refine⟨_,_,_,_,l,?_⟩;simp only[DR,L,N,O,d];simp[A3,C5,Ds,u]
 . have d:x.op=15:=d;show Ai Aq 103 _ _ _;(have al:ar.length=2:=by rw[s.ij];simp[AA,d]);obtain⟨j,m,rfl⟩:=Em al;rw[show K++[j,m]=K++[j]++[m]from sP]at h;obtain⟨u,aa⟩:=s.ins.jB (F:=6) (by rw[d];exact Fq.2.2.2.2.2.2.2.1) dC;have W:j.type=x.a:=Cl (by have:=ae;simp only[AA,d]at this;simpa using this) aa;rw[<-W]at u;refine(Bs (ri j.type j.word m.word) 15 88 j m B D top t false c n X C K F G E H gf c3 _ x.op x.a x.b x.c w P h S y Q A R (by simp at hK;omega) d oM rfl (Vf _ _ _) (λ_ _=>kR)).mono ?_;intro e T l;refine⟨_,_,_,_,l,?_⟩;simp only[DR,L,N,O,d];simp[A3,C5,Ds,u]
 . have d:x.op=16:=d;show Ai Aq 104 _ _ _;(have al:ar.length=1:=by rw[s.ij];simp[AA,d]);obtain⟨j,rfl⟩:=GR al;obtain⟨u,aa⟩:=s.ins.jB (F:=6) (by rw[d];exact Fq.2.2.2.2.2.2.2.2.1) dC;have W:j.type=x.a:=Cl (by have:=ae;simp only[AA,d]at this;simpa using this) aa;rw[<-W]at u;refine(RD (UJ j.type j.word 0) 16 89 j B D top t false c n X C K F G E H gf c3 _ x.op x.a x.b x.c w P h S y Q A R (by simp at hK;omega) d oM rfl (rI _ _ _) (λ_ _=>kR)).mono ?_;intro e T l;refine⟨_,_,_,_,l,?_⟩;simp only[DR,L,N,O,d];simp[A3,C5,Ds,u]
 . have d:x.op=17:=d;show Ai Aq 103 _ _ _;(have al:ar.length=2:=by rw[s.ij];simp[AA,d]);obtain⟨j,m,rfl⟩:=Em al;rw[show K++[j,m]=K++[j]++[m]from sP]at h;have u:Ci 0 j.type=true:=rfl;refine(Bs (YV j.type j.word m.word) 17 90 j m B D top t false c n X C K F G E H gf c3 _ x.op x.a x.b x.c w P h S y Q A R (by simp at hK;omega) d oM rfl (Pq _ _ _) (λ_ _=>kR)).mono ?_;intro e T l;refine⟨_,_,_,_,l,?_⟩;simp only[DR,L,N,O,d];simp[A3,C5,Ds,u]
 . have d:x.op=18:=d;show Ai Aq 103 _ _ _;(have al:ar.length=2:=by rw[s.ij];simp[AA,d]);obtain⟨j,m,rfl⟩:=Em al;rw[show K++[j,m]=K++[j]++[m]from sP]at h;have u:Ci 0 j.type=true:=rfl;refine(Bs (YW j.type j.word m.word) 18 91 j m B D top t false c n X C K F G E H gf c3 _ x.op x.a x.b x.c w P h S y Q A R (by simp at hK;omega) d oM rfl (NA _ _ _) (λ_ _=>kR)).mono ?_;intro e T l;refine⟨_,_,_,_,l,?_⟩;simp only[DR,L,N,O,d];simp[A3,C5,Ds,u]
 . have d:x.op=19:=d;show Ai Aq 104 _ _ _;(have al:ar.length=1:=by rw[s.ij];simp[AA,d]);obtain⟨j,rfl⟩:=GR al;have u:Ci 0 j.type=true:=rfl;refine(RD (YU j.type j.word 0) 19 92 j B D top t false c n X C K F G E H gf c3 _ x.op x.a x.b x.c w P h S y Q A R (by simp at hK;omega) d oM rfl (Vj _ _ _) (λ_ _=>kR)).mono ?_;intro e T l;refine⟨_,_,_,_,l,?_⟩;simp only[DR,L,N,O,d];simp[A3,C5,Ds,u]
 . have d:x.op=20:=d;show Ai Aq 105 _ _ _;(have al:ar.length=2:=by rw[s.ij];simp[AA,d]);obtain⟨j,m,rfl⟩:=Em al;rw[show K++[j,m]=K++[j]++[m]from sP]at h;obtain⟨u,aa⟩:=s.ins.jB (F:=7) (by rw[d];exact Fq.2.2.2.2.2.2.2.2.2.1) dC;have W:j.type=x.a:=Cl (by have:=ae;simp only[AA,d]at this;simpa using this) aa;rw[<-W]at u;refine(Kw (tO j.type j.word m.word) 20 93 j m B D top t false c n X C K F G E H gf c3 _ x.op x.a x.b x.c w P h S y Q A R (by simp at hK;omega) d oM rfl (XE _ _ _) (λ_ _=>kR)).mono ?_;intro e T l;refine⟨_,_,_,_,l,?_⟩;simp only[DR,L,N,O,d];simp[A3,C5,Ds,u]
 . have d:x.op=21:=d;show Ai Aq 105 _ _ _;(have al:ar.length=2:=by rw[s.ij];simp[AA,d]);obtain⟨j,m,rfl⟩:=Em al;rw[show K++[j,m]=K++[j]++[m]from sP]at h;obtain⟨u,aa⟩:=s.ins.jB (F:=5) (by rw[d];exact Fq.2.2.2.2.2.2.2.2.2.2) dC;have W:j.type=x.a:=Cl (by have:=ae;simp only[AA,d]at this;simpa using this) aa;rw[<-W]at u;refine(Kw (N4 j.type j.word m.word) 21 94 j m B D top t false c n X C K F G E H gf c3 _ x.op x.a x.b x.c w P h S y Q A R (by simp at hK;omega) d oM rfl (Zx _ _ _) (λ_ _=>kR)).mono ?_;intro e T l;refine⟨_,_,_,_,l,?_⟩;simp only[DR,L,N,O,d];simp[A3,C5,Ds,u]
 . have d:x.op=22:=d;show Ai Aq 106 _ _ _;(have al:ar.length=1:=by rw[s.ij];simp[AA,d]);obtain⟨j,rfl⟩:=GR al;refine(QE j B D top t false c n X C K F G E H gf c3 _ x.op x.a x.b x.c w P h S y Q A R oM).mono ?_;intro e T l;refine⟨_,_,_,_,l,?_⟩;simp only[DR,L,N,O,d];simp[A3,C5]
 . have d:x.op=23:=d;show Ai Aq 107 _ _ _;(have al:ar.length=1:=by rw[s.ij];simp[AA,d]);obtain⟨j,rfl⟩:=GR al;refine(YP j B D top t false c n X C K F G E H gf c3 _ x.op x.a x.b x.c w P h S y Q A R oM).mono ?_;intro e T l;refine⟨_,_,_,_,l,?_⟩;simp only[DR,L,N,O,d];simp[A3,C5]
 . have d:x.op=24:=d;show Ai Aq 108 _ _ _;(have al:ar.length=1:=by rw[s.ij];simp[AA,d]);obtain⟨j,rfl⟩:=GR al;refine(WH j B D top t false c n X C K F G E H gf c3 _ x.op x.a x.b x.c w P h S y Q A R oM).mono ?_;intro e T l;refine⟨_,_,_,_,l,?_⟩;simp only[DR,L,N,O,d];simp[A3]
 . have d:x.op=25:=d;show Ai Aq 109 _ _ _;(have al:ar.length=0:=by rw[s.ij];simp[AA,d]);have ai:=mG al;subst ai;rw[nm]at h;refine(Xn B D top t false c n X C K F G E H gf c3 _ x.op x.a x.b x.c w P h S y Q A R).mono ?_;intro e T l;refine⟨_,_,_,_,l,?_⟩;simp only[DR,L,N,O,d];simp[A3,Ei y A]
 . have d:x.op=26:=d;show Ai Aq 110 _ _ _;(have al:ar.length=1:=by rw[s.ij];simp[AA,d]);obtain⟨j,rfl⟩:=GR al;have W:j.type=1:=Cl (by have:=ae;simp only[AA,d]at this;simpa using this) dC;by_cases aj:j.word=0
   . refine(SR j B D top t false c n X C K F G E H gf c3 _ x.op x.a x.b x.c w P h S y Q A R (by simp at hK;omega) W aj).mono ?_;intro e T l;refine⟨_,_,_,_,l,?_⟩;simp only[DR,L,N,O,d];simp[A3,C5,aj,Ei y A]
   refine(SQ j B D top t false c n X C K F G E H gf c3 _ x.op x.a x.b x.c w P h S y Q A R (by simp at hK;omega) W aj).mono ?_;intro e T l;refine⟨_,_,_,_,l,?_⟩;simp only[DR,L,N,O,d];simp[A3,C5,aj]
 have d:x.op=27:=d;show Ai Aq 111 _ _ _;have al:ar.length=0:=by rw[s.ij];simp[AA,d]
 have ai:=mG al;subst ai;rw[nm]at h;obtain⟨q,z,V,U,ht⟩:=s.loc oM;obtain⟨w0,au,aF⟩:=PD (s.lwf z (lP U));rw[aQ d]at ht;by_cases aj:z.word=0
 . refine(Y8 B D top t false c n X C K F G E H gf c3 _ x.op x.a x.b x.c w P h S y Q A R q z V U oS ht oM oM aj).mono ?_;intro e T l;refine⟨_,_,_,_,l,?_⟩;simp only[DR,L,N,O,d];simp[A3,C5,V,U,aj,Ei y A]
 refine(Y7 B D top t false c n X C K F G E H gf c3 _ x.op x.a x.b x.c w P h S y Q A R q z V U oS ht oM oM aj).mono ?_;intro e T l;refine⟨_,_,_,_,l,?_⟩;simp only[DR,L,N,O,d];simp[A3,C5,V,U,aj,Ei y A,SX U]
theorem Pk(n c:Int)(w:Y):Ai Aq 48 #[n,c] w λe a=>AM e (0<=n/\n<c)/\a=w:=(A6 n c w).mono λe a h=>⟨⟨_,h.1,sP⟩,h.2⟩
theorem CP.sl{g f:J}{F:List (MB×J)}(h:CP w base g f e vl F ys r):∃a n c1 b p c2 c q c3 d s c4,g=Z a n c1/\f=Z b p c2/\e=Z c q c3/\vl=Z d s c4:=by obtain⟨a,c1,j⟩:=AF h.jD;obtain⟨d,c4,m⟩:=AF h.jC;obtain⟨b,c2,k⟩:=AF (h.fg.own (f,r.dr) sP);obtain⟨c,c3,l⟩:=AF (h.fg.own (e,r.fv) sP);exact⟨a,_,c1,b,_,c2,c,_,c3,d,_,c4,j,k,l,m⟩
theorem CP.set{c d:J}{F:List (MB×J)}(h:CP w base c e d vl F ys r){a:Addr}(b:a.block<base)(x:J):CP (w.setCell a x) base c e d vl F ys r:=⟨mY h.jD b x,mY h.jC b x,⟨λr f=>mY (h.fg.own r f) b x,h.fg.sep⟩,h.eb,h.el⟩
theorem CP.down{c d:J}{F:List (MB×J)}(h:CP w base c e d vl F ys r)(a:b<=base):CP w b c e d vl F ys r:=⟨Bm h.jD a,Bm h.jC a,⟨λr f=>Bm (h.fg.own r f) a,h.fg.sep⟩,h.eb,h.el⟩
def sq(w:Y)(p:MP)(d:Int)(e:Ending)(s:Y):Prop:=∃(c a:Int) (l:Option Addr) (g c1:Nat) (m:Option Addr) (h c2:Nat) (n:Option Addr) (j c3:Nat) (q:Option Addr) (k c4:Nat) (b:Bool),e=Am (Ap #[An #[c,a,Z l g c1,Z m h c2,Z n j c3,Z q k c4],b])/\(b=true↔PY p d)/\(b=true->∃f r F ys,p.aC[d.toNat]?=K f/\Ba f.aU r/\r.aU=0/\c=0/\CP s w (Z l g c1) (Z m h c2) (Z n j c3) (Z q k c4) F ys r)/\Ah w w s
theorem qh{q:Prop}(h:q:=by go_wp2_with fail;have G:Ae _:=(((((E2.2.1.set 0 (Ag Af 0)).set 1 (Ag Af 0)).set 2 (Z M 0 0)).set 3 (Z M 0 0)).set 4 (Z M 0 0)).set 5 (Z M 0 0);simp only[mO,mi,mh]at G;clear q0 q1 q2 q3 q4 q5;obtain⟨q0,q1,q2,q3,q4,q5⟩:=IL G;exact mM (v:=Ap #[An #[Ag Af 0,Ag Af 0,Z M 0 0,Z M 0 0,Z M 0 0,Z M 0 0],false]) (by simp[results,results28,go_sem,q0,q1,q2,q3,q4,q5]) rfl ⟨0,0,_,_,_,_,_,_,_,_,_,_,_,_,false,rfl,⟨λe=>(by cases e), λe=>absurd e HNP.o⟩, λe=>(by cases e),(((((E2.2.2.setCell (by simp only[];omega) _).setCell (by simp only[];omega) _).setCell (by simp only[];omega) _).setCell (by simp only[];omega) _).setCell (by simp only[];omega) _).setCell (by simp only[];omega) _⟩):q:=h
theorem LU(v:VP)(p:MP)(W:Int)(w:World)(hs:p.small)(hw:p.wf)(h:Eb w v p)(aE:D8 w v.r p.az)(aH:EZ w v.f p.aC):Ai Aq 28 #[An #[v.r,v.k,v.f,v.t],W] w (sq w p W):=by
 have H:Ae (p.small/\p.wf/\Eb w v p/\D8 w v.r p.az/\EZ w v.f p.aC):=⟨hs,hw,h,aE,aH⟩
 obtain⟨L,N,B,C,O,P,f1,f3,rfl⟩:=h.sl;clear hs hw h aE aH;have aJ:Ae (p.aC.length<=1048576):=H.1.aC;generalize aI:p.aC.length=A at H aJ⊢;have aj:Ae (↑p.aC=A):=aI
 clear aI;generalize p.az.length=E at H⊢;generalize p.b8.length=D at H⊢;generalize p.bO.length=I at H⊢;simp only[]at H;have E0:Ae (Ay (Ac (Ac w (Ak #[Z L E N,Z B D C,Z f1 A f3,Z O I P] 40)) (Ak #[Ag Af 0,Ag Af 0,Z M 0 0,Z M 0 0,Z M 0 0,Z M 0 0] 61)) w #[Z L E N,Z B D C,Z f1 A f3,Z O I P] 40/\Ay (Ac (Ac w (Ak #[Z L E N,Z B D C,Z f1 A f3,Z O I P] 40)) (Ak #[Ag Af 0,Ag Af 0,Z M 0 0,Z M 0 0,Z M 0 0,Z M 0 0] 61)) ((w:Nat)+1) #[Ag Af 0,Ag Af 0,Z M 0 0,Z M 0 0,Z M 0 0,Z M 0 0] 61/\Ah w w (Ac (Ac w (Ak #[Z L E N,Z B D C,Z f1 A f3,Z O I P] 40)) (Ak #[Ag Af 0,Ag Af 0,Z M 0 0,Z M 0 0,Z M 0 0,Z M 0 0] 61))):=by
  have X:=Al w (Ak #[Z L E N,Z B D C,Z f1 A f3,Z O I P] 40);have b2:=Al (Ac w (Ak #[Z L E N,Z B D C,Z f1 A f3,Z O I P] 40)) (Ak #[Ag Af 0,Ag Af 0,Z M 0 0,Z M 0 0,Z M 0 0,Z M 0 0] 61);refine⟨(Ay.new w _ _).av b2,?_,Ar X lR b2⟩;have k2:=Ay.new (Ac w (Ak #[Z L E N,Z B D C,Z f1 A f3,Z O I P] 40)) #[Ag Af 0,Ag Af 0,Z M 0 0,Z M 0 0,Z M 0 0,Z M 0 0] 61;have e1:(Ac w (Ak #[Z L E N,Z B D C,Z f1 A f3,Z O I P] 40)).heap.size= ↑w+1:=sP
  rw[e1]at k2;exact k2
 go_enter func28,ntmps28;go_upto_region 1 with fail
 refine Av (λu=>Ae (Ay u w #[Z L E N,Z B D C,Z f1 A f3,Z O I P] 40/\Ay u ((w:Nat)+1) #[Ag Af 0,Ag Af 0,Z M 0 0,Z M 0 0,Z M 0 0,Z M 0 0] 61/\Ah w w u)) E0 ?_
 rintro U T;clear E0;obtain⟨p0,p1,p2,p3⟩:=Cv T.1;go_wp2_with fail;refine(Dc ⟨Z L E N,Z B D C,Z f1 A f3,Z O I P⟩ p U H.1 H.2.1 (H.2.2.1.av T.2.2 lR) (H.2.2.2.1.av T.2.2 lR) (H.2.2.2.2.av T.2.2 lR)).mono ?_;rintro e u1 ⟨⟨n,rfl,hn⟩,X⟩;have E2:Ae (Ay u1 w #[Z L E N,Z B D C,Z f1 A f3,Z O I P] 40/\Ay u1 ((w:Nat)+1) #[Ag Af 0,Ag Af 0,Z M 0 0,Z M 0 0,Z M 0 0,Z M 0 0] 61/\Ah w w u1):=⟨T.1.av X,T.2.1.av X,Ar T.2.2 lR X⟩
 have HN:Ae (AY p n):=hn;clear X hn T p0 p1 p2 p3;obtain⟨q0,q1,q2,q3,q4,q5⟩:=IL E2.2.1;obtain⟨z0,z1,z2,z3,z4,z5⟩:=rk E2.2.1;by_cases ae:n=0
 . subst ae;rw[show Hl 0=.nilIface from rfl];obtain⟨p0,p1,p2,p3⟩:=Cv E2.1;go_wp2_with fail;refine(Pk W (A:Int) u1).mono ?_;rintro e S ⟨⟨b2,rfl,R⟩,rfl⟩;have ai:Ae (b2=true↔(0<=W/\W<(A:Int))):=R
   clear R;cases b2
   . (have HNP:Ae (¬PY p W):= λe=>by obtain⟨f,hf,_⟩:=e.2.2;have h1:=(f7.1 hf).1;have h2:=aj.o;have:=ai.2 ⟨e.2.1,by have:=e.2.1;omega⟩;cases this);exact qh
   . have aq:=ai.1 (by first|rfl|trivial);obtain⟨q,rfl⟩:=mJ aq.1;obtain⟨f,hf⟩:∃f,p.aC[q]?=K f:=⟨_,an (by rw[aj];omega)⟩;obtain⟨gk,ok,ck,aA,g,ax,m0,m1,m2,m3⟩:=Kz (H.2.2.1.av E2.2.2 lR).aC hf;simp only[lU,aj.o,mj]at aA;obtain⟨rfl,rfl⟩:=aA;obtain⟨g1,g3,g4,g6,g7,g9,rfl⟩:=GU ax;have bH:(q:Int)<(A:Int):=aq.2;have HF:Ae (p.aC[q]?=K f/\f.small/\FD S ⟨Z g1 f.aP g3,Z g4 f.aB g6,Z g7 f.aU g9⟩ f):=⟨hf,H.1.func f (lP hf),ax⟩
     clear hf ax aq ai;simp only[]at m0 m1 m2 m3;go_wp2_with fail;refine(GK (Z g7 f.aU g9) f.aU S HF.2.1.2.2 HF.2.2.2.2).mono ?_;rintro e Q ⟨r,vb,vo,vi,vl,F,ys,rfl,aG,au,b3⟩;obtain⟨m,c,c1,s,d,c2,y,j,c3,z,l,c4,rfl,rfl,rfl,rfl⟩:=au.sl;have V:Ae (Ba f.aU r/\CP Q S (Z m c c1) (Z s d c2) (Z y j c3) (Z z l c4) F ys r/\Ay Q ((w:Nat)+1) #[Ag Af 0,Ag Af 0,Z M 0 0,Z M 0 0,Z M 0 0,Z M 0 0] 61/\Ah w w Q/\(w:Nat)+1< ↑S):=⟨aG,au,E2.2.1.av b3,Ar E2.2.2 lR b3,E2.2.1.lt⟩
     clear aG au b3 E2 m0 m1 m2 m3 p0 p1 p2 p3 q0 q1 q2 q3 q4 q5 z0 z1 z2 z3 z4 z5;have E4:Ae (Ay (Ac Q (Ak #[r.aU,r.at_,Z m c c1,Z s d c2,Z y j c3,Z z l c4] 61)) Q #[r.aU,r.at_,Z m c c1,Z s d c2,Z y j c3,Z z l c4] 61/\Ay (Ac Q (Ak #[r.aU,r.at_,Z m c c1,Z s d c2,Z y j c3,Z z l c4] 61)) ((w:Nat)+1) #[Ag Af 0,Ag Af 0,Z M 0 0,Z M 0 0,Z M 0 0,Z M 0 0] 61/\CP (Ac Q (Ak #[r.aU,r.at_,Z m c c1,Z s d c2,Z y j c3,Z z l c4] 61)) S (Z m c c1) (Z s d c2) (Z y j c3) (Z z l c4) F ys r/\Ah w w (Ac Q (Ak #[r.aU,r.at_,Z m c c1,Z s d c2,Z y j c3,Z z l c4] 61))/\(w:Nat)+1< ↑Q):=⟨Ay.new _ _ _,V.2.2.1.av (Al _ _),V.2.1.jb (Al _ _),Ar V.2.2.2.1 lR (Al _ _),V.2.2.1.lt⟩
     have aa:Ae (Ba f.aU r/\(w:Nat)+1< ↑S):=⟨V.1,V.2.2.2.2⟩
     (go_upto_region 4 with fail);clear V;generalize Q.heap.size=Y at E4⊢;refine Av (λu=>Ae (Ay u Y #[r.aU,r.at_,Z m c c1,Z s d c2,Z y j c3,Z z l c4] 61/\Ay u ((w:Nat)+1) #[Ag Af 0,Ag Af 0,Z M 0 0,Z M 0 0,Z M 0 0,Z M 0 0] 61/\CP u S (Z m c c1) (Z s d c2) (Z y j c3) (Z z l c4) F ys r/\Ah w w u/\ ↑w+1<Y)) E4 ?_
     rintro U5 E5;clear E4;have E6:Ae (CP U5 S (Z m c c1) (Z s d c2) (Z y j c3) (Z z l c4) F ys r/\Ah w w U5):=⟨E5.2.2.1,E5.2.2.2.1⟩
     obtain⟨y0,y1,y2,y3,y4,y5⟩:=IL (E5.1.av (As _));obtain⟨q0,q1,q2,q3,q4,q5⟩:=IL (E5.2.1.av (As _));obtain⟨z0,z1,z2,z3,z4,z5⟩:=rk (E5.2.1.av (As _));obtain⟨bf,bg,bi,bj,bq,br⟩:=IL E5.1;obtain⟨aS,aT,aW,aX,aY,aZ⟩:=IL E5.2.1;obtain⟨bt,bu,bx,bB,bC,bG⟩:=rk E5.2.1;have aK:¬Y= ↑w+1:=by have:=E5.2.2.2.2;omega
     have aM:¬ ↑w+1=Y:=by have:=E5.2.2.2.2;omega
     go_region;have G:Ae _:=(((((E5.2.1.set 0 r.aU).set 1 r.at_).set 2 (Z m c c1)).set 3 (Z s d c2)).set 4 (Z y j c3)).set 5 (Z z l c4);simp only[mO,mi,mh]at G;have R:=aa.2;have OW:Ae _:=((((((E6.1.set (a:=⟨(w:Nat)+1,0,M⟩) R r.aU).set (a:=⟨(w:Nat)+1,1,M⟩) R r.at_).set (a:=⟨(w:Nat)+1,2,M⟩) R (Z m c c1)).set (a:=⟨(w:Nat)+1,3,M⟩) R (Z s d c2)).set (a:=⟨(w:Nat)+1,4,M⟩) R (Z y j c3)).set (a:=⟨(w:Nat)+1,5,M⟩) R (Z z l c4)).jb (As _);have BB:Ae _:=Ar (Uk (Uk (Uk (Uk (Uk (Uk E6.2 ((w:Nat)+1) 0 (Nat.le_succ _) r.aU) ((w:Nat)+1) 1 (Nat.le_succ _) r.at_) ((w:Nat)+1) 2 (Nat.le_succ _) (Z m c c1)) ((w:Nat)+1) 3 (Nat.le_succ _) (Z s d c2)) ((w:Nat)+1) 4 (Nat.le_succ _) (Z y j c3)) ((w:Nat)+1) 5 (Nat.le_succ _) (Z z l c4)) lR (As _);clear q0 q1 q2 q3 q4 q5 aS aT aW aX aY aZ y0 y1 y2 y3 y4 y5 bf bg bi bj bq br z0 z1 z2 z3 z4 z5 bt bu bx bB bC bG aK aM;obtain⟨q0,q1,q2,q3,q4,q5⟩:=IL (Ay.av (w:=Aa (Aa (Aa (Aa (Aa (Aa U5 ⟨(w:Nat)+1,0,M⟩ r.aU) ⟨(w:Nat)+1,1,M⟩ r.at_) ⟨(w:Nat)+1,2,M⟩ (Z m c c1)) ⟨(w:Nat)+1,3,M⟩ (Z s d c2)) ⟨(w:Nat)+1,4,M⟩ (Z y j c3)) ⟨(w:Nat)+1,5,M⟩ (Z z l c4)) (b:=(w:Nat)+1) (t:=61) G (As _));go_wp2_with fail;have aO:(w:Nat)<=S.heap.size:=oM
     exact mM (v:=Ap #[An #[r.aU,r.at_,Z m c c1,Z s d c2,Z y j c3,Z z l c4],(r.aU==0)]) (by simp[results,results28,go_sem,q0,q1,q2,q3,q4,q5]) rfl ⟨r.aU,r.at_,m,c,c1,s,d,c2,y,j,c3,z,l,c4,r.aU==0,rfl,⟨λe=>⟨HN,oM,f,by rw[lV];exact HF.1,r,aa.1,by simpa using e⟩, λe=>by obtain⟨f',aF,r',aR,aQ⟩:=e.2.2;rw[lV,HF.1]at aF;obtain rfl:=mD aF;have:=aR.one aa.1;rw[<-this];simpa using aQ⟩, λe=>⟨f,r,F,ys,by rw[lV];exact HF.1,aa.1,by simpa using e,by simpa using e,OW.down aO⟩,BB.o⟩
 rw[show Hl n=.iface 190 n from by unfold Hl;rw[lY ae]];have HNP:Ae (¬PY p W):= λe=>ae (HN.one e.1)
 clear ae;exact qh
theorem qB(p:MP)(f:MF)(x:MI)(B k top:Nat)(c n:Int)(X:VS)(C:List (J×List MC))(K:List MC)(j:List (MG×J))(l:J)(q t gf c3:Nat)(d:MG×J)(w:Y)(u:B<= ↑w)(h:AB w B X C K (j.set top ({d.1 with at_:=d.1.at_+1},d.2)))(D:BC w k 0 false c n X l)(v: ↑j=top+1)(y:top<=1048576)(I:j[top]?=some d)(A:X.f=Z gf (top+1) c3)(G:x.op=29):
 Ai Aq 113 #[.pointer k,An #[.pointer (some ⟨q,t,M⟩),.pointer (some ⟨gf,top*4,M⟩)],An #[x.op,x.a,x.b,x.c]] w (K9 w B k 0 c n l X C (j.set top ({d.1 with at_:=d.1.at_+1},d.2)) (DR p f d.1 (A3 0 false c n C K j) x)):=by
 have z:(j.set top ({d.1 with at_:=d.1.at_+1},d.2)).length=top+1:=by rw[mF,v]
 have E:(j.set top ({d.1 with at_:=d.1.at_+1},d.2))[top]?=some ({d.1 with at_:=d.1.at_+1},d.2):=by rw[nK oM]
 have r:=YM (p:=p) (f:=f) (g:=d.1) (C:=C) (K:=K) (F:=j) (c:=c) (n:=n) G;rw[v,Nat.add_sub_cancel]at r;by_cases m:top=0
 . refine(SF B k top 0 false c n X C K _ l q t gf c3 _ x.op x.a x.b x.c w u h D z y E A m).mono ?_;intro e H s;refine⟨_,_,_,_,s,?_⟩;rw[<-r,JA];simp[m]
 refine(SE B k top 0 false c n X C K _ l q t gf c3 _ x.op x.a x.b x.c w u h D z y E A m).mono ?_;intro e H s;refine⟨_,_,_,_,s,?_⟩;rw[<-r,JA];simp[m]
theorem qA(p:MP)(f fq:MF)(x:MI)(B l top:Nat)(c n:Int)(X:VS)(C:List (J×List MC))(K ar:List MC)(j:List (MG×J))(r:J)(z L gf c3:Nat)(d:MG×J)(w:Y)(P:B<= ↑w)(h:AB w B X C (K++ar) (j.set top ({d.1 with at_:=d.1.at_+1},d.2)))(V:BC w l 0 false c n X r)(A: ↑j=top+1)(Q:top<=1048576)(hy:j[top]?=some d)(S:X.f=Z gf (top+1) c3)(I:x.op=28)(hK:K.length+ ↑ar<=64)(D: ↑ar=(AA p f x).length)
 (q m s y k:Nat) (t:x.a=(q:Int)) (G:p.aC[q]?=some fq) (U:r=Z m s y) (ai:q<s) (W:s<=1048576) (aa:(fq.aP++fq.aB).length=k) (O v:Option Addr) (N u:Nat) (hp:w ⟨m,q*9+4,M⟩=some (Z O fq.aP N)) (ht:w ⟨m,q*9+8,M⟩=some (Z v k u)) (aj:Rd w 1 (Z v k u) k (Ad At (fq.aP++fq.aB))) (ae:k<=1048576):
 Ai Aq 112 #[.pointer l,An #[.pointer (some ⟨z,L,M⟩),.pointer (some ⟨gf,top*4,M⟩)],An #[x.op,x.a,x.b,x.c]] w (K9 w B l 0 c n r X C (j.set top ({d.1 with at_:=d.1.at_+1},d.2)) (DR p f d.1 (A3 0 false c n C (K++ar) j) x)):=by
 have R:(j.set top ({d.1 with at_:=d.1.at_+1},d.2)).length=top+1:=by rw[mF,A]
 have au:(j.set top ({d.1 with at_:=d.1.at_+1},d.2))[top]?=some ({d.1 with at_:=d.1.at_+1},d.2):=by rw[nK oM]
 have aq:AA p f x=fq.aP:=by simp[AA,I,t,G]
 have T:ar.length=fq.aP.length:=by rw[D,aq]
 refine(Wr ar B l top 0 false c n X C K _ r z L gf c3 _ x.op x.a x.b x.c w P h V R Q au S oM q t fq.aP fq.aB T m s y U ai W k aa O v N u hp ht aj ae).mono ?_;rintro e w' ⟨vl,hr⟩;refine⟨_,_,_,_,hr,?_⟩;have H:(K++ar).length-↑ar=K.length:=by rw[mB];omega
 have E:=WE (p:=p) (f:=f) (fq:=fq) (g:=d.1) (C:=C) (K:=K++ar) (ar:=ar) (F:=j) (vl:=d.2) (vv:=vl) (c:=c) (n:=n) (x:=x) (q:=q) (top:=top) I t G D (by rw[H];exact List.drop_left) A hy;rw[H,List.take_left]at E;exact E
theorem IZ{e:Aj}{n:Nat}{s:J}{xs:List J}(h:Ab u B e k s n xs)(c:s.ownBlock=K b):∃a,Ay u b a e:=by
 rcases h.2 with⟨rfl,_⟩|⟨g,cap,a,rfl,_,d,_⟩
 . simp[Value.ownBlock]at c
 obtain rfl:g=b:=by simpa[Value.ownBlock]using c
 exact⟨a,d⟩
theorem Ay.iV{d f:Array J}{e c:Aj}(h:Ay u b d e)(a:Ay u b f c):e=c:=by
 unfold Ay at h a;rw[h]at a;injection a with a
 injection a with _ a _
theorem AB.ty{K:List MC}(h:AB u B X C K F)(a:Dm X C F b){g:Array J}{e:Aj}(d:Ay u b g e):e=193\/e=45\/e=132:=by
 rcases a with a|a|a|⟨r,f,a⟩|⟨r,f,a⟩
 . obtain⟨_,c⟩:=IZ h.cells a;exact .inr (.inl (d.iV c))
 . obtain⟨_,c⟩:=IZ (h.fg.own (X.k,K) sP) a;exact .inl (d.iV c)
 . obtain⟨_,c⟩:=IZ h.dk a;exact .inr (.inr (d.iV c))
 . obtain⟨_,c⟩:=IZ (h.fg.own r (by simp only[mA];exact .inl (.inl f))) a;exact .inl (d.iV c)
 obtain⟨_,c⟩:=IZ (h.fg.own r (by simp only[mA];exact .inr f)) a;exact .inl (d.iV c)
theorem Fl.gv{y:Y}{G T:J}{K:List MC}{d:Bool}{L:VS}(h:Fl u B v p G)(O:B<= ↑u)(W:B<=a)(E:AB u B X C K F)(Q:BC u a t d c n L T)(q:Bp (λj=>j=a\/Dm X C F j) u y):Fl y B v p G:=by
 obtain⟨H,N,A,f⟩:=h;have P:Ah B u y:=q.below O (λk s e=>by
  rcases e with e|e
  . omega
  have:=(E.ltOf e).1;omega)
 have I:∀{b:Nat} {z:Array J} {e:Aj},Ay u b z e->e=138\/e=2->¬(b=a\/Dm X C F b):= λ{b z e} s D l=>by
  rcases l with rfl|l
  . obtain⟨V,R,_⟩:=Q.eI;have:=s.iV R;rcases D with rfl|rfl<;>exact absurd this dC
  have:=E.ty l s;rcases D with rfl|rfl<;>rcases this with this|this|this<;>exact absurd this dC
 refine⟨H,N,q.own A (λb m=> ?_), λr w=>⟨λU S=>(f r w).1 U (P.trans S),q.own (f r w).2 (λb m=> ?_)⟩⟩
 . obtain⟨_,g⟩:=IZ A m;exact I g (.inl rfl)
 obtain⟨_,g⟩:=IZ (f r w).2 m;exact I g (.inr rfl)
theorem Fl.at{C:J}(h:Fl u B v p C)(A:p.aC[q]?=K f):∃a s,C=Z (K ⟨a,0,M⟩) p.aC.length s/\∃(g:VF) (n:Option Addr) (m:Nat),(∀D,Ah B u D->FD D g f)/\u.cell? ⟨a,q*9,M⟩=K v.r/\u.cell? ⟨a,q*9+1,M⟩=K v.k/\u.cell? ⟨a,q*9+2,M⟩=K v.f/\u.cell? ⟨a,q*9+3,M⟩=K v.t/\u.cell? ⟨a,q*9+4,M⟩=K g.p/\u.cell? ⟨a,q*9+5,M⟩=K (Ag Af f.cu)/\u.cell? ⟨a,q*9+6,M⟩=K g.l/\u.cell? ⟨a,q*9+7,M⟩=K g.c/\u.cell? ⟨a,q*9+8,M⟩=K (Z n (f.aP++f.aB).length m)/\Rd u 1 (Z n (f.aP++f.aB).length m) (f.aP++f.aB).length (Ad At (f.aP++f.aB)):=by
 obtain⟨H,y,d,E⟩:=h;have F:H.length=p.aC.length:=by rw[<-y,mQ]
 have G:=(f7.1 A).1;obtain⟨⟨w,g,ts⟩,b⟩:∃r,H[q]?=K r:=⟨_,an oM⟩;obtain rfl:w=f:=by
  have e:(H.map Prod.fst)[q]?=K w:=by rw[mN,b];rfl
  rw[y,A]at e;injection e with e
  exact e.symm
 rcases Bf d with⟨_,e⟩|⟨a,s,e⟩
 . omega
 subst e;obtain⟨z,j⟩:=E _ (lP b);rw[<-mB]at j;obtain⟨n,m,e⟩:=AF j;simp only[]at e z j;subst e;refine⟨a,s,by rw[F],g,n,m,z,?_,?_,?_,?_,?_,?_,?_,?_,?_,Rd.eP j⟩
 . have:=d.cellAt (q*9+0) oM;rw[BI (Cj v) 9 (BJ v) H q 0 _ b oM]at this;exact this
 . have:=d.cellAt (q*9+1) oM;rw[BI (Cj v) 9 (BJ v) H q 1 _ b oM]at this;exact this
 . have:=d.cellAt (q*9+2) oM;rw[BI (Cj v) 9 (BJ v) H q 2 _ b oM]at this;exact this
 . have:=d.cellAt (q*9+3) oM;rw[BI (Cj v) 9 (BJ v) H q 3 _ b oM]at this;exact this
 . have:=d.cellAt (q*9+4) oM;rw[BI (Cj v) 9 (BJ v) H q 4 _ b oM]at this;exact this
 . have:=d.cellAt (q*9+5) oM;rw[BI (Cj v) 9 (BJ v) H q 5 _ b oM]at this;exact this
 . have:=d.cellAt (q*9+6) oM;rw[BI (Cj v) 9 (BJ v) H q 6 _ b oM]at this;exact this
 . have:=d.cellAt (q*9+7) oM;rw[BI (Cj v) 9 (BJ v) H q 7 _ b oM]at this;exact this
 have:=d.cellAt (q*9+8) oM;rw[BI (Cj v) 9 (BJ v) H q 8 _ b oM]at this;exact this
def Wf(w:Y)(B b:Nat)(p:MP)(s:MS)(k:J)(h:VS)(f:List (J×List MC))(g:List (MG×J))(e:Ending)(a:Y):Prop:=e=Am (Ap #[])/\∃(t:Int) (d:Bool) (c n:Int) (X:VS) (C:List (J×List MC)) (K:List MC) (F:List (MG×J)),BC a b t d c n X k/\AB a B X C K F/\Bb p s (A3 t d c n C K F)/\Bp (λj=>j=b\/Dm h f g j) w a
structure Ev(w u:World)(B M top:Nat)(v:VP)(p:MP)(t c n:Int)(X:VS)(C:List (J×List MC))(K:List MC)(F:List (MG×J))(hv:J)(gH kf gf Y:Nat):Prop where
 mb:BC u M t false c n X hv
 own:AB u B X C K F
 hd:Fl u B v p hv
 fb:Ay u Y #[.pointer (some ⟨gH,kf*9,none⟩),.pointer (some ⟨gf,top*4,none⟩)] 143
 gv:Bp (λj=>j=M\/Dm X C F j) w u
 hB:B<= ↑w
 hM:M< ↑w
 kC:B<=M
 hY: ↑w<=Y
 old:∀j,Dm X C F j->B<=j/\j< ↑w
theorem Fl.av{e:Y}{d:J}(h:Fl u B v p d)(j:B<= ↑u)(a:Ah u u e):Fl e B v p d:=by obtain⟨H,f,g,b⟩:=h;exact⟨H,f,AD g a lR, λr c=>⟨λl k=>(b r c).1 l ((a.mono j).trans k),AD (b r c).2 a lR⟩⟩
theorem Ev.av{K:List MC}{g:J}{f:Nat}{k:Y}(h:Ev w u B b top v p t c n X C K F g f j gf d)(a:Ah u u k):Ev w k B b top v p t c n X C K F g f j gf d:=⟨h.mb.av a,h.own.grow a,h.hd.av (mC h.hB h.gv.size) a,h.fb.av a,h.gv.trans (.of (R:= λ_=>False) a) (λ_ _ e=>e.elim),h.hB,h.hM,h.kC,h.hY,h.old⟩
theorem Ev.low{K:List MC}{f:J}(h:Ev w u B a top v p t c n X C K F f d g gf b):Ah B w u:=h.gv.below h.hB (λk j e=>by
 have:=h.kC;rcases e with e|e
 . omega
 have:=(h.old k e).1;omega)
theorem Ev.k8{K:List MC}{b:J}{e f:Nat}{j c' g:Int}{i:Nat}{x:J}(h:Ev w u B a top v p t c n X C K F b e f gf d)(k:BC (Aa u ⟨a,i,M⟩ x) a j false c' g X b):Ev w (Aa u ⟨a,i,M⟩ x) B a top v p j c' g X C K F b e f gf d:=by have l:=h.hM;have m:=h.hY;refine⟨k,GP h.own h.mb,h.hd.gv (mC h.hB h.gv.size) h.kC h.own h.mb (Bp.setCell (Bp.refl _ u) (.inl (.inl rfl)) x),h.fb.other oS _,h.gv.setCell (.inl (.inl rfl)) x,h.hB,h.hM,h.kC,h.hY,h.old⟩
theorem Ev.iR{K:List MC}{g:J}{f e:Nat}(h:Ev w u B b top v p t c n X C K F g f k gf e){d:Array J}{ty:Aj}(j:Ay u a d ty)(m: ↑w<=a)(i:Nat)(x:J):Ay (Aa u ⟨b,i,M⟩ x) a d ty:=by have l:=h.hM;exact j.other oS _
theorem Ev.j7{K:List MC}{l:J}{e:Nat}(h:Ev w u B d top v p t c n X C K F l g q gf e)(j:X.f=Z gf m c3)(b:F[top]?=some y):u ⟨gf,top*4+1,M⟩=some ↑y.1.at_/\u.frozen? ⟨gf,top*4+1,M⟩=false:=by have a:=h.own.dk;rw[j]at a;have k:=CM a;subst k;have r:=(f7.1 b).1;refine⟨?_,a.frozenAt _⟩;rw[a.cellAt (top*4+1) oM,BI BE 4 Ca F top 1 y b oM];rfl
structure OR(w u:World)(B M top:Nat)(v:VP)(p:MP)(c n:Int)(X:VS)(C:List (J×List MC))(K:List MC)(F0:List (MG×J))(F:List (MG×J))(hv:J)(gH kf gf Y Z:Nat)(x:MI):Prop where
 mb:BC u M 0 false c n X hv
 own:AB u B X C K F
 hd:Fl u B v p hv
 fb:Ay u Y #[.pointer (some ⟨gH,kf*9,none⟩),.pointer (some ⟨gf,top*4,none⟩)] 143
 ib:Ay u Z #[x.op,x.a,x.b,x.c] 25
 gv:Bp (λj=>j=M\/Dm X C F0 j) w u
 hB:B<= ↑w
 low:Ah B w u
theorem Ev.jump{K:List MC}{A:J}{r D:Nat}(h:Ev w u B d top v p 0 c n X C K F A r D gf q)(L:Ay u l #[x.op,x.a,x.b,x.c] 25)(R: ↑w<=l)(s:X.f=Z gf m c3)(I:F[top]?=some y)(z:Int):OR w (Aa u ⟨gf,top*4+1,M⟩ z) B d top v p c n X C K F (F.set top ({y.1 with at_:=z},y.2)) A r D gf q l x:=by
 obtain⟨N,P⟩:=h.own.setAt s I z;have g:Dm X C F gf:=.inr (.inr (.inl (by rw[s];rfl)));have S:=h.old gf g;have Q:=h.hY;have H:Bp (λj=>j=d\/Dm X C F j) u (Aa u ⟨gf,top*4+1,M⟩ z):=Bp.setCell (Bp.refl _ u) (.inl (.inr g)) _
 have t:Bp (λj=>j=d\/Dm X C F j) w (Aa u ⟨gf,top*4+1,M⟩ z):=Bp.setCell h.gv (.inl (.inr g)) _
 have E:d≠gf:= λe=>by subst e;obtain⟨O,G,_⟩:=h.mb.eI;rcases h.own.ty g G with e|e|e<;>exact absurd e dC
 refine⟨h.mb.other (by simpa using E) _,N,h.hd.gv (mC h.hB h.gv.size) h.kC h.own h.mb H,h.fb.other oS _,L.other oS _,t,h.hB,t.below h.hB (λk T e=> ?_)⟩;have:=h.kC;rcases e with e|e
 . omega
 have:=(h.old k e).1;omega
theorem OR.av{m:Y}{K:List MC}{b:List (MG×J)}{k:J}{f:Nat}(h:OR w u B d top v p c n X C K b F k j l gf f g x)(a:Ah u u m):OR w m B d top v p c n X C K b F k j l gf f g x:=⟨h.mb.av a,h.own.grow a,h.hd.av (mC h.hB h.gv.size) a,h.fb.av a,h.ib.av a,h.gv.trans (.of (R:= λ_=>False) a) (λ_ _ e=>e.elim),h.hB,h.low.trans (a.mono (mC h.hB h.gv.size))⟩
theorem OR.late{f:Y}{K:List MC}{t:List (MG×J)}{y:J}{s:Nat}(h:OR w u B g top v p c n X C K t F y m s gf k l x)(q:Bp (λj=>j=g\/Dm X C F j) u f):Ay f k #[.pointer (some ⟨m,s*9,M⟩),.pointer (some ⟨gf,top*4,M⟩)] 143/\Ay f l #[x.op,x.a,x.b,x.c] 25:=by
 obtain⟨z,r,_⟩:=h.mb.eI;refine⟨q.eI h.fb (λe=> ?_),q.eI h.ib (λe=> ?_)⟩
 . rcases e with e|e
   . have d:=h.fb;rw[e]at d;exact absurd (r.iV d) dC
   rcases h.own.ty e h.fb with e|e|e<;>exact absurd e dC
 rcases e with e|e
 . have d:=h.ib;rw[e]at d;exact absurd (r.iV d) dC
 rcases h.own.ty e h.ib with e|e|e<;>exact absurd e dC
theorem OC{K:List MC}{h:MG}(m:x.op≠29)(q:h.base=(b:Int))(r:b<= ↑K)(d:EH p f h (A3 0 false c n C K F) x=0):∃k ar,K=k++ar/\ ↑ar=(AA p f x).length/\BH ar (AA p f x)=true/\(x.op=27->AJ f x.a=3):=by
 rw[RC m q r rfl]at d;by_cases j: ↑K-b<(AA p f x).length
 . rw[mE j]at d;exact absurd d dC
 rw[lY j]at d;by_cases g:BH (K.drop (↑K-(AA p f x).length)) (AA p f x)=false\/(x.op=27/\AJ f x.a≠3)
 . rw[mE g]at d;exact absurd d dC
 refine⟨K.take (↑K-(AA p f x).length),K.drop (↑K-(AA p f x).length),(n9 _ _).symm,by rw[m8];omega,?_, λe=>mr λl=>g (.inr ⟨e,l⟩)⟩
 cases hfb:BH (K.drop (↑K-(AA p f x).length)) (AA p f x)with
 |true=>rfl
 |false=>exact absurd (.inl hfb) g
theorem Fl.jR{w:Nat}(h:Fl u B v p (Z a w m))(s:p.aC[q]?=K f):∃(g:VF) (d:Option Addr) (b:Nat),(∀j,Ah B u j->FD j g f)/\u ⟨a,q*9,M⟩=K v.r/\u ⟨a,q*9+1,M⟩=K v.k/\u ⟨a,q*9+2,M⟩=K v.f/\u ⟨a,q*9+3,M⟩=K v.t/\u ⟨a,q*9+4,M⟩=K g.p/\u ⟨a,q*9+5,M⟩=K ↑f.cu/\u ⟨a,q*9+6,M⟩=K g.l/\u ⟨a,q*9+7,M⟩=K g.c/\u ⟨a,q*9+8,M⟩=K (Z d (f.aP++f.aB).length b)/\Rd u 1 (Z d (f.aP++f.aB).length b) (f.aP++f.aB).length (Ad At (f.aP++f.aB)):=by obtain⟨z,y,e,n⟩:=h.at s;simp only[lU,lX,ny]at e;obtain⟨⟨rfl,_⟩,_⟩:=e;exact n
theorem OV(k:Nat)(a:k<30)(args:Array J)(w:Y):(callFunc (Kr k) args).run Aq w=.ok (.enter (Kr k) args) w:=by
 have h:k=0\/k=1\/k=2\/k=3\/k=4\/k=5\/k=6\/k=7\/k=8\/k=9\/k=10\/k=11\/k=12\/k=13\/k=14\/k=15\/k=16\/k=17\/k=18\/k=19\/k=20\/k=21\/k=22\/k=23\/k=24\/k=25\/k=26\/k=27\/k=28\/k=29:=oM
 clear a;rcases h with rfl|rfl|rfl|rfl|rfl|rfl|rfl|rfl|rfl|rfl|rfl|rfl|rfl|rfl|rfl|rfl|rfl|rfl|rfl|rfl|rfl|rfl|rfl|rfl|rfl|rfl|rfl|rfl|rfl|rfl<;>(show Sem.run _ _ _=Result.ok _ _;kernel_rfl)
theorem TT(k:Nat)(a:k<30):BP[k*4+1]?=K ↑(Bl k):=by
 have h:k=0\/k=1\/k=2\/k=3\/k=4\/k=5\/k=6\/k=7\/k=8\/k=9\/k=10\/k=11\/k=12\/k=13\/k=14\/k=15\/k=16\/k=17\/k=18\/k=19\/k=20\/k=21\/k=22\/k=23\/k=24\/k=25\/k=26\/k=27\/k=28\/k=29:=oM
 rcases h with rfl|rfl|rfl|rfl|rfl|rfl|rfl|rfl|rfl|rfl|rfl|rfl|rfl|rfl|rfl|rfl|rfl|rfl|rfl|rfl|rfl|rfl|rfl|rfl|rfl|rfl|rfl|rfl|rfl|rfl<;>rfl
theorem Yc(v:VP)(p:MP)(c n:Int)(X:VS)(C:List (J×List MC))(K:List MC)(F:List (MG×J))(hv:J)(B m:Nat)(w:Y)(hB:B<= ↑w)(dm:B<=m)(h:AB w B X C K F)(hm:BC w m 0 false c n X hv)(hd:Fl w B v p hv)(aj:IF p (A3 0 false c n C K F))(bf:(A3 0 false c n C K F).wf)(aX:p.small)(df:p.wf)(hP:∀u,Ah B w u->Eb u v p):
 Ai Aq 19 #[.pointer m] w (Wf w B m p (A3 0 false c n C K F) hv X C F):=by
 have hK:K.length<=64:=aj.jy;have dq:F.length<=32:=by have:=aj.deep;simpa[A3]using this
 obtain⟨top,aZ⟩:∃top,F.length=top+1:=⟨F.length-1,by
  have:=aj.ne0;cases F with
  |nil=>exact absurd rfl this
  |cons a r=>simp⟩
 obtain⟨⟨s,vl⟩,hy⟩:∃y,F[top]?=some y:=⟨_,an oM⟩;have aQ:s∈(A3 0 false c n C K F).dk:=oF (f:=Prod.fst) (lP hy);have aS:=aj.dk s aQ;obtain⟨f,hf,bx⟩:=aS.aB;have cT:=Uh aj.j9 s aQ;obtain⟨b,hb⟩:=mJ cT;obtain⟨t,bS⟩:=mJ aS.lo;have bt:b<=K.length:=by have:=aS.base;rw[hb]at this;simp only[A3]at this;omega
 have d8:(A3 0 false c n C K F).dk.getLast?=some s:=Zn aZ hy;have cX:p.aC[s.func.toNat]?=some f:=hf;rw[bS,lV]at hf;have dg:=(f7.1 hf).1;have bB:f.small:=aX.func f (lP hf);have dY:f.aU.length<=1048576:=bB.2.2;have db:p.aC.length<=1048576:=aX.aC;have cR:Fa s.at_:=(bf.dk s aQ).at_;obtain⟨dV,dU⟩:=Lq cR;obtain⟨dw,dx⟩:=aj.cost;obtain⟨dE,dF⟩:=aj.steps;simp only[A3]at dw dx dE dF;have h3:p.az.length=3:=aj.prog.parts.1.1;rcases Bf h.dk with⟨_,e⟩|⟨gf,c3,e3⟩
 . omega
 have d9:s.aB.length<=32:=by
  have h1:=bx.1;have h2: ↑s.aB=(f.aP++f.aB).length:=by rw[<-h1,mQ]
  have h4:Cb f:=aj.prog.parts.2.2.1.2.2.1 t dg f hf;have:=h4.loc;rw[h2,mB];exact this
 rw[aZ]at e3;obtain⟨I,L,eR⟩:=X;simp only[]at e3;subst e3;obtain⟨d,G,eh,_⟩:=hd.at hf;subst eh;have cM:∀z∈K,0<=z.word:= λz hz=>Yn (bf.stack z hz)
 have cQ:∀j,Dm ⟨I,L,Z gf (top+1) c3⟩ C F j->B<=j/\j<w.heap.size:= λj hj=>h.ltOf hj
 have dt:=hm.lt;have H:Ae (IF p (A3 0 false c n C K F)/\(A3 0 false c n C K F).wf/\p.small/\p.wf/\F[top]?=some (s,vl)/\s.base=(b:Int)/\s.func=(t:Int)/\(∀z∈K,0<=z.word)/\p.az.length=3):=⟨aj,bf,aX,df,hy,hb,bS,cM,h3⟩
 have HP:Ae (∀u,Ah B w u->Eb u v p):=hP;have Q:Ae ((A3 0 false c n C K F).dk.getLast?=some s/\p.aC[s.func.toNat]?=some f/\p.aC[t]?=some f/\f.small/\Dy s.aB (f.aP++f.aB)/\ ↑F=top+1/\s.aB.length<=32):=⟨d8,cX,hf,bB,bx,aZ,d9⟩
 have di:Ae (∀j,Dm ⟨I,L,Z gf (top+1) c3⟩ C F j->B<=j/\j< ↑w):=cQ
 have HW:Ae (AB w B ⟨I,L,Z gf (top+1) c3⟩ C K F/\BC w m 0 false c n ⟨I,L,Z gf (top+1) c3⟩ (Z d p.aC G)/\Fl w B v p (Z d p.aC G)):=⟨h,hm,hd⟩
 have eG:top+1<=32:=oM;clear h hm hd aj bf aX df hP d8 cX hf bB bx aS hy hb bS aQ cT cR cM h3 cQ d9 aZ;go_enter func19,ntmps19;go_wp2_with fail;refine(ZX B m top 0 false c n ⟨I,L,Z gf (top+1) c3⟩ C K F (Z d p.aC G) gf c3 d p.aC G t (s,vl) w HW.1 HW.2.1 Q.2.2.2.2.2.1 oM H.2.2.2.2.1 rfl rfl H.2.2.2.2.2.2.1 dg db).mono ?_;rintro e u1 ⟨rfl,b1⟩;have E0:Ae (Ev w (Ac u1 (Ak #[.pointer (some ⟨d,t*9,M⟩),.pointer (some ⟨gf,top*4,M⟩)] 143)) B m top v p 0 c n ⟨I,L,Z gf (top+1) c3⟩ C K F (Z d p.aC G) d t gf u1):=by have b2:=Ar b1 lR (Al u1 (Ak #[.pointer (some ⟨d,t*9,M⟩),.pointer (some ⟨gf,top*4,M⟩)] 143));exact⟨HW.2.1.av b2,HW.1.grow b2,HW.2.2.av hB b2,Ay.new _ _ _,Bp.of b2,hB,dt,dm,b1.size,di⟩
 clear b1;go_upto_region 1 with fail
 generalize u1.heap.size=E at E0⊢;refine Av (λu=>Ae (Ev w u B m top v p 0 c n ⟨I,L,Z gf (top+1) c3⟩ C K F (Z d p.aC G) d t gf E)) E0 ?_;rintro U E1;clear E0;clear u1;have y0:=E1.fb.cell 0;have P:=E1.fb.cell 1;simp only[lQ,lO,lS]at y0 P;obtain⟨aa,-⟩:=E1.j7 rfl H.2.2.2.2.1;simp only[]at aa;obtain⟨g,tp,tc,aq,-,-,-,-,-,-,-,ae,-,-⟩:=E1.hd.jR Q.2.2.1;obtain⟨dQ,g9,aA⟩:=(aq U (mP B U)).2.2.aD;rw[aA]at ae;by_cases aM:0<=s.at_/\s.at_<(f.aU:Int)
 . have aO:decide (0<=s.at_/\s.at_<(f.aU:Int))=true:=decide_eq_true aM
   have inst:=Ax.some U;(have J0:= λn:Ax U=>Ax.cell y0 n);(have J1:= λn:Ax U=>Ax.cell P n);(have J2:= λn:Ax U=>Ax.cell aa n);(have J3:= λn:Ax U=>Ax.cell ae n);go_wp2_with fail;refine AC kR kR ?_;(repeat(go_big_quiet_step ((go_at_call 48;rename_i n';exact(A6 s.at_ (f.aU:Int) n'.u).mono λe cH h=>⟨by rw[h.1,aO],⟨n',h.2⟩⟩))));refine wpQuiet_nil ?_;rintro cH ⟨n',rfl⟩;have E2:Ae (Ev w n'.u B m top v p 0 c n ⟨I,L,Z gf (top+1) c3⟩ C K F (Z d p.aC G) d t gf E):=E1.av n'.h;clear J0 J1 J2 J3 inst y0 P aa ae aA aq E1;(go_upto_region 3 with fail);generalize n'.u=V at E2⊢;clear n';clear U;obtain⟨T,bQ⟩:=mJ aM.1;obtain⟨x,hx⟩:∃x,f.aU[T]?=some x:=⟨_,an oM⟩;obtain⟨g',eL,eH,aq,-,-,-,-,-,-,-,ae,-,-⟩:=E2.hd.jR Q.2.2.1;obtain⟨gi,oi,bq,aA,bV,bY,bZ,ce⟩:=ru (aq V (mP B V)).2.2 hx;rw[aA]at ae;have y0:=E2.fb.cell 0;have P:=E2.fb.cell 1;simp only[lQ,lO,lS]at y0 P;obtain⟨aa,-⟩:=E2.j7 rfl H.2.2.2.2.1;simp only[]at aa;rw[bQ]at aa;have D:=As V;have KD:V.drew E=some (.pointer (some ⟨d,t*9,M⟩))/\V.drew ⟨E,1,M⟩=some (.pointer (some ⟨gf,top*4,M⟩))/\V.drew ⟨d,t*9+7,M⟩=some (Z (some ⟨gi,oi,M⟩) f.aU bq)/\V.drew ⟨gf,top*4+1,M⟩=some ↑T/\V.drew ⟨gi,oi+T*4,M⟩=some ↑x.op/\V.drew ⟨gi,oi+T*4+1,M⟩=some ↑x.a/\V.drew ⟨gi,oi+T*4+2,M⟩=some ↑x.b/\V.drew ⟨gi,oi+T*4+3,M⟩=some ↑x.c:=⟨Au D y0,Au D P,Au D ae,Au D aa,Au D bV,Au D bY,Au D bZ,Au D ce⟩
   have HC:Ae (∀u,Ah V V u->u.cell? E=some (.pointer (some ⟨d,t*9,M⟩))/\u.cell? ⟨E,1,M⟩=some (.pointer (some ⟨gf,top*4,M⟩))/\u.cell? ⟨d,t*9+7,M⟩=some (Z (some ⟨gi,oi,M⟩) f.aU bq)/\u.cell? ⟨gf,top*4+1,M⟩=some ↑T/\u.cell? ⟨gi,oi+T*4,M⟩=some ↑x.op/\u.cell? ⟨gi,oi+T*4+1,M⟩=some ↑x.a/\u.cell? ⟨gi,oi+T*4+2,M⟩=some ↑x.b/\u.cell? ⟨gi,oi+T*4+3,M⟩=some ↑x.c):= λu D=>⟨Au D y0,Au D P,Au D ae,Au D aa,Au D bV,Au D bY,Au D bZ,Au D ce⟩
   have cJ:=HC.o (V.alloc (Ak #[Ag Af 0,Ag Af 0,Ag Af 0,Ag Af 0] 25)).drew (Ar (Al _ _) lR (As _));have cK:=HC.o (V.alloc (Ak #[x.op,x.a,x.b,x.c] 25)).drew (Ar (Al _ _) lR (As _));have HX:Ae (f.aU[T]?=some x/\s.at_=(T:Int)):=⟨hx,bQ⟩
   have dA:(T:Int)<(f.aU:Int):=oM;clear y0 P aa ae bV bY bZ ce aA aq hx bQ aM aO;go_region_held_law (λO=>O E=some (.pointer (some ⟨d,t*9,M⟩))/\O ⟨E,1,M⟩=some (.pointer (some ⟨gf,top*4,M⟩))/\O ⟨d,t*9+7,M⟩=some (Z (some ⟨gi,oi,M⟩) f.aU bq)/\O ⟨gf,top*4+1,M⟩=some ↑T/\O ⟨gi,oi+T*4,M⟩=some ↑x.op/\O ⟨gi,oi+T*4+1,M⟩=some ↑x.a/\O ⟨gi,oi+T*4+2,M⟩=some ↑x.b/\O ⟨gi,oi+T*4+3,M⟩=some ↑x.c) (first|exact KD|exact cJ|exact cK) (fail)
   have hZ:(w:Nat)<=V.heap.size:=E2.gv.size;have dv:E<V.heap.size:=E2.fb.lt;have E3:Ae (Ev w (V.alloc (Ak #[x.op,x.a,x.b,x.c] 25)).drew B m top v p 0 c n ⟨I,L,Z gf (top+1) c3⟩ C K F (Z d p.aC G) d t gf E/\Ay (V.alloc (Ak #[x.op,x.a,x.b,x.c] 25)).drew V #[x.op,x.a,x.b,x.c] 25):=⟨E2.av (Ar (Al _ _) lR (As _)),(Ay.new _ _ _).av (As _)⟩
   clear KD cJ cK HC D E2;(go_upto_region 4 with fail);generalize V.heap.size=N at E3 hZ dv⊢;refine Av (λu=>Ae (Ev w u B m top v p 0 c n ⟨I,L,Z gf (top+1) c3⟩ C K F (Z d p.aC G) d t gf E/\Ay u N #[x.op,x.a,x.b,x.c] 25)) E3 ?_
   rintro U3 E4;clear E3;have aW:AV p f x:=H.1.prog.iR Q.2.2.1 HX.1;have dd:0<=x.op:=aW.1;have dH:x.op<=29:=aW.2.1;have bg:Ae (AV p f x):=aW;obtain⟨co,bu⟩:∃co,Bl x.op=co:=⟨_,rfl⟩;have dy:0<=co/\co<=8:=by rw[<-bu];exact N3 dd dH
   obtain⟨dW,dX⟩:=dy;have aH:Ae (Bl x.op=co):=bu;clear aW bu;have m3:=E4.1.mb.at.2.2.2.1;have z3:=E4.1.mb.frozen 3;have E5:Ae (Ev w (Aa U3 ⟨m,3,M⟩ (Ag Af (n+1))) B m top v p 0 c (n+1) ⟨I,L,Z gf (top+1) c3⟩ C K F (Z d p.aC G) d t gf E/\Ay (Aa U3 ⟨m,3,M⟩ (Ag Af (n+1))) N #[x.op,x.a,x.b,x.c] 25):=⟨E4.1.k8 (E4.1.mb.lL _),E4.1.iR E4.2 hZ _ _⟩
   clear E4;(go_upto_region 5 with fail);refine Av (λu=>Ae (Ev w u B m top v p 0 c (n+1) ⟨I,L,Z gf (top+1) c3⟩ C K F (Z d p.aC G) d t gf E/\Ay u N #[x.op,x.a,x.b,x.c] 25)) E5 ?_
   rintro U4 E6;clear E5 m3 z3;clear U3;obtain⟨A,ai⟩:=mJ dd;have aF:A<30:=oM;have m2:=E6.1.mb.at.2.2.1;have i0:=E6.2.cell 0;simp only[lQ,lO]at i0;rw[ai]at i0;have rc:=E6.1.mb.row (A*4+1) _ (TT A aF);rw[show Bl (A:Int)=co by rw[<-ai];exact aH,<-Nat.add_assoc]at rc;have D:=As U4;have dM:=Au D m2;have dP:U4.drew.frozen? ⟨m,2,M⟩=false:=E6.1.mb.frozen 2;have eu:(A:Int)<30:=oM;have dL:IntKind.i64.wrap (c+co)=c+co:=oY _ oM;have E7:Ae (Ev w (Aa U4 ⟨m,2,M⟩ (Ag Af (c+co))).drew B m top v p 0 (c+co) (n+1) ⟨I,L,Z gf (top+1) c3⟩ C K F (Z d p.aC G) d t gf E/\Ay (Aa U4 ⟨m,2,M⟩ (Ag Af (c+co))).drew N #[x.op,x.a,x.b,x.c] 25):=⟨(E6.1.k8 (E6.1.mb.l9 _)).av (As _),(E6.1.iR E6.2 hZ _ _).av (As _)⟩
   have KD:U4.drew N=some ↑A/\U4.drew ⟨m,8+A*4+1,M⟩=some ↑co:=⟨Au D i0,Au D rc⟩
   have KV:(Aa U4 ⟨m,2,M⟩ (Ag Af (c+co))).drew.cell? N=some ↑A/\(Aa U4 ⟨m,2,M⟩ (Ag Af (c+co))).drew.cell? ⟨m,8+A*4+1,M⟩=some ↑co:=by have h1:=E7.2.cell 0;have h2:=E7.1.mb.row (A*4+1) _ (TT A aF);simp only[lQ,lO]at h1;rw[ai]at h1;rw[show Bl (A:Int)=co by rw[<-ai];exact aH,<-Nat.add_assoc]at h2;exact⟨h1,h2⟩
   have bi:Ae (x.op=(A:Int)):=ai;clear m2 i0 rc E6 D ai;(go_upto_region 5 with fail);refine wp_region_held_drew (S:= λO=>O N=some ↑A/\O ⟨m,8+A*4+1,M⟩=some ↑co) kR KD (λaK=> ?_)
   refine wpAnyH_take (i:=0) (v:= ?_) rfl kR kR kR (λ_ _ _ h=>h) (Or.inl ⟨by rfl,?_⟩) (by assumption) ?_;rotate_left
   . (intro w l;(try dsimp only at l);go_simp;(try with_reducible rfl))
   refine wpAnyH_take (i:=1) (v:= ?_) rfl kR kR kR (λ_ _ _ h=>h) (Or.inl ⟨by rfl,?_⟩) (by assumption) ?_;rotate_left
   . (intro w l;(try dsimp only at l);go_simp;(try with_reducible rfl))
   refine wpAnyH_take (i:=2) (v:= ?_) rfl kR kR kR (λ_ _ _ h=>h) (Or.inl ⟨by rfl,?_⟩) (by assumption) ?_;rotate_left
   . (intro w l;(try dsimp only at l);go_simp;(try with_reducible rfl))
   refine wpAnyH_take (i:=3) (v:= ?_) rfl kR kR kR (λ_ _ _ h=>h) (Or.inl ⟨by rfl,?_⟩) (by assumption) ?_;rotate_left
   . (intro w l;(try dsimp only at l);go_simp;(try with_reducible rfl))
   refine wpAnyH_take (i:=5) (v:= ?_) rfl kR kR kR (λ_ _ _ h=>h) (Or.inl ⟨by rfl,?_⟩) (by assumption) ?_;rotate_left
   . (intro w l;(try dsimp only at l);go_simp;(try with_reducible rfl))
   refine wpAnyH_take (i:=6) (v:= ?_) rfl kR kR kR (λ_ _ _ h=>h) (Or.inl ⟨by rfl,?_⟩) (by assumption) ?_;rotate_left
   . (intro w l;(try dsimp only at l);go_simp;(try with_reducible rfl))
   refine wpAnyH_take (i:=7) (v:= ?_) rfl kR kR kR (λ_ _ _ h=>h) (Or.inl ⟨by rfl,?_⟩) (by assumption) ?_;rotate_left
   . (intro w l;(try dsimp only at l);go_simp;(try with_reducible rfl))
   refine wpAnyH_take (i:=8) (v:= ?_) rfl kR kR kR (λ_ _ _ h=>h) (Or.inl ⟨by rfl,?_⟩) (by assumption) ?_;rotate_left
   . (intro w l;(try dsimp only at l);go_simp;(try with_reducible rfl))
   refine wpAnyH_take (i:=9) (v:= ?_) rfl kR kR kR (λ_ _ _ h=>h) (Or.inl ⟨by rfl,?_⟩) (by assumption) ?_;rotate_left
   . (intro w l;(try dsimp only at l);go_simp;(try with_reducible rfl))
   refine wpAnyH_take (i:=10) (v:= ?_) rfl kR kR kR (λ_ _ _ h=>h) (Or.inl ⟨by rfl,?_⟩) (by assumption) ?_;rotate_left
   . (intro w l;(try dsimp only at l);go_simp;(try with_reducible rfl))
   refine wpAnyH_take (i:=11) (v:= ?_) rfl kR kR kR (λ_ _ _ h=>h) (Or.inl ⟨by rfl,?_⟩) (by assumption) ?_;rotate_left
   . (intro w l;(try dsimp only at l);go_simp;(try with_reducible rfl))
   refine wpAnyH_take (i:=12) (v:= ?_) rfl kR kR kR (λ_ _ _ h=>h) (Or.inl ⟨by rfl,?_⟩) (by assumption) ?_;rotate_left
   . (intro w l;(try dsimp only at l);go_simp;(try with_reducible rfl))
   refine wpAnyH_take (i:=13) (v:= ?_) rfl kR kR kR (λ_ _ _ h=>h) (Or.inl ⟨by rfl,?_⟩) (by assumption) ?_;rotate_left
   . (intro w l;(try dsimp only at l);go_simp;(try with_reducible rfl))
   refine wpAnyH_ready (rs:=[4]) kR sP ?_;refine AllReadyH.cons rfl (λKC au=> ?_) AllReadyH.nil;go_simp;refine au.out _ _ KD (λaK=> ?_);clear au KC;refine wpAnyH_take (i:=14) (v:= ?_) rfl kR kR kR (λ_ _ _ h=>h) (Or.inl ⟨by rfl,?_⟩) (by assumption) ?_;rotate_left
   . (intro w l;(try dsimp only at l);go_simp;(try with_reducible rfl))
   refine wpAnyH_take (i:=15) (v:= ?_) rfl kR kR kR (λ_ _ _ h=>h) (Or.inl ⟨by rfl,?_⟩) (by assumption) ?_;rotate_left
   . (intro w l;(try dsimp only at l);go_simp;(try with_reducible rfl))
   refine wpAnyH_take (i:=16) (v:= ?_) rfl kR kR kR (λ_ _ _ h=>h) (Or.inl ⟨by rfl,?_⟩) (by assumption) ?_;rotate_left
   . (intro w l;(try dsimp only at l);go_simp;(try with_reducible rfl))
   refine wpAnyH_take (i:=17) (v:= ?_) rfl kR kR kR (λ_ _ _ h=>h) (Or.inl ⟨by rfl,?_⟩) (by assumption) ?_;rotate_left
   . (intro w l;(try dsimp only at l);go_simp;(try with_reducible rfl))
   refine wpAnyH_ready (rs:=[18]) kR sP ?_;refine AllReadyH.cons rfl (λKC au=> ?_) AllReadyH.nil;go_simp;refine au.out _ _ KV (λaK=> ?_);clear au KC;refine wpAnyH_done kR ?_ _;clear KD KV dM dP dL;(go_upto_region 6 with fail);refine Av (λu=>Ae (Ev w u B m top v p 0 (c+co) (n+1) ⟨I,L,Z gf (top+1) c3⟩ C K F (Z d p.aC G) d t gf E/\Ay u N #[x.op,x.a,x.b,x.c] 25)) E7 ?_
   rintro U5 W;clear E7;obtain⟨tr,bT⟩:∃tr,EH p f s (A3 0 false (c+co) (n+1) C K F) x=tr:=⟨_,rfl⟩;have aI:Ae (EH p f s (A3 0 false c n C K F) x=tr):=bT;obtain⟨g2,eM,eJ,aq,bC,aT,bG,bH,bI,bJ,bP,ae,-,-⟩:=W.1.hd.jR Q.2.2.1;have cI:Ae (Ai Aq 49 #[.pointer m,An #[.pointer (some ⟨d,t*9,M⟩),.pointer (some ⟨gf,top*4,M⟩)],An #[x.op,x.a,x.b,x.c]] U5 λe O=>e=Am tr/\Ah U5 U5 O):=by have h5:=Tl B m top 0 false (c+co) (n+1) ⟨I,L,Z gf (top+1) c3⟩ C K F (Z d p.aC G) d (t*9) gf c3 b (s,vl) v p g2 f x U5 (mC hB W.1.gv.size) W.1.own W.1.mb Q.2.2.2.2.2.1 dq H.2.2.2.2.1 rfl H.2.2.2.2.2.1 bt hK H.2.2.2.2.2.2.2.1 H.2.2.1 H.2.2.2.2.2.2.2.2 Q.2.2.2.1 (HP.o U5 W.1.low) (aq U5 (mP B U5)) bg H.1.prog bC aT bG bH bI bJ bP ae;rw[bT]at h5;exact h5
   clear aq bC aT bG bH bI bJ bP ae bT;have y0:=W.1.fb.cell 0;have P:=W.1.fb.cell 1;have i0:=W.2.cell 0;have i1:=W.2.cell 1;have i2:=W.2.cell 2;have i3:=W.2.cell 3;simp only[lQ,lO,lS]at y0 P i0 i1 i2 i3;go_wp2_with fail;refine cI.mono ?_;rintro e u6 ⟨rfl,b6⟩;have E9:Ae (Ev w (u6.setCell m tr) B m top v p tr (c+co) (n+1) ⟨I,L,Z gf (top+1) c3⟩ C K F (Z d p.aC G) d t gf E/\Ay (u6.setCell m tr) N #[x.op,x.a,x.b,x.c] 25):=⟨(W.1.av b6).k8 ((W.1.av b6).mb.kW _),(W.1.av b6).iR (W.2.av b6) hZ _ _⟩
   have m0:=(W.1.av b6).mb.at.1;have z0:=(W.1.av b6).mb.frozen 0;clear y0 P i0 i1 i2 i3 W cI b6;(go_upto_region 7 with fail);refine Av (λu=>Ae (Ev w u B m top v p tr (c+co) (n+1) ⟨I,L,Z gf (top+1) c3⟩ C K F (Z d p.aC G) d t gf E/\Ay u N #[x.op,x.a,x.b,x.c] 25)) E9 ?_
   rintro U7 EA;clear E9 m0 z0;clear u6;clear U5;have m0:=EA.1.mb.at.1;by_cases aY:tr=0
   . subst aY;obtain⟨aa,dj⟩:=EA.1.j7 rfl H.2.2.2.2.1;simp only[]at aa;have P:=EA.1.fb.cell 1;simp only[lQ,lO,lS]at P;(have dR:0<=s.at_:=by rw[HX.2];omega);(have dS:s.at_<(f.aU:Int):=by rw[HX.2];exact dA);have EB:Ae (OR w (Aa U7 ⟨gf,top*4+1,M⟩ (Ag Af (s.at_+1))) B m top v p (c+co) (n+1) ⟨I,L,Z gf (top+1) c3⟩ C K F (F.set top ({s with at_:=s.at_+1},vl)) (Z d p.aC G) d t gf E N x):=EA.1.jump EA.2 hZ rfl H.2.2.2.2.1 (s.at_+1);clear EA;(go_upto_region 9 with fail);refine Av (λu=>Ae (OR w u B m top v p (c+co) (n+1) ⟨I,L,Z gf (top+1) c3⟩ C K F (F.set top ({s with at_:=s.at_+1},vl)) (Z d p.aC G) d t gf E N x)) EB ?_;rintro R EC;clear EB P aa dj m0;clear U7;have y0:=EC.fb.cell 0;have P:=EC.fb.cell 1;have i0:=EC.ib.cell 0;have i1:=EC.ib.cell 1;have i2:=EC.ib.cell 2;have i3:=EC.ib.cell 3;simp only[lQ,lO,lS]at y0 P i0 i1 i2 i3;have aJ:=EC.mb.act x.op.toNat oM;have HU:Ae (B<= ↑R):=mC hB EC.gv.size
     clear aJ;have aJ:=EC.mb.act A aF;have ai:x.op=(A:Int):=bi.o;rw[ai]at i0;clear ai;have D:=As R;have KD:R.drew E=some (.pointer (some ⟨d,t*9,M⟩))/\R.drew ⟨E,1,M⟩=some (.pointer (some ⟨gf,top*4,M⟩))/\R.drew N=some ↑A/\R.drew ⟨N,1,M⟩=some ↑x.a/\R.drew ⟨N,2,M⟩=some ↑x.b/\R.drew ⟨N,3,M⟩=some ↑x.c/\R.drew ⟨m,128+A,M⟩=some (.func (.func (Kr A)) #[.pointer m] #[]):=⟨Au D y0,Au D P,Au D i0,Au D i1,Au D i2,Au D i3,Au D aJ⟩
     have ED:Ae (OR w R.drew B m top v p (c+co) (n+1) ⟨I,L,Z gf (top+1) c3⟩ C K F (F.set top ({s with at_:=s.at_+1},vl)) (Z d p.aC G) d t gf E N x):=EC.av D;clear y0 P i0 i1 i2 i3 aJ EC;have HC:Ae (Ai Aq (Kr A) #[.pointer m,An #[.pointer (some ⟨d,t*9,M⟩),.pointer (some ⟨gf,top*4,M⟩)],An #[A,x.a,x.b,x.c]] R.drew (K9 R.drew B m 0 (c+co) (n+1) (Z d p.aC G) ⟨I,L,Z gf (top+1) c3⟩ C (F.set top ({s with at_:=s.at_+1},vl)) (DR p f s (A3 0 false (c+co) (n+1) C K F) x))):=by
      have ai:=bi.o;have hU:B<=R.drew.heap.size:=mC hB ED.gv.size;show Ai _ _ _ _ _;rw[<-ai];rcases(show x.op<28\/x.op=28\/x.op=29 from oM)with aG|aG|aG
      . obtain⟨K1,ar,ax,br,cW,cZ⟩:=OC oM H.2.2.2.2.2.1 bt aI;obtain⟨g3,eQ,eK,aq,bC,aT,bG,bH,bI,bJ,bP,ae,dZ,e9⟩:=ED.hd.jR Q.2.2.1;have own:=ED.own;rw[ax]at own;have aE:=hK;rw[ax,mB]at aE;have dz:FI p f s x C ar:=⟨H.1.prog,bg,by have:=H.1.three;simpa[A3]using this, λi r rt hr dJ=>(H.1.cells i r.2 rt (by simp only[A3,mN,hr,oO]) dJ).1,Q.2.2.2.2.1.1,(H.2.1.dk s (oF (f:=Prod.fst) (lP H.2.2.2.2.1))).aB, λz hz=>H.2.1.stack z (by show z∈K;rw[ax];exact List.mem_append_right _ hz),br⟩;have h9:=Yx v p f x B m top 0 (c+co) (n+1) ⟨I,L,Z gf (top+1) c3⟩ C K1 ar F (Z d p.aC G) d (t*9) gf c3 (s,vl) R.drew hU own ED.mb Q.2.2.2.2.2.1 oM H.2.2.2.2.1 rfl dz cW cZ aE Q.2.2.2.2.2.2 (HP.o R.drew ED.low).b8 H.2.2.1.b8 aT A ai oM;rw[<-ax]at h9;exact h9
      . obtain⟨q,fq,hq,aR⟩:=bg.callee aG;have cY:=(f7.1 aR).1;obtain⟨g5,dO,dN,du,-,-,-,-,de,-,-,-,dK,dI⟩:=ED.hd.jR aR;obtain⟨pp,pc,ep⟩:=(du R.drew (mP B R.drew)).1.aD;rw[ep]at de;obtain⟨K1,ar,ax,br,cW,cZ⟩:=OC oM H.2.2.2.2.2.1 bt aI;have own:=ED.own;rw[ax]at own;have aE:=hK;rw[ax,mB]at aE;(have dG:(fq.aP++fq.aB).length<=1048576:=by have h4:Cb fq:=H.1.prog.parts.2.2.1.2.2.1 q cY fq aR;have:=h4.loc;rw[mB];omega);have h9:=qA p f fq x B m top (c+co) (n+1) ⟨I,L,Z gf (top+1) c3⟩ C K1 ar F (Z d p.aC G) d (t*9) gf c3 (s,vl) R.drew hU own ED.mb Q.2.2.2.2.2.1 oM H.2.2.2.2.1 rfl aG aE br q d p.aC G (fq.aP++fq.aB).length hq aR rfl cY db rfl pp dO pc dN de dK dI dG;rw[<-ax]at h9;have dB:A=28:=oM;subst dB;exact h9
      have h9:=qB p f x B m top (c+co) (n+1) ⟨I,L,Z gf (top+1) c3⟩ C K F (Z d p.aC G) d (t*9) gf c3 (s,vl) R.drew hU ED.own ED.mb Q.2.2.2.2.2.1 oM H.2.2.2.2.1 rfl aG;have dD:A=29:=oM;subst dD;exact h9
     refine wp_region_held_drew (S:= λO=>O E=some (.pointer (some ⟨d,t*9,M⟩))/\O ⟨E,1,M⟩=some (.pointer (some ⟨gf,top*4,M⟩))/\O N=some ↑A/\O ⟨N,1,M⟩=some ↑x.a/\O ⟨N,2,M⟩=some ↑x.b/\O ⟨N,3,M⟩=some ↑x.c/\O ⟨m,128+A,M⟩=some (.func (.func (Kr A)) #[.pointer m] #[])) kR KD (λaK=> ?_)
     refine wpAnyH_take (i:=0) (v:= ?_) rfl kR kR kR (λ_ _ _ h=>h) (Or.inl ⟨by rfl,?_⟩) (by assumption) ?_;rotate_left
     . (intro w l;(try dsimp only at l);go_simp;(try with_reducible rfl))
     refine wpAnyH_take (i:=1) (v:= ?_) rfl kR kR kR (λ_ _ _ h=>h) (Or.inl ⟨by rfl,?_⟩) (by assumption) ?_;rotate_left
     . (intro w l;(try dsimp only at l);go_simp;(try with_reducible rfl))
     refine wpAnyH_take (i:=2) (v:= ?_) rfl kR kR kR (λ_ _ _ h=>h) (Or.inl ⟨by rfl,?_⟩) (by assumption) ?_;rotate_left
     . (intro w l;(try dsimp only at l);go_simp;(try with_reducible rfl))
     refine wpAnyH_take (i:=3) (v:= ?_) rfl kR kR kR (λ_ _ _ h=>h) (Or.inl ⟨by rfl,?_⟩) (by assumption) ?_;rotate_left
     . (intro w l;(try dsimp only at l);go_simp;(try with_reducible rfl))
     refine wpAnyH_take (i:=4) (v:= ?_) rfl kR kR kR (λ_ _ _ h=>h) (Or.inl ⟨by rfl,?_⟩) (by assumption) ?_;rotate_left
     . (intro w l;(try dsimp only at l);go_simp;(try with_reducible rfl))
     refine wpAnyH_take (i:=5) (v:= ?_) rfl kR kR kR (λ_ _ _ h=>h) (Or.inl ⟨by rfl,?_⟩) (by assumption) ?_;rotate_left
     . (intro w l;(try dsimp only at l);go_simp;(try with_reducible rfl))
     refine wpAnyH_take (i:=6) (v:= ?_) rfl kR kR kR (λ_ _ _ h=>h) (Or.inl ⟨by rfl,?_⟩) (by assumption) ?_;rotate_left
     . (intro w l;(try dsimp only at l);go_simp;(try with_reducible rfl))
     refine wpAnyH_take (i:=7) (v:= ?_) rfl kR kR kR (λ_ _ _ h=>h) (Or.inl ⟨by rfl,?_⟩) (by assumption) ?_;rotate_left
     . (intro w l;(try dsimp only at l);go_simp;(try with_reducible rfl))
     refine wpAnyH_take (i:=8) (v:= ?_) rfl kR kR kR (λ_ _ _ h=>h) (Or.inl ⟨by rfl,?_⟩) (by assumption) ?_;rotate_left
     . (intro w l;(try dsimp only at l);go_simp;(try with_reducible rfl))
     refine wpAnyH_ready (rs:=[9]) kR sP ?_;refine AllReadyH.cons rfl (λKC au=> ?_) AllReadyH.nil;go_simp;rw[OV A aF];refine HC.mono ?_;rintro e u9 ⟨d2,C2,K2,F2,⟨rfl,X2,cj,dh,bj⟩,cU⟩;have HJ:Ae (Bb p (A3 0 false c n C K F) (A3 0 d2 (c+co) (n+1) C2 K2 F2)):=Ya Q.1 Q.2.1 HX.2 HX.1 aH aI cU;have KW:u9 E=some (.pointer (some ⟨d,t*9,M⟩))/\u9 ⟨E,1,M⟩=some (.pointer (some ⟨gf,top*4,M⟩))/\u9 N=some ↑A/\u9 ⟨N,1,M⟩=some ↑x.a/\u9 ⟨N,2,M⟩=some ↑x.b/\u9 ⟨N,3,M⟩=some ↑x.c/\u9 ⟨m,128+A,M⟩=some (.func (.func (Kr A)) #[.pointer m] #[]):=by obtain⟨h1,h2⟩:=ED.late bj;have h3:=h2.cell 0;simp only[lQ,lO]at h3;rw[bi]at h3;exact⟨h1.cell 0,h1.cell 1,h3,h2.cell 1,h2.cell 2,h2.cell 3,cj.act A aF⟩
     have HZ:Ae (Wf w B m p (A3 0 false c n C K F) (Z d p.aC G) ⟨I,L,Z gf (top+1) c3⟩ C F (Am (Ap #[])) u9):=⟨rfl,0,d2,c+co,n+1,X2,C2,K2,F2,cj,dh,HJ,ED.gv.trans bj (λk hk e=>e.imp_right (λh=>h.at_ H.2.2.2.2.1))⟩;clear cU cj dh bj KD HC HJ;refine au.out _ _ KW (λaK=> ?_);clear au KC;refine wpAnyH_done kR ?_ _;go_wp2_with fail;exact nR (v:=Ap #[]) kR rfl HZ
   (have eF:(tr==0)=false:=by simpa using aY);have HJ:Ae (Bb p (A3 0 false c n C K F) (A3 tr false (c+co) (n+1) C K F)):=Yb Q.1 Q.2.1 HX.2 HX.1 aH aI aY;clear aY;go_wp2_with fail;exact nR (v:=Ap #[]) kR rfl ⟨rfl,tr,false,c+co,n+1,_,C,K,F,EA.1.mb,EA.1.own,HJ,EA.1.gv⟩
 have aO:decide (0<=s.at_/\s.at_<(f.aU:Int))=false:=nC aM
 have HJ:Ae (Bb p (A3 0 false c n C K F) (A3 4 false c n C K F)):=.jump Q.1 Q.2.1 oM;have inst:=Ax.some U;have J0:= λn:Ax U=>Ax.cell y0 n
 have J1:= λn:Ax U=>Ax.cell P n
 have J2:= λn:Ax U=>Ax.cell aa n
 have J3:= λn:Ax U=>Ax.cell ae n
 go_wp2_with fail;refine AC kR kR ?_;repeat(go_big_quiet_step ((go_at_call 48;rename_i n';exact(A6 s.at_ (f.aU:Int) n'.u).mono λe cH h=>⟨by rw[h.1,aO],⟨n',h.2⟩⟩)))
 refine wpQuiet_nil ?_;rintro cH ⟨n',rfl⟩;have E2:Ae (Ev w n'.u B m top v p 0 c n ⟨I,L,Z gf (top+1) c3⟩ C K F (Z d p.aC G) d t gf E):=E1.av n'.h;clear J0 J1 J2 J3 inst y0 P aa ae aA aq E1;have m0:=E2.mb.at.1;have z0:=E2.mb.frozen 0;go_wp2_with fail;exact mM (v:=Ap #[]) kR rfl ⟨rfl,4,false,c,n,_,C,K,F,E2.mb.kW 4,GP E2.own E2.mb,HJ,E2.gv.setCell (.inl (.inl rfl)) _⟩
end Go.Proofs.YtkgohaigebcgoaaGreatDoor
