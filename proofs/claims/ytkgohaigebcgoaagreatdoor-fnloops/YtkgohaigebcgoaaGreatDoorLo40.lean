import Derived.Test.YtkgohaigebcgoaaGreatDoorLo29
import Derived.Test.YtkgohaigebcgoaaGreatDoorLo30
import Derived.Test.YtkgohaigebcgoaaGreatDoorLo31
import Derived.Test.YtkgohaigebcgoaaGreatDoorLo37
namespace Go.Proofs.YtkgohaigebcgoaaGreatDoor
open Go.ChangeShapes Go.WideShapes Go.ChangeAt Go.RowKit Go.Proofs.Tryz
set_option linter.unusedVariables false
open Go.Value renaming slice → Z,agg → An,int → Ag,tuple → Ap
open Option renaming none → M,some → K
open Go renaming Value → J,World → Y,Calls → Ai,TypeId → Aj
open Go.Proofs.Tryz renaming prog → Aq
open List renaming flatMap → Ad
open Go.IntKind renaming i64 → Af
open Go.RowKit renaming Below → Ah,Hid → Ae
open Go.World renaming ownsRow → Ab,setCell → Aa,alloc → Ac
open Go.Ending renaming returned → Am
open Go.Obj renaming cells → Ak
set_option maxHeartbeats 8000000
set_option maxRecDepth 100000
variable {c n t:Int}{a top B k b d g q i gf l m c3:Nat}{p:MP}{f:MF}{x:MI}{F:List (MG×J)}{u w:Y}{e:Aj}{X:VS}{C:List (J×List MC)}{v:VP}{y:MG×J}
def Lo(w:Y)(B h:Nat)(t:Int)(c n:Int)(j:J)(i:VS)(f:List (J×List MC))(g:List (MG×J))(s':MS)(e:Ending)(k:Y):Prop:=∃d C2 b a,Cd w B h t d c n C2 b a j i f g e k/\A3 t d c n C2 b a=s'
theorem Cq{z:MC}{c:List MC}{a:Int}{ts:List Int}(h:Bw (z::c) (a::ts)=true)(b:a≠0):z.type=a:=by simp only[Bw,ky,Bool.or_eq_true,beq_iff_eq]at h;exact h.1.resolve_left b
theorem AW.fX(h:AW p f x){F:Int}(c:AG x.op=F)(d:F=5\/F=6\/F=7):Cn F x.a=true/\x.a≠0:=by
 obtain⟨_,_,h⟩:=h;rw[c]at h;have ht:Cb F x.a:=by unfold BU at h;rcases h with h|h|h|h|h|h|h|h|h|h<;>first|(exfalso;omega)|exact h.1
 rcases ht with⟨rfl,b⟩|⟨rfl,b⟩|⟨rfl,b⟩
 . exact⟨by simp[Cn];exact b,oM⟩
 . exact⟨by simp[Cn];exact b,oM⟩
 refine⟨by simp[Cn];exact b, λe=> ?_⟩;rw[e]at b;exact absurd b dC
theorem Fv:AG 8=5/\AG 9=5/\AG 10=5/\AG 11=5/\AG 12=5/\AG 13=6/\AG 14=6/\AG 15=6/\AG 16=6/\AG 20=7/\AG 21=5:=by decide+kernel
theorem JH(z:MG×J):(F.set top z).take top=F.take top:=by rw[List.take_set_of_le lR]
theorem YX(v:VP)(p:MP)(f:MF)(x:MI)(B D top:Nat)(t:Int)(c n:Int)(X:VS)(C:List (J×List MC))(K ar:List MC)(F0:List (MG×J))(G:J)(E H gf c3:Nat)(y0:MG×J)(w:Y)(P:B<= ↑w)(h:AB w B X C (K++ar) (F0.set top ({y0.1 with at_:=y0.1.at_+1},y0.2)))(S:BF w D t false c n X G)(hF: ↑F0=top+1)(Q:top<=1048576)(hy:F0[top]?=some y0)(R:X.f=Z gf (top+1) c3)(s:FM p f y0.1 x C ar)(ae:Bw ar (AA p f x)=true)(aQ:x.op=27->AJ f x.a=3)(hK:K.length+ ↑ar<=64)(aW:y0.1.a7.length<=32)
 (hP:Rd w 2 v.k p.b8 (Ad MC.cells p.b8)) (aO:p.b8.length<=1048576) (aK:w ⟨E,H+1,M⟩=some v.k) (I:Nat) (d:x.op=(I:Int)) (aT:I<28):
 Ai Aq (Kz I) #[.pointer D,An #[.pointer (some ⟨E,H,M⟩),.pointer (some ⟨gf,top*4,M⟩)],An #[x.op,x.a,x.b,x.c]] w (Lo w B D t c n G X C (F0.set top ({y0.1 with at_:=y0.1.at_+1},y0.2)) (Eb p f y0.1 (A3 t false c n C (K++ar) F0) x)):=by
 generalize aH:F0.set top ({y0.1 with at_:=y0.1.at_+1},y0.2)=F at h⊢;have y: ↑F=top+1:=by rw[<-aH,ki,hF]
 have A:F[top]?=some ({y0.1 with at_:=y0.1.at_+1},y0.2):=by rw[<-aH,kw oM]
 have L:(A3 t false c n C (K++ar) F0).stack.drop ((A3 t false c n C (K++ar) F0).stack.length-(AA p f x).length)=ar:=by rw[<-s.eZ];simp only[A3,jI,Nat.add_sub_cancel];exact List.drop_left
 have N:(A3 t false c n C (K++ar) F0).stack.take ((A3 t false c n C (K++ar) F0).stack.length-(AA p f x).length)=K:=by rw[<-s.eZ];simp only[A3,jI,Nat.add_sub_cancel];exact List.take_left
 have O:CQ (A3 t false c n C (K++ar) F0).dk (λh=>{h with at_:=y0.1.at_+1})=F.map Prod.fst:=by rw[<-aH];exact Eo hF hy _
 have aM:I=0\/I=1\/I=2\/I=3\/I=4\/I=5\/I=6\/I=7\/I=8\/I=9\/I=10\/I=11\/I=12\/I=13\/I=14\/I=15\/I=16\/I=17\/I=18\/I=19\/I=20\/I=21\/I=22\/I=23\/I=24\/I=25\/I=26\/I=27:=oM
 rcases aM with rfl|rfl|rfl|rfl|rfl|rfl|rfl|rfl|rfl|rfl|rfl|rfl|rfl|rfl|rfl|rfl|rfl|rfl|rfl|rfl|rfl|rfl|rfl|rfl|rfl|rfl|rfl|rfl
 . have d:x.op=0:=d;show Ai Aq 95 _ _ _;(have al:ar.length=0:=by rw[s.eZ];simp[AA,d]);have ai:=jR al;subst ai;rw[lK]at h;refine(ZQ B D top t false c n X C K F G E H gf c3 _ x.op x.a x.b x.c w P h S y Q A R).mono ?_;intro e T l;refine⟨_,_,_,_,l,?_⟩;simp only[Eb,L,N,O,d];simp[A3]
 . have d:x.op=1:=d;show Ai Aq 96 _ _ _;(have al:ar.length=0:=by rw[s.eZ];simp[AA,d]);have ai:=jR al;subst ai;rw[lK]at h;obtain⟨q,z,V,U⟩:=s.ins.const d;have aR:=(f7.1 U).1;rcases hP.2 with⟨e,_⟩|⟨gk,ok,ck,e,hc⟩
   . omega
   rw[e]at aK;refine(Pa B D top t false c n X C K F G E H gf c3 _ x.op x.a x.b x.c w P h S y Q A R oM q p.b8 gk ok ck z V aR aO aK (Rd.elem MC.bW hc q z U 0 _ rfl) (Rd.elem MC.bW hc q z U 1 _ rfl)).mono ?_;intro e T l;refine⟨_,_,_,_,l,?_⟩;simp only[Eb,L,N,O,d];simp[A3,C8,V,U]
 . have d:x.op=2:=d;show Ai Aq 97 _ _ _;(have al:ar.length=0:=by rw[s.eZ];simp[AA,d]);have ai:=jR al;subst ai;rw[lK]at h;obtain⟨q,z,V,U,_⟩:=s.loc oM;refine(Nx B D top t false c n X C K F G E H gf c3 _ x.op x.a x.b x.c w P h S y Q A R oM q z V U oS).mono ?_;intro e T l;refine⟨_,_,_,_,l,?_⟩;simp only[Eb,L,N,O,d];simp[A3,C8,V,U]
 . have d:x.op=3:=d;show Ai Aq 98 _ _ _;(have al:ar.length=1:=by rw[s.eZ];simp[AA,d]);obtain⟨j,rfl⟩:=G5 al;obtain⟨q,z,V,U,_⟩:=s.loc oM;refine(MW j B D top t false c n X C K F G E H gf c3 _ x.op x.a x.b x.c w P h S y Q A R oM q z V U oS).mono ?_;intro e T l;refine⟨_,_,_,_,l,?_⟩;simp only[Eb,L,N,O,d];simp[A3,C8,V,Eo y A]
 . have d:x.op=4:=d;show Ai Aq 99 _ _ _;(have al:ar.length=0:=by rw[s.eZ];simp[AA,d]);have ai:=jR al;subst ai;rw[lK]at h;obtain⟨q,i,r,rt,V,hi,l,aS,aA,ht,aG,h3⟩:=s.cell oM;obtain⟨z,U,_⟩:=JZ aA ht;refine(XJ B D top t false c n X C K F G E H gf c3 _ x.op x.a x.b x.c w P h S y Q A R oM q i r z V hi l U oM oM).mono ?_;intro e T aq;refine⟨_,_,_,_,aq,?_⟩;simp only[Eb,L,N,O,d];simp[A3,cellAt,C8,V,hi,l,U]
 . have d:x.op=5:=d;show Ai Aq 100 _ _ _;(have al:ar.length=1:=by rw[s.eZ];simp[AA,d]);obtain⟨j,rfl⟩:=G5 al;obtain⟨q,i,r,rt,V,hi,l,aS,aA,ht,aG,h3⟩:=s.cell oM;obtain⟨z,U,_⟩:=JZ aA ht;refine(Wd j B D top t false c n X C K F G E H gf c3 _ x.op x.a x.b x.c w P h S y Q A R oM q i r z V hi l U oM oM).mono ?_;intro e T aq;refine⟨_,_,_,_,aq,?_⟩;simp only[Eb,L,N,O,d];simp[A3,C8,V,hi,Mx l]
 . have d:x.op=6:=d;show Ai Aq 101 _ _ _;(have al:ar.length=1:=by rw[s.eZ];simp[AA,d]);obtain⟨j,rfl⟩:=G5 al;obtain⟨q,b0,m0,r,V,ax,aE,aA,l,aG,h3,aI⟩:=s.masked oM;obtain⟨w0,au,aF⟩:=PQ (s.awf j sP);obtain⟨z,U,_⟩:=aI w0;have aJ:=(f7.1 U).1;obtain⟨gl,cl,el⟩:∃g c,r.1=Z (some ⟨g,0,M⟩) r.2.length c:=by
    rcases Bi (h.eT.own r (by simp only[jL];exact .inl (.inl (hC l))))with⟨_,e⟩|hh
    . omega
    exact hh
   refine(SX j B D top t false c n X C K F G E H gf c3 _ x.op x.a x.b x.c w P h S y Q A R oM q b0 m0 w0 _ gl r.2 cl r z V ax aE l el U aJ oM oM au rfl aF oM).mono ?_;intro e T aq;refine⟨_,_,_,_,aq,?_⟩;simp only[Eb,L,N,O,d];simp[A3,cellAt,C8,V,ax,aE,au,l,U]
 . have d:x.op=7:=d;show Ai Aq 102 _ _ _;(have al:ar.length=2:=by rw[s.eZ];simp[AA,d]);obtain⟨j,m,rfl⟩:=Et al;rw[show K++[j,m]=K++[j]++[m]from sP]at h;obtain⟨q,b0,m0,r,V,ax,aE,aA,l,aG,h3,aI⟩:=s.masked oM;obtain⟨w0,au,aF⟩:=PQ (s.awf j sP);obtain⟨z,U,_⟩:=aI w0;have aJ:=(f7.1 U).1;obtain⟨gl,cl,el⟩:∃g c,r.1=Z (some ⟨g,0,M⟩) r.2.length c:=by
    rcases Bi (h.eT.own r (by simp only[jL];exact .inl (.inl (hC l))))with⟨_,e⟩|hh
    . omega
    exact hh
   refine(RO j m B D top t false c n X C K F G E H gf c3 _ x.op x.a x.b x.c w P h S y Q A R (by simp at hK;omega) q b0 m0 w0 _ gl r.2 cl r z V ax aE l el U aJ oM oM au rfl aF oM).mono ?_;intro e T aq;refine⟨_,_,_,_,aq,?_⟩;simp only[Eb,L,N,O,d];simp[A3,C8,V,ax,aE,au,Mx l]
 . have d:x.op=8:=d;show Ai Aq 103 _ _ _;(have al:ar.length=2:=by rw[s.eZ];simp[AA,d]);obtain⟨j,m,rfl⟩:=Et al;rw[show K++[j,m]=K++[j]++[m]from sP]at h;obtain⟨u,aa⟩:=s.ins.fX (F:=5) (by rw[d];exact Fv.1) dC;have W:j.type=x.a:=Cq (by have:=ae;simp only[AA,d]at this;simpa using this) aa;rw[<-W]at u;refine(Bu (Zg j.type j.word m.word) 8 81 j m B D top t false c n X C K F G E H gf c3 _ x.op x.a x.b x.c w P h S y Q A R (by simp at hK;omega) d oM rfl (pm _ _ _) (λ_ _=>kR)).mono ?_;intro e T l;refine⟨_,_,_,_,l,?_⟩;simp only[Eb,L,N,O,d];simp[A3,C8,Dy,u]
 . have d:x.op=9:=d;show Ai Aq 103 _ _ _;(have al:ar.length=2:=by rw[s.eZ];simp[AA,d]);obtain⟨j,m,rfl⟩:=Et al;rw[show K++[j,m]=K++[j]++[m]from sP]at h;obtain⟨u,aa⟩:=s.ins.fX (F:=5) (by rw[d];exact Fv.2.1) dC;have W:j.type=x.a:=Cq (by have:=ae;simp only[AA,d]at this;simpa using this) aa;rw[<-W]at u;refine(Bu (Zl j.type j.word m.word) 9 82 j m B D top t false c n X C K F G E H gf c3 _ x.op x.a x.b x.c w P h S y Q A R (by simp at hK;omega) d oM rfl (Rp _ _ _) (λ_ _=>kR)).mono ?_;intro e T l;refine⟨_,_,_,_,l,?_⟩;simp only[Eb,L,N,O,d];simp[A3,C8,Dy,u]
 . have d:x.op=10:=d;show Ai Aq 103 _ _ _;(have al:ar.length=2:=by rw[s.eZ];simp[AA,d]);obtain⟨j,m,rfl⟩:=Et al;rw[show K++[j,m]=K++[j]++[m]from sP]at h;obtain⟨u,aa⟩:=s.ins.fX (F:=5) (by rw[d];exact Fv.2.2.1) dC;have W:j.type=x.a:=Cq (by have:=ae;simp only[AA,d]at this;simpa using this) aa;rw[<-W]at u;refine(Bu (Zh j.type j.word m.word) 10 83 j m B D top t false c n X C K F G E H gf c3 _ x.op x.a x.b x.c w P h S y Q A R (by simp at hK;omega) d oM rfl (Ro _ _ _) (λ_ _=>kR)).mono ?_;intro e T l;refine⟨_,_,_,_,l,?_⟩;simp only[Eb,L,N,O,d];simp[A3,C8,Dy,u]
 . have d:x.op=11:=d;show Ai Aq 103 _ _ _;(have al:ar.length=2:=by rw[s.eZ];simp[AA,d]);obtain⟨j,m,rfl⟩:=Et al;rw[show K++[j,m]=K++[j]++[m]from sP]at h;obtain⟨u,aa⟩:=s.ins.fX (F:=5) (by rw[d];exact Fv.2.2.2.1) dC;have W:j.type=x.a:=Cq (by have:=ae;simp only[AA,d]at this;simpa using this) aa;rw[<-W]at u;refine(Bu (UM j.type j.word m.word) 11 84 j m B D top t false c n X C K F G E H gf c3 _ x.op x.a x.b x.c w P h S y Q A R (by simp at hK;omega) d oM rfl (VC _ _ _) (λ_ _=>kR)).mono ?_;intro e T l;refine⟨_,_,_,_,l,?_⟩;simp only[Eb,L,N,O,d];simp[A3,C8,Dy,u]
 . have d:x.op=12:=d;show Ai Aq 103 _ _ _;(have al:ar.length=2:=by rw[s.eZ];simp[AA,d]);obtain⟨j,m,rfl⟩:=Et al;rw[show K++[j,m]=K++[j]++[m]from sP]at h;obtain⟨u,aa⟩:=s.ins.fX (F:=5) (by rw[d];exact Fv.2.2.2.2.1) dC;have W:j.type=x.a:=Cq (by have:=ae;simp only[AA,d]at this;simpa using this) aa;rw[<-W]at u;refine(Bu (UN j.type j.word m.word) 12 85 j m B D top t false c n X C K F G E H gf c3 _ x.op x.a x.b x.c w P h S y Q A R (by simp at hK;omega) d oM rfl (VD _ _ _) (λ_ _=>kR)).mono ?_;intro e T l;refine⟨_,_,_,_,l,?_⟩;simp only[Eb,L,N,O,d];simp[A3,C8,Dy,u]
 . have d:x.op=13:=d;show Ai Aq 103 _ _ _;(have al:ar.length=2:=by rw[s.eZ];simp[AA,d]);obtain⟨j,m,rfl⟩:=Et al;rw[show K++[j,m]=K++[j]++[m]from sP]at h;obtain⟨u,aa⟩:=s.ins.fX (F:=6) (by rw[d];exact Fv.2.2.2.2.2.1) dC;have W:j.type=x.a:=Cq (by have:=ae;simp only[AA,d]at this;simpa using this) aa;rw[<-W]at u;refine(Bu (o3 j.type j.word m.word) 13 86 j m B D top t false c n X C K F G E H gf c3 _ x.op x.a x.b x.c w P h S y Q A R (by simp at hK;omega) d oM rfl (Vz _ _ _) (λ_ _=>kR)).mono ?_;intro e T l;refine⟨_,_,_,_,l,?_⟩;simp only[Eb,L,N,O,d];simp[A3,C8,Dy,u]
 . have d:x.op=14:=d;show Ai Aq 103 _ _ _;(have al:ar.length=2:=by rw[s.eZ];simp[AA,d]);obtain⟨j,m,rfl⟩:=Et al;rw[show K++[j,m]=K++[j]++[m]from sP]at h;obtain⟨u,aa⟩:=s.ins.fX (F:=6) (by rw[d];exact Fv.2.2.2.2.2.2.1) dC;have W:j.type=x.a:=Cq (by have:=ae;simp only[AA,d]at this;simpa using this) aa;rw[<-W]at u;refine(Bu (q9 j.type j.word m.word) 14 87 j m B D top t false c n X C K F G E H gf c3 _ x.op x.a x.b x.c w P h S y Q A R (by simp at hK;omega) d oM rfl (X1 _ _ _) (λ_ _=>kR)).mono ?_;intro e T l;refine⟨_,_,_,_,l,?_⟩;simp only[Eb,L,N,O,d];simp[A3,C8,Dy,u]
 . have d:x.op=15:=d;show Ai Aq 103 _ _ _;(have al:ar.length=2:=by rw[s.eZ];simp[AA,d]);obtain⟨j,m,rfl⟩:=Et al;rw[show K++[j,m]=K++[j]++[m]from sP]at h;obtain⟨u,aa⟩:=s.ins.fX (F:=6) (by rw[d];exact Fv.2.2.2.2.2.2.2.1) dC;have W:j.type=x.a:=Cq (by have:=ae;simp only[AA,d]at this;simpa using this) aa;rw[<-W]at u;refine(Bu (o4 j.type j.word m.word) 15 88 j m B D top t false c n X C K F G E H gf c3 _ x.op x.a x.b x.c w P h S y Q A R (by simp at hK;omega) d oM rfl (VA _ _ _) (λ_ _=>kR)).mono ?_;intro e T l;refine⟨_,_,_,_,l,?_⟩;simp only[Eb,L,N,O,d];simp[A3,C8,Dy,u]
 . have d:x.op=16:=d;show Ai Aq 104 _ _ _;(have al:ar.length=1:=by rw[s.eZ];simp[AA,d]);obtain⟨j,rfl⟩:=G5 al;obtain⟨u,aa⟩:=s.ins.fX (F:=6) (by rw[d];exact Fv.2.2.2.2.2.2.2.2.1) dC;have W:j.type=x.a:=Cq (by have:=ae;simp only[AA,d]at this;simpa using this) aa;rw[<-W]at u;refine(RR (UO j.type j.word 0) 16 89 j B D top t false c n X C K F G E H gf c3 _ x.op x.a x.b x.c w P h S y Q A R (by simp at hK;omega) d oM rfl (pn _ _ _) (λ_ _=>kR)).mono ?_;intro e T l;refine⟨_,_,_,_,l,?_⟩;simp only[Eb,L,N,O,d];simp[A3,C8,Dy,u]
 . have d:x.op=17:=d;show Ai Aq 103 _ _ _;(have al:ar.length=2:=by rw[s.eZ];simp[AA,d]);obtain⟨j,m,rfl⟩:=Et al;rw[show K++[j,m]=K++[j]++[m]from sP]at h;have u:Cn 0 j.type=true:=rfl;refine(Bu (Zj j.type j.word m.word) 17 90 j m B D top t false c n X C K F G E H gf c3 _ x.op x.a x.b x.c w P h S y Q A R (by simp at hK;omega) d oM rfl (PA _ _ _) (λ_ _=>kR)).mono ?_;intro e T l;refine⟨_,_,_,_,l,?_⟩;simp only[Eb,L,N,O,d];simp[A3,C8,Dy,u]
 . have d:x.op=18:=d;show Ai Aq 103 _ _ _;(have al:ar.length=2:=by rw[s.eZ];simp[AA,d]);obtain⟨j,m,rfl⟩:=Et al;rw[show K++[j,m]=K++[j]++[m]from sP]at h;have u:Cn 0 j.type=true:=rfl;refine(Bu (Zk j.type j.word m.word) 18 91 j m B D top t false c n X C K F G E H gf c3 _ x.op x.a x.b x.c w P h S y Q A R (by simp at hK;omega) d oM rfl (NB _ _ _) (λ_ _=>kR)).mono ?_;intro e T l;refine⟨_,_,_,_,l,?_⟩;simp only[Eb,L,N,O,d];simp[A3,C8,Dy,u]
 . have d:x.op=19:=d;show Ai Aq 104 _ _ _;(have al:ar.length=1:=by rw[s.eZ];simp[AA,d]);obtain⟨j,rfl⟩:=G5 al;have u:Cn 0 j.type=true:=rfl;refine(RR (Zi j.type j.word 0) 19 92 j B D top t false c n X C K F G E H gf c3 _ x.op x.a x.b x.c w P h S y Q A R (by simp at hK;omega) d oM rfl (VE _ _ _) (λ_ _=>kR)).mono ?_;intro e T l;refine⟨_,_,_,_,l,?_⟩;simp only[Eb,L,N,O,d];simp[A3,C8,Dy,u]
 . have d:x.op=20:=d;show Ai Aq 105 _ _ _;(have al:ar.length=2:=by rw[s.eZ];simp[AA,d]);obtain⟨j,m,rfl⟩:=Et al;rw[show K++[j,m]=K++[j]++[m]from sP]at h;obtain⟨u,aa⟩:=s.ins.fX (F:=7) (by rw[d];exact Fv.2.2.2.2.2.2.2.2.2.1) dC;have W:j.type=x.a:=Cq (by have:=ae;simp only[AA,d]at this;simpa using this) aa;rw[<-W]at u;refine(KI (qM j.type j.word m.word) 20 93 j m B D top t false c n X C K F G E H gf c3 _ x.op x.a x.b x.c w P h S y Q A R (by simp at hK;omega) d oM rfl (X3 _ _ _) (λ_ _=>kR)).mono ?_;intro e T l;refine⟨_,_,_,_,l,?_⟩;simp only[Eb,L,N,O,d];simp[A3,C8,Dy,u]
 . have d:x.op=21:=d;show Ai Aq 105 _ _ _;(have al:ar.length=2:=by rw[s.eZ];simp[AA,d]);obtain⟨j,m,rfl⟩:=Et al;rw[show K++[j,m]=K++[j]++[m]from sP]at h;obtain⟨u,aa⟩:=s.ins.fX (F:=5) (by rw[d];exact Fv.2.2.2.2.2.2.2.2.2.2) dC;have W:j.type=x.a:=Cq (by have:=ae;simp only[AA,d]at this;simpa using this) aa;rw[<-W]at u;refine(KI (N2 j.type j.word m.word) 21 94 j m B D top t false c n X C K F G E H gf c3 _ x.op x.a x.b x.c w P h S y Q A R (by simp at hK;omega) d oM rfl (ZR _ _ _) (λ_ _=>kR)).mono ?_;intro e T l;refine⟨_,_,_,_,l,?_⟩;simp only[Eb,L,N,O,d];simp[A3,C8,Dy,u]
 . have d:x.op=22:=d;show Ai Aq 106 _ _ _;(have al:ar.length=1:=by rw[s.eZ];simp[AA,d]);obtain⟨j,rfl⟩:=G5 al;refine(QP j B D top t false c n X C K F G E H gf c3 _ x.op x.a x.b x.c w P h S y Q A R oM).mono ?_;intro e T l;refine⟨_,_,_,_,l,?_⟩;simp only[Eb,L,N,O,d];simp[A3,C8]
 . have d:x.op=23:=d;show Ai Aq 107 _ _ _;(have al:ar.length=1:=by rw[s.eZ];simp[AA,d]);obtain⟨j,rfl⟩:=G5 al;refine(Zd j B D top t false c n X C K F G E H gf c3 _ x.op x.a x.b x.c w P h S y Q A R oM).mono ?_;intro e T l;refine⟨_,_,_,_,l,?_⟩;simp only[Eb,L,N,O,d];simp[A3,C8]
 . have d:x.op=24:=d;show Ai Aq 108 _ _ _;(have al:ar.length=1:=by rw[s.eZ];simp[AA,d]);obtain⟨j,rfl⟩:=G5 al;refine(Xg j B D top t false c n X C K F G E H gf c3 _ x.op x.a x.b x.c w P h S y Q A R oM).mono ?_;intro e T l;refine⟨_,_,_,_,l,?_⟩;simp only[Eb,L,N,O,d];simp[A3]
 . have d:x.op=25:=d;show Ai Aq 109 _ _ _;(have al:ar.length=0:=by rw[s.eZ];simp[AA,d]);have ai:=jR al;subst ai;rw[lK]at h;refine(XI B D top t false c n X C K F G E H gf c3 _ x.op x.a x.b x.c w P h S y Q A R).mono ?_;intro e T l;refine⟨_,_,_,_,l,?_⟩;simp only[Eb,L,N,O,d];simp[A3,Eo y A]
 . have d:x.op=26:=d;show Ai Aq 110 _ _ _;(have al:ar.length=1:=by rw[s.eZ];simp[AA,d]);obtain⟨j,rfl⟩:=G5 al;have W:j.type=1:=Cq (by have:=ae;simp only[AA,d]at this;simpa using this) dC;by_cases aj:j.word=0
   . refine(SU j B D top t false c n X C K F G E H gf c3 _ x.op x.a x.b x.c w P h S y Q A R (by simp at hK;omega) W aj).mono ?_;intro e T l;refine⟨_,_,_,_,l,?_⟩;simp only[Eb,L,N,O,d];simp[A3,C8,aj,Eo y A]
   refine(ST j B D top t false c n X C K F G E H gf c3 _ x.op x.a x.b x.c w P h S y Q A R (by simp at hK;omega) W aj).mono ?_;intro e T l;refine⟨_,_,_,_,l,?_⟩;simp only[Eb,L,N,O,d];simp[A3,C8,aj]
 have d:x.op=27:=d;show Ai Aq 111 _ _ _;have al:ar.length=0:=by rw[s.eZ];simp[AA,d]
 have ai:=jR al;subst ai;rw[lK]at h;obtain⟨q,z,V,U,ht⟩:=s.loc oM;obtain⟨w0,au,aF⟩:=PQ (s.lwf z (hC U));rw[aQ d]at ht;by_cases aj:z.word=0
 . refine(Zs B D top t false c n X C K F G E H gf c3 _ x.op x.a x.b x.c w P h S y Q A R q z V U oS ht oM oM aj).mono ?_;intro e T l;refine⟨_,_,_,_,l,?_⟩;simp only[Eb,L,N,O,d];simp[A3,C8,V,U,aj,Eo y A]
 refine(Zr B D top t false c n X C K F G E H gf c3 _ x.op x.a x.b x.c w P h S y Q A R q z V U oS ht oM oM aj).mono ?_;intro e T l;refine⟨_,_,_,_,l,?_⟩;simp only[Eb,L,N,O,d];simp[A3,C8,V,U,aj,Eo y A,S6 U]
theorem oG(p:MP)(f:MF)(x:MI)(B j top:Nat)(c n:Int)(X:VS)(C:List (J×List MC))(K:List MC)(i:List (MG×J))(k:J)(m s gf c3:Nat)(d:MG×J)(w:Y)(t:B<= ↑w)(h:AB w B X C K (i.set top ({d.1 with at_:=d.1.at_+1},d.2)))(A:BF w j 0 false c n X k)(u: ↑i=top+1)(v:top<=1048576)(H:i[top]?=some d)(z:X.f=Z gf (top+1) c3)(E:x.op=29):
 Ai Aq 113 #[.pointer j,An #[.pointer (some ⟨m,s,M⟩),.pointer (some ⟨gf,top*4,M⟩)],An #[x.op,x.a,x.b,x.c]] w (Lo w B j 0 c n k X C (i.set top ({d.1 with at_:=d.1.at_+1},d.2)) (Eb p f d.1 (A3 0 false c n C K i) x)):=by
 have y:(i.set top ({d.1 with at_:=d.1.at_+1},d.2)).length=top+1:=by rw[ki,u]
 have D:(i.set top ({d.1 with at_:=d.1.at_+1},d.2))[top]?=some ({d.1 with at_:=d.1.at_+1},d.2):=by rw[kw oM]
 have q:=Y9 (p:=p) (f:=f) (g:=d.1) (C:=C) (K:=K) (F:=i) (c:=c) (n:=n) E;rw[u,Nat.add_sub_cancel]at q;by_cases l:top=0
 . refine(SJ B j top 0 false c n X C K _ k m s gf c3 _ x.op x.a x.b x.c w t h A y v D z l).mono ?_;intro e G r;refine⟨_,_,_,_,r,?_⟩;rw[<-q,JH];simp[l]
 refine(SI B j top 0 false c n X C K _ k m s gf c3 _ x.op x.a x.b x.c w t h A y v D z l).mono ?_;intro e G r;refine⟨_,_,_,_,r,?_⟩;rw[<-q,JH];simp[l]
theorem oF(p:MP)(f fq:MF)(x:MI)(B k top:Nat)(c n:Int)(X:VS)(C:List (J×List MC))(K ar:List MC)(i:List (MG×J))(m:J)(y I gf c3:Nat)(d:MG×J)(w:Y)(O:B<= ↑w)(h:AB w B X C (K++ar) (i.set top ({d.1 with at_:=d.1.at_+1},d.2)))(U:BF w k 0 false c n X m)(z: ↑i=top+1)(P:top<=1048576)(hy:i[top]?=some d)(R:X.f=Z gf (top+1) c3)(H:x.op=28)(hK:K.length+ ↑ar<=64)(A: ↑ar=(AA p f x).length)
 (q l r v j:Nat) (s:x.a=(q:Int)) (E:p.aB[q]?=some fq) (T:m=Z l r v) (ae:q<r) (V:r<=1048576) (W:(fq.aD++fq.a7).length=j) (N u:Option Addr) (L t:Nat) (hp:w ⟨l,q*9+4,M⟩=some (Z N fq.aD L)) (ht:w ⟨l,q*9+8,M⟩=some (Z u j t)) (ai:Rd w 1 (Z u j t) j (Ad As (fq.aD++fq.a7))) (aa:j<=1048576):
 Ai Aq 112 #[.pointer k,An #[.pointer (some ⟨y,I,M⟩),.pointer (some ⟨gf,top*4,M⟩)],An #[x.op,x.a,x.b,x.c]] w (Lo w B k 0 c n m X C (i.set top ({d.1 with at_:=d.1.at_+1},d.2)) (Eb p f d.1 (A3 0 false c n C (K++ar) i) x)):=by
 have Q:(i.set top ({d.1 with at_:=d.1.at_+1},d.2)).length=top+1:=by rw[ki,z]
 have aq:(i.set top ({d.1 with at_:=d.1.at_+1},d.2))[top]?=some ({d.1 with at_:=d.1.at_+1},d.2):=by rw[kw oM]
 have aj:AA p f x=fq.aD:=by simp[AA,H,s,E]
 have S:ar.length=fq.aD.length:=by rw[A,aj]
 refine(WK ar B k top 0 false c n X C K _ m y I gf c3 _ x.op x.a x.b x.c w O h U Q P aq R oM q s fq.aD fq.a7 S l r v T ae V j W N u L t hp ht ai aa).mono ?_;rintro e w' ⟨vl,hr⟩;refine⟨_,_,_,_,hr,?_⟩;have G:(K++ar).length-↑ar=K.length:=by rw[jI];omega
 have D:=W8 (p:=p) (f:=f) (fq:=fq) (g:=d.1) (C:=C) (K:=K++ar) (ar:=ar) (F:=i) (vl:=d.2) (vv:=vl) (c:=c) (n:=n) (x:=x) (q:=q) (top:=top) H s E A (by rw[G];exact List.drop_left) z hy;rw[G,List.take_left]at D;exact D
theorem I7{n:Nat}{s:J}{xs:List J}(h:Ab u B e k s n xs)(c:s.ownBlock=K b):∃a,Ay u b a e:=by
 rcases h.2 with⟨rfl,_⟩|⟨g,cap,a,rfl,_,d,_⟩
 . simp[Value.ownBlock]at c
 obtain rfl:g=b:=by simpa[Value.ownBlock]using c
 exact⟨a,d⟩
theorem Ay.fw{d f:Array J}{c:Aj}(h:Ay u b d e)(a:Ay u b f c):e=c:=by
 unfold Ay at h a;rw[h]at a;injection a with a
 injection a with _ a _
theorem AB.ty{K:List MC}(h:AB u B X C K F)(a:Dt X C F b){g:Array J}(d:Ay u b g e):e=193\/e=45\/e=132:=by
 rcases a with a|a|a|⟨r,f,a⟩|⟨r,f,a⟩
 . obtain⟨_,c⟩:=I7 h.cells a;exact .inr (.inl (d.fw c))
 . obtain⟨_,c⟩:=I7 (h.eT.own (X.k,K) sP) a;exact .inl (d.fw c)
 . obtain⟨_,c⟩:=I7 h.dk a;exact .inr (.inr (d.fw c))
 . obtain⟨_,c⟩:=I7 (h.eT.own r (by simp only[jL];exact .inl (.inl f))) a;exact .inl (d.fw c)
 obtain⟨_,c⟩:=I7 (h.eT.own r (by simp only[jL];exact .inr f)) a;exact .inl (d.fw c)
theorem Fr.eX{D R:J}{K:List MC}{d:Bool}{G:VS}(h:Fr u B v p D)(L:B<= ↑u)(U:B<=a)(A:AB u B X C K F)(O:BF u a t d c n G R)(m:Bp (λj=>j=a\/Dt X C F j) u w):Fr w B v p D:=by
 obtain⟨H,I,y,f⟩:=h;have N:Ah B u w:=m.below L (λk q e=>by
  rcases e with e|e
  . omega
  have:=(A.ltOf e).1;omega)
 have E:∀{b:Nat} {x:Array J} {e:Aj},Ay u b x e->e=138\/e=2->¬(b=a\/Dt X C F b):= λ{b x e} q z i=>by
  rcases i with rfl|i
  . obtain⟨T,P,_⟩:=O.eP;have:=q.fw P;rcases z with rfl|rfl<;>exact absurd this dC
  have:=A.ty i q;rcases z with rfl|rfl<;>rcases this with this|this|this<;>exact absurd this dC
 refine⟨H,I,m.own y (λb l=> ?_), λr s=>⟨λS Q=>(f r s).1 S (N.trans Q),m.own (f r s).2 (λb l=> ?_)⟩⟩
 . obtain⟨_,g⟩:=I7 y l;exact E g (.inl rfl)
 obtain⟨_,g⟩:=I7 (f r s).2 l;exact E g (.inr rfl)
theorem Fr.at{z:J}(h:Fr u B v p z)(y:p.aB[q]?=K f):∃a n,z=Z (K ⟨a,0,M⟩) p.aB.length n/\∃(g:VF) (m:Option Addr) (j:Nat),(∀A,Ah B u A->FH A g f)/\u.cell? ⟨a,q*9,M⟩=K v.r/\u.cell? ⟨a,q*9+1,M⟩=K v.k/\u.cell? ⟨a,q*9+2,M⟩=K v.f/\u.cell? ⟨a,q*9+3,M⟩=K v.t/\u.cell? ⟨a,q*9+4,M⟩=K g.p/\u.cell? ⟨a,q*9+5,M⟩=K (Ag Af f.cu)/\u.cell? ⟨a,q*9+6,M⟩=K g.l/\u.cell? ⟨a,q*9+7,M⟩=K g.c/\u.cell? ⟨a,q*9+8,M⟩=K (Z m (f.aD++f.a7).length j)/\Rd u 1 (Z m (f.aD++f.a7).length j) (f.aD++f.a7).length (Ad As (f.aD++f.a7)):=by
 obtain⟨H,w,d,C⟩:=h;have D:H.length=p.aB.length:=by rw[<-w,kC]
 have E:=(f7.1 y).1;obtain⟨⟨s,g,ts⟩,b⟩:∃r,H[q]?=K r:=⟨_,an oM⟩;obtain rfl:s=f:=by
  have e:(H.map Prod.fst)[q]?=K s:=by rw[jY,b];rfl
  rw[w,y]at e;injection e with e
  exact e.symm
 rcases Bi d with⟨_,e⟩|⟨a,n,e⟩
 . omega
 subst e;obtain⟨x,i⟩:=C _ (hC b);rw[<-jI]at i;obtain⟨m,j,e⟩:=AF i;simp only[]at e x i;subst e;refine⟨a,n,by rw[D],g,m,j,x,?_,?_,?_,?_,?_,?_,?_,?_,?_,Rd.eS i⟩
 . have:=d.cellAt (q*9+0) oM;rw[BM (Co v) 9 (BN v) H q 0 _ b oM]at this;exact this
 . have:=d.cellAt (q*9+1) oM;rw[BM (Co v) 9 (BN v) H q 1 _ b oM]at this;exact this
 . have:=d.cellAt (q*9+2) oM;rw[BM (Co v) 9 (BN v) H q 2 _ b oM]at this;exact this
 . have:=d.cellAt (q*9+3) oM;rw[BM (Co v) 9 (BN v) H q 3 _ b oM]at this;exact this
 . have:=d.cellAt (q*9+4) oM;rw[BM (Co v) 9 (BN v) H q 4 _ b oM]at this;exact this
 . have:=d.cellAt (q*9+5) oM;rw[BM (Co v) 9 (BN v) H q 5 _ b oM]at this;exact this
 . have:=d.cellAt (q*9+6) oM;rw[BM (Co v) 9 (BN v) H q 6 _ b oM]at this;exact this
 . have:=d.cellAt (q*9+7) oM;rw[BM (Co v) 9 (BN v) H q 7 _ b oM]at this;exact this
 have:=d.cellAt (q*9+8) oM;rw[BM (Co v) 9 (BN v) H q 8 _ b oM]at this;exact this
def Ww(w:Y)(B b:Nat)(p:MP)(s:MS)(i:J)(h:VS)(f:List (J×List MC))(g:List (MG×J))(e:Ending)(a:Y):Prop:=e=Am (Ap #[])/\∃(t:Int) (d:Bool) (c n:Int) (X:VS) (C:List (J×List MC)) (K:List MC) (F:List (MG×J)),BF a b t d c n X i/\AB a B X C K F/\Bf p s (A3 t d c n C K F)/\Bp (λj=>j=b\/Dt h f g j) w a
structure EI(w u:World)(B M top:Nat)(v:VP)(p:MP)(t c n:Int)(X:VS)(C:List (J×List MC))(K:List MC)(F:List (MG×J))(hv:J)(gH kf gf Y:Nat):Prop where
 mb:BF u M t false c n X hv
 own:AB u B X C K F
 hd:Fr u B v p hv
 fb:Ay u Y #[.pointer (some ⟨gH,kf*9,none⟩),.pointer (some ⟨gf,top*4,none⟩)] 143
 eX:Bp (λj=>j=M\/Dt X C F j) w u
 hB:B<= ↑w
 hM:M< ↑w
 iw:B<=M
 hY: ↑w<=Y
 old:∀j,Dt X C F j->B<=j/\j< ↑w
theorem Fr.av{e:Y}{d:J}(h:Fr u B v p d)(i:B<= ↑u)(a:Ah u u e):Fr e B v p d:=by obtain⟨H,f,g,b⟩:=h;exact⟨H,f,AC g a lR, λr c=>⟨λk j=>(b r c).1 k ((a.mono i).trans j),AC (b r c).2 a lR⟩⟩
theorem EI.av{K:List MC}{g:J}{f:Nat}{j:Y}(h:EI w u B b top v p t c n X C K F g f i gf d)(a:Ah u u j):EI w j B b top v p t c n X C K F g f i gf d:=⟨h.mb.av a,h.own.grow a,h.hd.av (jN h.hB h.eX.size) a,h.fb.av a,h.eX.trans (.of (R:= λ_=>False) a) (λ_ _ e=>e.elim),h.hB,h.hM,h.iw,h.hY,h.old⟩
theorem EI.low{K:List MC}{f:J}(h:EI w u B a top v p t c n X C K F f d g gf b):Ah B w u:=h.eX.below h.hB (λk i e=>by
 have:=h.iw;rcases e with e|e
 . omega
 have:=(h.old k e).1;omega)
theorem EI.iL{K:List MC}{b:J}{e f:Nat}{j c' g:Int}{x:J}(h:EI w u B a top v p t c n X C K F b e f gf d)(k:BF (Aa u ⟨a,i,M⟩ x) a j false c' g X b):EI w (Aa u ⟨a,i,M⟩ x) B a top v p j c' g X C K F b e f gf d:=by have l:=h.hM;have m:=h.hY;refine⟨k,GY h.own h.mb,h.hd.eX (jN h.hB h.eX.size) h.iw h.own h.mb (Bp.setCell (Bp.refl _ u) (.inl (.inl rfl)) x),h.fb.other oS _,h.eX.setCell (.inl (.inl rfl)) x,h.hB,h.hM,h.iw,h.hY,h.old⟩
theorem EI.ft{K:List MC}{g:J}{f e:Nat}(h:EI w u B b top v p t c n X C K F g f k gf e){d:Array J}{ty:Aj}(j:Ay u a d ty)(m: ↑w<=a)(i:Nat)(x:J):Ay (Aa u ⟨b,i,M⟩ x) a d ty:=by have l:=h.hM;exact j.other oS _
theorem EI.fV{K:List MC}{k:J}{e:Nat}(h:EI w u B d top v p t c n X C K F k g l gf e)(i:X.f=Z gf m c3)(b:F[top]?=some y):u ⟨gf,top*4+1,M⟩=some ↑y.1.at_/\u.frozen? ⟨gf,top*4+1,M⟩=false:=by have a:=h.own.dk;rw[i]at a;have j:=CM a;subst j;have q:=(f7.1 b).1;refine⟨?_,a.frozenAt _⟩;rw[a.cellAt (top*4+1) oM,BM BG 4 Ch F top 1 y b oM];rfl
structure OY(w u:World)(B M top:Nat)(v:VP)(p:MP)(c n:Int)(X:VS)(C:List (J×List MC))(K:List MC)(F0:List (MG×J))(F:List (MG×J))(hv:J)(gH kf gf Y Z:Nat)(x:MI):Prop where
 mb:BF u M 0 false c n X hv
 own:AB u B X C K F
 hd:Fr u B v p hv
 fb:Ay u Y #[.pointer (some ⟨gH,kf*9,none⟩),.pointer (some ⟨gf,top*4,none⟩)] 143
 ib:Ay u Z #[x.op,x.a,x.b,x.c] 25
 eX:Bp (λj=>j=M\/Dt X C F0 j) w u
 hB:B<= ↑w
 low:Ah B w u
theorem EI.jump{K:List MC}{t:J}{A:Nat}(h:EI w u B d top v p 0 c n X C K F t q A gf l)(I:Ay u i #[x.op,x.a,x.b,x.c] 25)(Q: ↑w<=i)(r:X.f=Z gf m c3)(H:F[top]?=some y)(z:Int):OY w (Aa u ⟨gf,top*4+1,M⟩ z) B d top v p c n X C K F (F.set top ({y.1 with at_:=z},y.2)) t q A gf l i x:=by
 obtain⟨L,O⟩:=h.own.setAt r H z;have g:Dt X C F gf:=.inr (.inr (.inl (by rw[r];rfl)));have R:=h.old gf g;have P:=h.hY;have G:Bp (λj=>j=d\/Dt X C F j) u (Aa u ⟨gf,top*4+1,M⟩ z):=Bp.setCell (Bp.refl _ u) (.inl (.inr g)) _
 have s:Bp (λj=>j=d\/Dt X C F j) w (Aa u ⟨gf,top*4+1,M⟩ z):=Bp.setCell h.eX (.inl (.inr g)) _
 have D:d≠gf:= λe=>by subst e;obtain⟨N,E,_⟩:=h.mb.eP;rcases h.own.ty g E with e|e|e<;>exact absurd e dC
 refine⟨h.mb.other (by simpa using D) _,L,h.hd.eX (jN h.hB h.eX.size) h.iw h.own h.mb G,h.fb.other oS _,I.other oS _,s,h.hB,s.below h.hB (λk S e=> ?_)⟩;have:=h.iw;rcases e with e|e
 . omega
 have:=(h.old k e).1;omega
theorem OY.av{l:Y}{K:List MC}{b:List (MG×J)}{j:J}{f:Nat}(h:OY w u B d top v p c n X C K b F j i k gf f g x)(a:Ah u u l):OY w l B d top v p c n X C K b F j i k gf f g x:=⟨h.mb.av a,h.own.grow a,h.hd.av (jN h.hB h.eX.size) a,h.fb.av a,h.ib.av a,h.eX.trans (.of (R:= λ_=>False) a) (λ_ _ e=>e.elim),h.hB,h.low.trans (a.mono (jN h.hB h.eX.size))⟩
theorem OY.late{f:Y}{K:List MC}{s:List (MG×J)}{t:J}{r:Nat}(h:OY w u B g top v p c n X C K s F t l r gf i k x)(m:Bp (λj=>j=g\/Dt X C F j) u f):Ay f i #[.pointer (some ⟨l,r*9,M⟩),.pointer (some ⟨gf,top*4,M⟩)] 143/\Ay f k #[x.op,x.a,x.b,x.c] 25:=by
 obtain⟨y,q,_⟩:=h.mb.eP;refine⟨m.eP h.fb (λe=> ?_),m.eP h.ib (λe=> ?_)⟩
 . rcases e with e|e
   . have d:=h.fb;rw[e]at d;exact absurd (q.fw d) dC
   rcases h.own.ty e h.fb with e|e|e<;>exact absurd e dC
 rcases e with e|e
 . have d:=h.ib;rw[e]at d;exact absurd (q.fw d) dC
 rcases h.own.ty e h.ib with e|e|e<;>exact absurd e dC
theorem OJ{K:List MC}{g:MG}(k:x.op≠29)(l:g.base=(b:Int))(m:b<= ↑K)(ht:Do p f g (A3 0 false c n C K F) x=0):∃i ar,K=i++ar/\ ↑ar=(AA p f x).length/\Bw ar (AA p f x)=true/\(x.op=27->AJ f x.a=3):=by
 rw[RQ k l m rfl]at ht;by_cases h: ↑K-b<(AA p f x).length
 . rw[jP h]at ht;exact absurd ht dC
 rw[jH h]at ht;by_cases d:Bw (K.drop (↑K-(AA p f x).length)) (AA p f x)=false\/(x.op=27/\AJ f x.a≠3)
 . rw[jP d]at ht;exact absurd ht dC
 refine⟨K.take (↑K-(AA p f x).length),K.drop (↑K-(AA p f x).length),(lS _ _).symm,by rw[kZ];omega,?_, λe=>kV λj=>d (.inr ⟨e,j⟩)⟩
 cases hfb:Bw (K.drop (↑K-(AA p f x).length)) (AA p f x)with
 |true=>rfl
 |false=>exact absurd (.inl hfb) d
theorem Fr.gR{s j:Nat}(h:Fr u B v p (Z a s j))(n:p.aB[q]?=K f):∃(g:VF) (d:Option Addr) (b:Nat),(∀i,Ah B u i->FH i g f)/\u ⟨a,q*9,M⟩=K v.r/\u ⟨a,q*9+1,M⟩=K v.k/\u ⟨a,q*9+2,M⟩=K v.f/\u ⟨a,q*9+3,M⟩=K v.t/\u ⟨a,q*9+4,M⟩=K g.p/\u ⟨a,q*9+5,M⟩=K ↑f.cu/\u ⟨a,q*9+6,M⟩=K g.l/\u ⟨a,q*9+7,M⟩=K g.c/\u ⟨a,q*9+8,M⟩=K (Z d (f.aD++f.a7).length b)/\Rd u 1 (Z d (f.aD++f.a7).length b) (f.aD++f.a7).length (Ad As (f.aD++f.a7)):=by obtain⟨x,w,e,m⟩:=h.at n;simp only[i8,jJ,lT]at e;obtain⟨⟨rfl,_⟩,_⟩:=e;exact m
theorem O4(k:Nat)(a:k<30)(args:Array J)(w:Y):(callFunc (Kz k) args).run Aq w=.ok (.enter (Kz k) args) w:=by
 have h:k=0\/k=1\/k=2\/k=3\/k=4\/k=5\/k=6\/k=7\/k=8\/k=9\/k=10\/k=11\/k=12\/k=13\/k=14\/k=15\/k=16\/k=17\/k=18\/k=19\/k=20\/k=21\/k=22\/k=23\/k=24\/k=25\/k=26\/k=27\/k=28\/k=29:=oM
 clear a;rcases h with rfl|rfl|rfl|rfl|rfl|rfl|rfl|rfl|rfl|rfl|rfl|rfl|rfl|rfl|rfl|rfl|rfl|rfl|rfl|rfl|rfl|rfl|rfl|rfl|rfl|rfl|rfl|rfl|rfl|rfl<;>(show Sem.run _ _ _=Result.ok _ _;kernel_rfl)
theorem T4(k:Nat)(a:k<30):BS[k*4+1]?=K ↑(B4 k):=by
 have h:k=0\/k=1\/k=2\/k=3\/k=4\/k=5\/k=6\/k=7\/k=8\/k=9\/k=10\/k=11\/k=12\/k=13\/k=14\/k=15\/k=16\/k=17\/k=18\/k=19\/k=20\/k=21\/k=22\/k=23\/k=24\/k=25\/k=26\/k=27\/k=28\/k=29:=oM
 rcases h with rfl|rfl|rfl|rfl|rfl|rfl|rfl|rfl|rfl|rfl|rfl|rfl|rfl|rfl|rfl|rfl|rfl|rfl|rfl|rfl|rfl|rfl|rfl|rfl|rfl|rfl|rfl|rfl|rfl|rfl<;>rfl
theorem YD(v:VP)(p:MP)(c n:Int)(X:VS)(C:List (J×List MC))(K:List MC)(F:List (MG×J))(hv:J)(B m:Nat)(w:Y)(hB:B<= ↑w)(dj:B<=m)(h:AB w B X C K F)(hm:BF w m 0 false c n X hv)(hd:Fr w B v p hv)(aj:IP p (A3 0 false c n C K F))(bf:(A3 0 false c n C K F).wf)(aX:p.small)(de:p.wf)(hP:∀u,Ah B w u->ET u v p):
 Ai Aq 19 #[.pointer m] w (Ww w B m p (A3 0 false c n C K F) hv X C F):=by
 have hK:K.length<=64:=aj.fS;have dm:F.length<=32:=by have:=aj.deep;simpa[A3]using this
 obtain⟨top,aZ⟩:∃top,F.length=top+1:=⟨F.length-1,by
  have:=aj.ne0;cases F with
  |nil=>exact absurd rfl this
  |cons a r=>simp⟩
 obtain⟨⟨s,vl⟩,hy⟩:∃y,F[top]?=some y:=⟨_,an oM⟩;have aQ:s∈(A3 0 false c n C K F).dk:=l9 (f:=Prod.fst) (hC hy);have aS:=aj.dk s aQ;obtain⟨f,hf,bx⟩:=aS.a7;have cR:=Uo aj.fW s aQ;obtain⟨b,hb⟩:=jW cR;obtain⟨t,bS⟩:=jW aS.lo;have bt:b<=K.length:=by have:=aS.base;rw[hb]at this;simp only[A3]at this;omega
 have cZ:(A3 0 false c n C K F).dk.getLast?=some s:=ZG aZ hy;have cW:p.aB[s.func.toNat]?=some f:=hf;rw[bS,i9]at hf;have df:=(f7.1 hf).1;have bB:f.small:=aX.func f (hC hf);have dY:f.aU.length<=1048576:=bB.2.2;have d9:p.aB.length<=1048576:=aX.aB;have cQ:Fb s.at_:=(bf.dk s aQ).at_;obtain⟨dV,dU⟩:=LD cQ;obtain⟨dv,dw⟩:=aj.cost;obtain⟨dD,dE⟩:=aj.steps;simp only[A3]at dv dw dD dE;have h3:p.az.length=3:=aj.prog.parts.1.1;rcases Bi h.dk with⟨_,e⟩|⟨gf,c3,e3⟩
 . omega
 have d8:s.a7.length<=32:=by
  have h1:=bx.1;have h2: ↑s.a7=(f.aD++f.a7).length:=by rw[<-h1,kC]
  have h4:Cj f:=aj.prog.parts.2.2.1.2.2.1 t df f hf;have:=h4.loc;rw[h2,jI];exact this
 rw[aZ]at e3;obtain⟨I,L,eR⟩:=X;simp only[]at e3;subst e3;obtain⟨d,G,eh,_⟩:=hd.at hf;subst eh;have cK:∀z∈K,0<=z.word:= λz hz=>YM (bf.stack z hz)
 have cM:∀j,Dt ⟨I,L,Z gf (top+1) c3⟩ C F j->B<=j/\j<w.heap.size:= λj hj=>h.ltOf hj
 have dq:=hm.lt;have H:Ae (IP p (A3 0 false c n C K F)/\(A3 0 false c n C K F).wf/\p.small/\p.wf/\F[top]?=some (s,vl)/\s.base=(b:Int)/\s.func=(t:Int)/\(∀z∈K,0<=z.word)/\p.az.length=3):=⟨aj,bf,aX,de,hy,hb,bS,cK,h3⟩
 have HP:Ae (∀u,Ah B w u->ET u v p):=hP;have Q:Ae ((A3 0 false c n C K F).dk.getLast?=some s/\p.aB[s.func.toNat]?=some f/\p.aB[t]?=some f/\f.small/\DC s.a7 (f.aD++f.a7)/\ ↑F=top+1/\s.a7.length<=32):=⟨cZ,cW,hf,bB,bx,aZ,d8⟩
 have dh:Ae (∀j,Dt ⟨I,L,Z gf (top+1) c3⟩ C F j->B<=j/\j< ↑w):=cM
 have HW:Ae (AB w B ⟨I,L,Z gf (top+1) c3⟩ C K F/\BF w m 0 false c n ⟨I,L,Z gf (top+1) c3⟩ (Z d p.aB G)/\Fr w B v p (Z d p.aB G)):=⟨h,hm,hd⟩
 have eG:top+1<=32:=oM;clear h hm hd aj bf aX de hP cZ cW hf bB bx aS hy hb bS aQ cR cQ cK h3 cM d8 aZ;go_enter func19,ntmps19;go_wp2_with fail;refine(ni B m top 0 false c n ⟨I,L,Z gf (top+1) c3⟩ C K F (Z d p.aB G) gf c3 d p.aB G t (s,vl) w HW.1 HW.2.1 Q.2.2.2.2.2.1 oM H.2.2.2.2.1 rfl rfl H.2.2.2.2.2.2.1 df d9).mono ?_;rintro e u1 ⟨rfl,b1⟩;have E0:Ae (EI w (Ac u1 (Ak #[.pointer (some ⟨d,t*9,M⟩),.pointer (some ⟨gf,top*4,M⟩)] 143)) B m top v p 0 c n ⟨I,L,Z gf (top+1) c3⟩ C K F (Z d p.aB G) d t gf u1):=by have b2:=Ar b1 lR (Al u1 (Ak #[.pointer (some ⟨d,t*9,M⟩),.pointer (some ⟨gf,top*4,M⟩)] 143));exact⟨HW.2.1.av b2,HW.1.grow b2,HW.2.2.av hB b2,Ay.new _ _ _,Bp.of b2,hB,dq,dj,b1.size,dh⟩
 clear b1;go_upto_region 1 with fail
 generalize u1.heap.size=E at E0⊢;refine Av (λu=>Ae (EI w u B m top v p 0 c n ⟨I,L,Z gf (top+1) c3⟩ C K F (Z d p.aB G) d t gf E)) E0 ?_;rintro U E1;clear E0;clear u1;have y0:=E1.fb.cell 0;have P:=E1.fb.cell 1;simp only[i5,f8,i6]at y0 P;obtain⟨aa,-⟩:=E1.fV rfl H.2.2.2.2.1;simp only[]at aa;obtain⟨g,tp,tc,aq,-,-,-,-,-,-,-,ae,-,-⟩:=E1.hd.gR Q.2.2.1;obtain⟨dP,g9,aA⟩:=(aq U (jZ B U)).2.2.aP;rw[aA]at ae;by_cases aM:0<=s.at_/\s.at_<(f.aU:Int)
 . have aO:decide (0<=s.at_/\s.at_<(f.aU:Int))=true:=decide_eq_true aM
   have inst:=Ax.some U;(have J0:= λn:Ax U=>Ax.cell y0 n);(have J1:= λn:Ax U=>Ax.cell P n);(have J2:= λn:Ax U=>Ax.cell aa n);(have J3:= λn:Ax U=>Ax.cell ae n);go_wp2_with fail;refine AD kR kR ?_;(repeat(go_big_quiet_step ((go_at_call 48;rename_i n';exact(A8 s.at_ (f.aU:Int) n'.u).mono λe cj h=>⟨by rw[h.1,aO],⟨n',h.2⟩⟩))));refine wpQuiet_nil ?_;rintro cj ⟨n',rfl⟩;have E2:Ae (EI w n'.u B m top v p 0 c n ⟨I,L,Z gf (top+1) c3⟩ C K F (Z d p.aB G) d t gf E):=E1.av n'.h;clear J0 J1 J2 J3 inst y0 P aa ae aA aq E1;(go_upto_region 3 with fail);generalize n'.u=V at E2⊢;clear n';clear U;obtain⟨T,bQ⟩:=jW aM.1;obtain⟨x,hx⟩:∃x,f.aU[T]?=some x:=⟨_,an oM⟩;obtain⟨g',eL,eH,aq,-,-,-,-,-,-,-,ae,-,-⟩:=E2.hd.gR Q.2.2.1;obtain⟨gi,oi,bq,aA,bV,bY,bZ,ce⟩:=pe (aq V (jZ B V)).2.2 hx;rw[aA]at ae;have y0:=E2.fb.cell 0;have P:=E2.fb.cell 1;simp only[i5,f8,i6]at y0 P;obtain⟨aa,-⟩:=E2.fV rfl H.2.2.2.2.1;simp only[]at aa;rw[bQ]at aa;have D:=At V;have KD:V.drew E=some (.pointer (some ⟨d,t*9,M⟩))/\V.drew ⟨E,1,M⟩=some (.pointer (some ⟨gf,top*4,M⟩))/\V.drew ⟨d,t*9+7,M⟩=some (Z (some ⟨gi,oi,M⟩) f.aU bq)/\V.drew ⟨gf,top*4+1,M⟩=some ↑T/\V.drew ⟨gi,oi+T*4,M⟩=some ↑x.op/\V.drew ⟨gi,oi+T*4+1,M⟩=some ↑x.a/\V.drew ⟨gi,oi+T*4+2,M⟩=some ↑x.b/\V.drew ⟨gi,oi+T*4+3,M⟩=some ↑x.c:=⟨Au D y0,Au D P,Au D ae,Au D aa,Au D bV,Au D bY,Au D bZ,Au D ce⟩
   have HC:Ae (∀u,Ah V V u->u.cell? E=some (.pointer (some ⟨d,t*9,M⟩))/\u.cell? ⟨E,1,M⟩=some (.pointer (some ⟨gf,top*4,M⟩))/\u.cell? ⟨d,t*9+7,M⟩=some (Z (some ⟨gi,oi,M⟩) f.aU bq)/\u.cell? ⟨gf,top*4+1,M⟩=some ↑T/\u.cell? ⟨gi,oi+T*4,M⟩=some ↑x.op/\u.cell? ⟨gi,oi+T*4+1,M⟩=some ↑x.a/\u.cell? ⟨gi,oi+T*4+2,M⟩=some ↑x.b/\u.cell? ⟨gi,oi+T*4+3,M⟩=some ↑x.c):= λu D=>⟨Au D y0,Au D P,Au D ae,Au D aa,Au D bV,Au D bY,Au D bZ,Au D ce⟩
   have cI:=HC.o (V.alloc (Ak #[Ag Af 0,Ag Af 0,Ag Af 0,Ag Af 0] 25)).drew (Ar (Al _ _) lR (At _));have cJ:=HC.o (V.alloc (Ak #[x.op,x.a,x.b,x.c] 25)).drew (Ar (Al _ _) lR (At _));have HX:Ae (f.aU[T]?=some x/\s.at_=(T:Int)):=⟨hx,bQ⟩
   have dz:(T:Int)<(f.aU:Int):=oM;clear y0 P aa ae bV bY bZ ce aA aq hx bQ aM aO;go_region_held_law (λO=>O E=some (.pointer (some ⟨d,t*9,M⟩))/\O ⟨E,1,M⟩=some (.pointer (some ⟨gf,top*4,M⟩))/\O ⟨d,t*9+7,M⟩=some (Z (some ⟨gi,oi,M⟩) f.aU bq)/\O ⟨gf,top*4+1,M⟩=some ↑T/\O ⟨gi,oi+T*4,M⟩=some ↑x.op/\O ⟨gi,oi+T*4+1,M⟩=some ↑x.a/\O ⟨gi,oi+T*4+2,M⟩=some ↑x.b/\O ⟨gi,oi+T*4+3,M⟩=some ↑x.c) (first|exact KD|exact cI|exact cJ) (fail)
   have hZ:(w:Nat)<=V.heap.size:=E2.eX.size;have du:E<V.heap.size:=E2.fb.lt;have E3:Ae (EI w (V.alloc (Ak #[x.op,x.a,x.b,x.c] 25)).drew B m top v p 0 c n ⟨I,L,Z gf (top+1) c3⟩ C K F (Z d p.aB G) d t gf E/\Ay (V.alloc (Ak #[x.op,x.a,x.b,x.c] 25)).drew V #[x.op,x.a,x.b,x.c] 25):=⟨E2.av (Ar (Al _ _) lR (At _)),(Ay.new _ _ _).av (At _)⟩
   clear KD cI cJ HC D E2;(go_upto_region 4 with fail);generalize V.heap.size=N at E3 hZ du⊢;refine Av (λu=>Ae (EI w u B m top v p 0 c n ⟨I,L,Z gf (top+1) c3⟩ C K F (Z d p.aB G) d t gf E/\Ay u N #[x.op,x.a,x.b,x.c] 25)) E3 ?_
   rintro U3 E4;clear E3;have aW:AW p f x:=H.1.prog.ft Q.2.2.1 HX.1;have db:0<=x.op:=aW.1;have dG:x.op<=29:=aW.2.1;have bg:Ae (AW p f x):=aW;obtain⟨co,bu⟩:∃co,B4 x.op=co:=⟨_,rfl⟩;have dx:0<=co/\co<=8:=by rw[<-bu];exact N1 db dG
   obtain⟨dW,dX⟩:=dx;have aH:Ae (B4 x.op=co):=bu;clear aW bu;have m3:=E4.1.mb.at.2.2.2.1;have z3:=E4.1.mb.frozen 3;have E5:Ae (EI w (Aa U3 ⟨m,3,M⟩ (Ag Af (n+1))) B m top v p 0 c (n+1) ⟨I,L,Z gf (top+1) c3⟩ C K F (Z d p.aB G) d t gf E/\Ay (Aa U3 ⟨m,3,M⟩ (Ag Af (n+1))) N #[x.op,x.a,x.b,x.c] 25):=⟨E4.1.iL (E4.1.mb.jF _),E4.1.ft E4.2 hZ _ _⟩
   clear E4;(go_upto_region 5 with fail);refine Av (λu=>Ae (EI w u B m top v p 0 c (n+1) ⟨I,L,Z gf (top+1) c3⟩ C K F (Z d p.aB G) d t gf E/\Ay u N #[x.op,x.a,x.b,x.c] 25)) E5 ?_
   rintro U4 E6;clear E5 m3 z3;clear U3;obtain⟨A,ai⟩:=jW db;have aF:A<30:=oM;have m2:=E6.1.mb.at.2.2.1;have i0:=E6.2.cell 0;simp only[i5,f8]at i0;rw[ai]at i0;have rc:=E6.1.mb.row (A*4+1) _ (T4 A aF);rw[show B4 (A:Int)=co by rw[<-ai];exact aH,<-Nat.add_assoc]at rc;have D:=At U4;have dL:=Au D m2;have dO:U4.drew.frozen? ⟨m,2,M⟩=false:=E6.1.mb.frozen 2;have eu:(A:Int)<30:=oM;have dK:IntKind.i64.wrap (c+co)=c+co:=lr _ oM;have E7:Ae (EI w (Aa U4 ⟨m,2,M⟩ (Ag Af (c+co))).drew B m top v p 0 (c+co) (n+1) ⟨I,L,Z gf (top+1) c3⟩ C K F (Z d p.aB G) d t gf E/\Ay (Aa U4 ⟨m,2,M⟩ (Ag Af (c+co))).drew N #[x.op,x.a,x.b,x.c] 25):=⟨(E6.1.iL (E6.1.mb.jp _)).av (At _),(E6.1.ft E6.2 hZ _ _).av (At _)⟩
   have KD:U4.drew N=some ↑A/\U4.drew ⟨m,8+A*4+1,M⟩=some ↑co:=⟨Au D i0,Au D rc⟩
   have KV:(Aa U4 ⟨m,2,M⟩ (Ag Af (c+co))).drew.cell? N=some ↑A/\(Aa U4 ⟨m,2,M⟩ (Ag Af (c+co))).drew.cell? ⟨m,8+A*4+1,M⟩=some ↑co:=by have h1:=E7.2.cell 0;have h2:=E7.1.mb.row (A*4+1) _ (T4 A aF);simp only[i5,f8]at h1;rw[ai]at h1;rw[show B4 (A:Int)=co by rw[<-ai];exact aH,<-Nat.add_assoc]at h2;exact⟨h1,h2⟩
   have bi:Ae (x.op=(A:Int)):=ai;clear m2 i0 rc E6 D ai;(go_upto_region 5 with fail);refine wp_region_held_drew (S:= λO=>O N=some ↑A/\O ⟨m,8+A*4+1,M⟩=some ↑co) kR KD (λaK=> ?_)
   refine wpAnyH_take (i:=0) (v:= ?_) rfl kR kR kR (λ_ _ _ h=>h) (Or.inl ⟨by rfl,?_⟩) (by assumption) ?_;rotate_left
   . (intro w l;(try dsimp only at l);go_simp;(try with_reducible rfl))
   refine wpAnyH_take (i:=1) (v:= ?_) rfl kR kR kR (λ_ _ _ h=>h) (Or.inl ⟨by rfl,?_⟩) (by assumption) ?_;rotate_left
   . (intro w l;(try dsimp only at l);go_simp;(try with_reducible rfl))
   refine wpAnyH_take (i:=2) (v:= ?_) rfl kR kR kR (λ_ _ _ h=>h) (Or.inl ⟨by rfl,?_⟩) (by assumption) ?_;rotate_left
   . (intro w l;(try dsimp only at l);go_simp;(try with_reducible rfl))
   refine wpAnyH_take (i:=3) (v:= ?_) rfl kR kR kR (λ_ _ _ h=>h) (Or.inl ⟨by rfl,?_⟩) (by assumption) ?_;rotate_left
   . (intro w l;(try dsimp only at l);go_simp;(try with_reducible rfl))
   refine wpAnyH_take (i:=5) (v:= ?_) rfl kR kR kR (λ_ _ _ h=>h) (Or.inl ⟨by rfl,?_⟩) (by assumption) ?_;rotate_left
   . (intro w l;(try dsimp only at l);go_simp;(try with_reducible rfl))
   refine wpAnyH_take (i:=6) (v:= ?_) rfl kR kR kR (λ_ _ _ h=>h) (Or.inl ⟨by rfl,?_⟩) (by assumption) ?_;rotate_left
   . (intro w l;(try dsimp only at l);go_simp;(try with_reducible rfl))
   refine wpAnyH_take (i:=7) (v:= ?_) rfl kR kR kR (λ_ _ _ h=>h) (Or.inl ⟨by rfl,?_⟩) (by assumption) ?_;rotate_left
   . (intro w l;(try dsimp only at l);go_simp;(try with_reducible rfl))
   refine wpAnyH_take (i:=8) (v:= ?_) rfl kR kR kR (λ_ _ _ h=>h) (Or.inl ⟨by rfl,?_⟩) (by assumption) ?_;rotate_left
   . (intro w l;(try dsimp only at l);go_simp;(try with_reducible rfl))
   refine wpAnyH_take (i:=9) (v:= ?_) rfl kR kR kR (λ_ _ _ h=>h) (Or.inl ⟨by rfl,?_⟩) (by assumption) ?_;rotate_left
   . (intro w l;(try dsimp only at l);go_simp;(try with_reducible rfl))
   refine wpAnyH_take (i:=10) (v:= ?_) rfl kR kR kR (λ_ _ _ h=>h) (Or.inl ⟨by rfl,?_⟩) (by assumption) ?_;rotate_left
   . (intro w l;(try dsimp only at l);go_simp;(try with_reducible rfl))
   refine wpAnyH_take (i:=11) (v:= ?_) rfl kR kR kR (λ_ _ _ h=>h) (Or.inl ⟨by rfl,?_⟩) (by assumption) ?_;rotate_left
   . (intro w l;(try dsimp only at l);go_simp;(try with_reducible rfl))
   refine wpAnyH_take (i:=12) (v:= ?_) rfl kR kR kR (λ_ _ _ h=>h) (Or.inl ⟨by rfl,?_⟩) (by assumption) ?_;rotate_left
   . (intro w l;(try dsimp only at l);go_simp;(try with_reducible rfl))
   refine wpAnyH_take (i:=13) (v:= ?_) rfl kR kR kR (λ_ _ _ h=>h) (Or.inl ⟨by rfl,?_⟩) (by assumption) ?_;rotate_left
   . (intro w l;(try dsimp only at l);go_simp;(try with_reducible rfl))
   refine wpAnyH_ready (rs:=[4]) kR sP ?_;refine AllReadyH.cons rfl (λKC au=> ?_) AllReadyH.nil;go_simp;refine au.out _ _ KD (λaK=> ?_);clear au KC;refine wpAnyH_take (i:=14) (v:= ?_) rfl kR kR kR (λ_ _ _ h=>h) (Or.inl ⟨by rfl,?_⟩) (by assumption) ?_;rotate_left
   . (intro w l;(try dsimp only at l);go_simp;(try with_reducible rfl))
   refine wpAnyH_take (i:=15) (v:= ?_) rfl kR kR kR (λ_ _ _ h=>h) (Or.inl ⟨by rfl,?_⟩) (by assumption) ?_;rotate_left
   . (intro w l;(try dsimp only at l);go_simp;(try with_reducible rfl))
   refine wpAnyH_take (i:=16) (v:= ?_) rfl kR kR kR (λ_ _ _ h=>h) (Or.inl ⟨by rfl,?_⟩) (by assumption) ?_;rotate_left
   . (intro w l;(try dsimp only at l);go_simp;(try with_reducible rfl))
   refine wpAnyH_take (i:=17) (v:= ?_) rfl kR kR kR (λ_ _ _ h=>h) (Or.inl ⟨by rfl,?_⟩) (by assumption) ?_;rotate_left
   . (intro w l;(try dsimp only at l);go_simp;(try with_reducible rfl))
   refine wpAnyH_ready (rs:=[18]) kR sP ?_;refine AllReadyH.cons rfl (λKC au=> ?_) AllReadyH.nil;go_simp;refine au.out _ _ KV (λaK=> ?_);clear au KC;refine wpAnyH_done kR ?_ _;clear KD KV dL dO dK;(go_upto_region 6 with fail);refine Av (λu=>Ae (EI w u B m top v p 0 (c+co) (n+1) ⟨I,L,Z gf (top+1) c3⟩ C K F (Z d p.aB G) d t gf E/\Ay u N #[x.op,x.a,x.b,x.c] 25)) E7 ?_
   rintro U5 W;clear E7;obtain⟨tr,bT⟩:∃tr,Do p f s (A3 0 false (c+co) (n+1) C K F) x=tr:=⟨_,rfl⟩;have aI:Ae (Do p f s (A3 0 false c n C K F) x=tr):=bT;obtain⟨g2,eM,eJ,aq,bC,aT,bG,bH,bI,bJ,bP,ae,-,-⟩:=W.1.hd.gR Q.2.2.1;have cH:Ae (Ai Aq 49 #[.pointer m,An #[.pointer (some ⟨d,t*9,M⟩),.pointer (some ⟨gf,top*4,M⟩)],An #[x.op,x.a,x.b,x.c]] U5 λe O=>e=Am tr/\Ah U5 U5 O):=by have h5:=Ts B m top 0 false (c+co) (n+1) ⟨I,L,Z gf (top+1) c3⟩ C K F (Z d p.aB G) d (t*9) gf c3 b (s,vl) v p g2 f x U5 (jN hB W.1.eX.size) W.1.own W.1.mb Q.2.2.2.2.2.1 dm H.2.2.2.2.1 rfl H.2.2.2.2.2.1 bt hK H.2.2.2.2.2.2.2.1 H.2.2.1 H.2.2.2.2.2.2.2.2 Q.2.2.2.1 (HP.o U5 W.1.low) (aq U5 (jZ B U5)) bg H.1.prog bC aT bG bH bI bJ bP ae;rw[bT]at h5;exact h5
   clear aq bC aT bG bH bI bJ bP ae bT;have y0:=W.1.fb.cell 0;have P:=W.1.fb.cell 1;have i0:=W.2.cell 0;have i1:=W.2.cell 1;have i2:=W.2.cell 2;have i3:=W.2.cell 3;simp only[i5,f8,i6]at y0 P i0 i1 i2 i3;go_wp2_with fail;refine cH.mono ?_;rintro e u6 ⟨rfl,b6⟩;have E9:Ae (EI w (u6.setCell m tr) B m top v p tr (c+co) (n+1) ⟨I,L,Z gf (top+1) c3⟩ C K F (Z d p.aB G) d t gf E/\Ay (u6.setCell m tr) N #[x.op,x.a,x.b,x.c] 25):=⟨(W.1.av b6).iL ((W.1.av b6).mb.jm _),(W.1.av b6).ft (W.2.av b6) hZ _ _⟩
   have m0:=(W.1.av b6).mb.at.1;have z0:=(W.1.av b6).mb.frozen 0;clear y0 P i0 i1 i2 i3 W cH b6;(go_upto_region 7 with fail);refine Av (λu=>Ae (EI w u B m top v p tr (c+co) (n+1) ⟨I,L,Z gf (top+1) c3⟩ C K F (Z d p.aB G) d t gf E/\Ay u N #[x.op,x.a,x.b,x.c] 25)) E9 ?_
   rintro U7 EA;clear E9 m0 z0;clear u6;clear U5;have m0:=EA.1.mb.at.1;by_cases aY:tr=0
   . subst aY;obtain⟨aa,di⟩:=EA.1.fV rfl H.2.2.2.2.1;simp only[]at aa;have P:=EA.1.fb.cell 1;simp only[i5,f8,i6]at P;(have dQ:0<=s.at_:=by rw[HX.2];omega);(have dR:s.at_<(f.aU:Int):=by rw[HX.2];exact dz);have EB:Ae (OY w (Aa U7 ⟨gf,top*4+1,M⟩ (Ag Af (s.at_+1))) B m top v p (c+co) (n+1) ⟨I,L,Z gf (top+1) c3⟩ C K F (F.set top ({s with at_:=s.at_+1},vl)) (Z d p.aB G) d t gf E N x):=EA.1.jump EA.2 hZ rfl H.2.2.2.2.1 (s.at_+1);clear EA;(go_upto_region 9 with fail);refine Av (λu=>Ae (OY w u B m top v p (c+co) (n+1) ⟨I,L,Z gf (top+1) c3⟩ C K F (F.set top ({s with at_:=s.at_+1},vl)) (Z d p.aB G) d t gf E N x)) EB ?_;rintro R EC;clear EB P aa di m0;clear U7;have y0:=EC.fb.cell 0;have P:=EC.fb.cell 1;have i0:=EC.ib.cell 0;have i1:=EC.ib.cell 1;have i2:=EC.ib.cell 2;have i3:=EC.ib.cell 3;simp only[i5,f8,i6]at y0 P i0 i1 i2 i3;have aJ:=EC.mb.act x.op.toNat oM;have HU:Ae (B<= ↑R):=jN hB EC.eX.size
     clear aJ;have aJ:=EC.mb.act A aF;have ai:x.op=(A:Int):=bi.o;rw[ai]at i0;clear ai;have D:=At R;have KD:R.drew E=some (.pointer (some ⟨d,t*9,M⟩))/\R.drew ⟨E,1,M⟩=some (.pointer (some ⟨gf,top*4,M⟩))/\R.drew N=some ↑A/\R.drew ⟨N,1,M⟩=some ↑x.a/\R.drew ⟨N,2,M⟩=some ↑x.b/\R.drew ⟨N,3,M⟩=some ↑x.c/\R.drew ⟨m,128+A,M⟩=some (.func (.func (Kz A)) #[.pointer m] #[]):=⟨Au D y0,Au D P,Au D i0,Au D i1,Au D i2,Au D i3,Au D aJ⟩
     have ED:Ae (OY w R.drew B m top v p (c+co) (n+1) ⟨I,L,Z gf (top+1) c3⟩ C K F (F.set top ({s with at_:=s.at_+1},vl)) (Z d p.aB G) d t gf E N x):=EC.av D;clear y0 P i0 i1 i2 i3 aJ EC;have HC:Ae (Ai Aq (Kz A) #[.pointer m,An #[.pointer (some ⟨d,t*9,M⟩),.pointer (some ⟨gf,top*4,M⟩)],An #[A,x.a,x.b,x.c]] R.drew (Lo R.drew B m 0 (c+co) (n+1) (Z d p.aB G) ⟨I,L,Z gf (top+1) c3⟩ C (F.set top ({s with at_:=s.at_+1},vl)) (Eb p f s (A3 0 false (c+co) (n+1) C K F) x))):=by
      have ai:=bi.o;have hU:B<=R.drew.heap.size:=jN hB ED.eX.size;show Ai _ _ _ _ _;rw[<-ai];rcases(show x.op<28\/x.op=28\/x.op=29 from oM)with aG|aG|aG
      . obtain⟨K1,ar,ax,br,cU,cY⟩:=OJ oM H.2.2.2.2.2.1 bt aI;obtain⟨g3,eQ,eK,aq,bC,aT,bG,bH,bI,bJ,bP,ae,dZ,e9⟩:=ED.hd.gR Q.2.2.1;have own:=ED.own;rw[ax]at own;have aE:=hK;rw[ax,jI]at aE;have dy:FM p f s x C ar:=⟨H.1.prog,bg,by have:=H.1.three;simpa[A3]using this, λi r rt hr dI=>(H.1.cells i r.2 rt (by simp only[A3,jY,hr,lw]) dI).1,Q.2.2.2.2.1.1,(H.2.1.dk s (l9 (f:=Prod.fst) (hC H.2.2.2.2.1))).a7, λz hz=>H.2.1.stack z (by show z∈K;rw[ax];exact List.mem_append_right _ hz),br⟩;have h9:=YX v p f x B m top 0 (c+co) (n+1) ⟨I,L,Z gf (top+1) c3⟩ C K1 ar F (Z d p.aB G) d (t*9) gf c3 (s,vl) R.drew hU own ED.mb Q.2.2.2.2.2.1 oM H.2.2.2.2.1 rfl dy cU cY aE Q.2.2.2.2.2.2 (HP.o R.drew ED.low).b8 H.2.2.1.b8 aT A ai oM;rw[<-ax]at h9;exact h9
      . obtain⟨q,fq,hq,aR⟩:=bg.callee aG;have cX:=(f7.1 aR).1;obtain⟨g5,dN,dM,dt,-,-,-,-,dd,-,-,-,dJ,dH⟩:=ED.hd.gR aR;obtain⟨pp,pc,ep⟩:=(dt R.drew (jZ B R.drew)).1.aP;rw[ep]at dd;obtain⟨K1,ar,ax,br,cU,cY⟩:=OJ oM H.2.2.2.2.2.1 bt aI;have own:=ED.own;rw[ax]at own;have aE:=hK;rw[ax,jI]at aE;(have dF:(fq.aD++fq.a7).length<=1048576:=by have h4:Cj fq:=H.1.prog.parts.2.2.1.2.2.1 q cX fq aR;have:=h4.loc;rw[jI];omega);have h9:=oF p f fq x B m top (c+co) (n+1) ⟨I,L,Z gf (top+1) c3⟩ C K1 ar F (Z d p.aB G) d (t*9) gf c3 (s,vl) R.drew hU own ED.mb Q.2.2.2.2.2.1 oM H.2.2.2.2.1 rfl aG aE br q d p.aB G (fq.aD++fq.a7).length hq aR rfl cX d9 rfl pp dN pc dM dd dJ dH dF;rw[<-ax]at h9;have dA:A=28:=oM;subst dA;exact h9
      have h9:=oG p f x B m top (c+co) (n+1) ⟨I,L,Z gf (top+1) c3⟩ C K F (Z d p.aB G) d (t*9) gf c3 (s,vl) R.drew hU ED.own ED.mb Q.2.2.2.2.2.1 oM H.2.2.2.2.1 rfl aG;have dB:A=29:=oM;subst dB;exact h9
     refine wp_region_held_drew (S:= λO=>O E=some (.pointer (some ⟨d,t*9,M⟩))/\O ⟨E,1,M⟩=some (.pointer (some ⟨gf,top*4,M⟩))/\O N=some ↑A/\O ⟨N,1,M⟩=some ↑x.a/\O ⟨N,2,M⟩=some ↑x.b/\O ⟨N,3,M⟩=some ↑x.c/\O ⟨m,128+A,M⟩=some (.func (.func (Kz A)) #[.pointer m] #[])) kR KD (λaK=> ?_)
     refine wpAnyH_take (i:=0) (v:= ?_) rfl kR kR kR (λ_ _ _ h=>h) (Or.inl ⟨by rfl,?_⟩) (by assumption) ?_;rotate_left
     . (intro w l;(try dsimp only at l);go_simp;(try with_reducible rfl))
     refine wpAnyH_take (i:=1) (v:= ?_) rfl kR kR kR (λ_ _ _ h=>h) (Or.inl ⟨by rfl,?_⟩) (by assumption) ?_;rotate_left
     . (intro w l;(try dsimp only at l);go_simp;(try with_reducible rfl))
     refine wpAnyH_take (i:=2) (v:= ?_) rfl kR kR kR (λ_ _ _ h=>h) (Or.inl ⟨by rfl,?_⟩) (by assumption) ?_;rotate_left
     . (intro w l;(try dsimp only at l);go_simp;(try with_reducible rfl))
     refine wpAnyH_take (i:=3) (v:= ?_) rfl kR kR kR (λ_ _ _ h=>h) (Or.inl ⟨by rfl,?_⟩) (by assumption) ?_;rotate_left
     . (intro w l;(try dsimp only at l);go_simp;(try with_reducible rfl))
     refine wpAnyH_take (i:=4) (v:= ?_) rfl kR kR kR (λ_ _ _ h=>h) (Or.inl ⟨by rfl,?_⟩) (by assumption) ?_;rotate_left
     . (intro w l;(try dsimp only at l);go_simp;(try with_reducible rfl))
     refine wpAnyH_take (i:=5) (v:= ?_) rfl kR kR kR (λ_ _ _ h=>h) (Or.inl ⟨by rfl,?_⟩) (by assumption) ?_;rotate_left
     . (intro w l;(try dsimp only at l);go_simp;(try with_reducible rfl))
     refine wpAnyH_take (i:=6) (v:= ?_) rfl kR kR kR (λ_ _ _ h=>h) (Or.inl ⟨by rfl,?_⟩) (by assumption) ?_;rotate_left
     . (intro w l;(try dsimp only at l);go_simp;(try with_reducible rfl))
     refine wpAnyH_take (i:=7) (v:= ?_) rfl kR kR kR (λ_ _ _ h=>h) (Or.inl ⟨by rfl,?_⟩) (by assumption) ?_;rotate_left
     . (intro w l;(try dsimp only at l);go_simp;(try with_reducible rfl))
     refine wpAnyH_take (i:=8) (v:= ?_) rfl kR kR kR (λ_ _ _ h=>h) (Or.inl ⟨by rfl,?_⟩) (by assumption) ?_;rotate_left
     . (intro w l;(try dsimp only at l);go_simp;(try with_reducible rfl))
     refine wpAnyH_ready (rs:=[9]) kR sP ?_;refine AllReadyH.cons rfl (λKC au=> ?_) AllReadyH.nil;go_simp;rw[O4 A aF];refine HC.mono ?_;rintro e u9 ⟨d2,C2,K2,F2,⟨rfl,X2,cg,dg,bj⟩,cT⟩;have HJ:Ae (Bf p (A3 0 false c n C K F) (A3 0 d2 (c+co) (n+1) C2 K2 F2)):=YA Q.1 Q.2.1 HX.2 HX.1 aH aI cT;have KW:u9 E=some (.pointer (some ⟨d,t*9,M⟩))/\u9 ⟨E,1,M⟩=some (.pointer (some ⟨gf,top*4,M⟩))/\u9 N=some ↑A/\u9 ⟨N,1,M⟩=some ↑x.a/\u9 ⟨N,2,M⟩=some ↑x.b/\u9 ⟨N,3,M⟩=some ↑x.c/\u9 ⟨m,128+A,M⟩=some (.func (.func (Kz A)) #[.pointer m] #[]):=by obtain⟨h1,h2⟩:=ED.late bj;have h3:=h2.cell 0;simp only[i5,f8]at h3;rw[bi]at h3;exact⟨h1.cell 0,h1.cell 1,h3,h2.cell 1,h2.cell 2,h2.cell 3,cg.act A aF⟩
     have HZ:Ae (Ww w B m p (A3 0 false c n C K F) (Z d p.aB G) ⟨I,L,Z gf (top+1) c3⟩ C F (Am (Ap #[])) u9):=⟨rfl,0,d2,c+co,n+1,X2,C2,K2,F2,cg,dg,HJ,ED.eX.trans bj (λk hk e=>e.imp_right (λh=>h.at_ H.2.2.2.2.1))⟩;clear cT cg dg bj KD HC HJ;refine au.out _ _ KW (λaK=> ?_);clear au KC;refine wpAnyH_done kR ?_ _;go_wp2_with fail;exact lD (v:=Ap #[]) kR rfl HZ
   (have eF:(tr==0)=false:=by simpa using aY);have HJ:Ae (Bf p (A3 0 false c n C K F) (A3 tr false (c+co) (n+1) C K F)):=YC Q.1 Q.2.1 HX.2 HX.1 aH aI aY;clear aY;go_wp2_with fail;exact lD (v:=Ap #[]) kR rfl ⟨rfl,tr,false,c+co,n+1,_,C,K,F,EA.1.mb,EA.1.own,HJ,EA.1.eX⟩
 have aO:decide (0<=s.at_/\s.at_<(f.aU:Int))=false:=kj aM
 have HJ:Ae (Bf p (A3 0 false c n C K F) (A3 4 false c n C K F)):=.jump Q.1 Q.2.1 oM;have inst:=Ax.some U;have J0:= λn:Ax U=>Ax.cell y0 n
 have J1:= λn:Ax U=>Ax.cell P n
 have J2:= λn:Ax U=>Ax.cell aa n
 have J3:= λn:Ax U=>Ax.cell ae n
 go_wp2_with fail;refine AD kR kR ?_;repeat(go_big_quiet_step ((go_at_call 48;rename_i n';exact(A8 s.at_ (f.aU:Int) n'.u).mono λe cj h=>⟨by rw[h.1,aO],⟨n',h.2⟩⟩)))
 refine wpQuiet_nil ?_;rintro cj ⟨n',rfl⟩;have E2:Ae (EI w n'.u B m top v p 0 c n ⟨I,L,Z gf (top+1) c3⟩ C K F (Z d p.aB G) d t gf E):=E1.av n'.h;clear J0 J1 J2 J3 inst y0 P aa ae aA aq E1;have m0:=E2.mb.at.1;have z0:=E2.mb.frozen 0;go_wp2_with fail;exact kA (v:=Ap #[]) kR rfl ⟨rfl,4,false,c,n,_,C,K,F,E2.mb.jm 4,GY E2.own E2.mb,HJ,E2.eX.setCell (.inl (.inl rfl)) _⟩
end Go.Proofs.YtkgohaigebcgoaaGreatDoor
