import Derived.Test.YtkgohaigebcgoaaGreatDoorCh46
namespace Go.Proofs.YtkgohaigebcgoaaGreatDoor
open Go.ChangeShapes Go.WideShapes Go.ChangeAt Go.RowKit Go.Proofs.Tryz
set_option linter.unusedVariables false
open Go.Value renaming slice → Z,int → Ag,agg → An,tuple → Ap
open Option renaming some → K,none → M
open Go renaming Value → J,World → Y,Calls → Ai,TypeId → Aj
open Go.RowKit renaming Hid → Ae,Below → Ah
open Go.Obj renaming cells → Ak
open Go.Ending renaming returned → Am
open Go.Proofs.Tryz renaming prog → Aq
open Go.World renaming setCell → Aa,alloc → Ac,ownsRow → Ab
open List renaming flatMap → Ad
open Go.IntKind renaming i64 → Af
set_option maxHeartbeats 16000000
set_option maxRecDepth 100000
variable {b c f g cap:Nat}{t e:Aj}{s:J}{y:Int}
theorem pu{u:Y}{v:BN}{c:J}(H:Ay u b (Jj v c s) t):u b=K (Z v.r.a v.r.n v.r.c)/\u ⟨b,1,M⟩=K (Z v.k.a v.k.n v.k.c)/\u ⟨b,2,M⟩=K (Z v.f.a v.f.n v.f.c)/\u ⟨b,3,M⟩=K (Z v.t.a v.t.n v.t.c)/\u ⟨b,4,M⟩=K (Z v.p.a v.p.n v.p.c)/\u ⟨b,5,M⟩=K ↑v.rs/\u ⟨b,6,M⟩=K (Z v.l.a v.l.n v.l.c)/\u ⟨b,7,M⟩=K (Z v.c.a v.c.n v.c.c)/\u ⟨b,8,M⟩=K ↑v.nu/\u ⟨b,9,M⟩=K ↑v.co/\u ⟨b,10,M⟩=K ↑v.at_/\u ⟨b,11,M⟩=K (Z v.b.a v.b.n v.b.c)/\u ⟨b,12,M⟩=K (Z v.o.a v.o.n v.o.c)/\u ⟨b,13,M⟩=K (Z v.i.a v.i.n v.i.c)/\u ⟨b,14,M⟩=K (Z v.q.a v.q.n v.q.c):=by unfold Jj at H;exact⟨H.cell 0,H.cell 1,H.cell 2,H.cell 3,H.cell 4,H.cell 5,H.cell 6,H.cell 7,H.cell 8,H.cell 9,H.cell 10,H.cell 11,H.cell 12,H.cell 13,H.cell 14⟩
def Cg(gC gS k:Nat):Prop:=k=gC\/k=gS
section
variable {u:Y} {B CB:Nat} {v:BN} {n gC cC gS cS:Nat} {I:List Nat} {C:List Int}
theorem CG.kH(h:CG u B CB v n gC cC gS cS I C):CB≠gC/\CB≠gS:=by
 obtain⟨_,c1,b⟩:=AZ h.co;obtain⟨_,c2,c⟩:=AZ h.st;have a:=h.eI;unfold Ay at a;constructor
 . intro e;rw[<-e,a]at b;cases b
 intro e;rw[<-e,a]at c;cases c
theorem CG.lo(h:CG u B CB v n gC cC gS cS I C):B<=gC/\B<=gS:=⟨(AZ h.co).1,(AZ h.st).1⟩
theorem CG.jq(h:CG u B CB v n gC cC gS cS I C)(k:Nat)(c:Kh y):CG (Aa u ⟨gC,k,M⟩ y) B CB v n gC cC gS cS I (C.set k y):=by have b:=(pF h.co k y).1;rw[Pd]at b;exact{h with eI:=h.eI.other (a:=⟨gC,k,M⟩) h.kH.1 _,co:=b,st:=Ek h.st h.ne.symm,lc:=by rw[mF];exact h.lc,cc:=Q4 h.cc c}
theorem CG.jz(h:CG u B CB v n gC cC gS cS I C)(k:Nat){y:Nat}(c:y<n):CG (Aa u ⟨gS,k,M⟩ y) B CB v n gC cC gS cS (I.set k y) C:=by have b:=(pF h.st k y).1;rw[rD]at b;exact{h with eI:=h.eI.other (a:=⟨gS,k,M⟩) h.kH.2 _,st:=b,co:=Ek h.co h.ne,li:=by rw[mF];exact h.li,ii:= λz d=>(nw d).elim (h.ii z) (λe=>by rw[e];exact c)}
theorem CG.frz(h:CG u B CB v n gC cC gS cS I C)(c:Nat):u.frozen? ⟨gC,c,M⟩=false/\u.frozen? ⟨gS,c,M⟩=false:=by obtain⟨_,c1,a⟩:=AZ h.co;obtain⟨_,c2,b⟩:=AZ h.st;exact⟨frozen_of_row u gC c c1 _ a,frozen_of_row u gS c c2 _ b⟩
end
def Z4(E:Nat->List Nat)(n:Nat)(e:List MB)(l:ML)(I:List Nat)(C:List Int)(h:Nat)(f:Nat->Nat)(iv:Int)(b:Bool)(d:List Nat)(c:List Int):Prop:=∃(L:List Int) (small:Bool),qy E n (λb=>decide ((b:Int)∈l.a7)) I C h f L small/\(small=false->b=false)/\(small=true->∃ar a,ER (λb=>cf L (jf I b)) (λb=>(b:Int)∈l.back) ar/\ER (λb=>cf L (jf I b)) (λb=>(b:Int)∈l.a7/\R6 e l.a7 b) a/\(4294967295<iv*ar+a->b=false)/\(iv*ar+a<=4294967295->b=true/\c=C.set h (iv*ar+a)/\∀j,jf d j=if j∈l.a7.map Int.toNat then h else jf I j))
structure Ki(w0 w u:Y)(CB:Nat)(v:BN)(n gC cC gS cS h:Nat)(xa:Option Addr)(xc:Nat)(ka:Option Addr)(kc:Nat)(l:ML)(I:List Nat)(C:List Int):Prop where
 lb:Ay u w #[h,Z xa l.back xc,Z ka l.a7 kc] 65
 co:CG u w0 CB v n gC cC gS cS I C
 ch:DT (Cg gC gS) w u
 cq:Ah w0 w0 u
theorem Ki.av{e w u d:Y}{CB:Nat}{v:BN}{n gC cC gS cS h:Nat}{f:Option Addr}{b:Option Addr}{l:ML}{I:List Nat}{C:List Int}(H:Ki e w u CB v n gC cC gS cS h f g b c l I C)(a:Ah u u d):Ki e w d CB v n gC cC gS cS h f g b c l I C:=⟨H.lb.av a,H.co.av a,H.ch.on a,Ar H.cq lR a⟩
theorem Ki.kQ{g w u:Y}{CB:Nat}{v:BN}{n gC cC gS cS h:Nat}{j:Option Addr}{k:Nat}{d:Option Addr}{l:ML}{I:List Nat}{C:List Int}(H:Ki g w u CB v n gC cC gS cS h j k d f l I C): ↑w≠gC/\ ↑w≠gS:=by
 obtain⟨_,c1,b⟩:=AZ H.co.co;obtain⟨_,c2,c⟩:=AZ H.co.st;have a:=H.lb;unfold Ay at a;constructor
 . intro e;rw[<-e,a]at b;cases b
 intro e;rw[<-e,a]at c;cases c
theorem Ki.jq{d w u:Y}{CB:Nat}{v:BN}{n gC cC gS cS h:Nat}{e:Option Addr}{b:Option Addr}{l:ML}{I:List Nat}{C:List Int}(H:Ki d w u CB v n gC cC gS cS h e f b c l I C)(k:Nat)(g:Kh y):Ki d w (Aa u ⟨gC,k,M⟩ y) CB v n gC cC gS cS h e f b c l I (C.set k y):=⟨H.lb.other (a:=⟨gC,k,M⟩) H.kQ.1 _,H.co.jq k g,H.ch.setCell (.inl (.inl rfl)) _,H.cq.setCell H.co.lo.1 _⟩
theorem Ki.jz{d w u:Y}{CB:Nat}{v:BN}{n gC cC gS cS h:Nat}{e:Option Addr}{b:Option Addr}{l:ML}{I:List Nat}{C:List Int}(H:Ki d w u CB v n gC cC gS cS h e f b c l I C)(k:Nat){y:Nat}(g:y<n):Ki d w (Aa u ⟨gS,k,M⟩ y) CB v n gC cC gS cS h e f b c l (I.set k y) C:=⟨H.lb.other (a:=⟨gS,k,M⟩) H.kQ.2 _,H.co.jz k g,H.ch.setCell (.inl (.inr rfl)) _,H.cq.setCell H.co.lo.2 _⟩
theorem Ki.kh{d w u:Y}{CB:Nat}{v:BN}{n gC cC gS cS h:Nat}{q:Option Addr}{r:Nat}{m:Option Addr}{p:Nat}{l:ML}{I:List Nat}{C:List Int}(H:Ki d w u CB v n gC cC gS cS h q r m p l I C){s:Array J}{ty:Aj}(E: ↑w<g)(F:(d:Nat)<= ↑w)(t:Ay u g s ty)(i:Nat)(z:J)(k:ty≠2:=by decide)(y:ty≠256:=by decide):Ki d w (Aa u ⟨g,i,M⟩ z) CB v n gC cC gS cS h q r m p l I C:=by
 obtain⟨G,c1,f⟩:=AZ H.co.co;obtain⟨L,c2,j⟩:=AZ H.co.st;have c:=H.co.eI;have b:=t;unfold Ay at c b;have A:gC≠g:= λe=>by rw[e,b]at f;cases f;exact k rfl
 have B:gS≠g:= λe=>by rw[e,b]at j;cases j;exact k rfl
 have D:CB≠g:= λe=>by rw[e,b]at c;cases c;exact y rfl
 exact⟨H.lb.other (a:=⟨g,i,M⟩) oS _,{H.co with eI:=H.co.eI.other (a:=⟨g,i,M⟩) D _,co:=Ek H.co.co A,st:=Ek H.co.st B},H.ch.setCell (.inr oS) _,H.cq.setCell oS _⟩
theorem Zf{I:List Nat}{k y j:Nat}(a:k< ↑I):jf (I.set k y) j=if j=k then y else jf I j:=by
 unfold jf;rw[mI,mI,List.getElem?_set];by_cases e:j=k
 . subst e;simp[a]
 rw[lY (Ne.symm e),lY e]
theorem LY(A:Y)(CB:Nat)(v:BN)(gC cC gS cS:Nat)(I:List Nat)(C:List Int)(p:MP)(fi:Int)(F:List (MB×J))(xs:List MI)(r:DQ)(E:Nat->List Nat)(R:List Nat)(pl:Nat->Nat)(h:Nat)(m:MB)(t:MT)(D:Option Addr)(G:Nat)(N:Option Addr)(O:Nat)(l:ML)(w:Y)(aZ:Ah A A w)(hG:T8 A v p fi F xs r)(hS:CG w A CB v r.a7 gC cC gS cS I C)(hF:sg A v r.a7 E R pl)(hl:l∈r.cv)(cH:l.head=(h:Int))(bg:∀z∈l.back,∃b:Nat,z=(b:Int)/\b< ↑r.a7)(hr:M3 A (l,Z D l.back G,Z N l.a7 O))(hm:r.a7[h]?=K m)(ht:Cr p.bO fi m.cz=K t)(bZ:Kh t.init):
 Ai Aq 164 #[.pointer CB,An #[h,Z D l.back G,Z N l.a7 O]] w λe d=>∃(b:Bool) (I':List Nat) (C':List Int),e=Am b/\CG d A CB v r.a7 gC cC gS cS I' C'/\DT (Cg gC gS) w d/\Ah A A d/\Z4 E r.a7 r.a7 l I C h pl t.init b I' C':=by
 obtain⟨⟨h1,q1,hh⟩,bq,br,cK⟩:=hG.iy.loop l hl;have eh:h=h1:=oM;subst eh;have bu:r.a7.length<=1024:=hG.iy.nb;have H:=Aw (lN hG (lN hF (lN hr (lN bq (lN bg (lN hm ht))))));have aa:=Aw aZ;have HS:=Aw hS;obtain⟨ce,cj⟩:=bZ;clear hG hF hr bq bg hm ht aZ hl cH q1 hS;generalize hn:r.a7.length=n at HS hh bu⊢;have HN:=Aw hn;clear hn;have cM:(h:Int)<(n:Int):=oM;have E0:Ae (Ki A w (Ac w (Ak #[h,Z D l.back G,Z N l.a7 O] 65)) CB v n gC cC gS cS h D G N O l I C):=⟨Ay.new _ _ _,HS.av (Al _ _),DT.of (Al _ _),Ar aa lR (Al _ _)⟩;go_enter func164,ntmps164;go_upto_region 1 with fail
 refine Av (λu=>Ae (Ki A w u CB v n gC cC gS cS h D G N O l I C)) E0 ?_;rintro U X;clear E0;obtain⟨l0,l1,l2⟩:=CI X.lb;go_wp2_with fail;have aE:=Aw (H.2.1.av X.cq);rw[HN]at aE;refine(G7 A CB v n gC cC gS cS I C E R pl h ⟨D,l.back,G⟩ N O l.a7 U bu X.co aE hh br (Rd.av H.2.2.1.2 X.cq lR) (by rw[<-HN];exact H.2.2.2.1)).mono ?_;rintro e V ⟨gL,L,small,rfl,hL,aX,T⟩;have aH:=Aw aX;have E1:=Aw (X.av T);have HL:=Aw hL;clear hL aX T X l0 l1 l2 aE;cases small
 case false=>
  have ae:Ae (∃(b:Bool) (I':List Nat) (C':List Int),Ending.returned false=Am b/\CG V A CB v n gC cC gS cS I' C'/\DT (Cg gC gS) w V/\Ah A A V/\Z4 E n r.a7 l I C h pl t.init b I' C'):=⟨false,I,C,rfl,E1.co,E1.ch,E1.cq,L,false,aH, λ_=>rfl, λh=>(by cases h)⟩
  go_wp2_with fail;go_ret;exact ae
 have aW:Ae (∀u,Ah V V u->∀c,c<n->u ⟨gL,c,M⟩=K ↑(cf L c)):= λu hu c hc=>Az hu ((HL.o rfl).1 c hc)
 have aT:=Aw ((HL.o rfl).2);clear HL;go_upto_region 4 with fail
 go_cut [7] (λs wx=>∃KB:Nat,s=.pointer KB/\Ae (Ki A w wx CB v n gC cC gS cS h D G N O l I C/\Ay wx KB #[t.func,t.head,t.dT,Ag .u32 t.init] 37/\Ah V V wx))
 case first=>
  have y:Ae (Ki A w V.drew CB v n gC cC gS cS h D G N O l I C/\Ah V V V.drew):=⟨E1.av (As _),As _⟩
  have W:∀d,Ki A w d CB v n gC cC gS cS h D G N O l I C->d.cell? CB=K (Z v.r.a v.r.n v.r.c)/\d.cell? ⟨CB,1,M⟩=K (Z v.k.a v.k.n v.k.c)/\d.cell? ⟨CB,2,M⟩=K (Z v.f.a v.f.n v.f.c)/\d.cell? ⟨CB,3,M⟩=K (Z v.t.a v.t.n v.t.c)/\d.cell? ⟨CB,4,M⟩=K (Z v.p.a v.p.n v.p.c)/\d.cell? ⟨CB,5,M⟩=K ↑v.rs/\d.cell? ⟨CB,6,M⟩=K (Z v.l.a v.l.n v.l.c)/\d.cell? ⟨CB,7,M⟩=K (Z v.c.a v.c.n v.c.c)/\d.cell? ⟨CB,8,M⟩=K ↑v.nu/\d.cell? ⟨CB,9,M⟩=K ↑v.co/\d.cell? ⟨CB,10,M⟩=K ↑v.at_/\d.cell? ⟨CB,11,M⟩=K (Z v.b.a v.b.n v.b.c)/\d.cell? ⟨CB,12,M⟩=K (Z v.o.a v.o.n v.o.c)/\d.cell? ⟨CB,13,M⟩=K (Z v.i.a v.i.n v.i.c)/\d.cell? ⟨CB,14,M⟩=K (Z v.q.a v.q.n v.q.c)/\d.cell? w=K ↑h/\d.cell? ⟨w,1,M⟩=K (Z D l.back G)/\d.cell? ⟨w,2,M⟩=K (Z N l.a7 O):= λd E=>by obtain⟨p0,p1,p2,p3,p4,p5,p6,p7,p8,p9,aK,aM,aO,aQ,aR⟩:=pu E.co.eI;obtain⟨l0,l1,l2⟩:=CI E.lb;exact⟨p0,p1,p2,p3,p4,p5,p6,p7,p8,p9,aK,aM,aO,aQ,aR,l0,l1,l2⟩
  have aA:Ae (∀u,Ah A A u->Ai Aq 67 #[An v.cells,An #[h,Z D l.back G,Z N l.a7 O]] u λe d=>(∃b,e=Am (Ap #[An #[t.func,t.head,t.dT,Ag .u32 t.init],b]))/\Ah u u d):= λu hu=>by
   have hk:=H.1.av hu;refine(LE v ⟨D,l.back,G⟩ ⟨N,l.a7,O⟩ p.bO F h m u (mC hk.bs.len oM) hk.bs.rd (by rw[hk.eb];exact H.2.2.2.2.2.1) hk.tn hk.tr).mono ?_;rintro e d ⟨⟨t',b,rfl,q1,q2⟩,T⟩;rw[hk.nu,H.2.2.2.2.2.2]at q1 q2;cases b
   . cases q2 rfl
   (cases q1 rfl);exact⟨⟨true,rfl⟩,T⟩
  refine wp_region_held_drew (S:= λd=>d.cell? CB=K (Z v.r.a v.r.n v.r.c)/\d.cell? ⟨CB,1,M⟩=K (Z v.k.a v.k.n v.k.c)/\d.cell? ⟨CB,2,M⟩=K (Z v.f.a v.f.n v.f.c)/\d.cell? ⟨CB,3,M⟩=K (Z v.t.a v.t.n v.t.c)/\d.cell? ⟨CB,4,M⟩=K (Z v.p.a v.p.n v.p.c)/\d.cell? ⟨CB,5,M⟩=K ↑v.rs/\d.cell? ⟨CB,6,M⟩=K (Z v.l.a v.l.n v.l.c)/\d.cell? ⟨CB,7,M⟩=K (Z v.c.a v.c.n v.c.c)/\d.cell? ⟨CB,8,M⟩=K ↑v.nu/\d.cell? ⟨CB,9,M⟩=K ↑v.co/\d.cell? ⟨CB,10,M⟩=K ↑v.at_/\d.cell? ⟨CB,11,M⟩=K (Z v.b.a v.b.n v.b.c)/\d.cell? ⟨CB,12,M⟩=K (Z v.o.a v.o.n v.o.c)/\d.cell? ⟨CB,13,M⟩=K (Z v.i.a v.i.n v.i.c)/\d.cell? ⟨CB,14,M⟩=K (Z v.q.a v.q.n v.q.c)/\d.cell? w=K ↑h/\d.cell? ⟨w,1,M⟩=K (Z D l.back G)/\d.cell? ⟨w,2,M⟩=K (Z N l.a7 O)) kR (W _ y.1) (λQ=> ?_)
  clear E1;generalize V.drew=U2 at y Q⊢;unfold BN.cells at aA;refine AU 0 ?_ (hw:=kR);refine AU 1 ?_ (hw:=kR);refine AU 2 ?_ (hw:=kR);refine AU 3 ?_ (hw:=kR);refine AU 4 ?_ (hw:=kR);refine wpAnyH_ready (rs:=[5,9]) kR sP ?_;refine AllReadyH.cons rfl ?_ (AllReadyH.cons rfl ?_ AllReadyH.nil)
  . intro P B;rw[mE kR];go_simp;refine(aA.o U2 y.1.cq).mono ?_;rintro e u3 ⟨⟨b,rfl⟩,T⟩;have E3:=Aw (lN (y.1.av T) (Ar y.2 lR T));clear T;go_simp;refine B.o _ _ (W _ E3.1) (λQ=> ?_);clear B P;refine AU 6 ?_ (hw:=kR);refine AU 7 ?_ (hw:=kR);refine AU 8 ?_ (hw:=kR);refine DO 9 ?_;intro P B;rw[mE kR];go_simp;refine B.o _ _ (W _ (E3.1.av (Al _ _))) (λQ=> ?_);clear B P;refine DO 10 ?_;intro P B;rw[mE kR];go_simp;refine B.o _ _ (W _ (E3.1.av (Al _ _))) (λQ=> ?_);clear B P;refine AU 11 ?_ (hw:=kR);refine wpAnyH_done kR ?_ _;go_wp2_with fail;go_meet;exact⟨u3,rfl,E3.1.av (Al _ _),Ay.new _ _ _,Ar E3.2 lR (Al _ _)⟩
  intro P B;rw[mE kR];go_simp;refine B.o _ _ (W _ (y.1.av (Al _ _))) (λQ=> ?_);clear B P;refine DO 5 ?_;intro P B;rw[mE kR];go_simp;refine(aA.o _ (y.1.av (Al _ _)).cq).mono ?_;rintro e u3 ⟨⟨b,rfl⟩,T⟩;have E3:Ae (Ki A w u3 CB v n gC cC gS cS h D G N O l I C/\Ah V V u3):=⟨(y.1.av (Al _ _)).av T,Ar y.2 lR (Ar (Al _ _) lR T)⟩
  have BZ:Ae (Ay u3 U2 #[iZ 0,iZ 0,iZ 0,Ag .u32 0] 37):=(Ay.new _ _ _).av T;have aq:=Aw y.2.size;have aj:=Aw y.1.lb.lt;clear T;go_simp;refine B.o _ _ (W _ E3.1) (λQ=> ?_);clear B P;refine AU 6 ?_ (hw:=kR);refine AU 7 ?_ (hw:=kR);refine AU 8 ?_ (hw:=kR);refine DO 10 ?_;intro P B;rw[mE kR];have bH:=BZ.cell 0;have bI:=BZ.cell 1;have bJ:=BZ.cell 2;have bP:=BZ.cell 3;have bS:=BZ.frozen 0;have bT:=BZ.frozen 1;have bV:=BZ.frozen 2;have bY:=BZ.frozen 3;generalize cI:U2.heap.size=KB at BZ bH bI bJ bP bS bT bV bY aq aj⊢;have E5:Ae (Ki A w (Aa (Aa (Aa (u3.setCell KB t.func) ⟨KB,1,M⟩ t.head) ⟨KB,2,M⟩ t.dT) ⟨KB,3,M⟩ (Ag .u32 t.init)) CB v n gC cC gS cS h D G N O l I C/\Ah V V (Aa (Aa (Aa (u3.setCell KB t.func) ⟨KB,1,M⟩ t.head) ⟨KB,2,M⟩ t.dT) ⟨KB,3,M⟩ (Ag .u32 t.init))):=⟨(((E3.1.kh aj.o aa.size BZ.o 0 _).kh aj.o aa.size (BZ.set 0 _) 1 _).kh aj.o aa.size ((BZ.set 0 _).set 1 _) 2 _).kh aj.o aa.size (((BZ.set 0 _).set 1 _).set 2 _) 3 _,(((E3.2.setCell aq.o _).setCell aq.o _).setCell aq.o _).setCell aq.o _⟩
  have B5:=Aw ((((BZ.set 0 t.func).set 1 t.head).set 2 t.dT).set 3 (Ag .u32 t.init));simp only[mO,mi,mh]at B5;go_simp;refine B.o _ _ (W _ E5.1) (λQ=> ?_);clear B P;refine AU 11 ?_ (hw:=kR);refine wpAnyH_done kR ?_ _;go_wp2_with fail;go_meet;exact⟨KB,rfl,E5.1,B5,E5.2⟩
 case rest=>
 obtain⟨KB,rfl,E4⟩:=hcut;clear E1;go_upto_region 5 with fail
 have y:=Aw (lN (E4.1.av (As _)) (lN (E4.2.1.av (As _)) (Ar E4.2.2 lR (As _))));clear E4;have W:∀d,Ki A w d CB v n gC cC gS cS h D G N O l I C->d.cell? CB=K (Z v.r.a v.r.n v.r.c)/\d.cell? ⟨CB,1,M⟩=K (Z v.k.a v.k.n v.k.c)/\d.cell? ⟨CB,2,M⟩=K (Z v.f.a v.f.n v.f.c)/\d.cell? ⟨CB,3,M⟩=K (Z v.t.a v.t.n v.t.c)/\d.cell? ⟨CB,4,M⟩=K (Z v.p.a v.p.n v.p.c)/\d.cell? ⟨CB,5,M⟩=K ↑v.rs/\d.cell? ⟨CB,6,M⟩=K (Z v.l.a v.l.n v.l.c)/\d.cell? ⟨CB,7,M⟩=K (Z v.c.a v.c.n v.c.c)/\d.cell? ⟨CB,8,M⟩=K ↑v.nu/\d.cell? ⟨CB,9,M⟩=K ↑v.co/\d.cell? ⟨CB,10,M⟩=K ↑v.at_/\d.cell? ⟨CB,11,M⟩=K (Z v.b.a v.b.n v.b.c)/\d.cell? ⟨CB,12,M⟩=K (Z v.o.a v.o.n v.o.c)/\d.cell? ⟨CB,13,M⟩=K (Z v.i.a v.i.n v.i.c)/\d.cell? ⟨CB,14,M⟩=K (Z v.q.a v.q.n v.q.c)/\d.cell? w=K ↑h/\d.cell? ⟨w,1,M⟩=K (Z D l.back G)/\d.cell? ⟨w,2,M⟩=K (Z N l.a7 O):= λd E=>by obtain⟨p0,p1,p2,p3,p4,p5,p6,p7,p8,p9,aK,aM,aO,aQ,aR⟩:=pu E.co.eI;obtain⟨l0,l1,l2⟩:=CI E.lb;exact⟨p0,p1,p2,p3,p4,p5,p6,p7,p8,p9,aK,aM,aO,aQ,aR,l0,l1,l2⟩
 have ai:Ae (∀u,Ki A w u CB v n gC cC gS cS h D G N O l I C->Ah V V u->RwS u n gS gL I L/\u ⟨CB,16,M⟩=K (sG gS n cS)):= λu E hb=>⟨⟨λb hb=>E.co.k6 hb, λc hc=>aW.o u hb c hc⟩,E.co.cells.2.2.2⟩
 have aG:Ae (∀u,Ah A A u->Ai Aq 195 #[An v.cells,An #[h,Z D l.back G,Z N l.a7 O]] u λe d=>∃(a:Option Addr) (c:Nat) (ps:List Int),e=Am (Z a ps c)/\Rd d 1 (Z a ps c) ps (Ad At ps)/\(∀z,z∈ps↔z∈l.a7/\R6 r.a7 l.a7 z.toNat)/\ps.length<=1024/\Ah u u d):= λu hu=>by have hk:=H.1.av hu;have:=QY v F xs h ⟨D,l.back,G⟩ N O l.a7 u hk.bs hk.nx br (Rd.av H.2.2.1.2 hu lR) (by rw[hk.fl];exact H.2.2.2.1);rw[hk.eb]at this;exact this
 refine wp_region_held_drew (S:= λd=>d.cell? CB=K (Z v.r.a v.r.n v.r.c)/\d.cell? ⟨CB,1,M⟩=K (Z v.k.a v.k.n v.k.c)/\d.cell? ⟨CB,2,M⟩=K (Z v.f.a v.f.n v.f.c)/\d.cell? ⟨CB,3,M⟩=K (Z v.t.a v.t.n v.t.c)/\d.cell? ⟨CB,4,M⟩=K (Z v.p.a v.p.n v.p.c)/\d.cell? ⟨CB,5,M⟩=K ↑v.rs/\d.cell? ⟨CB,6,M⟩=K (Z v.l.a v.l.n v.l.c)/\d.cell? ⟨CB,7,M⟩=K (Z v.c.a v.c.n v.c.c)/\d.cell? ⟨CB,8,M⟩=K ↑v.nu/\d.cell? ⟨CB,9,M⟩=K ↑v.co/\d.cell? ⟨CB,10,M⟩=K ↑v.at_/\d.cell? ⟨CB,11,M⟩=K (Z v.b.a v.b.n v.b.c)/\d.cell? ⟨CB,12,M⟩=K (Z v.o.a v.o.n v.o.c)/\d.cell? ⟨CB,13,M⟩=K (Z v.i.a v.i.n v.i.c)/\d.cell? ⟨CB,14,M⟩=K (Z v.q.a v.q.n v.q.c)/\d.cell? w=K ↑h/\d.cell? ⟨w,1,M⟩=K (Z D l.back G)/\d.cell? ⟨w,2,M⟩=K (Z N l.a7 O)) kR (W _ y.1) (λQ=> ?_)
 generalize wc.drew=U2 at y Q⊢;unfold BN.cells at aG;refine AU 0 ?_ (hw:=kR);refine AU 1 ?_ (hw:=kR);refine AU 2 ?_ (hw:=kR);refine AU 3 ?_ (hw:=kR);refine AU 5 ?_ (hw:=kR);refine AU 6 ?_ (hw:=kR);refine AU 7 ?_ (hw:=kR);refine AU 8 ?_ (hw:=kR);refine AU 9 ?_ (hw:=kR);refine AU 10 ?_ (hw:=kR);refine AU 11 ?_ (hw:=kR);refine DO 4 ?_;intro P B;rw[mE kR];go_simp;refine(Hj CB n gS cS gL n I L D G l.back U2 oM (ai.o U2 y.1 y.2.2).2 (ai.o U2 y.1 y.2.2).1 oM (Rd.av H.2.2.1.1 y.1.cq lR) (by rw[<-HN];exact H.2.2.2.2.1)).mono ?_;rintro e u3 ⟨ar,rfl,rfl,aY⟩;have au:=Aw aY;clear aY;go_simp;refine B.o _ _ (W _ y.1) (λQ=> ?_);clear B P;refine DO 12 ?_;intro P B;rw[mE kR];go_simp;refine(aG.o u3 y.1.cq).mono ?_;rintro e u4 ⟨pa,pc,ps,rfl,bC,bB,cR,T⟩;have HP:=Aw (lN bC bB);have E5:=Aw (lN (y.1.av T) (lN (y.2.1.av T) (Ar y.2.2 lR T)));clear bC bB T;go_simp;refine B.o _ _ (W _ E5.1) (λQ=> ?_);clear B P y;refine DO 13 ?_;intro P B;rw[mE kR];go_simp;refine(Hj CB n gS cS gL n I L pa pc ps u4 oM (ai.o u4 E5.1 E5.2.2).2 (ai.o u4 E5.1 E5.2.2).1 oM HP.1 (λz hz=>by rw[<-HN];exact H.2.2.2.1 z ((HP.2 z).1 hz).1)).mono ?_;rintro e u5 ⟨ou,rfl,rfl,bx⟩;have ax:=Aw (bx.iff λb=>by rw[HP.2,lV]);clear bx;go_simp;refine B.o _ _ (W _ E5.1) (λQ=> ?_);clear B P;refine AU 14 ?_ (hw:=kR);refine AU 15 ?_ (hw:=kR);refine wpAnyH_done kR ?_ _;clear Q W ai aG aW HP;have a1:=au.nn;have a2:ar<=4294967295:=au.le oM λb _=>(GG aT _).2
 have o1:=ax.nn;have o2:ou<=4294967295:=ax.le oM λb _=>(GG aT _).2
 have m1:0<=t.init*ar:=Int.mul_nonneg ce a1;have m2:t.init*ar<=4294967295*4294967295:=Int.mul_le_mul cj a2 a1 oM;have w1:IntKind.u64.wrap t.init=t.init:=by simp[IntKind.wrap,IntKind.bits,IntKind.signed];omega
 have w2:IntKind.u64.wrap ar=ar:=by simp[IntKind.wrap,IntKind.bits,IntKind.signed];omega
 have w3:IntKind.u64.wrap ou=ou:=by simp[IntKind.wrap,IntKind.bits,IntKind.signed];omega
 have w4:IntKind.u64.wrap (t.init*ar)=t.init*ar:=by generalize t.init*ar=q at m1 m2⊢;simp[IntKind.wrap,IntKind.bits,IntKind.signed];omega
 have w5:IntKind.u64.wrap (t.init*ar+ou)=t.init*ar+ou:=by generalize t.init*ar=q at m1 m2⊢;simp[IntKind.wrap,IntKind.bits,IntKind.signed];omega
 obtain⟨k0,k1,k2,k3⟩:=Cv E5.2.1;by_cases bf:t.init*ar+ou>4294967295;case pos=>
  have ae:Ae (∃(b:Bool) (I':List Nat) (C':List Int),Ending.returned false=Am b/\CG u5 A CB v n gC cC gS cS I' C'/\DT (Cg gC gS) w u5/\Ah A A u5/\Z4 E n r.a7 l I C h pl t.init b I' C'):=⟨false,I,C,rfl,E5.1.co,E5.1.ch,E5.1.cq,L,true,aH, λ_=>rfl, λ_=>⟨ar,ou,au,ax, λ_=>rfl, λh=>absurd bf oM⟩⟩
  go_wp2_with fail;go_ret;exact ae
 go_upto_region 9 with fail
 have bi:Kh (t.init*ar+ou):=⟨oM,oM⟩;have w6:IntKind.i64.wrap (t.init*ar+ou)=t.init*ar+ou:=pZ _ ⟨oM,oM⟩;have y:=Aw (E5.1.av (As _));clear k0 k1 k2 k3 w1 w2 w3 w4 w5 E5;have W:∀I' C' d,Ki A w d CB v n gC cC gS cS h D G N O l I' C'->d.cell? w=K ↑h/\d.cell? ⟨CB,15,M⟩=K (sG gC n cC)/\d.cell? ⟨CB,16,M⟩=K (sG gS n cS):= λI' C' d E=>⟨(CI E.lb).1,E.co.cells.2.2.1,E.co.cells.2.2.2⟩
 have aF:=Aw W;refine wp_region_held_drew (S:= λd=>d.cell? w=K ↑h/\d.cell? ⟨CB,15,M⟩=K (sG gC n cC)/\d.cell? ⟨CB,16,M⟩=K (sG gS n cS)) kR (W _ _ _ y) (λQ=> ?_)
 clear W;generalize u5.drew=U6 at y Q⊢;generalize bj:t.init*ar+ou=co at bf bi w6⊢;have aS:=Aw bj;clear bj m1 m2;refine AU 0 ?_ (hw:=kR);refine AU 1 ?_ (hw:=kR);refine AU 2 ?_ (hw:=kR);refine AU 3 ?_ (hw:=kR);refine AU 4 ?_ (hw:=kR);refine AU 5 ?_ (hw:=kR);refine AU 6 ?_ (hw:=kR);refine AU 7 ?_ (hw:=kR);refine AU 8 ?_ (hw:=kR);go_simp;refine DO 9 ?_;intro P B;rw[mE kR];have c0:=y.co.lF hh;have z0:=(y.co.frz h).1;have E6:=Aw (y.jq h bi);go_simp;refine B.o _ _ (aF.o _ _ _ E6) (λQ=> ?_);clear B P;refine wpAnyH_done kR ?_ _;clear Q c0 z0 y;generalize Aa U6 ⟨gC,h,M⟩ co=U7 at E6⊢;obtain⟨l0,l1,l2⟩:=CI E6.lb;go_wp2_with fail;clear l0 l1 l2;go_loopw [68] (λi wr=>∃(k:Nat) (I2:List Nat),k<= ↑l.a7/\i=iZ k/\Ae (Ki A w wr CB v n gC cC gS cS h D G N O l I2 (C.set h co)/\∀j,jf I2 j=if j∈(l.a7.take k).map Int.toNat then h else jf I j)) (λi _=> ↑l.a7-(intOf i).toNat)
 case atStart=>exact⟨0,I,oM,rfl,E6, λj=>sP⟩
 case round=>
 clear E6;obtain⟨k,I2,hk,rfl,X⟩:=hrel;by_cases bt:k< ↑l.a7
 case neg=>
  have ae:Ae (∃(b:Bool) (I':List Nat) (C':List Int),Ending.returned true=Am b/\CG wr A CB v n gC cC gS cS I' C'/\DT (Cg gC gS) w wr/\Ah A A wr/\Z4 E n r.a7 l I C h pl t.init b I' C'):=⟨true,I2,C.set h co,rfl,X.1.co,X.1.ch,X.1.cq,L,true,aH,(λh=>by cases h), λ_=>⟨ar,ou,au,ax,(λh=>by rw[aS]at h;exact absurd h oM), λ_=>⟨rfl,by rw[aS], λj=>by rw[X.2 j,mm (show ↑l.a7<=k from oM)]⟩⟩⟩
  go_wp2_with fail;go_ret;exact ae
 have cQ:(k:Int)<(l.a7:Int):=oM;obtain⟨b,ez,hb⟩:=H.2.2.2.1 l.a7[k] (pS bt);rw[HN]at hb;have aJ:l.a7[k]?=K (b:Int):=by rw[an bt,ez]
 obtain⟨kg,ko,bQ,e0⟩:∃g o,N=K ⟨g,o,M⟩/\wr ⟨g,o+k,M⟩=K ↑b:=by
  rcases(Rd.av H.2.2.1.2 X.1.cq lR).2 with⟨q,_⟩|⟨g,o,c',e1,hc⟩
  . simp only[]at q;omega
  simp only[lU,mj]at e1;exact⟨g,o,e1.1,hc k _ (EW aJ)⟩
 subst bQ;have bG:=Aw aJ;have cJ:(b:Int)<(n:Int):=oM;clear ez aJ;go_upto_region 13 with fail
 have y:=Aw (X.1.av (As _));refine wp_region_held_drew (S:= λd=>d.cell? w=K ↑h/\d.cell? ⟨CB,15,M⟩=K (sG gC n cC)/\d.cell? ⟨CB,16,M⟩=K (sG gS n cS)) kR (aF.o _ _ _ y) (λQ=> ?_)
 clear e0;generalize wr.drew=U8 at y Q⊢;refine AU 0 ?_ (hw:=kR);refine AU 1 ?_ (hw:=kR);refine AU 2 ?_ (hw:=kR);refine AU 3 ?_ (hw:=kR);refine AU 4 ?_ (hw:=kR);refine AU 5 ?_ (hw:=kR);refine AU 6 ?_ (hw:=kR);refine AU 7 ?_ (hw:=kR);go_simp;refine DO 8 ?_;intro P B;rw[mE kR];have c0:=(y.co.k6 hb).1;have z0:=(y.co.frz b).2;have E8:Ae (Ki A w (Aa U8 ⟨gS,b,M⟩ h) CB v n gC cC gS cS h D G (K ⟨kg,ko,M⟩) O l (I2.set b h) (C.set h co)/\∀j,jf (I2.set b h) j=if j∈(l.a7.take (k+1)).map Int.toNat then h else jf I j):=⟨y.jz b hh, λj=>by
  have aI:j∈(l.a7.take (k+1)).map Int.toNat↔j∈(l.a7.take k).map Int.toNat\/j=b:=by rw[List.take_add_one,bG.o,nS,mA];simp
  rw[Zf (by rw[y.co.li];exact hb),X.2 j];by_cases e:j=b
  . rw[mE e,mE (aI.2 (.inr e))]
  rw[lY e];by_cases e2:j∈(l.a7.take k).map Int.toNat
  . rw[mE e2,mE (aI.2 (.inl e2))]
  rw[lY e2,lY (λq=>(aI.1 q).elim e2 e)]⟩
 go_simp;refine B.o _ _ (aF.o _ _ _ E8.1) (λQ=> ?_);clear B P;refine wpAnyH_done kR ?_ _;clear Q c0 z0 y X;generalize Aa U8 ⟨gS,b,M⟩ h=U9 at E8⊢;go_wp2_with fail;go_roundw;case rel=>exact⟨k+1,_,oM,by go_num,E8⟩
 exact oI
def tL(r:DQ)(j:Nat)(z:Int):Prop:=∃l∈r.cv.take j,∃m,r.a7[l.head.toNat]?=K m/\m.cz=z
structure Uc(w u:Y)(v:BN)(SB:Nat)(r:DQ)(j:Nat):Prop where
 body:Ay u w v.cells 111
 set:∃D,AQ u SB j D/\∀z:Int,Go.Maps.has D (.int Af z)=true↔tL r j z
 lt: ↑w<SB
 cq:Ah w w u
theorem Uc.av{w u c:Y}{v:BN}{b j:Nat}{r:DQ}(h:Uc w u v b r j)(a:Ah u.heap.size u c):Uc w c v b r j:=by obtain⟨D,d,e⟩:=h.set;exact⟨h.body.av a,⟨D,d.av a,e⟩,h.lt,Ar h.cq lR a⟩
theorem NH(v:BN)(p:MP)(q:Nat)(F:List (MB×J))(xs:List MI)(r:DQ)(w:Y)(g:T8 w v p (q:Int) F xs r)(hw:∀t∈p.bO,Fa t.head):
 Ai Aq 128 #[.agg v.cells] w λe w'=>(∃(h:Int) (b:Bool),e=Am (.tuple #[h,b])/\(b=true->∃t,He (Ud q r) p.bO t/\h=t.head)/\(b=false->∀t∈p.bO,¬Ud q r t))/\Ah w w w':=by
 have bu:= @run_makeMap Aq;have H:=Aw g;have HW:=Aw hw;have bx:r.cv.length<=1024:=g.iy.nl;have bB:=g.tn;have HN:=Aw g.ln;obtain⟨qa,aO⟩:∃qa,v.q.a=qa:=⟨_,rfl⟩;have aI:=Aw aO;obtain⟨ta,tc,et⟩:=g.tr.aD;simp only[lU]at et;have aT:=Aw et.2.1;clear et ta tc;obtain⟨ta,aQ⟩:∃ta,v.t.a=ta:=⟨_,rfl⟩;have aK:=Aw aQ;clear aO aQ g hw;have E0:Ae (Ay (Ac w (Ak v.cells 111)) w v.cells 111/\Ah w w (Ac w (Ak v.cells 111))):=⟨Ay.new _ _ _,Al _ _⟩
 go_enter func128,ntmps128;go_upto_region 1 with fail
 refine Av (λu=>Ae (Ay u w v.cells 111/\Ah w w u)) E0 ?_
 rintro U d;clear E0;have bM:=Al U (.map #[] 0);have aJ:Ae (Uc w (Ac U (.map #[] 0)) v U r 0):=⟨d.1.av bM,⟨.map [],World.ownsMap_made _ _ _ _, λz=>⟨(λh=>by cases h), λ⟨l,h,_⟩=>by simp at h⟩⟩,d.1.lt,Ar d.2 lR bM⟩;clear bM d;go_upto_region 2 with fail
 refine Av (λu=>Ae (Uc w u v U r 0)) aJ ?_;clear aJ;rintro U1 HS;generalize U.heap.size=s at HS⊢;have aq:=HS.body.cell 14;simp only[BN.cells]at aq;simp only[HN.o,aI.o]at aq;go_wp2_with fail;clear aq;go_loopw [14] (λi wr=>∃k:Nat,k<= ↑r.cv/\i=iZ k/\Ae (Uc w wr v s r k)) (λi _=> ↑r.cv-(intOf i).toNat)
 case atStart=>exact⟨0,oM,rfl,HS⟩
 case round=>
 clear HS;obtain⟨k,hk,rfl,d⟩:=hrel;by_cases ae:k< ↑r.cv
 case pos=>
  have bf:(k:Int)<(r.cv:Int):=oM;obtain⟨l,hl⟩:∃l,r.cv[k]?=K l:=⟨_,an ae⟩;have g:=H.av d.cq;obtain⟨gl,ol,W,x1,a2,x2,ev,i0,i1,i2,bg⟩:=Jv g.ls hl;rw[aI]at ev;subst ev;obtain⟨⟨h,eh,hh⟩,_⟩:=H.iy.loop l (lP hl);obtain⟨m,hm⟩:∃m,r.a7[h]?=K m:=⟨_,an hh⟩;obtain⟨V,me,aM,aX,aY,aZ⟩:=H.iy.eI h m hm;have bt:V<1024:=by have:=H.iy.len;omega
  have Q:=Aw (lN hl (lN ((by rw[eh,lV];exact hm):r.a7[l.head.toNat]?=K m) aM));have HM:=Aw hm;rw[eh]at i0;clear hl bg g eh hm aM aX aY aZ;generalize l.back.length=n1 at i1;generalize l.a7.length=n2 at i2;go_upto_region 5 with fail
  have E4:Ae (Uc w (Ac wr (Ak #[h,Z W n1 x1,Z a2 n2 x2] 65)) v s r k/\Ay (Ac wr (Ak #[h,Z W n1 x1,Z a2 n2 x2] 65)) wr #[h,Z W n1 x1,Z a2 n2 x2] 65):=⟨d.av (Al _ _),Ay.new _ _ _⟩
  refine Av (λu=>Ae (Uc w u v s r k/\Ay u wr #[h,Z W n1 x1,Z a2 n2 x2] 65)) E4 ?_
  rintro U4 E5;clear E4 i0 i1 i2 d;generalize wr.heap.size=X at E5⊢;obtain⟨p0,p1,p2,p3,p4,p5,p6,p7,p8,p9,bi,bj,bq,br,aq⟩:=CW E5.1.body;obtain⟨l0,l1,l2⟩:=CI E5.2;go_wp2_with fail;clear p0 p1 p2 p3 p4 p5 p6 p7 p8 p9 bi bj bq br aq l0 l1 l2;have g:=H.av E5.1.cq;have aE:=Ex (Z v.r.a v.r.n v.r.c) (Z v.k.a v.k.n v.k.c) (Z v.f.a v.f.n v.f.c) (Z v.t.a v.t.n v.t.c) (Z v.p.a v.p.n v.p.c) v.rs (Z v.l.a v.l.n v.l.c) (Z v.c.a v.c.n v.c.c) v.nu v.co v.at_ (Z v.b.a v.b.n v.b.c) (Z v.o.a v.o.n v.o.c) (Z v.i.a v.i.n v.i.c) (Z v.q.a v.q.n v.q.c) (Z W n1 x1) (Z a2 n2 x2) F h m U4 (by have:=g.bs.len;omega) g.bs.rd (by rw[g.eb];exact HM);rw[Q.2.2]at aE;refine aE.mono ?_;clear aE g;rintro e L ⟨rfl,N⟩;have y:Ae (Uc w (Ac L (Ak #[V] 2)) v s r k/\(Ac L (Ak #[V] 2)) L=K ↑V):=⟨(E5.1.av N).av (Al _ _),(Ay.new L #[V] 2).cell 0⟩
  have aH:Ae (¬ ↑L=s):=by
   obtain⟨_,h5,_⟩:=(E5.1.av N).set;have:=oL h5;show¬ ↑L=s
   omega
  clear N E5;obtain⟨D,ai,aa⟩:=y.1.set;have E:=Aw (lN ai aa);clear ai aa;go_wp2_with fail;refine(Da s k L 1 D (V:Int) _ (Dh oM) oM y.2 aH E.1).mono ?_;rintro e u6 ⟨rfl,s6,g6⟩;have aR:Ae (Uc w u6 v s r (k+1)):=by
   have ae:=y.1.lt;refine⟨y.1.body.apart g6 oM,⟨_,s6, λz=> ?_⟩,ae,y.1.cq.grown g6 y.1.cq.size (λj hj=>by cases hj;omega)⟩;rw[Ep D (oD E.1),Bool.or_eq_true,mo,E.2 z];unfold tL;rw[List.take_add_one,Q.1];constructor
   . rintro(⟨l',O,C⟩|rfl)
     . exact⟨l',mA.2 (.inl O),C⟩
     exact⟨l,sP,m,Q.2.1,Q.2.2⟩
   rintro⟨l',O,m',C,S⟩;rcases mA.1 O with e|e
   . exact .inl ⟨l',e,m',C,S⟩
   simp at e;rw[e,Q.2.1]at C;(cases C);exact .inr (S.symm.trans Q.2.2)
  clear s6 g6 y E aH;go_wp2;go_roundw;case rel=>exact⟨k+1,oM,by go_num,aR⟩
  exact oI
 obtain rfl:k=r.cv.length:=oM;have au:Ae (∀t:MT,Ud q r t↔t.func=(q:Int)/\¬tL r r.cv t.head):= λt=>by
  unfold Ud tL;rw[List.take_length];constructor
  . rintro⟨O,C⟩;exact⟨O, λ⟨l,S,m,h4,h5⟩=>C l S m h4 h5⟩
  rintro⟨O,C⟩;exact⟨O, λl S m h4 h5=>C ⟨l,S,m,h4,h5⟩⟩
 have p3:=d.body.cell 3;simp only[BN.cells]at p3;simp only[aT.o,aK.o]at p3;go_wp2_with fail;clear p3;generalize r.cv.length=NL at d au;go_loopw [30] (λi wr=>∃k:Nat,k<= ↑p.bO/\i=iZ k/\Ae (∀t∈p.bO.take k,¬Ud q r t)/\Ae (Uc w wr v s r NL)) (λi _=> ↑p.bO-(intOf i).toNat)
 case atStart=>exact⟨0,oM,rfl,(λt T=>by simp at T),d⟩
 case round=>
 clear d;obtain⟨k,hk,rfl,aA,d⟩:=hrel;by_cases ae:k< ↑p.bO
 case neg=>
  have HA:Ae (∀t∈p.bO,¬Ud q r t):=by
   have:=aA.o;rw[mm (show ↑p.bO<=k from oM)]at this
   exact this
  go_wp2;exact mM (v:=.tuple #[iZ 0,false]) (by simp[results,results128,go_sem]) rfl ⟨⟨0,false,rfl,(λh=>by cases h), λ_=>HA.o⟩,d.cq⟩
 have bf:(k:Int)<(p.bO:Int):=oM;obtain⟨A,P⟩:∃c,p.bO[k]?=K c:=⟨_,an ae⟩;obtain⟨G,I,et,i0,i1,i2,i3⟩:∃G I,ta=K ⟨G,I,M⟩/\wr ⟨G,I+k*4,M⟩=K ↑A.func/\wr ⟨G,I+k*4+1,M⟩=K ↑A.head/\wr ⟨G,I+k*4+2,M⟩=K ↑A.dT/\wr ⟨G,I+k*4+3,M⟩=K (.int .u32 A.init):=by
  rcases(H.av d.cq).tr.2 with⟨e0,_⟩|⟨G,I,c',e1,hc⟩
  . omega
  simp only[lU]at e1;exact⟨G,I,by rw[<-aK];exact e1.1,Rd.elem MT.bW hc k A P 0 _ rfl,Rd.elem MT.bW hc k A P 1 _ rfl,Rd.elem MT.bW hc k A P 2 _ rfl,Rd.elem MT.bW hc k A P 3 _ rfl⟩
 subst et;have aF:=Aw P;have aW:=Aw (HW.o A (lP P));have aG:Ae (¬Ud q r A->∀t∈p.bO.take (k+1),¬Ud q r t):= λhn t T=>by
  rw[List.take_add_one,aF]at T;rcases mA.1 T with e|e
  . exact aA.o t e
  simp at e;rw[e];exact hn
 clear P;obtain⟨R,B,co,aj⟩:=A;simp only[]at i0 i1 i2 i3;go_upto_region 10 with fail
 have E4:Ae (Uc w (Ac wr (Ak #[R,B,co,.int .u32 aj] 37)) v s r NL/\Ay (Ac wr (Ak #[R,B,co,.int .u32 aj] 37)) wr #[R,B,co,.int .u32 aj] 37):=⟨d.av (Al _ _),Ay.new _ _ _⟩
 refine Av (λu=>Ae (Uc w u v s r NL/\Ay u wr #[R,B,co,.int .u32 aj] 37)) E4 ?_
 rintro U4 E5;clear E4 i0 i1 i2 i3 d;generalize wr.heap.size=X at E5⊢;obtain⟨c0,c1,c2,c3⟩:=Cv E5.2;have p8:=E5.1.body.cell 8;simp only[BN.cells]at p8;simp only[H.nu]at p8;obtain⟨D,ai,aa⟩:=E5.1.set;have E:=Aw (lN ai aa);clear ai aa;cases hfq:(R==(q:Int))
 case false=>
  have ax:=Aw (aG.o λe=>by have:=((au.o _).1 e).1;simp only[]at this;rw[this,beq_self_eq_true]at hfq;cases hfq);go_wp2_with fail;go_roundw;case rel=>exact⟨k+1,oM,by go_num,ax,E5.1⟩
  exact oI
 go_wp2_with fail;refine(Jq s NL D B U4 aW E.1).mono ?_;rintro e L ⟨rfl,N⟩;have y:=Aw (lN (E5.1.av N) (E5.2.av N));clear N c0 c1 c2 c3 p8;cases hbo:Go.Maps.has D (.int Af B)
 case true=>
  have ax:=Aw (aG.o λe=>((au.o _).1 e).2 ((E.2 B).1 hbo));go_wp2_with fail;go_roundw;case rel=>exact⟨k+1,oM,by go_num,ax,y.1⟩
  exact oI
 case false=>have aS:Ae (He (Ud q r) p.bO ⟨R,B,co,aj⟩):=⟨k,aF,(au.o _).2 ⟨by simpa using hfq, λe=>by have:=(E.2 B).2 e;rw[hbo]at this;cases this⟩, λi t hi T=>aA.o t (lP (by rw[List.getElem?_take,mE hi];exact T))⟩;obtain⟨c0,c1,c2,c3⟩:=Cv y.2;go_wp2_with fail;exact mM (v:=.tuple #[B,true]) (by simp[results,results128,go_sem]) rfl ⟨⟨B,true,rfl,(λ_=>⟨_,aS,rfl⟩), λh=>by cases h⟩,y.1.cq⟩
section
variable {r:DQ} {E:Nat->List Nat} {n:Nat} {O:List Nat} {D L:Nat->Nat->Bool} {h:Nat}
theorem Gd.kO(g:Gd r E n O D L)(d:h<n)(z:Nat):(z:Int)∈(Ny E D L n h).a7↔L h z=true:=by
 simp only[Ny,ints,mV,oP,nN];constructor
 . rintro⟨a,⟨_,c⟩,e⟩;have:a=z:=oM;rw[<-this];exact c
 exact λb=>⟨z,⟨g.fl.iU d ((g.il _ _).1 b),b⟩,rfl⟩
theorem Gd.kp(g:Gd r E n O D L)(a:h<n):Jr (λb=>decide ((b:Int)∈(Ny E D L n h).a7)) n= λb=>L h b=true:=by
 funext b
 apply propext;unfold Jr;rw[mo,g.kO a];exact⟨λq=>q.2, λq=>⟨g.fl.iU a ((g.il _ _).1 q),q⟩⟩
theorem Z4.lJ(g:Gd r (nx r.a7) n O D L)(P:∀b m,r.a7[b]?=K m->m.next=ints (nx r.a7 b)){I F:List Nat}{C B:List Int}{E:Nat->Prop}{t:Int}{b:Bool}(s:M6 (nx r.a7) n D E (jf I))(q:V8 (nx r.a7) n D L E h)(G:∀c,0<=cf C c)(ht:0<=t)(W:Z4 (nx r.a7) n r.a7 (Ny (nx r.a7) D L n h) I C h (DY O) t b F B):
 (b=false->P7 (nx r.a7) (λb=>L h b=true) (· ∈AP (nx r.a7) D n h) (jf I) h (cf C) t M)/\(b=true->∃v,P7 (nx r.a7) (λb=>L h b=true) (· ∈AP (nx r.a7) D n h) (jf I) h (cf C) t (K v)/\0<=v/\B=C.set h v/\∀j,jf F j=if j∈(Ny (nx r.a7) D L n h).a7.map Int.toNat then h else jf I j):=by
 have H:=q.rgn g.fl s;have aa:(AW (nx r.a7) D n h)= λb=>L h b=true:=funext λb=>propext (g.il h b).symm
 rw[aa]at H;have u:=H;rw[<-g.kp q.lt]at u;obtain⟨k,small,hw,U,V⟩:=W;cases small with
 | false=>have N:=hw.jU g.fl u G;rw[g.kp q.lt]at N;have d:=U rfl;exact⟨λ_=>.inl ⟨rfl,N⟩, λe=>by rw[d]at e;cases e⟩
 | true =>
   obtain⟨ar,f,Q,S,k1,k2⟩:=V rfl;have y:=hw.pass g.fl s u G;rw[g.kp q.lt]at y;(have R:ER (λb=>cf k (jf I b)) (· ∈AP (nx r.a7) D n h) ar:=Q.iff λb=>(Gd.inB b).symm);have T:ER (λb=>cf k (jf I b)) (qt (nx r.a7) λb=>L h b=true) f:=S.iff λb=>by
    unfold qt R6;rw[g.kO q.lt];constructor
    . rintro⟨p,x,a,A⟩;refine⟨p,?_⟩;cases l:r.a7[b]? with
      |none=>unfold nx at a;rw[l]at a;cases a
      | some m=>refine⟨m,rfl,(x:Int),?_, λe=>A ((g.kO q.lt x).1 e)⟩;rw[P b m l];exact mV.2 ⟨x,a,rfl⟩
    rintro⟨p,m,l,z,a,A⟩;rw[P b m l]at a;obtain⟨x,hx,rfl⟩:=mV.1 a;exact⟨p,x,hx, λe=>A ((g.kO q.lt x).2 e)⟩
   by_cases w:4294967295<t*ar+f
   . have d:=k1 w;exact⟨λ_=>.inr ⟨cf k,ar,f,y,R,T,by rw[mE w]⟩, λe=>by rw[d]at e;cases e⟩
   obtain⟨d,X,hi⟩:=k2 oM;refine⟨(λe=>by rw[d]at e;cases e), λ_=>⟨t*ar+f,.inr ⟨cf k,ar,f,y,R,T,by rw[lY w]⟩,?_,X,hi⟩⟩;have p:=Int.mul_nonneg ht Q.nn;have a:=S.nn;omega
end
section
variable {p:MP} {fi:Int} {costs:List Int} {xs:List MI} {r:DQ} {O:List Nat} {D L:Nat->Nat->Bool} {sl:List ML} {k hd:Nat} {I I2:List Nat} {C C2:List Int} {l:ML}
theorem PN.goI{t:Int}{b:Bool}(s:PN p fi costs xs r D L sl k false I C)(g:Gd r (nx r.a7) r.a7 O D L)(R:∀b m,r.a7[b]?=K m->m.next=ints (nx r.a7 b))(w:sl.Perm r.cv)(y:sl.Pairwise KO)(a:sl[k]?=K l)(Q:l∈r.cv)(N:l.head=(hd:Int))(F:A5 p fi xs r.a7 l 0)(P:Ju p fi r.a7 hd=t)(S:0<=t)(H:C.length= ↑r.a7)(G:Z4 (nx r.a7) r.a7 r.a7 l I C hd (DY O) t b I2 C2):
 (b=true->PN p fi costs xs r D L sl (k+1) false I2 C2)/\(b=false->PW (nx r.a7) r.a7 D L (Ju p fi r.a7) (My xs r.a7) (sl.map hN) (jf (List.range r.a7)) (cf (r.a7.map (Cm xs costs))) (-1)):=by
 obtain⟨rfl,f⟩:=g.at_ Q N;have d:=g.lG w y a f;have n:(sl.drop k).map hN=hd::(sl.drop (k+1)).map hN:=by obtain⟨U,E⟩:=f7.1 a;rw[oG U,E,nh,Ob]
 obtain⟨A,B⟩:=G.lJ g R s.lr d s.cn S;rw[<-P]at A B;refine⟨λe=> ?_, λe=>(s.ok rfl).2 _ (by rw[n];exact .bad (A e))⟩;obtain⟨v,V,W,rfl,X⟩:=B e;have j:jf I2= λb=>if L hd b then hd else jf I b:=by
  funext b
  rw[X b];by_cases e:L hd b=true
  . rw[mE ((g.inK d.lt b).2 e),mE e]
  rw[lY (λq=>e ((g.inK d.lt b).1 q)),lY e]
 have h:cf (C.set hd v)= λc=>if c=hd then v else cf C c:=funext λc=>Hg (an (by rw[H];exact d.lt))
 refine⟨λT u=> ?_,by rw[j];exact g.step w y a f s.lr, λc=> ?_,(λe=>by cases e), λ_=>⟨(s.ok rfl).1, λv' z=>(s.ok rfl).2 v' ?_⟩⟩
 . rw[List.take_add_one,a]at u;rcases mA.1 u with q|q
   . exact s.lf T q
   simp at q;rw[q];exact F
 . rw[h];by_cases q:c=hd
   . simp only[mE q];exact W
   simp only[lY q];exact s.cn c
 rw[n];rw[j,h]at z;exact .step V z
theorem RY.bad(g:Gd r (nx r.a7) r.a7 O D L)(c:sl.Perm r.cv)(d:sl.Pairwise KO)(b:∀l∈r.cv,A5 p fi xs r.a7 l 0)(a:∀m∈r.a7,¬FF xs costs m)(e:PW (nx r.a7) r.a7 D L (Ju p fi r.a7) (My xs r.a7) (sl.map hN) (jf (List.range r.a7)) (cf (r.a7.map (Cm xs costs))) (-1)):RY p fi costs xs r (-1):=.inr ⟨b,a,O,D,L,sl,g,c,d,e⟩
theorem PN.kt{d:List Int}{small:Bool}{v:Int}(s:PN p fi costs xs r D L sl sl false I C)(g:Gd r (nx r.a7) r.a7 O D L)(h:sl.Perm r.cv)(m:sl.Pairwise KO)(f:qy (nx r.a7) r.a7 (λb=>decide ((b:Int)∈r.dr)) I C 0 (DY O) d small)(j:small=false->v=-1)(k:small=true->ER (λb=>cf d (jf I b)) (λb=>b< ↑r.a7/\My xs r.a7 b) v):RY p fi costs xs r v:=by
 have l:=s.fin g h;have c:Jr (λb=>decide ((b:Int)∈r.dr)) r.a7= λb=>b<r.a7.length:=by
  funext b
  apply propext;unfold Jr;rw[mo,g.ord];refine⟨λq=>q.1, λq=>⟨q,mV.2 ⟨b,nL.2 ((g.om b).2 q),rfl⟩⟩⟩
 have a:=l;rw[<-c]at a;refine s.done g h m (λ_=> ?_) (λe=>by cases e);cases small with
 | false=>have:=f.jU g.fl a s.cn;rw[c]at this;exact .inl ⟨j rfl,this⟩
 | true=>have:=f.pass g.fl s.lr a s.cn;rw[c]at this;exact .inr ⟨_,this,k rfl⟩
end
structure PS(u:Y)(B CB TB:Nat)(v:BN)(V S:J)(k j:Nat)(C:List Int):Prop where
 eI:Ay u CB (Jj v V S) 256
 co:Ab u B 2 1 V k (Ad At C)
 st:Ab u B 2 1 S j (nv (List.range j))
 ap:∀g,V.ownBlock=K g->S.ownBlock≠K g
 bl:B<=CB
 tb:Ay u TB #[.pointer CB] 254
theorem JX{u u':Y}{B c n:Nat}{xs:List J}{row:Option Nat}(h:Ab u B e c s n xs)(j:u.grownBy u' row)(k:∀g,s.ownBlock=K g->row≠K g):Ab u' B e c s n xs:=by
 refine⟨h.1,?_⟩;rcases h.2 with h|⟨g,cap,d,a,f,b,l⟩
 . exact .inl h
 refine .inr ⟨g,cap,d,a,f,?_,l⟩;rw[j.block g (mH.1 b).1 (λe=>k g (by rw[a];rfl) e.symm)];exact b
theorem XL{u:Y}{B b n:Nat}{xs:List J}(h:Ab u B e b s n xs)(a:s.ownBlock=K g):g<u.heap.size:=by
 rcases Bf h with⟨rfl,rfl⟩|⟨f,c,rfl⟩
 . cases a
 obtain⟨_,d,e⟩:=AZ h;cases a
 exact(mH.1 e).1
theorem Dg{u:Y}{B j n:Nat}{xs:List J}{i:Nat}{f:Array J}(x:J)(h:Ab u B e j s n xs)(d:Ay u b f t)(k:t≠e):Ab (Aa u ⟨b,i,M⟩ x) B e j s n xs:=by
 rcases Bf h with⟨rfl,rfl⟩|⟨m,c,rfl⟩
 . refine⟨h.1,?_⟩;rcases h.2 with h|⟨g,cap,f,a,p,q,r⟩
   . exact .inl h
   cases a
 obtain⟨_,l,a⟩:=AZ h;refine Ek h ?_;rintro rfl;unfold Ay at d;rw[a]at d;cases d
 exact k rfl
section
variable {u u':Y} {B CB TB:Nat} {v:BN} {V S:J} {k j:Nat} {C:List Int}
theorem PS.av(h:PS u B CB TB v V S k j C)(a:Ah u u u'):PS u' B CB TB v V S k j C:={h with eI:=h.eI.av a,co:=AD h.co a lR,st:=AD h.st a lR,tb:=h.tb.av a}
theorem PS.cells(h:PS u B CB TB v V S k j C):u TB=K (.pointer CB)/\u ⟨CB,15,M⟩=K V/\u ⟨CB,16,M⟩=K S:=⟨by rw[h.tb.cell];rfl,by rw[h.eI.cell];rfl,by rw[h.eI.cell];rfl⟩
theorem PS.lu(h:PS u B CB TB v V S k j C)(m:Ab u' B 2 1 (sG g (k+1) cap) (k+1) (Ad At C++[iZ y]))(d:u.grownBy u' V.ownBlock)(l:V.ownBlock=K g\/g= ↑u):
 PS (Aa u' ⟨CB,15,M⟩ (sG g (k+1) cap)) B CB TB v (sG g (k+1) cap) S (k+1) j (C++[y])/\u' TB=K (.pointer CB)/\u' ⟨CB,15,M⟩=K V/\u'.frozen? ⟨CB,15,M⟩=false:=by
 have a:=h.eI.grown d h.co dC;have b:=h.tb.grown d h.co dC;have s1:=JX h.st d (λf e c=>h.ap f c e);refine⟨⟨a.set 15 _,?_,Dg _ s1 a dC,?_,h.bl,b.other (λe=> ?_) _⟩,by rw[b.cell];rfl,by rw[a.cell];rfl,a.frozen 15⟩
 . have:=Dg (i:=15) (sG g (k+1) cap) m a dC;rw[mW];exact this
 . rintro f e c;(cases e);rcases l with q|rfl
   . exact h.ap _ q c
   exact absurd (XL h.st c) (Nat.lt_irrefl _)
 unfold Ay at a b;simp only[]at e;rw[e,a]at b;cases b
theorem PS.kX(h:PS u B CB TB v V S k j C)(m:Ab u' B 2 1 (sG g (j+1) cap) (j+1) (nv (List.range j)++[iZ (j:Int)]))(d:u.grownBy u' S.ownBlock)(l:S.ownBlock=K g\/g= ↑u):
 PS (Aa u' ⟨CB,16,M⟩ (sG g (j+1) cap)) B CB TB v V (sG g (j+1) cap) k (j+1) C/\u' TB=K (.pointer CB)/\u' ⟨CB,16,M⟩=K S/\u'.frozen? ⟨CB,16,M⟩=false:=by
 have a:=h.eI.grown d h.st dC;have b:=h.tb.grown d h.st dC;have s1:=JX h.co d (λf e c=>h.ap f e c);refine⟨⟨a.set 16 _,Dg _ s1 a dC,?_,?_,h.bl,b.other (λe=> ?_) _⟩,by rw[b.cell];rfl,by rw[a.cell];rfl,a.frozen 16⟩
 . have:=Dg (i:=16) (sG g (j+1) cap) m a dC;rw[pA,Mk];exact this
 . rintro f e c;(cases c);rcases l with q|rfl
   . exact h.ap _ e q
   exact absurd (XL h.co e) (Nat.lt_irrefl _)
 unfold Ay at a b;simp only[]at e;rw[e,a]at b;cases b
theorem PS.whole{n:Nat}(h:PS u B CB TB v V S n n C)(s:0<n)(r: ↑C=n)(q:∀y∈C,Kh y):∃a c f d,CG u B CB v n a c f d (List.range n) C:=by
 obtain⟨k,g,j,l,m,_⟩:=h;rcases Bf g with⟨_,e⟩|⟨a,c,rfl⟩
 . omega
 rcases Bf j with⟨_,e⟩|⟨f,d,rfl⟩
 . omega
 exact⟨a,c,f,d,k,g,j, λe=>l a rfl (by rw[e];rfl),r,sP,q, λb p=>nN.1 p,m⟩
end
def tK(w:Y)(l:ML)(x:LV):Prop:=x.h=l.head/\x.xn= ↑l.back/\x.yn= ↑l.a7/\M3 w (l,Z x.xa x.xn x.xc,Z x.ya x.yn x.yc)
def rA(w:Y)(g o k:Nat):LV:=match w ⟨g,o+k*3,M⟩,w ⟨g,o+k*3+1,M⟩,w ⟨g,o+k*3+2,M⟩with
 |some (Ag _ h),K (Z a n c),K (Z a' n' c')=>⟨h,a,n,c,a',n',c'⟩
 |_,_,_=>default
theorem tF{u:Y}{a:Option Addr}{n c:Nat}{r:List ML}(h:Ln u (Z a n c) r):∃z:List LV,z.length= ↑r/\(∀(k:Nat) (m:ML) (x:LV),r[k]?=K m->z[k]?=K x->tK u m x)/\Ll u u a z:=by
 cases hc:r with
 |nil=>exact⟨[],rfl, λk m x h=>by simp at h, λe=>absurd rfl e⟩
 | cons E G=>
   rw[<-hc];obtain⟨g,o,_,_,_,_,A,D,_⟩:=Jv h (k:=0) (m:=E) (by rw[hc];rfl);have C:∀k m,r[k]?=K m->∃d l f p,rA u g o k=⟨m.head,d,m.back,l,f,m.a7,p⟩/\u ⟨g,o+k*3,M⟩=K ↑m.head/\u ⟨g,o+k*3+1,M⟩=K (Z d m.back l)/\u ⟨g,o+k*3+2,M⟩=K (Z f m.a7 p)/\M3 u (m,Z d m.back l,Z f m.a7 p):= λk m s=>by obtain⟨F,H,d,l,f,p,q,t,v,w,y⟩:=Jv h s;rw[A]at q;(cases q);refine⟨d,l,f,p,?_,t,v,w,y⟩;unfold rA;rw[t,v,w]
   refine⟨(List.range r).map (rA u g o),sP, λk m x s b=> ?_, λ_=>⟨g,o,A,lT D, λj x b=> ?_⟩⟩
   . obtain⟨d,l,f,p,q,_,_,_,y⟩:=C k m s;rw[mN,pe (f7.1 s).1]at b;simp only[oO,lX]at b;rw[<-b,q];exact⟨rfl,rfl,rfl,y⟩
   (have B:j<r.length:=by have:=(f7.1 b).1;simpa using this);obtain⟨d,l,f,p,q,t,v,w,_⟩:=C j _ (an B);rw[mN,pe B]at b;simp only[oO,lX]at b;rw[<-b,q];exact⟨t,v,w⟩
inductive Tq {α β:Type} (R:α->β->Prop):List α->List β->Prop
 |nil:Tq R [] []
 |cons {x:α} {m:β} {zs:List α} {ls:List β}:R x m->Tq R zs ls->Tq R (x::zs) (m::ls)
theorem S5{α β:Type}{R:α->β->Prop}{ts f:List α}(k:ts.Perm f):∀{a:List β},Tq R f a->∃sl:List β,sl.Perm a/\Tq R ts sl:=by
 induction k with
 |nil=>intro a h;exact⟨a,.refl _,h⟩
 | cons x _ m=>
   intro a h;cases h with
   | cons b c=>obtain⟨sl,d,e⟩:=m c;exact⟨_::sl,d.cons _,.cons b e⟩
 | swap x y l=>
   intro a h;cases h with
   | cons b c=>
     cases c with
     |cons g j=>exact⟨_::_::_,.swap _ _ _,.cons g (.cons b j)⟩
 | trans _ _ ih1 ih2=>intro a h;obtain⟨s1,n,d⟩:=ih2 h;obtain⟨s2,p,e⟩:=ih1 d;exact⟨s2,p.trans n,e⟩
section
variable {α β:Type} {R:α->β->Prop} {ts:List α} {sl:List β}
theorem Tq.len(h:Tq R ts sl):ts.length=sl.length:=by
 induction h with
 |nil=>rfl
 |cons _ _ a=>simp[a]
theorem Tq.at_(h:Tq R ts sl):∀{k:Nat} {x:α},ts[k]?=K x->∃l,sl[k]?=K l/\R x l:=by
 induction h with
 |nil=>intro k x h;simp at h
 | cons a _ b=>
   intro k x h;cases k with
   |zero=>simp at h;exact⟨_,rfl,h▸a⟩
   |succ k=>exact b (k:=k) (by simpa using h)
theorem Tq.mem(h:Tq R ts sl):∀{l:β},l∈sl->∃x∈ts,R x l:=by
 induction h with
 |nil=>intro l h;simp at h
 | cons a _ d=>
   intro l h;rcases lW.1 h with rfl|h
   . exact⟨_,sP,a⟩
   obtain⟨x,c,b⟩:=d h;exact⟨x,nA _ c,b⟩
theorem Tq.pair{P:α->α->Prop}{Q T:β->β->Prop}(h:Tq R ts sl)(j:∀a b l m,R a l->R b m->P a b->Q l m->T l m)(f:ts.Pairwise P)(g:sl.Pairwise Q):sl.Pairwise T:=by
 induction h with
 |nil=>exact .nil
 | cons d e p=>
   cases f with
   | cons q r=>
     cases g with
     | cons s t=>refine .cons (λm c=> ?_) (p r t);obtain⟨x,n,k⟩:=e.mem c;exact j _ _ _ _ d k (q x n) (s m c)
end
theorem Tx{α β:Type}{R:α->β->Prop}:∀{b:List α} {a:List β},b.length= ↑a->(∀(k:Nat) x m,b[k]?=K x->a[k]?=K m->R x m)->Tq R b a
 |[],[],_,_=>.nil
 |[],_::_,h,_=>by simp at h
 |_::_,[],h,_=>by simp at h
 |x::b,m::a,h,h2=>.cons (h2 0 x m rfl rfl) (Tx (by simpa using h) λk f e c d=>h2 (k+1) f e (by simpa using c) (by simpa using d))
theorem rP{w:Y}{ts n:List LV}{c:List ML}(y:ts.Perm n)(z:M5 ts)(v:n.length= ↑c)(r:∀(k:Nat) (m:ML) (x:LV),c[k]?=K m->n[k]?=K x->tK w m x)(t:c.Pairwise λa b=>a.head≠b.head):∃sl:List ML,sl.Perm c/\sl.Pairwise KO/\ts.length= ↑sl/\∀(k:Nat) (x:LV),ts[k]?=K x->∃l:ML,sl[k]?=K l/\l.head=x.h:=by
 obtain⟨sl,s,f⟩:=S5 y (Tx (R:= λ(x:LV) (m:ML)=>x.h=m.head/\x.yn= ↑m.a7) v λk x m p q=>⟨(r k m x q p).1,(r k m x q p).2.2.1⟩)
 have u:sl.Pairwise λa b=>a.head≠b.head:=(s.symm.pairwise_iff (λh=>Ne.symm h)).1 t
 refine⟨sl,s,f.pair (λa b l m g j d e=> ?_) z u,f.len, λk x A=> ?_⟩
 . rw[LV.lt_iff,o9]at d;unfold KO;rw[<-g.1,<-j.1]at e;rw[<-g.1,<-j.1,<-g.2,<-j.2];omega
 obtain⟨l,d,e⟩:=f.at_ A;exact⟨l,d,e.1.symm⟩
section
open Go.Shelf
section
variable {u u':Y} {row:Option Nat}
theorem Ay.held{a:Array J}(h:Ay u b a t)(c:u.grownBy u' row)(d:∀r,row=K r->∃o:Obj,u.heap[r]?=K o/\o.isCells=false):Ay u' b a t:=(grownBy_keeps_cells c d h rfl).trans h
theorem Rb{B d n:Nat}{xs:List J}(h:Ab u B e d s n xs)(j:u.grownBy u' row)(k:∀r,row=K r->∃o:Obj,u.heap[r]?=K o/\o.isCells=false):Ab u' B e d s n xs:=JX h j (λg b l=>by
 rcases Bf h with⟨rfl,rfl⟩|⟨p,c,rfl⟩
 . cases b
 obtain⟨_,m,e⟩:=AZ h;cases b
 obtain⟨o,a,f⟩:=k _ l;rw[e]at a;cases a
 cases f)
theorem CG.held{B c:Nat}{v:BN}{n gC cC gS cS:Nat}{I:List Nat}{C:List Int}(h:CG u B c v n gC cC gS cS I C)(a:u.grownBy u' row)(b:∀r,row=K r->∃o:Obj,u.heap[r]?=K o/\o.isCells=false):CG u' B c v n gC cC gS cS I C:={h with eI:=h.eI.held a b,co:=Rb h.co a b,st:=Rb h.st a b}
theorem CG.sz{B a:Nat}{v:BN}{n gC cC gS cS:Nat}{I:List Nat}{C:List Int}(h:CG u B a v n gC cC gS cS I C):gC< ↑u/\gS<u.heap.size:=by obtain⟨_,c1,b⟩:=AZ h.co;obtain⟨_,c2,c⟩:=AZ h.st;exact⟨(mH.1 b).1,(mH.1 c).1⟩
theorem DT.kpc{gC gS:Nat}(h:DT (Cg gC gS) u u'):JK gC gS u u':=⟨h.size, λk o a _ b c=>(h.block k (mH.1 a).1 (λe=>e.elim b c)).trans a⟩
theorem CG.keeps{A B d:Nat}{v:BN}{n gC cC gS cS:Nat}{I:List Nat}{C:List Int}(h:CG u B d v n gC cC gS cS I C)(c:DT (Cg gC gS) u u'):KeepsFrom A u u':=by
 obtain⟨_,c1,e⟩:=AZ h.co;obtain⟨_,c2,f⟩:=AZ h.st;refine⟨c.size, λk o _ a b=>(c.block k (mH.1 a).1 ?_).trans a⟩;rintro(rfl|rfl)
 . rw[e]at a;cases a;cases b
 rw[f]at a;cases a;cases b
end
structure RX(w u:Y)(v:BN)(y:Int):Prop where
 body:Ay u w v.cells 111
 ia:Ay u ((w:Nat)+1) #[y] 2
 cq:Ah w w u
theorem RX.av{w u u':Y}{v:BN}(h:RX w u v y)(a:Ah u u u'):RX w u' v y:=⟨h.body.av a,h.ia.av a,Ar h.cq lR a⟩
theorem RX.set{w u:Y}{v:BN}(h:RX w u v y)(z:Int):RX w (Aa u ⟨(w:Nat)+1,0,M⟩ z) v z:=⟨h.body.other sP _,h.ia.set 0 _,h.cq.setCell sP _⟩
def qm(p:MP)(fi:Int)(xs:List MI)(r:DQ)(costs:List Int)(D L:Nat->Nat->Bool)(sl:List ML)(v:Int):Prop:=PW (nx r.a7) r.a7 D L (Ju p fi r.a7) (My xs r.a7) (sl.map hN) (jf (List.range r.a7)) (cf (r.a7.map (Cm xs costs))) v
def M2{zs:List LV}(a:List {x:LV//x∈zs})(sl:List ML):Prop:=∀(k:Nat) (x:{x:LV//x∈zs}),a[k]?=K x->∃l:ML,sl[k]?=K l/\l.head=x.1.h
theorem M2.init{zs:List LV}{a:List {x:LV//x∈zs}}{x:{x:LV//x∈zs}}{sl:List ML}(h:M2 (a++[x]) sl):M2 a sl/\∃l:ML,sl[a.length]?=K l/\l.head=x.1.h:=by refine⟨λk y b=>h k y ?_,h a x sP⟩;rw[mq (f7.1 b).1];exact b
structure Z2(w0:Y)(v:BN)(p:MP)(fi:Int)(xs:List MI)(r:DQ)(costs:List Int)(D L:Nat->Nat->Bool)(gC cC gS cS:Nat)(zs:List LV)(pre:List {x:LV//x∈zs})(W:Y):Prop where
 ex:∃(I:List Nat) (C:List Int),CG W w0 w0 v r.a7 gC cC gS cS I C/\∀sl:List ML,sl.Perm r.cv->sl.Pairwise KO->M2 pre sl->PN p fi costs xs r D L sl pre false I C
 tb:Ay W ((w0:Nat)+1) #[.pointer w0] 254
 cq:Ah w0 w0 W
structure tH(w:Y)(v:BN)(p:MP)(fi:Int)(xs:List MI)(r:DQ)(costs:List Int)(D L:Nat->Nat->Bool)(zs:List LV)(c:Code)(pre:List {x:LV//x∈zs})(W:Y):Prop where
 ret:c=.ret
 fr:RX w W v (-1)
 bad:∀sl:List ML,sl.Perm r.cv->sl.Pairwise KO->M2 pre sl->qm p fi xs r costs D L sl (-1)
section
variable {w w0:Y} {v:BN} {p:MP} {fi:Int} {xs:List MI} {r:DQ} {costs:List Int} {D L:Nat->Nat->Bool} {gC cC gS cS:Nat} {zs:List LV}
theorem Z2.own{B:Nat}(j: ↑w0<=B):OwnFrom B (Z2 w0 v p fi xs r costs D L gC cC gS cS zs):= λn W m row l a c=>by
 obtain⟨⟨I,C,f,g⟩,h,b⟩:=l;have d:∀r,row=K r->∃o:Obj,W.heap[r]?=K o/\o.isCells=false:= λr e=>(c r e).2
 exact⟨⟨I,C,f.held a d,g⟩,h.held a d,b.grown a b.size (λk e=>mC j (c k e).1)⟩
theorem tH.own{B:Nat}(m: ↑w<=B)(c:Code):OwnFrom B (tH w v p fi xs r costs D L zs c):= λs W q row n a d=>by
 obtain⟨g,⟨h,j,b⟩,l⟩:=n;have f:∀r,row=K r->∃o:Obj,W.heap[r]?=K o/\o.isCells=false:= λr e=>(d r e).2
 exact⟨g,⟨h.held a f,j.held a f,b.grown a b.size (λk e=>mC m (d k e).1)⟩,l⟩
theorem Z2.av{c:List {x:LV//x∈zs}}{W b:Y}(h:Z2 w0 v p fi xs r costs D L gC cC gS cS zs c W)(a:Ah W W b):Z2 w0 v p fi xs r costs D L gC cC gS cS zs c b:=by obtain⟨⟨I,C,d,e⟩,f,g⟩:=h;exact⟨⟨I,C,d.av a,e⟩,f.av a,Ar g lR a⟩
end
theorem ZL{zs:List LV}{g:Operand}{assign body:Code}{Q:Exit->Act->Y->Prop}{a:Act}{w:Y}{gf:Nat}{lb:Array J}(gC gS:Nat)(k:a.eval g=.func (.func gf) #[] lb)(s:∀args w,(callFunc gf args).run Aq w=.ok (.enter gf args) w)
 {S n:List {x:LV//x∈zs}->Prop} {N:Nat} (O:SeqStopsK Fence.wide 4 Aq gf lb (λx:{x:LV//x∈zs}=>#[.agg x.1.arr]) (JK gC gS) S n N w)
 (I:List {x:LV//x∈zs}->Y->Prop) (h:Code->List {x:LV//x∈zs}->Y->Prop) (A:OwnFrom w I) (B:∀c,OwnFrom w (h c)) (u:I [] w)
 (E:∀(l:Nat) (b:List {x:LV//x∈zs}) (x:{x:LV//x∈zs}) (W:Y) (K:Act->Y->Prop),I b W->(∀d,KeepsFrom w W d->JK gC gS W d->I b d->∀Bx,Ay d Bx x.1.arr 65->K {tmps:=(a.tmps.setIfInBounds 67 (.agg x.1.arr)).setIfInBounds 12 (.pointer Bx),defers:=[]} d)->
  assign.wpIn (Fence.wide.inRound l) 3 Aq (Exit.then K (λ_ _ _=>False)) {tmps:=a.tmps.setIfInBounds 67 (.agg x.1.arr),defers:=[]} W)
 (F:∀(l:Nat) (b:List {x:LV//x∈zs}) (x:{x:LV//x∈zs}) (Bx:Nat) (W:Y),Ay W Bx x.1.arr 65->I b W->body.wpIn (Fence.wide.inRound l) 3 Aq (ownPostG w (JK gC gS) I h (b++[x]) W) {tmps:=(a.tmps.setIfInBounds 67 (.agg x.1.arr)).setIfInBounds 12 (.pointer Bx),defers:=[]} W)
 (G:∀(D:Nat) (xs:List {x:LV//x∈zs}) (W:Y), ↑w<=D->S xs->I xs W->W.heap[D]?=some (.deferred (some []))->Q .normal {a with defers:={target:=.collected D,args:=#[]}::a.defers} W)
 (P:∀(D:Nat) (c:Code) (b:List {x:LV//x∈zs}) (W:Y), ↑w<=D->n b->h c b W->W.heap[D]?=some (.deferred (some []))->c.wpIn Fence.wide 5 Aq Q {a with defers:={target:=.collected D,args:=#[]}::a.defers} W):
 (Code.rangeFunc g #[67] assign body).wpIn Fence.wide 5 Aq Q a w:=by
 refine wpIn_rangeFunc_ownH rfl oM k trivial s O JK.trans JK.put (mP _ _) (λ_=>rfl) I h A B u
  (λx a' W=>∃Bx,Ay W Bx x.1.arr 65/\a'={tmps:=(a.tmps.setIfInBounds 67 (.agg x.1.arr)).setIfInBounds 12 (.pointer Bx),defers:=[]})
  (λx a' _ X T row L k H=>by obtain⟨Bx,f,j⟩:=L;exact⟨Bx,f.held k (λr e=>(H r e).2),j⟩) ?_ ?_ G P
 . intro l b x W K m C;(have q:=E l b x W K m λd f j y Bx z=>C _ _ f j y ⟨Bx,z,rfl⟩);have e:((#[67]:Array Tmp).zip #[Value.agg x.1.arr]).foldl (λ(t:Array J) (R:Tmp×J)=>match R with|(p,v)=>t.setIfInBounds p v) a.tmps=a.tmps.setIfInBounds 67 (.agg x.1.arr):=sP;rw[<-e]at q;exact q
 rintro l b x a' W _ _ m ⟨Bx,f,rfl⟩ _;exact F l b x Bx W f m
end
end Go.Proofs.YtkgohaigebcgoaaGreatDoor
