import Derived.Test.YtadcneiiokbofaaGreatBo41
import Derived.Test.YtadcneiiokbofaaGreatBo40
namespace Go.Proofs.YtadcneiiokbofaaGreat
open Go.ChangeShapes Go.WideShapes Go.ChangeAt Go.RowKit Go.Proofs.Tryz
set_option linter.unusedVariables false
open Go.Value renaming slice → Z,int → Ag,agg → Am,tuple → Ao
open Option renaming some → K,none → M
open Go renaming Value → J,World → Y,Calls → Ai,TypeId → Aj
open Go.RowKit renaming Hid → Ae,Below → Ah
open Go.Obj renaming cells → Ak
open Go.Ending renaming returned → Al
open Go.Proofs.Tryz renaming prog → Ap
open Go.World renaming setCell → Aa,alloc → Ac
open List renaming flatMap → Ad
set_option maxHeartbeats 16000000
set_option maxRecDepth 100000
variable {b e:Option Addr}{c y f g j:Nat}{l:ML}
theorem XA{u:Y}{b:Nat}{t:Aj}{v:B2}{c s:J}(H:AA u b (Ju v c s) t):u b=K (Z v.r.a v.r.n v.r.c)/\u ⟨b,1,M⟩=K (Z v.k.a v.k.n v.k.c)/\u ⟨b,2,M⟩=K (Z v.f.a v.f.n v.f.c)/\u ⟨b,3,M⟩=K (Z v.t.a v.t.n v.t.c)/\u ⟨b,4,M⟩=K (Z v.p.a v.p.n v.p.c)/\u ⟨b,5,M⟩=K ↑v.rs/\u ⟨b,6,M⟩=K (Z v.l.a v.l.n v.l.c)/\u ⟨b,7,M⟩=K (Z v.c.a v.c.n v.c.c)/\u ⟨b,8,M⟩=K ↑v.nu/\u ⟨b,9,M⟩=K ↑v.co/\u ⟨b,10,M⟩=K ↑v.at_/\u ⟨b,11,M⟩=K (Z v.b.a v.b.n v.b.c)/\u ⟨b,12,M⟩=K (Z v.o.a v.o.n v.o.c)/\u ⟨b,13,M⟩=K (Z v.i.a v.i.n v.i.c)/\u ⟨b,14,M⟩=K (Z v.q.a v.q.n v.q.c):=by unfold Ju at H;exact⟨H.cell 0,H.cell 1,H.cell 2,H.cell 3,H.cell 4,H.cell 5,H.cell 6,H.cell 7,H.cell 8,H.cell 9,H.cell 10,H.cell 11,H.cell 12,H.cell 13,H.cell 14⟩
def Cg(gC gS k:Nat):Prop:=k=gC\/k=gS
section
variable {u:Y} {B CB:Nat} {v:B2} {n gC cC gS cS:Nat} {I:List Nat} {C:List Int}
theorem CD.ke(h:CD u B CB v n gC cC gS cS I C):CB≠gC/\CB≠gS:=by
 obtain⟨_,c1,b⟩:=AD h.co;obtain⟨_,c2,c⟩:=AD h.st;have a:=h.ie;unfold AA at a;constructor
 . intro e;rw[<-e,a]at b;cases b
 intro e;rw[<-e,a]at c;cases c
theorem CD.lo(h:CD u B CB v n gC cC gS cS I C):B<=gC/\B<=gS:=⟨(AD h.co).1,(AD h.st).1⟩
theorem CD.iI(h:CD u B CB v n gC cC gS cS I C)(k:Nat){y:Int}(c:EP y):CD (Aa u ⟨gC,k,M⟩ y) B CB v n gC cC gS cS I (C.set k y):=by have b:=(nC h.co k y).1;rw[Ht]at b;exact{h with ie:=h.ie.other (a:=⟨gC,k,M⟩) h.ke.1 _,co:=b,st:=Bn h.st h.ne.symm,lc:=by rw[mZ];exact h.lc,cc:=H6 h.cc c}
theorem CD.iO(h:CD u B CB v n gC cC gS cS I C)(k:Nat)(c:y<n):CD (Aa u ⟨gS,k,M⟩ y) B CB v n gC cC gS cS (I.set k y) C:=by have b:=(nC h.st k y).1;rw[VJ]at b;exact{h with ie:=h.ie.other (a:=⟨gS,k,M⟩) h.ke.2 _,st:=b,co:=Bn h.co h.ne,li:=by rw[mZ];exact h.li,ii:= λz d=>(oU d).elim (h.ii z) (λe=>by rw[e];exact c)}
theorem CD.frz(h:CD u B CB v n gC cC gS cS I C)(c:Nat):u.frozen? ⟨gC,c,M⟩=false/\u.frozen? ⟨gS,c,M⟩=false:=by obtain⟨_,c1,a⟩:=AD h.co;obtain⟨_,c2,b⟩:=AD h.st;exact⟨frozen_of_row u gC c c1 _ a,frozen_of_row u gS c c2 _ b⟩
end
def Xu(E:Nat->List Nat)(n:Nat)(f:List MB)(l:ML)(I:List Nat)(C:List Int)(h:Nat)(g:Nat->Nat)(iv:Int)(b:Bool)(e:List Nat)(d:List Int):Prop:=∃(L:List Int) (small:Bool),X4 E n (λb=>decide ((b:Int)∈l.a8)) I C h g L small/\(small=false->b=false)/\(small=true->∃a c,Cm (λb=>cf L (jf I b)) (λb=>(b:Int)∈l.back) a/\Cm (λb=>cf L (jf I b)) (λb=>(b:Int)∈l.a8/\RB f l.a8 b) c/\(4294967295<iv*a+c->b=false)/\(iv*a+c<=4294967295->b=true/\d=C.set h (iv*a+c)/\∀j,jf e j=if j∈l.a8.map Int.toNat then h else jf I j))
structure Ko(w0 w u:Y)(CB:Nat)(v:B2)(n gC cC gS cS h:Nat)(xa:Option Addr)(xc:Nat)(ka:Option Addr)(kc:Nat)(l:ML)(I:List Nat)(C:List Int):Prop where
 lb:AA u w #[h,Z xa l.back xc,Z ka l.a8 kc] 92
 co:CD u w0 CB v n gC cC gS cS I C
 ch:DB (Cg gC gS) w u
 ej:Ah w0 w0 u
theorem Ko.a7{e w u d:Y}{CB:Nat}{v:B2}{n gC cC gS cS h:Nat}{f:Option Addr}{I:List Nat}{C:List Int}(H:Ko e w u CB v n gC cC gS cS h f g b c l I C)(a:Ah u u d):Ko e w d CB v n gC cC gS cS h f g b c l I C:=⟨H.lb.a7 a,H.co.a7 a,H.ch.on a,Ar H.ej lR a⟩
theorem Ko.kJ{g w u:Y}{CB:Nat}{v:B2}{n gC cC gS cS h:Nat}{i:Option Addr}{d:Option Addr}{I:List Nat}{C:List Int}(H:Ko g w u CB v n gC cC gS cS h i j d f l I C): ↑w≠gC/\ ↑w≠gS:=by
 obtain⟨_,c1,b⟩:=AD H.co.co;obtain⟨_,c2,c⟩:=AD H.co.st;have a:=H.lb;unfold AA at a;constructor
 . intro e;rw[<-e,a]at b;cases b
 intro e;rw[<-e,a]at c;cases c
theorem Ko.iI{d w u:Y}{CB:Nat}{v:B2}{n gC cC gS cS h:Nat}{I:List Nat}{C:List Int}(H:Ko d w u CB v n gC cC gS cS h e f b c l I C)(k:Nat){y:Int}(g:EP y):Ko d w (Aa u ⟨gC,k,M⟩ y) CB v n gC cC gS cS h e f b c l I (C.set k y):=⟨H.lb.other (a:=⟨gC,k,M⟩) H.kJ.1 _,H.co.iI k g,H.ch.setCell (.inl (.inl rfl)) _,H.ej.setCell H.co.lo.1 _⟩
theorem Ko.iO{d w u:Y}{CB:Nat}{v:B2}{n gC cC gS cS h:Nat}{I:List Nat}{C:List Int}(H:Ko d w u CB v n gC cC gS cS h e f b c l I C)(k:Nat)(g:y<n):Ko d w (Aa u ⟨gS,k,M⟩ y) CB v n gC cC gS cS h e f b c l (I.set k y) C:=⟨H.lb.other (a:=⟨gS,k,M⟩) H.kJ.2 _,H.co.iO k g,H.ch.setCell (.inl (.inr rfl)) _,H.ej.setCell H.co.lo.2 _⟩
theorem Ko.jK{d w u:Y}{CB:Nat}{v:B2}{n gC cC gS cS h:Nat}{q:Option Addr}{r:Nat}{m:Option Addr}{p:Nat}{I:List Nat}{C:List Int}(H:Ko d w u CB v n gC cC gS cS h q r m p l I C){s:Array J}{ty:Aj}(D: ↑w<g)(E:(d:Nat)<= ↑w)(t:AA u g s ty)(i:Nat)(z:J)(k:ty≠2:=by decide)(x:ty≠200:=by decide):Ko d w (Aa u ⟨g,i,M⟩ z) CB v n gC cC gS cS h q r m p l I C:=by
 obtain⟨F,c1,f⟩:=AD H.co.co;obtain⟨G,c2,j⟩:=AD H.co.st;have c:=H.co.ie;have b:=t;unfold AA at c b;have y:gC≠g:= λe=>by rw[e,b]at f;cases f;exact k rfl
 have A:gS≠g:= λe=>by rw[e,b]at j;cases j;exact k rfl
 have B:CB≠g:= λe=>by rw[e,b]at c;cases c;exact x rfl
 exact⟨H.lb.other (a:=⟨g,i,M⟩) oS _,{H.co with ie:=H.co.ie.other (a:=⟨g,i,M⟩) B _,co:=Bn H.co.co y,st:=Bn H.co.st A},H.ch.setCell (.inr oS) _,H.ej.setCell oS _⟩
theorem WU{I:List Nat}{k:Nat}(a:k< ↑I):jf (I.set k y) j=if j=k then y else jf I j:=by
 unfold jf;rw[lN,lN,List.getElem?_set];by_cases e:j=k
 . subst e;simp[a]
 rw[lS (Ne.symm e),lS e]
theorem LI(y:Y)(CB:Nat)(v:B2)(gC cC gS cS:Nat)(I:List Nat)(C:List Int)(p:MP)(fi:Int)(F:List (MB×J))(xs:List MI)(r:CS)(E:Nat->List Nat)(R:List Nat)(pl:Nat->Nat)(h:Nat)(m:MB)(t:MT)(B:Option Addr)(D:Nat)(G:Option Addr)(N:Nat)(l:ML)(w:Y)(aY:Ah y y w)(hG:Tu y v p fi F xs r)(hS:CD w y CB v r.a8 gC cC gS cS I C)(hF:YJ y v r.a8 E R pl)(hl:l∈r.gX)(bT:l.head=(h:Int))(bf:∀z∈l.back,∃b:Nat,z=(b:Int)/\b< ↑r.a8)(hr:UH y (l,Z B l.back D,Z G l.a8 N))(hm:r.a8[h]?=K m)(ht:Cj p.e8 fi m.gZ=K t)(bQ:EP t.init):
 Ai Ap 123 #[.pointer CB,Am #[h,Z B l.back D,Z G l.a8 N]] w λe d=>∃(b:Bool) (I':List Nat) (C':List Int),e=Al b/\CD d y CB v r.a8 gC cC gS cS I' C'/\DB (Cg gC gS) w d/\Ah y y d/\Xu E r.a8 r.a8 l I C h pl t.init b I' C':=by
 obtain⟨⟨h1,q1,hh⟩,bj,bp,bZ⟩:=hG.iq.loop l hl;have eh:h=h1:=oM;subst eh;have br:r.a8.length<=1024:=hG.iq.nb;have H:=Av (d5 hG (d5 hF (d5 hr (d5 bj (d5 bf (d5 hm ht))))));have ae:=Av aY;have HS:=Av hS;obtain⟨bR,bS⟩:=bQ;clear hG hF hr bj bf hm ht aY hl bT q1 hS;generalize hn:r.a8.length=n at HS hh br⊢;have HN:=Av hn;clear hn;have ce:(h:Int)<(n:Int):=oM;have E0:Ae (Ko y w (Ac w (Ak #[h,Z B l.back D,Z G l.a8 N] 92)) CB v n gC cC gS cS h B D G N l I C):=⟨AA.new _ _ _,HS.a7 (Aq _ _),DB.of (Aq _ _),Ar ae lR (Aq _ _)⟩;go_enter func123,ntmps123;go_upto_region 1 with fail
 refine Ax (λu=>Ae (Ko y w u CB v n gC cC gS cS h B D G N l I C)) E0 ?_;rintro U HE;clear E0;obtain⟨l0,l1,l2⟩:=B9 HE.lb;go_wp2_with fail;have aA:=Av (H.2.1.a7 HE.ej);rw[HN]at aA;refine(G8 y CB v n gC cC gS cS I C E R pl h ⟨B,l.back,D⟩ G N l.a8 U br HE.co aA hh bp (Rd.a7 H.2.2.1.2 HE.ej lR) (by rw[<-HN];exact H.2.2.2.1)).mono ?_;rintro e V ⟨gL,L,small,rfl,hL,aW,T⟩;have aG:=Av aW;have E1:=Av (HE.a7 T);have HL:=Av hL;clear hL aW T HE l0 l1 l2 aA;cases small
 case false=>
  have ah:Ae (∃(b:Bool) (I':List Nat) (C':List Int),Ending.returned false=Al b/\CD V y CB v n gC cC gS cS I' C'/\DB (Cg gC gS) w V/\Ah y y V/\Xu E n r.a8 l I C h pl t.init b I' C'):=⟨false,I,C,rfl,E1.co,E1.ch,E1.ej,L,false,aG, λ_=>rfl, λh=>(by cases h)⟩
  go_wp2_with fail;go_ret;exact ah
 have aU:Ae (∀u,Ah V V u->∀c,c<n->u ⟨gL,c,M⟩=K ↑(cf L c)):= λu hu c hc=>Au hu ((HL.o rfl).1 c hc)
 have aT:=Av ((HL.o rfl).2);clear HL;go_upto_region 4 with fail
 go_cut [7] (λs wx=>∃KB:Nat,s=.pointer KB/\Ae (Ko y w wx CB v n gC cC gS cS h B D G N l I C/\AA wx KB #[t.func,t.head,t.hQ,Ag .u32 t.init] 96/\Ah V V wx))
 case first=>
  have x:Ae (Ko y w V.drew CB v n gC cC gS cS h B D G N l I C/\Ah V V V.drew):=⟨E1.a7 (At _),At _⟩
  have W:∀d,Ko y w d CB v n gC cC gS cS h B D G N l I C->d.cell? CB=K (Z v.r.a v.r.n v.r.c)/\d.cell? ⟨CB,1,M⟩=K (Z v.k.a v.k.n v.k.c)/\d.cell? ⟨CB,2,M⟩=K (Z v.f.a v.f.n v.f.c)/\d.cell? ⟨CB,3,M⟩=K (Z v.t.a v.t.n v.t.c)/\d.cell? ⟨CB,4,M⟩=K (Z v.p.a v.p.n v.p.c)/\d.cell? ⟨CB,5,M⟩=K ↑v.rs/\d.cell? ⟨CB,6,M⟩=K (Z v.l.a v.l.n v.l.c)/\d.cell? ⟨CB,7,M⟩=K (Z v.c.a v.c.n v.c.c)/\d.cell? ⟨CB,8,M⟩=K ↑v.nu/\d.cell? ⟨CB,9,M⟩=K ↑v.co/\d.cell? ⟨CB,10,M⟩=K ↑v.at_/\d.cell? ⟨CB,11,M⟩=K (Z v.b.a v.b.n v.b.c)/\d.cell? ⟨CB,12,M⟩=K (Z v.o.a v.o.n v.o.c)/\d.cell? ⟨CB,13,M⟩=K (Z v.i.a v.i.n v.i.c)/\d.cell? ⟨CB,14,M⟩=K (Z v.q.a v.q.n v.q.c)/\d.cell? w=K ↑h/\d.cell? ⟨w,1,M⟩=K (Z B l.back D)/\d.cell? ⟨w,2,M⟩=K (Z G l.a8 N):= λd E=>by obtain⟨p0,p1,p2,p3,p4,p5,p6,p7,p8,p9,aJ,aM,aP,aQ,aR⟩:=XA E.co.ie;obtain⟨l0,l1,l2⟩:=B9 E.lb;exact⟨p0,p1,p2,p3,p4,p5,p6,p7,p8,p9,aJ,aM,aP,aQ,aR,l0,l1,l2⟩
  have aw:Ae (∀u,Ah y y u->Ai Ap 146 #[Am v.cells,Am #[h,Z B l.back D,Z G l.a8 N]] u λe d=>(∃b,e=Al (Ao #[Am #[t.func,t.head,t.hQ,Ag .u32 t.init],b]))/\Ah u u d):= λu hu=>by
   have hk:=H.1.a7 hu;refine(Lv v ⟨B,l.back,D⟩ ⟨G,l.a8,N⟩ p.e8 F h m u (lQ hk.bs.len oM) hk.bs.rd (by rw[hk.eb];exact H.2.2.2.2.2.1) hk.tn hk.tr).mono ?_;rintro e d ⟨⟨t',b,rfl,q1,q2⟩,T⟩;rw[hk.nu,H.2.2.2.2.2.2]at q1 q2;cases b
   . cases q2 rfl
   (cases q1 rfl);exact⟨⟨true,rfl⟩,T⟩
  refine wp_region_held_drew (S:= λd=>d.cell? CB=K (Z v.r.a v.r.n v.r.c)/\d.cell? ⟨CB,1,M⟩=K (Z v.k.a v.k.n v.k.c)/\d.cell? ⟨CB,2,M⟩=K (Z v.f.a v.f.n v.f.c)/\d.cell? ⟨CB,3,M⟩=K (Z v.t.a v.t.n v.t.c)/\d.cell? ⟨CB,4,M⟩=K (Z v.p.a v.p.n v.p.c)/\d.cell? ⟨CB,5,M⟩=K ↑v.rs/\d.cell? ⟨CB,6,M⟩=K (Z v.l.a v.l.n v.l.c)/\d.cell? ⟨CB,7,M⟩=K (Z v.c.a v.c.n v.c.c)/\d.cell? ⟨CB,8,M⟩=K ↑v.nu/\d.cell? ⟨CB,9,M⟩=K ↑v.co/\d.cell? ⟨CB,10,M⟩=K ↑v.at_/\d.cell? ⟨CB,11,M⟩=K (Z v.b.a v.b.n v.b.c)/\d.cell? ⟨CB,12,M⟩=K (Z v.o.a v.o.n v.o.c)/\d.cell? ⟨CB,13,M⟩=K (Z v.i.a v.i.n v.i.c)/\d.cell? ⟨CB,14,M⟩=K (Z v.q.a v.q.n v.q.c)/\d.cell? w=K ↑h/\d.cell? ⟨w,1,M⟩=K (Z B l.back D)/\d.cell? ⟨w,2,M⟩=K (Z G l.a8 N)) kR (W _ x.1) (λP=> ?_)
  clear E1;generalize V.drew=U2 at x P⊢;unfold B2.cells at aw;refine AH 0 ?_ (hw:=kR);refine AH 1 ?_ (hw:=kR);refine AH 2 ?_ (hw:=kR);refine AH 3 ?_ (hw:=kR);refine AH 4 ?_ (hw:=kR);refine wpAnyH_ready (rs:=[5,9]) kR sP ?_;refine AllReadyH.cons rfl ?_ (AllReadyH.cons rfl ?_ AllReadyH.nil)
  . intro O A;rw[lZ kR];go_simp;refine(aw.o U2 x.1.ej).mono ?_;rintro e u3 ⟨⟨b,rfl⟩,T⟩;have E3:=Av (d5 (x.1.a7 T) (Ar x.2 lR T));clear T;go_simp;refine A.o _ _ (W _ E3.1) (λP=> ?_);clear A O;refine AH 6 ?_ (hw:=kR);refine AH 7 ?_ (hw:=kR);refine AH 8 ?_ (hw:=kR);refine CX 9 ?_;intro O A;rw[lZ kR];go_simp;refine A.o _ _ (W _ (E3.1.a7 (Aq _ _))) (λP=> ?_);clear A O;refine CX 10 ?_;intro O A;rw[lZ kR];go_simp;refine A.o _ _ (W _ (E3.1.a7 (Aq _ _))) (λP=> ?_);clear A O;refine AH 11 ?_ (hw:=kR);refine wpAnyH_done kR ?_ _;go_wp2_with fail;go_meet;exact⟨u3,rfl,E3.1.a7 (Aq _ _),AA.new _ _ _,Ar E3.2 lR (Aq _ _)⟩
  intro O A;rw[lZ kR];go_simp;refine A.o _ _ (W _ (x.1.a7 (Aq _ _))) (λP=> ?_);clear A O;refine CX 5 ?_;intro O A;rw[lZ kR];go_simp;refine(aw.o _ (x.1.a7 (Aq _ _)).ej).mono ?_;rintro e u3 ⟨⟨b,rfl⟩,T⟩;have E3:Ae (Ko y w u3 CB v n gC cC gS cS h B D G N l I C/\Ah V V u3):=⟨(x.1.a7 (Aq _ _)).a7 T,Ar x.2 lR (Ar (Aq _ _) lR T)⟩
  have BZ:Ae (AA u3 U2 #[iZ 0,iZ 0,iZ 0,Ag .u32 0] 96):=(AA.new _ _ _).a7 T;have ao:=Av x.2.size;have am:=Av x.1.lb.lt;clear T;go_simp;refine A.o _ _ (W _ E3.1) (λP=> ?_);clear A O;refine AH 6 ?_ (hw:=kR);refine AH 7 ?_ (hw:=kR);refine AH 8 ?_ (hw:=kR);refine CX 10 ?_;intro O A;rw[lZ kR];have bC:=BZ.cell 0;have bF:=BZ.cell 1;have bG:=BZ.cell 2;have bH:=BZ.cell 3;have bJ:=BZ.frozen 0;have bK:=BZ.frozen 1;have bL:=BZ.frozen 2;have bP:=BZ.frozen 3;generalize bV:U2.heap.size=KB at BZ bC bF bG bH bJ bK bL bP ao am⊢;have X:Ae (Ko y w (Aa (Aa (Aa (u3.setCell KB t.func) ⟨KB,1,M⟩ t.head) ⟨KB,2,M⟩ t.hQ) ⟨KB,3,M⟩ (Ag .u32 t.init)) CB v n gC cC gS cS h B D G N l I C/\Ah V V (Aa (Aa (Aa (u3.setCell KB t.func) ⟨KB,1,M⟩ t.head) ⟨KB,2,M⟩ t.hQ) ⟨KB,3,M⟩ (Ag .u32 t.init))):=⟨(((E3.1.jK am.o ae.size BZ.o 0 _).jK am.o ae.size (BZ.set 0 _) 1 _).jK am.o ae.size ((BZ.set 0 _).set 1 _) 2 _).jK am.o ae.size (((BZ.set 0 _).set 1 _).set 2 _) 3 _,(((E3.2.setCell ao.o _).setCell ao.o _).setCell ao.o _).setCell ao.o _⟩
  have B5:=Av ((((BZ.set 0 t.func).set 1 t.head).set 2 t.hQ).set 3 (Ag .u32 t.init));simp only[lM,lU,lX]at B5;go_simp;refine A.o _ _ (W _ X.1) (λP=> ?_);clear A O;refine AH 11 ?_ (hw:=kR);refine wpAnyH_done kR ?_ _;go_wp2_with fail;go_meet;exact⟨KB,rfl,X.1,B5,X.2⟩
 case rest=>
 obtain⟨KB,rfl,E4⟩:=hcut;clear E1;go_upto_region 5 with fail
 have x:=Av (d5 (E4.1.a7 (At _)) (d5 (E4.2.1.a7 (At _)) (Ar E4.2.2 lR (At _))));clear E4;have W:∀d,Ko y w d CB v n gC cC gS cS h B D G N l I C->d.cell? CB=K (Z v.r.a v.r.n v.r.c)/\d.cell? ⟨CB,1,M⟩=K (Z v.k.a v.k.n v.k.c)/\d.cell? ⟨CB,2,M⟩=K (Z v.f.a v.f.n v.f.c)/\d.cell? ⟨CB,3,M⟩=K (Z v.t.a v.t.n v.t.c)/\d.cell? ⟨CB,4,M⟩=K (Z v.p.a v.p.n v.p.c)/\d.cell? ⟨CB,5,M⟩=K ↑v.rs/\d.cell? ⟨CB,6,M⟩=K (Z v.l.a v.l.n v.l.c)/\d.cell? ⟨CB,7,M⟩=K (Z v.c.a v.c.n v.c.c)/\d.cell? ⟨CB,8,M⟩=K ↑v.nu/\d.cell? ⟨CB,9,M⟩=K ↑v.co/\d.cell? ⟨CB,10,M⟩=K ↑v.at_/\d.cell? ⟨CB,11,M⟩=K (Z v.b.a v.b.n v.b.c)/\d.cell? ⟨CB,12,M⟩=K (Z v.o.a v.o.n v.o.c)/\d.cell? ⟨CB,13,M⟩=K (Z v.i.a v.i.n v.i.c)/\d.cell? ⟨CB,14,M⟩=K (Z v.q.a v.q.n v.q.c)/\d.cell? w=K ↑h/\d.cell? ⟨w,1,M⟩=K (Z B l.back D)/\d.cell? ⟨w,2,M⟩=K (Z G l.a8 N):= λd E=>by obtain⟨p0,p1,p2,p3,p4,p5,p6,p7,p8,p9,aJ,aM,aP,aQ,aR⟩:=XA E.co.ie;obtain⟨l0,l1,l2⟩:=B9 E.lb;exact⟨p0,p1,p2,p3,p4,p5,p6,p7,p8,p9,aJ,aM,aP,aQ,aR,l0,l1,l2⟩
 have aj:Ae (∀u,Ko y w u CB v n gC cC gS cS h B D G N l I C->Ah V V u->RwS u n gS gL I L/\u ⟨CB,16,M⟩=K (sG gS n cS)):= λu E hb=>⟨⟨λb hb=>E.co.km hb, λc hc=>aU.o u hb c hc⟩,E.co.cells.2.2.2⟩
 have aF:Ae (∀u,Ah y y u->Ai Ap 159 #[Am v.cells,Am #[h,Z B l.back D,Z G l.a8 N]] u λe d=>∃(a:Option Addr) (c:Nat) (ps:List Int),e=Al (Z a ps c)/\Rd d 1 (Z a ps c) ps (Ad As ps)/\(∀z,z∈ps↔z∈l.a8/\RB r.a8 l.a8 z.toNat)/\ps.length<=1024/\Ah u u d):= λu hu=>by have hk:=H.1.a7 hu;have:=Qq v F xs h ⟨B,l.back,D⟩ G N l.a8 u hk.bs hk.nx bp (Rd.a7 H.2.2.1.2 hu lR) (by rw[hk.fl];exact H.2.2.2.1);rw[hk.eb]at this;exact this
 refine wp_region_held_drew (S:= λd=>d.cell? CB=K (Z v.r.a v.r.n v.r.c)/\d.cell? ⟨CB,1,M⟩=K (Z v.k.a v.k.n v.k.c)/\d.cell? ⟨CB,2,M⟩=K (Z v.f.a v.f.n v.f.c)/\d.cell? ⟨CB,3,M⟩=K (Z v.t.a v.t.n v.t.c)/\d.cell? ⟨CB,4,M⟩=K (Z v.p.a v.p.n v.p.c)/\d.cell? ⟨CB,5,M⟩=K ↑v.rs/\d.cell? ⟨CB,6,M⟩=K (Z v.l.a v.l.n v.l.c)/\d.cell? ⟨CB,7,M⟩=K (Z v.c.a v.c.n v.c.c)/\d.cell? ⟨CB,8,M⟩=K ↑v.nu/\d.cell? ⟨CB,9,M⟩=K ↑v.co/\d.cell? ⟨CB,10,M⟩=K ↑v.at_/\d.cell? ⟨CB,11,M⟩=K (Z v.b.a v.b.n v.b.c)/\d.cell? ⟨CB,12,M⟩=K (Z v.o.a v.o.n v.o.c)/\d.cell? ⟨CB,13,M⟩=K (Z v.i.a v.i.n v.i.c)/\d.cell? ⟨CB,14,M⟩=K (Z v.q.a v.q.n v.q.c)/\d.cell? w=K ↑h/\d.cell? ⟨w,1,M⟩=K (Z B l.back D)/\d.cell? ⟨w,2,M⟩=K (Z G l.a8 N)) kR (W _ x.1) (λP=> ?_)
 generalize wc.drew=U2 at x P⊢;unfold B2.cells at aF;refine AH 0 ?_ (hw:=kR);refine AH 1 ?_ (hw:=kR);refine AH 2 ?_ (hw:=kR);refine AH 3 ?_ (hw:=kR);refine AH 5 ?_ (hw:=kR);refine AH 6 ?_ (hw:=kR);refine AH 7 ?_ (hw:=kR);refine AH 8 ?_ (hw:=kR);refine AH 9 ?_ (hw:=kR);refine AH 10 ?_ (hw:=kR);refine AH 11 ?_ (hw:=kR);refine CX 4 ?_;intro O A;rw[lZ kR];go_simp;refine(Hl CB n gS cS gL n I L B D l.back U2 oM (aj.o U2 x.1 x.2.2).2 (aj.o U2 x.1 x.2.2).1 oM (Rd.a7 H.2.2.1.1 x.1.ej lR) (by rw[<-HN];exact H.2.2.2.2.1)).mono ?_;rintro e u3 ⟨Q,rfl,rfl,aX⟩;have aq:=Av aX;clear aX;go_simp;refine A.o _ _ (W _ x.1) (λP=> ?_);clear A O;refine CX 12 ?_;intro O A;rw[lZ kR];go_simp;refine(aF.o u3 x.1.ej).mono ?_;rintro e u4 ⟨pa,pc,ps,rfl,bx,bu,cj,T⟩;have HP:=Av (d5 bx bu);have X:=Av (d5 (x.1.a7 T) (d5 (x.2.1.a7 T) (Ar x.2.2 lR T)));clear bx bu T;go_simp;refine A.o _ _ (W _ X.1) (λP=> ?_);clear A O x;refine CX 13 ?_;intro O A;rw[lZ kR];go_simp;refine(Hl CB n gS cS gL n I L pa pc ps u4 oM (aj.o u4 X.1 X.2.2).2 (aj.o u4 X.1 X.2.2).1 oM HP.1 (λz hz=>by rw[<-HN];exact H.2.2.2.1 z ((HP.2 z).1 hz).1)).mono ?_;rintro e u5 ⟨ou,rfl,rfl,bt⟩;have au:=Av (bt.iff λb=>by rw[HP.2,lD]);clear bt;go_simp;refine A.o _ _ (W _ X.1) (λP=> ?_);clear A O;refine AH 14 ?_ (hw:=kR);refine AH 15 ?_ (hw:=kR);refine wpAnyH_done kR ?_ _;clear P W aj aF aU HP;have a1:=aq.nn;have a2:Q<=4294967295:=aq.le oM λb _=>(GR aT _).2
 have o1:=au.nn;have o2:ou<=4294967295:=au.le oM λb _=>(GR aT _).2
 have m1:0<=t.init*Q:=Int.mul_nonneg bR a1;have m2:t.init*Q<=4294967295*4294967295:=Int.mul_le_mul bS a2 a1 oM;have w1:IntKind.u64.wrap t.init=t.init:=by simp[IntKind.wrap,IntKind.bits,IntKind.signed];omega
 have w2:IntKind.u64.wrap Q=Q:=by simp[IntKind.wrap,IntKind.bits,IntKind.signed];omega
 have w3:IntKind.u64.wrap ou=ou:=by simp[IntKind.wrap,IntKind.bits,IntKind.signed];omega
 have w4:IntKind.u64.wrap (t.init*Q)=t.init*Q:=by generalize t.init*Q=q at m1 m2⊢;simp[IntKind.wrap,IntKind.bits,IntKind.signed];omega
 have w5:IntKind.u64.wrap (t.init*Q+ou)=t.init*Q+ou:=by generalize t.init*Q=q at m1 m2⊢;simp[IntKind.wrap,IntKind.bits,IntKind.signed];omega
 obtain⟨k0,k1,k2,k3⟩:=A7 X.2.1;by_cases aZ:t.init*Q+ou>4294967295;case pos=>
  have ah:Ae (∃(b:Bool) (I':List Nat) (C':List Int),Ending.returned false=Al b/\CD u5 y CB v n gC cC gS cS I' C'/\DB (Cg gC gS) w u5/\Ah y y u5/\Xu E n r.a8 l I C h pl t.init b I' C'):=⟨false,I,C,rfl,X.1.co,X.1.ch,X.1.ej,L,true,aG, λ_=>rfl, λ_=>⟨Q,ou,aq,au, λ_=>rfl, λh=>absurd aZ oM⟩⟩
  go_wp2_with fail;go_ret;exact ah
 go_upto_region 9 with fail
 have bg:EP (t.init*Q+ou):=⟨oM,oM⟩;have w6:IntKind.i64.wrap (t.init*Q+ou)=t.init*Q+ou:=oC _ ⟨oM,oM⟩;have x:=Av (X.1.a7 (At _));clear k0 k1 k2 k3 w1 w2 w3 w4 w5 X;have W:∀I' C' d,Ko y w d CB v n gC cC gS cS h B D G N l I' C'->d.cell? w=K ↑h/\d.cell? ⟨CB,15,M⟩=K (sG gC n cC)/\d.cell? ⟨CB,16,M⟩=K (sG gS n cS):= λI' C' d E=>⟨(B9 E.lb).1,E.co.cells.2.2.1,E.co.cells.2.2.2⟩
 have aE:=Av W;refine wp_region_held_drew (S:= λd=>d.cell? w=K ↑h/\d.cell? ⟨CB,15,M⟩=K (sG gC n cC)/\d.cell? ⟨CB,16,M⟩=K (sG gS n cS)) kR (W _ _ _ x) (λP=> ?_)
 clear W;generalize u5.drew=U6 at x P⊢;generalize bi:t.init*Q+ou=co at aZ bg w6⊢;have aS:=Av bi;clear bi m1 m2;refine AH 0 ?_ (hw:=kR);refine AH 1 ?_ (hw:=kR);refine AH 2 ?_ (hw:=kR);refine AH 3 ?_ (hw:=kR);refine AH 4 ?_ (hw:=kR);refine AH 5 ?_ (hw:=kR);refine AH 6 ?_ (hw:=kR);refine AH 7 ?_ (hw:=kR);refine AH 8 ?_ (hw:=kR);go_simp;refine CX 9 ?_;intro O A;rw[lZ kR];have c0:=x.co.kY hh;have z0:=(x.co.frz h).1;have E6:=Av (x.iI h bg);go_simp;refine A.o _ _ (aE.o _ _ _ E6) (λP=> ?_);clear A O;refine wpAnyH_done kR ?_ _;clear P c0 z0 x;generalize Aa U6 ⟨gC,h,M⟩ co=U7 at E6⊢;obtain⟨l0,l1,l2⟩:=B9 E6.lb;go_wp2_with fail;clear l0 l1 l2;go_loopw [68] (λi wr=>∃(k:Nat) (I2:List Nat),k<= ↑l.a8/\i=iZ k/\Ae (Ko y w wr CB v n gC cC gS cS h B D G N l I2 (C.set h co)/\∀j,jf I2 j=if j∈(l.a8.take k).map Int.toNat then h else jf I j)) (λi _=> ↑l.a8-(intOf i).toNat)
 case atStart=>exact⟨0,I,oM,rfl,E6, λj=>sP⟩
 case round=>
 clear E6;obtain⟨k,I2,hk,rfl,HE⟩:=hrel;by_cases bq:k< ↑l.a8
 case neg=>
  have ah:Ae (∃(b:Bool) (I':List Nat) (C':List Int),Ending.returned true=Al b/\CD wr y CB v n gC cC gS cS I' C'/\DB (Cg gC gS) w wr/\Ah y y wr/\Xu E n r.a8 l I C h pl t.init b I' C'):=⟨true,I2,C.set h co,rfl,HE.1.co,HE.1.ch,HE.1.ej,L,true,aG,(λh=>by cases h), λ_=>⟨Q,ou,aq,au,(λh=>by rw[aS]at h;exact absurd h oM), λ_=>⟨rfl,by rw[aS], λj=>by rw[HE.2 j,mC (show ↑l.a8<=k from oM)]⟩⟩⟩
  go_wp2_with fail;go_ret;exact ah
 have cg:(k:Int)<(l.a8:Int):=oM;obtain⟨b,ez,hb⟩:=H.2.2.2.1 l.a8[k] (nG bq);rw[HN]at hb;have aI:l.a8[k]?=K (b:Int):=by rw[an bq,ez]
 obtain⟨kg,ko,bI,e0⟩:∃g o,G=K ⟨g,o,M⟩/\wr ⟨g,o+k,M⟩=K ↑b:=by
  rcases(Rd.a7 H.2.2.1.2 HE.1.ej lR).2 with⟨q,_⟩|⟨g,o,c',e1,hc⟩
  . simp only[]at q;omega
  simp only[lB,mB]at e1;exact⟨g,o,e1.1,hc k _ (Di aI)⟩
 subst bI;have bB:=Av aI;have bY:(b:Int)<(n:Int):=oM;clear ez aI;go_upto_region 13 with fail
 have x:=Av (HE.1.a7 (At _));refine wp_region_held_drew (S:= λd=>d.cell? w=K ↑h/\d.cell? ⟨CB,15,M⟩=K (sG gC n cC)/\d.cell? ⟨CB,16,M⟩=K (sG gS n cS)) kR (aE.o _ _ _ x) (λP=> ?_)
 clear e0;generalize wr.drew=U8 at x P⊢;refine AH 0 ?_ (hw:=kR);refine AH 1 ?_ (hw:=kR);refine AH 2 ?_ (hw:=kR);refine AH 3 ?_ (hw:=kR);refine AH 4 ?_ (hw:=kR);refine AH 5 ?_ (hw:=kR);refine AH 6 ?_ (hw:=kR);refine AH 7 ?_ (hw:=kR);go_simp;refine CX 8 ?_;intro O A;rw[lZ kR];have c0:=(x.co.km hb).1;have z0:=(x.co.frz b).2;have E8:Ae (Ko y w (Aa U8 ⟨gS,b,M⟩ h) CB v n gC cC gS cS h B D (K ⟨kg,ko,M⟩) N l (I2.set b h) (C.set h co)/\∀j,jf (I2.set b h) j=if j∈(l.a8.take (k+1)).map Int.toNat then h else jf I j):=⟨x.iO b hh, λj=>by
  have aH:j∈(l.a8.take (k+1)).map Int.toNat↔j∈(l.a8.take k).map Int.toNat\/j=b:=by rw[List.take_add_one,bB.o,m9,lT];simp
  rw[WU (by rw[x.co.li];exact hb),HE.2 j];by_cases e:j=b
  . rw[lZ e,lZ (aH.2 (.inr e))]
  rw[lS e];by_cases e2:j∈(l.a8.take k).map Int.toNat
  . rw[lZ e2,lZ (aH.2 (.inl e2))]
  rw[lS e2,lS (λq=>(aH.1 q).elim e2 e)]⟩
 go_simp;refine A.o _ _ (aE.o _ _ _ E8.1) (λP=> ?_);clear A O;refine wpAnyH_done kR ?_ _;clear P c0 z0 x HE;generalize Aa U8 ⟨gS,b,M⟩ h=U9 at E8⊢;go_wp2_with fail;go_roundw;case rel=>exact⟨k+1,_,oM,by go_num,E8⟩
 exact oI
end Go.Proofs.YtadcneiiokbofaaGreat
