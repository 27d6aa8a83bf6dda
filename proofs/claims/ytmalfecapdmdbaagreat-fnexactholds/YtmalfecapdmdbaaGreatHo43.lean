import Derived.Test.YtmalfecapdmdbaaGreatHo42
import Derived.Deep.CutBlock
namespace Go.Proofs.YtmalfecapdmdbaaGreat
open Go.ChangeShapes Go.WideShapes Go.ChangeAt Go.RowKit Go.Proofs.Tryz
set_option linter.unusedVariables false
open Go.Value renaming slice → Z,int → Ag,agg → Am,tuple → Ao,bool → An
open Option renaming some → K,none → M
open Go renaming Value → J,World → Y,Calls → Ai,TypeId → Aj
open Go.RowKit renaming Hid → Ae,Below → Ah
open Go.Obj renaming cells → Ak
open Go.Ending renaming returned → Al
open Go.Proofs.Tryz renaming prog → Ap
open Go.World renaming setCell → Aa,alloc → Ac
open List renaming flatMap → Ad
open Go.IntKind renaming i64 → Af
set_option maxHeartbeats 16000000
set_option maxRecDepth 100000
variable {b c y g j S:Nat}{t:Aj}{f:MF}{l:ML}{e:Option Addr}{p:MP}{x:MI}{V:J}{w:Y}{a:List Int}
theorem Wu{u:Y}{v:BI}{c s:J}(H:AC u b (Ja v c s) t):u b=K (Z v.r.a v.r.n v.r.c)/\u ⟨b,1,M⟩=K (Z v.k.a v.k.n v.k.c)/\u ⟨b,2,M⟩=K (Z v.f.a v.f.n v.f.c)/\u ⟨b,3,M⟩=K (Z v.t.a v.t.n v.t.c)/\u ⟨b,4,M⟩=K (Z v.p.a v.p.n v.p.c)/\u ⟨b,5,M⟩=K ↑v.rs/\u ⟨b,6,M⟩=K (Z v.l.a v.l.n v.l.c)/\u ⟨b,7,M⟩=K (Z v.c.a v.c.n v.c.c)/\u ⟨b,8,M⟩=K ↑v.nu/\u ⟨b,9,M⟩=K ↑v.co/\u ⟨b,10,M⟩=K ↑v.at_/\u ⟨b,11,M⟩=K (Z v.b.a v.b.n v.b.c)/\u ⟨b,12,M⟩=K (Z v.o.a v.o.n v.o.c)/\u ⟨b,13,M⟩=K (Z v.i.a v.i.n v.i.c)/\u ⟨b,14,M⟩=K (Z v.q.a v.q.n v.q.c):=by unfold Ja at H;exact⟨H.cell 0,H.cell 1,H.cell 2,H.cell 3,H.cell 4,H.cell 5,H.cell 6,H.cell 7,H.cell 8,H.cell 9,H.cell 10,H.cell 11,H.cell 12,H.cell 13,H.cell 14⟩
def Cg(gC gS k:Nat):Prop:=k=gC\/k=gS
section
variable {u:Y} {B CB:Nat} {v:BI} {n gC cC gS cS:Nat} {I:List Nat} {C:List Int}
theorem CC.jB(h:CC u B CB v n gC cC gS cS I C):CB≠gC/\CB≠gS:=by
 obtain⟨_,c1,b⟩:=AD h.co;obtain⟨_,c2,c⟩:=AD h.st;have a:=h.gK;unfold AC at a;constructor
 . intro e;rw[<-e,a]at b;cases b
 intro e;rw[<-e,a]at c;cases c
theorem CC.lo(h:CC u B CB v n gC cC gS cS I C):B<=gC/\B<=gS:=⟨(AD h.co).1,(AD h.st).1⟩
theorem CC.iD(h:CC u B CB v n gC cC gS cS I C)(k:Nat){y:Int}(c:Ew y):CC (Aa u ⟨gC,k,M⟩ y) B CB v n gC cC gS cS I (C.set k y):=by have b:=(mI h.co k y).1;rw[Hc]at b;exact{h with gK:=h.gK.other (a:=⟨gC,k,M⟩) h.jB.1 _,co:=b,st:=Bn h.st h.ne.symm,lc:=by rw[mG];exact h.lc,cc:=Hi h.cc c}
theorem CC.jK(h:CC u B CB v n gC cC gS cS I C)(k:Nat)(c:y<n):CC (Aa u ⟨gS,k,M⟩ y) B CB v n gC cC gS cS (I.set k y) C:=by have b:=(mI h.st k y).1;rw[Uy]at b;exact{h with gK:=h.gK.other (a:=⟨gS,k,M⟩) h.jB.2 _,st:=b,co:=Bn h.co h.ne,li:=by rw[mG];exact h.li,ii:= λz d=>(nP d).elim (h.ii z) (λe=>by rw[e];exact c)}
theorem CC.frz(h:CC u B CB v n gC cC gS cS I C)(c:Nat):u.frozen? ⟨gC,c,M⟩=false/\u.frozen? ⟨gS,c,M⟩=false:=by obtain⟨_,c1,a⟩:=AD h.co;obtain⟨_,c2,b⟩:=AD h.st;exact⟨frozen_of_row u gC c c1 _ a,frozen_of_row u gS c c2 _ b⟩
end
def Wm(E:Nat->List Nat)(n:Nat)(f:List MB)(l:ML)(I:List Nat)(C:List Int)(h:Nat)(g:Nat->Nat)(iv:Int)(b:Bool)(e:List Nat)(d:List Int):Prop:=∃(L:List Int) (small:Bool),WP E n (λb=>decide ((b:Int)∈l.a8)) I C h g L small/\(small=false->b=false)/\(small=true->∃a c,Ck (λb=>cf L (jf I b)) (λb=>(b:Int)∈l.back) a/\Ck (λb=>cf L (jf I b)) (λb=>(b:Int)∈l.a8/\QR f l.a8 b) c/\(4294967295<iv*a+c->b=false)/\(iv*a+c<=4294967295->b=true/\d=C.set h (iv*a+c)/\∀j,jf e j=if j∈l.a8.map Int.toNat then h else jf I j))
structure JV(w0 w u:Y)(CB:Nat)(v:BI)(n gC cC gS cS h:Nat)(xa:Option Addr)(xc:Nat)(ka:Option Addr)(kc:Nat)(l:ML)(I:List Nat)(C:List Int):Prop where
 lb:AC u w #[h,Z xa l.back xc,Z ka l.a8 kc] 85
 co:CC u w0 CB v n gC cC gS cS I C
 ch:EI (Cg gC gS) w u
 e8:Ah w0 w0 u
theorem JV.a7{e w u d:Y}{CB:Nat}{v:BI}{n gC cC gS cS h:Nat}{f:Option Addr}{b:Option Addr}{I:List Nat}{C:List Int}(H:JV e w u CB v n gC cC gS cS h f g b c l I C)(a:Ah u u d):JV e w d CB v n gC cC gS cS h f g b c l I C:=⟨H.lb.a7 a,H.co.a7 a,H.ch.on a,Ar H.e8 lR a⟩
theorem JV.jW{g w u:Y}{CB:Nat}{v:BI}{n gC cC gS cS h:Nat}{i:Option Addr}{d:Option Addr}{f:Nat}{I:List Nat}{C:List Int}(H:JV g w u CB v n gC cC gS cS h i j d f l I C): ↑w≠gC/\ ↑w≠gS:=by
 obtain⟨_,c1,b⟩:=AD H.co.co;obtain⟨_,c2,c⟩:=AD H.co.st;have a:=H.lb;unfold AC at a;constructor
 . intro e;rw[<-e,a]at b;cases b
 intro e;rw[<-e,a]at c;cases c
theorem JV.iD{d w u:Y}{CB:Nat}{v:BI}{n gC cC gS cS h:Nat}{f:Nat}{b:Option Addr}{I:List Nat}{C:List Int}(H:JV d w u CB v n gC cC gS cS h e f b c l I C)(k:Nat){y:Int}(g:Ew y):JV d w (Aa u ⟨gC,k,M⟩ y) CB v n gC cC gS cS h e f b c l I (C.set k y):=⟨H.lb.other (a:=⟨gC,k,M⟩) H.jW.1 _,H.co.iD k g,H.ch.setCell (.inl (.inl rfl)) _,H.e8.setCell H.co.lo.1 _⟩
theorem JV.jK{d w u:Y}{CB:Nat}{v:BI}{n gC cC gS cS h:Nat}{f:Nat}{b:Option Addr}{I:List Nat}{C:List Int}(H:JV d w u CB v n gC cC gS cS h e f b c l I C)(k:Nat)(g:y<n):JV d w (Aa u ⟨gS,k,M⟩ y) CB v n gC cC gS cS h e f b c l (I.set k y) C:=⟨H.lb.other (a:=⟨gS,k,M⟩) H.jW.2 _,H.co.jK k g,H.ch.setCell (.inl (.inr rfl)) _,H.e8.setCell H.co.lo.2 _⟩
theorem JV.jr{d w u:Y}{CB:Nat}{v:BI}{n gC cC gS cS h:Nat}{q:Option Addr}{r:Nat}{m:Option Addr}{p:Nat}{I:List Nat}{C:List Int}(H:JV d w u CB v n gC cC gS cS h q r m p l I C){s:Array J}{ty:Aj}(D: ↑w<g)(E:(d:Nat)<= ↑w)(t:AC u g s ty)(i:Nat)(z:J)(k:ty≠2:=by decide)(x:ty≠195:=by decide):JV d w (Aa u ⟨g,i,M⟩ z) CB v n gC cC gS cS h q r m p l I C:=by
 obtain⟨F,c1,f⟩:=AD H.co.co;obtain⟨G,c2,j⟩:=AD H.co.st;have c:=H.co.gK;have b:=t;unfold AC at c b;have y:gC≠g:= λe=>by rw[e,b]at f;cases f;exact k rfl
 have A:gS≠g:= λe=>by rw[e,b]at j;cases j;exact k rfl
 have B:CB≠g:= λe=>by rw[e,b]at c;cases c;exact x rfl
 exact⟨H.lb.other (a:=⟨g,i,M⟩) oS _,{H.co with gK:=H.co.gK.other (a:=⟨g,i,M⟩) B _,co:=Bn H.co.co y,st:=Bn H.co.st A},H.ch.setCell (.inr oS) _,H.e8.setCell oS _⟩
theorem VK{I:List Nat}{k:Nat}(a:k< ↑I):jf (I.set k y) j=if j=k then y else jf I j:=by
 unfold jf;rw[kL,kL,List.getElem?_set];by_cases e:j=k
 . subst e;simp[a]
 rw[kP (Ne.symm e),kP e]
theorem Li(y:Y)(CB:Nat)(v:BI)(gC cC gS cS:Nat)(I:List Nat)(C:List Int)(p:MP)(fi:Int)(F:List (MB×J))(xs:List MI)(r:DC)(E:Nat->List Nat)(R:List Nat)(pl:Nat->Nat)(h:Nat)(m:MB)(t:MT)(B:Option Addr)(D:Nat)(G:Option Addr)(N:Nat)(l:ML)(w:Y)(aY:Ah y y w)(hG:SA y v p fi F xs r)(hS:CC w y CB v r.a8 gC cC gS cS I C)(hF:XH y v r.a8 E R pl)(hl:l∈r.gE)(bR:l.head=(h:Int))(b7:∀z∈l.back,∃b:Nat,z=(b:Int)/\b< ↑r.a8)(hr:TP y (l,Z B l.back D,Z G l.a8 N))(hm:r.a8[h]?=K m)(ht:Ce p.eD fi m.gH=K t)(bL:Ew t.init):
 Ai Ap 114 #[.pointer CB,Am #[h,Z B l.back D,Z G l.a8 N]] w λe d=>∃(b:Bool) (I':List Nat) (C':List Int),e=Al b/\CC d y CB v r.a8 gC cC gS cS I' C'/\EI (Cg gC gS) w d/\Ah y y d/\Wm E r.a8 r.a8 l I C h pl t.init b I' C':=by
 obtain⟨⟨h1,q1,hh⟩,bi,bj,bV⟩:=hG.gW.loop l hl;have eh:h=h1:=oM;subst eh;have bp:r.a8.length<=1024:=hG.gW.nb;have H:=Av (d5 hG (d5 hF (d5 hr (d5 bi (d5 b7 (d5 hm ht))))));have ae:=Av aY;have HS:=Av hS;obtain⟨bP,bQ⟩:=bL;clear hG hF hr bi b7 hm ht aY hl bR q1 hS;generalize hn:r.a8.length=n at HS hh bp⊢;have HN:=Av hn;clear hn;have bY:(h:Int)<(n:Int):=oM;have E0:Ae (JV y w (Ac w (Ak #[h,Z B l.back D,Z G l.a8 N] 85)) CB v n gC cC gS cS h B D G N l I C):=⟨AC.new _ _ _,HS.a7 (Aq _ _),EI.of (Aq _ _),Ar ae lR (Aq _ _)⟩;go_enter func114,ntmps114;go_upto_region 1 with fail
 refine Ax (λu=>Ae (JV y w u CB v n gC cC gS cS h B D G N l I C)) E0 ?_;rintro U HE;clear E0;obtain⟨l0,l1,l2⟩:=Cl HE.lb;go_wp2_with fail;have aA:=Av (H.2.1.a7 HE.e8);rw[HN]at aA;refine(GJ y CB v n gC cC gS cS I C E R pl h ⟨B,l.back,D⟩ G N l.a8 U bp HE.co aA hh bj (Rd.a7 H.2.2.1.2 HE.e8 lR) (by rw[<-HN];exact H.2.2.2.1)).mono ?_;rintro e V ⟨gL,L,small,rfl,hL,aW,T⟩;have aG:=Av aW;have E1:=Av (HE.a7 T);have HL:=Av hL;clear hL aW T HE l0 l1 l2 aA;cases small
 case false=>
  have ah:Ae (∃(b:Bool) (I':List Nat) (C':List Int),Ending.returned false=Al b/\CC V y CB v n gC cC gS cS I' C'/\EI (Cg gC gS) w V/\Ah y y V/\Wm E n r.a8 l I C h pl t.init b I' C'):=⟨false,I,C,rfl,E1.co,E1.ch,E1.e8,L,false,aG, λ_=>rfl, λh=>(by cases h)⟩
  go_wp2_with fail;go_ret;exact ah
 have aU:Ae (∀u,Ah V V u->∀c,c<n->u ⟨gL,c,M⟩=K ↑(cf L c)):= λu hu c hc=>Au hu ((HL.o rfl).1 c hc)
 have aT:=Av ((HL.o rfl).2);clear HL;go_upto_region 4 with fail
 go_cut [7] (λs wx=>∃KB:Nat,s=.pointer KB/\Ae (JV y w wx CB v n gC cC gS cS h B D G N l I C/\AC wx KB #[t.func,t.head,t.gI,Ag .u32 t.init] 88/\Ah V V wx))
 case first=>
  have x:Ae (JV y w V.drew CB v n gC cC gS cS h B D G N l I C/\Ah V V V.drew):=⟨E1.a7 (At _),At _⟩
  have W:∀d,JV y w d CB v n gC cC gS cS h B D G N l I C->d.cell? CB=K (Z v.r.a v.r.n v.r.c)/\d.cell? ⟨CB,1,M⟩=K (Z v.k.a v.k.n v.k.c)/\d.cell? ⟨CB,2,M⟩=K (Z v.f.a v.f.n v.f.c)/\d.cell? ⟨CB,3,M⟩=K (Z v.t.a v.t.n v.t.c)/\d.cell? ⟨CB,4,M⟩=K (Z v.p.a v.p.n v.p.c)/\d.cell? ⟨CB,5,M⟩=K ↑v.rs/\d.cell? ⟨CB,6,M⟩=K (Z v.l.a v.l.n v.l.c)/\d.cell? ⟨CB,7,M⟩=K (Z v.c.a v.c.n v.c.c)/\d.cell? ⟨CB,8,M⟩=K ↑v.nu/\d.cell? ⟨CB,9,M⟩=K ↑v.co/\d.cell? ⟨CB,10,M⟩=K ↑v.at_/\d.cell? ⟨CB,11,M⟩=K (Z v.b.a v.b.n v.b.c)/\d.cell? ⟨CB,12,M⟩=K (Z v.o.a v.o.n v.o.c)/\d.cell? ⟨CB,13,M⟩=K (Z v.i.a v.i.n v.i.c)/\d.cell? ⟨CB,14,M⟩=K (Z v.q.a v.q.n v.q.c)/\d.cell? w=K ↑h/\d.cell? ⟨w,1,M⟩=K (Z B l.back D)/\d.cell? ⟨w,2,M⟩=K (Z G l.a8 N):= λd E=>by obtain⟨p0,p1,p2,p3,p4,p5,p6,p7,p8,p9,aJ,aM,aP,aQ,aR⟩:=Wu E.co.gK;obtain⟨l0,l1,l2⟩:=Cl E.lb;exact⟨p0,p1,p2,p3,p4,p5,p6,p7,p8,p9,aJ,aM,aP,aQ,aR,l0,l1,l2⟩
  have aw:Ae (∀u,Ah y y u->Ai Ap 137 #[Am v.cells,Am #[h,Z B l.back D,Z G l.a8 N]] u λe d=>(∃b,e=Al (Ao #[Am #[t.func,t.head,t.gI,Ag .u32 t.init],b]))/\Ah u u d):= λu hu=>by
   have hk:=H.1.a7 hu;refine(K2 v ⟨B,l.back,D⟩ ⟨G,l.a8,N⟩ p.eD F h m u (kV hk.bs.len oM) hk.bs.rd (by rw[hk.eb];exact H.2.2.2.2.2.1) hk.tn hk.tr).mono ?_;rintro e d ⟨⟨t',b,rfl,q1,q2⟩,T⟩;rw[hk.nu,H.2.2.2.2.2.2]at q1 q2;cases b
   . cases q2 rfl
   (cases q1 rfl);exact⟨⟨true,rfl⟩,T⟩
  refine wp_region_held_drew (S:= λd=>d.cell? CB=K (Z v.r.a v.r.n v.r.c)/\d.cell? ⟨CB,1,M⟩=K (Z v.k.a v.k.n v.k.c)/\d.cell? ⟨CB,2,M⟩=K (Z v.f.a v.f.n v.f.c)/\d.cell? ⟨CB,3,M⟩=K (Z v.t.a v.t.n v.t.c)/\d.cell? ⟨CB,4,M⟩=K (Z v.p.a v.p.n v.p.c)/\d.cell? ⟨CB,5,M⟩=K ↑v.rs/\d.cell? ⟨CB,6,M⟩=K (Z v.l.a v.l.n v.l.c)/\d.cell? ⟨CB,7,M⟩=K (Z v.c.a v.c.n v.c.c)/\d.cell? ⟨CB,8,M⟩=K ↑v.nu/\d.cell? ⟨CB,9,M⟩=K ↑v.co/\d.cell? ⟨CB,10,M⟩=K ↑v.at_/\d.cell? ⟨CB,11,M⟩=K (Z v.b.a v.b.n v.b.c)/\d.cell? ⟨CB,12,M⟩=K (Z v.o.a v.o.n v.o.c)/\d.cell? ⟨CB,13,M⟩=K (Z v.i.a v.i.n v.i.c)/\d.cell? ⟨CB,14,M⟩=K (Z v.q.a v.q.n v.q.c)/\d.cell? w=K ↑h/\d.cell? ⟨w,1,M⟩=K (Z B l.back D)/\d.cell? ⟨w,2,M⟩=K (Z G l.a8 N)) kR (W _ x.1) (λP=> ?_)
  clear E1;generalize V.drew=U2 at x P⊢;unfold BI.cells at aw;refine AK 0 ?_ (hw:=kR);refine AK 1 ?_ (hw:=kR);refine AK 2 ?_ (hw:=kR);refine AK 3 ?_ (hw:=kR);refine AK 4 ?_ (hw:=kR);refine wpAnyH_ready (rs:=[5,9]) kR sP ?_;refine AllReadyH.cons rfl ?_ (AllReadyH.cons rfl ?_ AllReadyH.nil)
  . intro O A;rw[kZ kR];go_simp;refine(aw.o U2 x.1.e8).mono ?_;rintro e u3 ⟨⟨b,rfl⟩,T⟩;have E3:=Av (d5 (x.1.a7 T) (Ar x.2 lR T));clear T;go_simp;refine A.o _ _ (W _ E3.1) (λP=> ?_);clear A O;refine AK 6 ?_ (hw:=kR);refine AK 7 ?_ (hw:=kR);refine AK 8 ?_ (hw:=kR);refine D3 9 ?_;intro O A;rw[kZ kR];go_simp;refine A.o _ _ (W _ (E3.1.a7 (Aq _ _))) (λP=> ?_);clear A O;refine D3 10 ?_;intro O A;rw[kZ kR];go_simp;refine A.o _ _ (W _ (E3.1.a7 (Aq _ _))) (λP=> ?_);clear A O;refine AK 11 ?_ (hw:=kR);refine wpAnyH_done kR ?_ _;go_wp2_with fail;go_meet;exact⟨u3,rfl,E3.1.a7 (Aq _ _),AC.new _ _ _,Ar E3.2 lR (Aq _ _)⟩
  intro O A;rw[kZ kR];go_simp;refine A.o _ _ (W _ (x.1.a7 (Aq _ _))) (λP=> ?_);clear A O;refine D3 5 ?_;intro O A;rw[kZ kR];go_simp;refine(aw.o _ (x.1.a7 (Aq _ _)).e8).mono ?_;rintro e u3 ⟨⟨b,rfl⟩,T⟩;have E3:Ae (JV y w u3 CB v n gC cC gS cS h B D G N l I C/\Ah V V u3):=⟨(x.1.a7 (Aq _ _)).a7 T,Ar x.2 lR (Ar (Aq _ _) lR T)⟩
  have BZ:Ae (AC u3 U2 #[iZ 0,iZ 0,iZ 0,Ag .u32 0] 88):=(AC.new _ _ _).a7 T;have ao:=Av x.2.size;have am:=Av x.1.lb.lt;clear T;go_simp;refine A.o _ _ (W _ E3.1) (λP=> ?_);clear A O;refine AK 6 ?_ (hw:=kR);refine AK 7 ?_ (hw:=kR);refine AK 8 ?_ (hw:=kR);refine D3 10 ?_;intro O A;rw[kZ kR];have bx:=BZ.cell 0;have bB:=BZ.cell 1;have bC:=BZ.cell 2;have bF:=BZ.cell 3;have bH:=BZ.frozen 0;have bI:=BZ.frozen 1;have bJ:=BZ.frozen 2;have bK:=BZ.frozen 3;generalize bS:U2.heap.size=KB at BZ bx bB bC bF bH bI bJ bK ao am⊢;have X:Ae (JV y w (Aa (Aa (Aa (u3.setCell KB t.func) ⟨KB,1,M⟩ t.head) ⟨KB,2,M⟩ t.gI) ⟨KB,3,M⟩ (Ag .u32 t.init)) CB v n gC cC gS cS h B D G N l I C/\Ah V V (Aa (Aa (Aa (u3.setCell KB t.func) ⟨KB,1,M⟩ t.head) ⟨KB,2,M⟩ t.gI) ⟨KB,3,M⟩ (Ag .u32 t.init))):=⟨(((E3.1.jr am.o ae.size BZ.o 0 _).jr am.o ae.size (BZ.set 0 _) 1 _).jr am.o ae.size ((BZ.set 0 _).set 1 _) 2 _).jr am.o ae.size (((BZ.set 0 _).set 1 _).set 2 _) 3 _,(((E3.2.setCell ao.o _).setCell ao.o _).setCell ao.o _).setCell ao.o _⟩
  have B5:=Av ((((BZ.set 0 t.func).set 1 t.head).set 2 t.gI).set 3 (Ag .u32 t.init));simp only[lF,lI,lT]at B5;go_simp;refine A.o _ _ (W _ X.1) (λP=> ?_);clear A O;refine AK 11 ?_ (hw:=kR);refine wpAnyH_done kR ?_ _;go_wp2_with fail;go_meet;exact⟨KB,rfl,X.1,B5,X.2⟩
 case rest=>
 obtain⟨KB,rfl,E4⟩:=hcut;clear E1;go_upto_region 5 with fail
 have x:=Av (d5 (E4.1.a7 (At _)) (d5 (E4.2.1.a7 (At _)) (Ar E4.2.2 lR (At _))));clear E4;have W:∀d,JV y w d CB v n gC cC gS cS h B D G N l I C->d.cell? CB=K (Z v.r.a v.r.n v.r.c)/\d.cell? ⟨CB,1,M⟩=K (Z v.k.a v.k.n v.k.c)/\d.cell? ⟨CB,2,M⟩=K (Z v.f.a v.f.n v.f.c)/\d.cell? ⟨CB,3,M⟩=K (Z v.t.a v.t.n v.t.c)/\d.cell? ⟨CB,4,M⟩=K (Z v.p.a v.p.n v.p.c)/\d.cell? ⟨CB,5,M⟩=K ↑v.rs/\d.cell? ⟨CB,6,M⟩=K (Z v.l.a v.l.n v.l.c)/\d.cell? ⟨CB,7,M⟩=K (Z v.c.a v.c.n v.c.c)/\d.cell? ⟨CB,8,M⟩=K ↑v.nu/\d.cell? ⟨CB,9,M⟩=K ↑v.co/\d.cell? ⟨CB,10,M⟩=K ↑v.at_/\d.cell? ⟨CB,11,M⟩=K (Z v.b.a v.b.n v.b.c)/\d.cell? ⟨CB,12,M⟩=K (Z v.o.a v.o.n v.o.c)/\d.cell? ⟨CB,13,M⟩=K (Z v.i.a v.i.n v.i.c)/\d.cell? ⟨CB,14,M⟩=K (Z v.q.a v.q.n v.q.c)/\d.cell? w=K ↑h/\d.cell? ⟨w,1,M⟩=K (Z B l.back D)/\d.cell? ⟨w,2,M⟩=K (Z G l.a8 N):= λd E=>by obtain⟨p0,p1,p2,p3,p4,p5,p6,p7,p8,p9,aJ,aM,aP,aQ,aR⟩:=Wu E.co.gK;obtain⟨l0,l1,l2⟩:=Cl E.lb;exact⟨p0,p1,p2,p3,p4,p5,p6,p7,p8,p9,aJ,aM,aP,aQ,aR,l0,l1,l2⟩
 have aj:Ae (∀u,JV y w u CB v n gC cC gS cS h B D G N l I C->Ah V V u->RwS u n gS gL I L/\u ⟨CB,16,M⟩=K (sG gS n cS)):= λu E hb=>⟨⟨λb hb=>E.co.jA hb, λc hc=>aU.o u hb c hc⟩,E.co.cells.2.2.2⟩
 have aF:Ae (∀u,Ah y y u->Ai Ap 150 #[Am v.cells,Am #[h,Z B l.back D,Z G l.a8 N]] u λe d=>∃(a:Option Addr) (c:Nat) (ps:List Int),e=Al (Z a ps c)/\Rd d 1 (Z a ps c) ps (Ad As ps)/\(∀z,z∈ps↔z∈l.a8/\QR r.a8 l.a8 z.toNat)/\ps.length<=1024/\Ah u u d):= λu hu=>by have hk:=H.1.a7 hu;have:=Pz v F xs h ⟨B,l.back,D⟩ G N l.a8 u hk.bs hk.nx bj (Rd.a7 H.2.2.1.2 hu lR) (by rw[hk.fl];exact H.2.2.2.1);rw[hk.eb]at this;exact this
 refine wp_region_held_drew (S:= λd=>d.cell? CB=K (Z v.r.a v.r.n v.r.c)/\d.cell? ⟨CB,1,M⟩=K (Z v.k.a v.k.n v.k.c)/\d.cell? ⟨CB,2,M⟩=K (Z v.f.a v.f.n v.f.c)/\d.cell? ⟨CB,3,M⟩=K (Z v.t.a v.t.n v.t.c)/\d.cell? ⟨CB,4,M⟩=K (Z v.p.a v.p.n v.p.c)/\d.cell? ⟨CB,5,M⟩=K ↑v.rs/\d.cell? ⟨CB,6,M⟩=K (Z v.l.a v.l.n v.l.c)/\d.cell? ⟨CB,7,M⟩=K (Z v.c.a v.c.n v.c.c)/\d.cell? ⟨CB,8,M⟩=K ↑v.nu/\d.cell? ⟨CB,9,M⟩=K ↑v.co/\d.cell? ⟨CB,10,M⟩=K ↑v.at_/\d.cell? ⟨CB,11,M⟩=K (Z v.b.a v.b.n v.b.c)/\d.cell? ⟨CB,12,M⟩=K (Z v.o.a v.o.n v.o.c)/\d.cell? ⟨CB,13,M⟩=K (Z v.i.a v.i.n v.i.c)/\d.cell? ⟨CB,14,M⟩=K (Z v.q.a v.q.n v.q.c)/\d.cell? w=K ↑h/\d.cell? ⟨w,1,M⟩=K (Z B l.back D)/\d.cell? ⟨w,2,M⟩=K (Z G l.a8 N)) kR (W _ x.1) (λP=> ?_)
 generalize wc.drew=U2 at x P⊢;unfold BI.cells at aF;refine AK 0 ?_ (hw:=kR);refine AK 1 ?_ (hw:=kR);refine AK 2 ?_ (hw:=kR);refine AK 3 ?_ (hw:=kR);refine AK 5 ?_ (hw:=kR);refine AK 6 ?_ (hw:=kR);refine AK 7 ?_ (hw:=kR);refine AK 8 ?_ (hw:=kR);refine AK 9 ?_ (hw:=kR);refine AK 10 ?_ (hw:=kR);refine AK 11 ?_ (hw:=kR);refine D3 4 ?_;intro O A;rw[kZ kR];go_simp;refine(G5 CB n gS cS gL n I L B D l.back U2 oM (aj.o U2 x.1 x.2.2).2 (aj.o U2 x.1 x.2.2).1 oM (Rd.a7 H.2.2.1.1 x.1.e8 lR) (by rw[<-HN];exact H.2.2.2.2.1)).mono ?_;rintro e u3 ⟨Q,rfl,rfl,aX⟩;have aq:=Av aX;clear aX;go_simp;refine A.o _ _ (W _ x.1) (λP=> ?_);clear A O;refine D3 12 ?_;intro O A;rw[kZ kR];go_simp;refine(aF.o u3 x.1.e8).mono ?_;rintro e u4 ⟨pa,pc,ps,rfl,bt,br,ce,T⟩;have HP:=Av (d5 bt br);have X:=Av (d5 (x.1.a7 T) (d5 (x.2.1.a7 T) (Ar x.2.2 lR T)));clear bt br T;go_simp;refine A.o _ _ (W _ X.1) (λP=> ?_);clear A O x;refine D3 13 ?_;intro O A;rw[kZ kR];go_simp;refine(G5 CB n gS cS gL n I L pa pc ps u4 oM (aj.o u4 X.1 X.2.2).2 (aj.o u4 X.1 X.2.2).1 oM HP.1 (λz hz=>by rw[<-HN];exact H.2.2.2.1 z ((HP.2 z).1 hz).1)).mono ?_;rintro e u5 ⟨ou,rfl,rfl,bq⟩;have au:=Av (bq.iff λb=>by rw[HP.2,kA]);clear bq;go_simp;refine A.o _ _ (W _ X.1) (λP=> ?_);clear A O;refine AK 14 ?_ (hw:=kR);refine AK 15 ?_ (hw:=kR);refine wpAnyH_done kR ?_ _;clear P W aj aF aU HP;have a1:=aq.nn;have a2:Q<=4294967295:=aq.le oM λb _=>(Gu aT _).2
 have o1:=au.nn;have o2:ou<=4294967295:=au.le oM λb _=>(Gu aT _).2
 have m1:0<=t.init*Q:=Int.mul_nonneg bP a1;have m2:t.init*Q<=4294967295*4294967295:=Int.mul_le_mul bQ a2 a1 oM;have w1:IntKind.u64.wrap t.init=t.init:=by simp[IntKind.wrap,IntKind.bits,IntKind.signed];omega
 have w2:IntKind.u64.wrap Q=Q:=by simp[IntKind.wrap,IntKind.bits,IntKind.signed];omega
 have w3:IntKind.u64.wrap ou=ou:=by simp[IntKind.wrap,IntKind.bits,IntKind.signed];omega
 have w4:IntKind.u64.wrap (t.init*Q)=t.init*Q:=by generalize t.init*Q=q at m1 m2⊢;simp[IntKind.wrap,IntKind.bits,IntKind.signed];omega
 have w5:IntKind.u64.wrap (t.init*Q+ou)=t.init*Q+ou:=by generalize t.init*Q=q at m1 m2⊢;simp[IntKind.wrap,IntKind.bits,IntKind.signed];omega
 obtain⟨k0,k1,k2,k3⟩:=BP X.2.1;by_cases aZ:t.init*Q+ou>4294967295;case pos=>
  have ah:Ae (∃(b:Bool) (I':List Nat) (C':List Int),Ending.returned false=Al b/\CC u5 y CB v n gC cC gS cS I' C'/\EI (Cg gC gS) w u5/\Ah y y u5/\Wm E n r.a8 l I C h pl t.init b I' C'):=⟨false,I,C,rfl,X.1.co,X.1.ch,X.1.e8,L,true,aG, λ_=>rfl, λ_=>⟨Q,ou,aq,au, λ_=>rfl, λh=>absurd aZ oM⟩⟩
  go_wp2_with fail;go_ret;exact ah
 go_upto_region 9 with fail
 have bf:Ew (t.init*Q+ou):=⟨oM,oM⟩;have w6:IntKind.i64.wrap (t.init*Q+ou)=t.init*Q+ou:=nA _ ⟨oM,oM⟩;have x:=Av (X.1.a7 (At _));clear k0 k1 k2 k3 w1 w2 w3 w4 w5 X;have W:∀I' C' d,JV y w d CB v n gC cC gS cS h B D G N l I' C'->d.cell? w=K ↑h/\d.cell? ⟨CB,15,M⟩=K (sG gC n cC)/\d.cell? ⟨CB,16,M⟩=K (sG gS n cS):= λI' C' d E=>⟨(Cl E.lb).1,E.co.cells.2.2.1,E.co.cells.2.2.2⟩
 have aE:=Av W;refine wp_region_held_drew (S:= λd=>d.cell? w=K ↑h/\d.cell? ⟨CB,15,M⟩=K (sG gC n cC)/\d.cell? ⟨CB,16,M⟩=K (sG gS n cS)) kR (W _ _ _ x) (λP=> ?_)
 clear W;generalize u5.drew=U6 at x P⊢;generalize bg:t.init*Q+ou=co at aZ bf w6⊢;have aS:=Av bg;clear bg m1 m2;refine AK 0 ?_ (hw:=kR);refine AK 1 ?_ (hw:=kR);refine AK 2 ?_ (hw:=kR);refine AK 3 ?_ (hw:=kR);refine AK 4 ?_ (hw:=kR);refine AK 5 ?_ (hw:=kR);refine AK 6 ?_ (hw:=kR);refine AK 7 ?_ (hw:=kR);refine AK 8 ?_ (hw:=kR);go_simp;refine D3 9 ?_;intro O A;rw[kZ kR];have c0:=x.co.km hh;have z0:=(x.co.frz h).1;have E6:=Av (x.iD h bf);go_simp;refine A.o _ _ (aE.o _ _ _ E6) (λP=> ?_);clear A O;refine wpAnyH_done kR ?_ _;clear P c0 z0 x;generalize Aa U6 ⟨gC,h,M⟩ co=U7 at E6⊢;obtain⟨l0,l1,l2⟩:=Cl E6.lb;go_wp2_with fail;clear l0 l1 l2;go_loopw [68] (λi wr=>∃(k:Nat) (I2:List Nat),k<= ↑l.a8/\i=iZ k/\Ae (JV y w wr CB v n gC cC gS cS h B D G N l I2 (C.set h co)/\∀j,jf I2 j=if j∈(l.a8.take k).map Int.toNat then h else jf I j)) (λi _=> ↑l.a8-(intOf i).toNat)
 case atStart=>exact⟨0,I,oM,rfl,E6, λj=>sP⟩
 case round=>
 clear E6;obtain⟨k,I2,hk,rfl,HE⟩:=hrel;by_cases bo:k< ↑l.a8
 case neg=>
  have ah:Ae (∃(b:Bool) (I':List Nat) (C':List Int),Ending.returned true=Al b/\CC wr y CB v n gC cC gS cS I' C'/\EI (Cg gC gS) w wr/\Ah y y wr/\Wm E n r.a8 l I C h pl t.init b I' C'):=⟨true,I2,C.set h co,rfl,HE.1.co,HE.1.ch,HE.1.e8,L,true,aG,(λh=>by cases h), λ_=>⟨Q,ou,aq,au,(λh=>by rw[aS]at h;exact absurd h oM), λ_=>⟨rfl,by rw[aS], λj=>by rw[HE.2 j,k8 (show ↑l.a8<=k from oM)]⟩⟩⟩
  go_wp2_with fail;go_ret;exact ah
 have bZ:(k:Int)<(l.a8:Int):=oM;obtain⟨b,ez,hb⟩:=H.2.2.2.1 l.a8[k] (mN bo);rw[HN]at hb;have aI:l.a8[k]?=K (b:Int):=by rw[an bo,ez]
 obtain⟨kg,ko,bG,e0⟩:∃g o,G=K ⟨g,o,M⟩/\wr ⟨g,o+k,M⟩=K ↑b:=by
  rcases(Rd.a7 H.2.2.1.2 HE.1.e8 lR).2 with⟨q,_⟩|⟨g,o,c',e1,hc⟩
  . simp only[]at q;omega
  simp only[i8,lB]at e1;exact⟨g,o,e1.1,hc k _ (Db aI)⟩
 subst bG;have bu:=Av aI;have bT:(b:Int)<(n:Int):=oM;clear ez aI;go_upto_region 13 with fail
 have x:=Av (HE.1.a7 (At _));refine wp_region_held_drew (S:= λd=>d.cell? w=K ↑h/\d.cell? ⟨CB,15,M⟩=K (sG gC n cC)/\d.cell? ⟨CB,16,M⟩=K (sG gS n cS)) kR (aE.o _ _ _ x) (λP=> ?_)
 clear e0;generalize wr.drew=U8 at x P⊢;refine AK 0 ?_ (hw:=kR);refine AK 1 ?_ (hw:=kR);refine AK 2 ?_ (hw:=kR);refine AK 3 ?_ (hw:=kR);refine AK 4 ?_ (hw:=kR);refine AK 5 ?_ (hw:=kR);refine AK 6 ?_ (hw:=kR);refine AK 7 ?_ (hw:=kR);go_simp;refine D3 8 ?_;intro O A;rw[kZ kR];have c0:=(x.co.jA hb).1;have z0:=(x.co.frz b).2;have E8:Ae (JV y w (Aa U8 ⟨gS,b,M⟩ h) CB v n gC cC gS cS h B D (K ⟨kg,ko,M⟩) N l (I2.set b h) (C.set h co)/\∀j,jf (I2.set b h) j=if j∈(l.a8.take (k+1)).map Int.toNat then h else jf I j):=⟨x.jK b hh, λj=>by
  have aH:j∈(l.a8.take (k+1)).map Int.toNat↔j∈(l.a8.take k).map Int.toNat\/j=b:=by rw[List.take_add_one,bu.o,mF,kO];simp
  rw[VK (by rw[x.co.li];exact hb),HE.2 j];by_cases e:j=b
  . rw[kZ e,kZ (aH.2 (.inr e))]
  rw[kP e];by_cases e2:j∈(l.a8.take k).map Int.toNat
  . rw[kZ e2,kZ (aH.2 (.inl e2))]
  rw[kP e2,kP (λq=>(aH.1 q).elim e2 e)]⟩
 go_simp;refine A.o _ _ (aE.o _ _ _ E8.1) (λP=> ?_);clear A O;refine wpAnyH_done kR ?_ _;clear P c0 z0 x HE;generalize Aa U8 ⟨gS,b,M⟩ h=U9 at E8⊢;go_wp2_with fail;go_roundw;case rel=>exact⟨k+1,_,oM,by go_num,E8⟩
 exact oI
def Yi(r:DC)(j:Nat)(z:Int):Prop:=∃l∈r.gE.take j,∃m,r.a8[l.head.toNat]?=K m/\m.gH=z
structure SM(w u:Y)(v:BI)(SB:Nat)(r:DC)(j:Nat):Prop where
 body:AC u w v.cells 160
 set:∃D,AW u SB j D/\∀z:Int,Go.Maps.has D (.int Af z)=true↔Yi r j z
 lt: ↑w<SB
 e8:Ah w w u
theorem SM.a7{w u c:Y}{v:BI}{r:DC}(h:SM w u v b r j)(a:Ah u.heap.size u c):SM w c v b r j:=by obtain⟨D,d,e⟩:=h.set;exact⟨h.body.a7 a,⟨D,d.a7 a,e⟩,h.lt,Ar h.e8 lR a⟩
theorem MM(v:BI)(p:MP)(q:Nat)(F:List (MB×J))(xs:List MI)(r:DC)(w:Y)(s:SA w v p (q:Int) F xs r)(hw:∀t∈p.eD,Dg t.head):
 Ai Ap 87 #[.agg v.cells] w λe w'=>(∃(h:Int) (b:Bool),e=Al (.tuple #[h,b])/\(b=true->∃t,Eg (OI q r) p.eD t/\h=t.head)/\(b=false->∀t∈p.eD,¬OI q r t))/\Ah w w w':=by
 have bp:= @run_makeMap Ap;have H:=Av s;have HW:=Av hw;have bq:r.gE.length<=1024:=s.gW.nl;have br:=s.tn;have HN:=Av s.ln;obtain⟨qa,aP⟩:∃qa,v.q.a=qa:=⟨_,rfl⟩;have aH:=Av aP;obtain⟨ta,tc,et⟩:=s.tr.dk;simp only[i8]at et;have aT:=Av et.2.1;clear et ta tc;obtain⟨ta,aQ⟩:∃ta,v.t.a=ta:=⟨_,rfl⟩;have aJ:=Av aQ;clear aP aQ s hw;have E0:Ae (AC (Ac w (Ak v.cells 160)) w v.cells 160/\Ah w w (Ac w (Ak v.cells 160))):=⟨AC.new _ _ _,Aq _ _⟩
 go_enter func87,ntmps87;go_upto_region 1 with fail
 refine Ax (λu=>Ae (AC u w v.cells 160/\Ah w w u)) E0 ?_
 rintro U d;clear E0;have bM:=Aq U (.map #[] 0);have aI:Ae (SM w (Ac U (.map #[] 0)) v U r 0):=⟨d.1.a7 bM,⟨.map [],World.ownsMap_made _ _ _ _, λz=>⟨(λh=>by cases h), λ⟨l,h,_⟩=>by simp at h⟩⟩,d.1.lt,Ar d.2 lR bM⟩;clear bM d;go_upto_region 2 with fail
 refine Ax (λu=>Ae (SM w u v U r 0)) aI ?_;clear aI;rintro U1 HS;generalize U.heap.size=x at HS⊢;have ao:=HS.body.cell 14;simp only[BI.cells]at ao;simp only[HN.o,aH.o]at ao;go_wp2_with fail;clear ao;go_loopw [14] (λi wr=>∃k:Nat,k<= ↑r.gE/\i=iZ k/\Ae (SM w wr v x r k)) (λi _=> ↑r.gE-(intOf i).toNat)
 case atStart=>exact⟨0,oM,rfl,HS⟩
 case round=>
 clear HS;obtain⟨k,hk,rfl,d⟩:=hrel;by_cases ah:k< ↑r.gE
 case pos=>
  have aZ:(k:Int)<(r.gE:Int):=oM;obtain⟨l,hl⟩:∃l,r.gE[k]?=K l:=⟨_,an ah⟩;have s:=H.a7 d.e8;obtain⟨gl,ol,a1,x1,a2,x2,ev,i0,i1,i2,b7⟩:=H0 s.ls hl;rw[aH]at ev;subst ev;obtain⟨⟨h,eh,hh⟩,_⟩:=H.gW.loop l (i7 hl);obtain⟨m,hm⟩:∃m,r.a8[h]?=K m:=⟨_,an hh⟩;obtain⟨V,me,aM,aW,aX,aY⟩:=H.gW.gK h m hm;have bo:V<1024:=by have:=H.gW.len;omega
  have Q:=Av (d5 hl (d5 ((by rw[eh,kA];exact hm):r.a8[l.head.toNat]?=K m) aM));have HM:=Av hm;rw[eh]at i0;clear hl b7 s eh hm aM aW aX aY;generalize l.back.length=n1 at i1;generalize l.a8.length=n2 at i2;go_upto_region 5 with fail
  have W:Ae (SM w (Ac wr (Ak #[h,Z a1 n1 x1,Z a2 n2 x2] 85)) v x r k/\AC (Ac wr (Ak #[h,Z a1 n1 x1,Z a2 n2 x2] 85)) wr #[h,Z a1 n1 x1,Z a2 n2 x2] 85):=⟨d.a7 (Aq _ _),AC.new _ _ _⟩
  refine Ax (λu=>Ae (SM w u v x r k/\AC u wr #[h,Z a1 n1 x1,Z a2 n2 x2] 85)) W ?_
  rintro U4 g;clear W i0 i1 i2 d;generalize wr.heap.size=X at g⊢;obtain⟨p0,p1,p2,p3,p4,p5,p6,p7,p8,p9,bf,bg,bi,bj,ao⟩:=CQ g.1.body;obtain⟨l0,l1,l2⟩:=Cl g.2;go_wp2_with fail;clear p0 p1 p2 p3 p4 p5 p6 p7 p8 p9 bf bg bi bj ao l0 l1 l2;have s:=H.a7 g.1.e8;have aA:=Et (Z v.r.a v.r.n v.r.c) (Z v.k.a v.k.n v.k.c) (Z v.f.a v.f.n v.f.c) (Z v.t.a v.t.n v.t.c) (Z v.p.a v.p.n v.p.c) v.rs (Z v.l.a v.l.n v.l.c) (Z v.c.a v.c.n v.c.c) v.nu v.co v.at_ (Z v.b.a v.b.n v.b.c) (Z v.o.a v.o.n v.o.c) (Z v.i.a v.i.n v.i.c) (Z v.q.a v.q.n v.q.c) (Z a1 n1 x1) (Z a2 n2 x2) F h m U4 (by have:=s.bs.len;omega) s.bs.rd (by rw[s.eb];exact HM);rw[Q.2.2]at aA;refine aA.mono ?_;clear aA s;rintro e L ⟨rfl,N⟩;have y:Ae (SM w (Ac L (Ak #[V] 2)) v x r k/\(Ac L (Ak #[V] 2)) L=K ↑V):=⟨(g.1.a7 N).a7 (Aq _ _),(AC.new L #[V] 2).cell 0⟩
  have aG:Ae (¬ ↑L=x):=by
   obtain⟨_,h5,_⟩:=(g.1.a7 N).set;have:=m7 h5;show¬ ↑L=x
   omega
  clear N g;obtain⟨D,aj,ae⟩:=y.1.set;have E:=Av (d5 aj ae);clear aj ae;go_wp2_with fail;refine(D9 x k L 1 D (V:Int) _ (Ee oM) oM y.2 aG E.1).mono ?_;rintro e u6 ⟨rfl,s6,g6⟩;have aR:Ae (SM w u6 v x r (k+1)):=by
   have ah:=y.1.lt;refine⟨y.1.body.apart g6 oM,⟨_,s6, λz=> ?_⟩,ah,y.1.e8.grown g6 y.1.e8.size (λj hj=>by cases hj;omega)⟩;rw[EW D (mv E.1),Bool.or_eq_true,mB,E.2 z];unfold Yi;rw[List.take_add_one,Q.1];constructor
   . rintro(⟨l',O,C⟩|rfl)
     . exact⟨l',kO.2 (.inl O),C⟩
     exact⟨l,sP,m,Q.2.1,Q.2.2⟩
   rintro⟨l',O,m',C,S⟩;rcases kO.1 O with e|e
   . exact .inl ⟨l',e,m',C,S⟩
   simp at e;rw[e,Q.2.1]at C;(cases C);exact .inr (S.symm.trans Q.2.2)
  clear s6 g6 y E aG;go_wp2;go_roundw;case rel=>exact⟨k+1,oM,by go_num,aR⟩
  exact oI
 obtain rfl:k=r.gE.length:=oM;have aq:Ae (∀t:MT,OI q r t↔t.func=(q:Int)/\¬Yi r r.gE t.head):= λt=>by
  unfold OI Yi;rw[List.take_length];constructor
  . rintro⟨O,C⟩;exact⟨O, λ⟨l,S,m,h4,h5⟩=>C l S m h4 h5⟩
  rintro⟨O,C⟩;exact⟨O, λl S m h4 h5=>C ⟨l,S,m,h4,h5⟩⟩
 have p3:=d.body.cell 3;simp only[BI.cells]at p3;simp only[aT.o,aJ.o]at p3;go_wp2_with fail;clear p3;generalize r.gE.length=NL at d aq;go_loopw [30] (λi wr=>∃k:Nat,k<= ↑p.eD/\i=iZ k/\Ae (∀t∈p.eD.take k,¬OI q r t)/\Ae (SM w wr v x r NL)) (λi _=> ↑p.eD-(intOf i).toNat)
 case atStart=>exact⟨0,oM,rfl,(λt T=>by simp at T),d⟩
 case round=>
 clear d;obtain⟨k,hk,rfl,aw,d⟩:=hrel;by_cases ah:k< ↑p.eD
 case neg=>
  have HA:Ae (∀t∈p.eD,¬OI q r t):=by
   have:=aw.o;rw[k8 (show ↑p.eD<=k from oM)]at this
   exact this
  go_wp2;exact kQ (v:=.tuple #[iZ 0,false]) (by simp[results,results87,go_sem]) rfl ⟨⟨0,false,rfl,(λh=>by cases h), λ_=>HA.o⟩,d.e8⟩
 have aZ:(k:Int)<(p.eD:Int):=oM;obtain⟨A,P⟩:∃c,p.eD[k]?=K c:=⟨_,an ah⟩;obtain⟨G,I,et,i0,i1,i2,i3⟩:∃G I,ta=K ⟨G,I,M⟩/\wr ⟨G,I+k*4,M⟩=K ↑A.func/\wr ⟨G,I+k*4+1,M⟩=K ↑A.head/\wr ⟨G,I+k*4+2,M⟩=K ↑A.gI/\wr ⟨G,I+k*4+3,M⟩=K (.int .u32 A.init):=by
  rcases(H.a7 d.e8).tr.2 with⟨e0,_⟩|⟨G,I,c',e1,hc⟩
  . omega
  simp only[i8]at e1;exact⟨G,I,by rw[<-aJ];exact e1.1,Rd.elem MT.dr hc k A P 0 _ rfl,Rd.elem MT.dr hc k A P 1 _ rfl,Rd.elem MT.dr hc k A P 2 _ rfl,Rd.elem MT.dr hc k A P 3 _ rfl⟩
 subst et;have aE:=Av P;have aU:=Av (HW.o A (i7 P));have aF:Ae (¬OI q r A->∀t∈p.eD.take (k+1),¬OI q r t):= λhn t T=>by
  rw[List.take_add_one,aE]at T;rcases kO.1 T with e|e
  . exact aw.o t e
  simp at e;rw[e];exact hn
 clear P;obtain⟨R,B,co,am⟩:=A;simp only[]at i0 i1 i2 i3;go_upto_region 10 with fail
 have W:Ae (SM w (Ac wr (Ak #[R,B,co,.int .u32 am] 88)) v x r NL/\AC (Ac wr (Ak #[R,B,co,.int .u32 am] 88)) wr #[R,B,co,.int .u32 am] 88):=⟨d.a7 (Aq _ _),AC.new _ _ _⟩
 refine Ax (λu=>Ae (SM w u v x r NL/\AC u wr #[R,B,co,.int .u32 am] 88)) W ?_
 rintro U4 g;clear W i0 i1 i2 i3 d;generalize wr.heap.size=X at g⊢;obtain⟨c0,c1,c2,c3⟩:=BP g.2;have p8:=g.1.body.cell 8;simp only[BI.cells]at p8;simp only[H.nu]at p8;obtain⟨D,aj,ae⟩:=g.1.set;have E:=Av (d5 aj ae);clear aj ae;cases hfq:(R==(q:Int))
 case false=>
  have au:=Av (aF.o λe=>by have:=((aq.o _).1 e).1;simp only[]at this;rw[this,beq_self_eq_true]at hfq;cases hfq);go_wp2_with fail;go_roundw;case rel=>exact⟨k+1,oM,by go_num,au,g.1⟩
  exact oI
 go_wp2_with fail;refine(KH x NL D B U4 aU E.1).mono ?_;rintro e L ⟨rfl,N⟩;have y:=Av (d5 (g.1.a7 N) (g.2.a7 N));clear N c0 c1 c2 c3 p8;cases hbo:Go.Maps.has D (.int Af B)
 case true=>
  have au:=Av (aF.o λe=>((aq.o _).1 e).2 ((E.2 B).1 hbo));go_wp2_with fail;go_roundw;case rel=>exact⟨k+1,oM,by go_num,au,y.1⟩
  exact oI
 case false=>have aS:Ae (Eg (OI q r) p.eD ⟨R,B,co,am⟩):=⟨k,aE,(aq.o _).2 ⟨by simpa using hfq, λe=>by have:=(E.2 B).2 e;rw[hbo]at this;cases this⟩, λi t hi T=>aw.o t (i7 (by rw[List.getElem?_take,kZ hi];exact T))⟩;obtain⟨c0,c1,c2,c3⟩:=BP y.2;go_wp2_with fail;exact kQ (v:=.tuple #[B,true]) (by simp[results,results87,go_sem]) rfl ⟨⟨B,true,rfl,(λ_=>⟨_,aS,rfl⟩), λh=>by cases h⟩,y.1.e8⟩
theorem UR(v:VP)(p:MP)(g:VF)(f:MF)(q:Nat)(i:MF)(b c:Int)(w:Y)(hs:f.small)(am:p.small)(e:Da w v p)(h:DE w g f)(Q:p.bW[q]?=K i):Ai Ap 243 #[Am #[v.r,v.k,v.f,v.t,g.p,f.gy,g.l,g.c],Am #[iZ 28,q,b,c]] w (Df w i.gw):=by
 obtain⟨gk,ok,ck,x,F,P,E,ae,ah,aj⟩:=Io e.bW Q;have au:=(i6.1 Q).1;obtain⟨T,V,C⟩:=(show∃a c,v.r=Z a p.bO c from by obtain⟨_,_,j,_⟩:=e.bO;exact j.dk);obtain⟨R,S,B⟩:=e.ej.dk;obtain⟨W,X,D⟩:=e.eD.dk;obtain⟨f1,f3,s⟩:=(show∃a c,v.f=Z a p.bW c from by obtain⟨_,_,j,_⟩:=e.bW;exact j.dk);obtain⟨G,H,y⟩:=h.1.dk;obtain⟨I,L,z⟩:=h.2.1.dk;obtain⟨N,O,A⟩:=h.2.2.dk;obtain⟨gp,gl,gc⟩:=g;obtain⟨vr,vk,vf,vt⟩:=v;simp only[]at C B D s y z A;subst C B D s y z A;have HP:=Av e;have HR:=Av h;clear e h;simp only[i8,lB]at x;obtain⟨rfl,hx⟩:=x;clear hx;have ao:=am.bW;have aq:(q:Int)<(p.bW:Int):=oM;have m:=Av (GY.of w ⟨Z T p.bO V,Z R p.ej S,sO gk ok p.bW f3,Z W p.eD X⟩ ⟨Z G f.gw H,Z I f.gG L,Z N f.eC O⟩ f 28 (q:Int) b c);go_enter func243,ntmps243;go_upto_region 1 with fail
 refine Ax (λu=>Ae (GY w u ⟨Z T p.bO V,Z R p.ej S,sO gk ok p.bW f3,Z W p.eD X⟩ ⟨Z G f.gw H,Z I f.gG L,Z N f.eC O⟩ f 28 (q:Int) b c)) m ?_;rintro U d;clear m;have i0:=d.ib.cell 0;have i1:=d.ib.cell 1;have i2:=d.ib.cell 2;have i3:=d.ib.cell 3;have s0:=d.sb.cell 0;have s1:=d.sb.cell 1;have s2:=d.sb.cell 2;have s3:=d.sb.cell 3;have s4:=d.sb.cell 4;have s5:=d.sb.cell 5;have s6:=d.sb.cell 6;have s7:=d.sb.cell 7;simp only[kB,i9,kC]at i0 i1 i2 i3 s0 s1 s2 s3 s4 s5 s6 s7;have c0:=Bh d.e8 E;obtain⟨pa,pc,ep⟩:=P.1.dk;have n:Ae (Df w i.gw (Al F.p) U):=⟨F.p,rfl,P.1.a7 d.e8 lR,d.e8⟩;rw[ep]at c0 n;clear E ae ah aj;go_wp2_with fail;go_ret;exact n
theorem T9(v:VP)(p:MP)(g:VF)(f:MF)(q:Nat)(h:MF)(b c:Int)(w:Y)(hs:f.small)(ae:p.small)(i:Da w v p)(j:DE w g f)(hq:p.bW[q]?=K h):Ai Ap 246 #[Am #[v.r,v.k,v.f,v.t,g.p,f.gy,g.l,g.c],Am #[iZ 28,q,b,c]] w (Df w (A7 h)):=by
 obtain⟨gk,ok,ck,C,g',n,O,P,Q,R⟩:=Io i.bW hq;have am:=(i6.1 hq).1;obtain⟨r1,r3,L⟩:=(show∃a c,v.r=Z a p.bO c from by obtain⟨_,_,m,_⟩:=i.bO;exact m.dk);obtain⟨k1,k3,G⟩:=i.ej.dk;obtain⟨t1,t3,N⟩:=i.eD.dk;obtain⟨f1,f3,B⟩:=(show∃a c,v.f=Z a p.bW c from by obtain⟨_,_,m,_⟩:=i.bW;exact m.dk);obtain⟨S,T,D⟩:=j.1.dk;obtain⟨V,W,E⟩:=j.2.1.dk;obtain⟨X,g9,F⟩:=j.2.2.dk;obtain⟨gp,gl,gc⟩:=g;obtain⟨vr,vk,vf,vt⟩:=v;simp only[]at L G N B D E F;subst L G N B D E F;have HP:=Av i;have HR:=Av j;clear i j;simp only[i8,lB]at C;obtain⟨rfl,hx⟩:=C;clear hx;have ah:=ae.bW;have aj:(q:Int)<(p.bW:Int):=oM;have y:=Av (GY.of w ⟨Z r1 p.bO r3,Z k1 p.ej k3,sO gk ok p.bW f3,Z t1 p.eD t3⟩ ⟨Z S f.gw T,Z V f.gG W,Z X f.eC g9⟩ f 28 (q:Int) b c);go_enter func246,ntmps246;go_upto_region 1 with fail
 refine Ax (λu=>Ae (GY w u ⟨Z r1 p.bO r3,Z k1 p.ej k3,sO gk ok p.bW f3,Z t1 p.eD t3⟩ ⟨Z S f.gw T,Z V f.gG W,Z X f.eC g9⟩ f 28 (q:Int) b c)) y ?_;rintro U d;clear y;have i0:=d.ib.cell 0;have i1:=d.ib.cell 1;have i2:=d.ib.cell 2;have i3:=d.ib.cell 3;have s0:=d.sb.cell 0;have s1:=d.sb.cell 1;have s2:=d.sb.cell 2;have s3:=d.sb.cell 3;have s4:=d.sb.cell 4;have s5:=d.sb.cell 5;have s6:=d.sb.cell 6;have s7:=d.sb.cell 7;simp only[kB,i9,kC]at i0 i1 i2 i3 s0 s1 s2 s3 s4 s5 s6 s7;have c0:=Bh d.e8 O;have c1:=Bh d.e8 P;have c2:=Bh d.e8 Q;have c3:=Bh d.e8 R;obtain⟨pa,pc,I⟩:=n.1.dk;obtain⟨la,lc,H⟩:=n.2.1.dk;obtain⟨ca,cc,A⟩:=n.2.2.dk;rw[I]at c0;rw[H]at c2;rw[A]at c3;clear O P Q R I H A;go_wp2_with fail;refine(PY ⟨Z pa h.gw pc,Z la h.gG lc,Z ca h.eC cc⟩ h U).mono ?_;rintro e u1 ⟨s,rfl,x,z⟩;have HE:Ae (Df w (A7 h) (Al s) u1):=⟨s,rfl,x,Ar d.e8 lR z⟩;obtain⟨sa,sc,rfl⟩:=x.dk;clear x z;go_wp2_with fail;go_ret;exact HE
theorem VA(v:VP)(p:MP)(g:VF)(f:MF)(q:Nat)(z:MC)(b c:Int)(w:Y)(hs:f.small)(W:p.small)(h:Da w v p)(i:DE w g f)(N:p.ej[q]?=K z):Ai Ap 246 #[Am #[v.r,v.k,v.f,v.t,g.p,f.gy,g.l,g.c],Am #[iZ 1,q,b,c]] w (Df w [z.type]):=by
 have aj:=(i6.1 N).1;obtain⟨gk,ok,ck,B,P⟩:∃gk ok ck,v.k=sO gk ok p.ej ck/\w ⟨gk,ok+q*2,M⟩=K ↑z.type:=by
  rcases h.ej.2 with⟨e,_⟩|⟨gk,ok,ck,e,V⟩
  . omega
  exact⟨gk,ok,ck,e,Rd.elem MC.dr V q z N 0 _ rfl⟩
 obtain⟨Q,R,C⟩:=(show∃a c,v.r=Z a p.bO c from by obtain⟨_,_,j,_⟩:=h.bO;exact j.dk);obtain⟨k1,O,A⟩:=h.ej.dk;obtain⟨S,T,D⟩:=h.eD.dk;obtain⟨f1,f3,n⟩:=(show∃a c,v.f=Z a p.bW c from by obtain⟨_,_,j,_⟩:=h.bW;exact j.dk);obtain⟨E,F,s⟩:=i.1.dk;obtain⟨G,H,x⟩:=i.2.1.dk;obtain⟨I,L,y⟩:=i.2.2.dk;obtain⟨gp,gl,gc⟩:=g;obtain⟨vr,vk,vf,vt⟩:=v;simp only[]at C A D n s x y;subst C A D n s x y;have HP:=Av h;have HR:=Av i;clear h i;simp only[i8,lB]at B;obtain⟨rfl,X⟩:=B;clear X;have ae:=W.ej;have ah:(q:Int)<(p.ej:Int):=oM;have m:=Av (GY.of w ⟨Z Q p.bO R,sO gk ok p.ej O,Z f1 p.bW f3,Z S p.eD T⟩ ⟨Z E f.gw F,Z G f.gG H,Z I f.eC L⟩ f 1 (q:Int) b c);go_enter func246,ntmps246;go_upto_region 1 with fail
 refine Ax (λu=>Ae (GY w u ⟨Z Q p.bO R,sO gk ok p.ej O,Z f1 p.bW f3,Z S p.eD T⟩ ⟨Z E f.gw F,Z G f.gG H,Z I f.eC L⟩ f 1 (q:Int) b c)) m ?_;rintro U d;clear m;have i0:=d.ib.cell 0;have i1:=d.ib.cell 1;have i2:=d.ib.cell 2;have i3:=d.ib.cell 3;have s0:=d.sb.cell 0;have s1:=d.sb.cell 1;have s2:=d.sb.cell 2;have s3:=d.sb.cell 3;have s4:=d.sb.cell 4;have s5:=d.sb.cell 5;have s6:=d.sb.cell 6;have s7:=d.sb.cell 7;simp only[kB,i9,kC]at i0 i1 i2 i3 s0 s1 s2 s3 s4 s5 s6 s7;have c0:=Bh d.e8 P;clear P;go_wp2_with fail;go_ret;exact Fc d.e8 [z.type] 1 1 rfl
theorem TH(v:VP)(p:MP)(g:VF)(f:MF)(x:MI)(w:Y)(i:p.small)(D:p.bO.length=3)(m:f.small)(h:Da w v p)(j:DE w g f)(n:AS p f x):
 Ai Ap 243 #[Am #[v.r,v.k,v.f,v.t,g.p,f.gy,g.l,g.c],Am #[x.op,x.a,x.b,x.c]] w (Df w (CH p f x)):=by
 obtain⟨op,a,b,c⟩:=x;have A:=n.1;have y:=n.2.1;simp only[]at A y;have u:=Av n;by_cases F:op=3\/op=5\/op=7\/op=28\/op=29
 . clear A y n;rcases F with rfl|rfl|rfl|rfl|rfl
   . obtain⟨q,d,e⟩:=u.local sP;simp only[]at d e;subst d;rw[show CH p f ⟨3,q,b,c⟩=[AN f q]from by simp[CH,AG]];exact V9 v p g f q (AN f q) b c w m i h j e
   . obtain⟨q,z,r,d,s,B,e⟩:=u.cell D sP;simp only[]at d s;subst d s;rw[show CH p f ⟨5,q,z,c⟩=[DK p ⟨5,q,z,c⟩]from by simp[CH,AG]];exact Wa v p g f q z r _ c w m i h j B e
   . obtain⟨q,z,r,d,s,B,e⟩:=u.cell D sP;simp only[]at d s;subst d s;rw[show CH p f ⟨7,q,z,c⟩=[3,DK p ⟨7,q,z,c⟩]from by simp[CH,AG]];exact Wc v p g f q z r _ c w m i h j B e
   . obtain⟨q,C,d,E⟩:=u.callee rfl;simp only[]at d;subst d;rw[show CH p f ⟨28,q,b,c⟩=C.gw from by simp[CH,AG,E]];exact UR v p g f q C b c w m i h j E
   rw[show CH p f ⟨29,a,b,c⟩=A7 f from by simp[CH]];exact US v p g f 0 a b c w m i h j
 have G:op=0\/op=1\/op=2\/op=4\/op=6\/op=8\/op=9\/op=10\/op=11\/op=12\/op=13\/op=14\/op=15\/op=16\/op=17\/op=18\/op=19\/op=20\/op=21\/op=22\/op=23\/op=24\/op=25\/op=26\/op=27:=oM
 clear A y n F;rcases G with rfl|rfl|rfl|rfl|rfl|rfl|rfl|rfl|rfl|rfl|rfl|rfl|rfl|rfl|rfl|rfl|rfl|rfl|rfl|rfl|rfl|rfl|rfl|rfl|rfl
 all_goals exact Xv v g f _ a b c _ w (by simp[CH,AG])
theorem Te(v:VP)(p:MP)(g:VF)(f:MF)(x:MI)(w:Y)(m:p.small)(D:p.bO.length=3)(s:f.small)(j:Da w v p)(n:DE w g f)(u:AS p f x):
 Ai Ap 246 #[Am #[v.r,v.k,v.f,v.t,g.p,f.gy,g.l,g.c],Am #[x.op,x.a,x.b,x.c]] w (Df w (AF p f x)):=by
 obtain⟨op,a,b,c⟩:=x;have A:=u.1;have y:=u.2.1;simp only[]at A y;have i:=Av u;by_cases F:op=1\/op=2\/op=4\/op=6\/op=28
 . clear A y u;rcases F with rfl|rfl|rfl|rfl|rfl
   . obtain⟨q,z,d,e⟩:=i.const rfl;simp only[]at d;subst d;rw[show AF p f ⟨1,q,b,c⟩=[z.type]from by simp[AF,Xx,e]];exact VA v p g f q z b c w s m j n e
   . obtain⟨q,d,h⟩:=i.local sP;simp only[]at d h;subst d;rw[show AF p f ⟨2,q,b,c⟩=[AN f q]from by simp[AF]];exact VC v p g f q (AN f q) b c w s m j n h
   . obtain⟨q,z,r,d,e,B,h⟩:=i.cell D sP;simp only[]at d e;subst d e;rw[show AF p f ⟨4,q,z,c⟩=[DK p ⟨4,q,z,c⟩]from by simp[AF]];exact VD v p g f q z r _ c w s m j n B h
   . obtain⟨q,z,r,d,e,B,h⟩:=i.cell D sP;simp only[]at d e;subst d e;rw[show AF p f ⟨6,q,z,c⟩=[DK p ⟨6,q,z,c⟩]from by simp[AF]];exact VE v p g f q z r _ c w s m j n B h
   obtain⟨q,C,d,E⟩:=i.callee rfl;simp only[]at d;subst d;rw[show AF p f ⟨28,q,b,c⟩=A7 C from by simp[AF,E]];exact T9 v p g f q C b c w s m j n E
 have G:op=0\/op=3\/op=5\/op=7\/op=8\/op=9\/op=10\/op=11\/op=12\/op=13\/op=14\/op=15\/op=16\/op=17\/op=18\/op=19\/op=20\/op=21\/op=22\/op=23\/op=24\/op=25\/op=26\/op=27\/op=29:=oM
 clear A y u F;rcases G with rfl|rfl|rfl|rfl|rfl|rfl|rfl|rfl|rfl|rfl|rfl|rfl|rfl|rfl|rfl|rfl|rfl|rfl|rfl|rfl|rfl|rfl|rfl|rfl|rfl
 all_goals exact WW v g f _ a b c _ w (by simp[AF])
def NU(S:Nat)(V:J)(j:Nat):Prop:=j=S\/V.ownBlock=K j
def Yk(w:Y)(S:Nat)(V:J)(b:Int)(c:List Int)(a:Y):Prop:=EI (NU S V) w a/\(b=0->∃V',Gq a S V' c/\(V'.ownBlock=V.ownBlock\/∀g,V'.ownBlock=K g-> ↑w<=g))
structure Jv(w u:Y)(v:VP)(g:VF)(f:MF)(x:MI)(S:Nat)(V:J):Prop where
 sb:AC u w #[v.r,v.k,v.f,v.t,g.p,f.gy,g.l,g.c] 158
 ib:AC u ((w:Nat)+1) #[x.op,x.a,x.b,x.c] 72
 iG:EI (NU S V) w u
theorem Jv.step{w u c:Y}{v:VP}{g:VF}{R:Nat->Prop}(h:Jv w u v g f x S V)(a:EI R u c)(d:∀k,R k->k< ↑w->NU S V k)(b:∀k,R k->k= ↑w\/k= ↑w+1->False):Jv w c v g f x S V:=⟨a.gK h.sb (λe=>b _ e (.inl rfl)),a.gK h.ib (λe=>b _ e (.inr rfl)),h.iG.trans a (λk i e=>d k e i)⟩
theorem Jv.a7{w u b:Y}{v:VP}{g:VF}(h:Jv w u v g f x S V)(a:Ah u u b):Jv w b v g f x S V:=⟨h.sb.a7 a,h.ib.a7 a,h.iG.on a⟩
theorem NU.ge{xs:List Int}(h:Gq w S V xs)(a:NU S V j):S<=j/\j<w.heap.size:=by
 rcases a with rfl|a
 . exact⟨Nat.le_refl _,h.gK.lt⟩
 have:=h.lt j a;omega
theorem Tu(h:∀t∈AF p f x,t=0->x.op=23)(b:x.op≠23):BO p f x a=a.take (IJ p f x a)++AF p f x:=by
 unfold BO;congr 1
 rw[nF (g:=id) (λt c=>by
  have:t≠0:= λe=>b (h t c e)
  simp[this])]
 simp
theorem Nz(h:x.op=23):AG p f x=[0]:=by unfold AG;rw[kP oM,kP oM,kP oM,kP oM,kP oM,kP oM,kP oM,kP oM,kZ oM]
theorem Tc(h:x.op=23):AF p f x=[0,0]:=by unfold AF;rw[kP oM,kP oM,kP oM,kP oM,kP oM,kP oM,kP oM,kP oM,kZ h]
theorem VT(h:x.op=23)(g:1<=a.length):BO p f x a=a.take (a.length-1)++(a.drop (a.length-1)++a.drop (a.length-1)):=by
 have e:IJ p f x a= ↑a-1:=by unfold IJ;rw[Nz h];rfl
 unfold BO;rw[e,Tc h];congr 1
 obtain⟨y,b⟩:∃y,a[a.length-1]?=K y:=⟨_,an oM⟩;have c:a.drop (a.length-1)=[y]:=by
  obtain⟨d,rfl⟩:=i6.1 b;rw[mD d];congr 1
  exact List.drop_eq_nil_of_le oM
 rw[c,b];rfl
theorem JO(h:x.op≠29):CH p f x=AG p f x:=by unfold CH;rw[kP h]
theorem Ny(h:x.op=29):CH p f x=A7 f:=by unfold CH;rw[kZ h]
theorem Td(h:x.op=29):AF p f x=[]:=by unfold AF;rw[kP oM,kP oM,kP oM,kP oM,kP oM,kP oM,kP oM,kP oM,kP oM,kP oM]
theorem Tb(l:List Int):CR l l=true:=by
 induction l with
 |nil=>rfl
 |cons a r b=>simp[CR,b]
theorem SZ(h: ↑a<(AG p f x).length):Cf p f x a=1:=by unfold Cf;rw[kZ h]
theorem Jb{b:List Int}(h:(AG p f x).length<= ↑b)(c:CR (b.drop (IJ p f x b)) (AG p f x)=false\/(x.op=27/\AN f x.a≠3)):Cf p f x b=2:=by unfold Cf;rw[kP oM,kZ c]
theorem Q6{b:List Int}(h:(AG p f x).length<= ↑b)(c:CR (b.drop (IJ p f x b)) (AG p f x)=true)(d:¬(x.op=27/\AN f x.a≠3))(g:64<(BO p f x b).length):Cf p f x b=3:=by unfold Cf;rw[kP oM,kP (λe=>e.elim (λe=>by rw[c]at e;cases e) d),kZ g]
theorem Q5{b:List Int}(h:(AG p f x).length<= ↑b)(c:CR (b.drop (IJ p f x b)) (AG p f x)=true)(d:¬(x.op=27/\AN f x.a≠3))(g:¬64<(BO p f x b).length):Cf p f x b=0:=by unfold Cf;rw[kP oM,kP (λe=>e.elim (λe=>by rw[c]at e;cases e) d),kP g]
theorem Q0{a0 a c d e f g i:J}(h:AC w b #[a0,a,c,d,e,f,g,i] t):w b=K a0/\w ⟨b,1,M⟩=K a/\w ⟨b,2,M⟩=K c/\w ⟨b,3,M⟩=K d/\w ⟨b,4,M⟩=K e/\w ⟨b,5,M⟩=K f/\w ⟨b,6,M⟩=K g/\w ⟨b,7,M⟩=K i:=⟨h.cell 0,h.cell 1,h.cell 2,h.cell 3,h.cell 4,h.cell 5,h.cell 6,h.cell 7⟩
theorem Ot(d:p.small)(e:AS p f x):(CH p f x).length<=1048576:=by
 unfold CH;split
 . unfold A7;split<;>simp
 unfold AG;by_cases h:x.op=28
 . obtain⟨q,c,b,a⟩:=e.callee h;rw[kP oM,kP oM,kP oM,kP oM,kP oM,kP oM,kP oM,kP oM,kP oM,kP oM,kZ h,b,kA,a];exact(d.func c (i7 a)).1
 repeat' split
 all_goals first|contradiction|simp
theorem Q2 (v:VP)(p:MP)(g:VF)(f:MF)(x:MI)(S:Nat)(V:J)(d:List Int)(w0 w:Y)(br:p.small)(bq:A4 p 0)(hs:f.small)(hP:Da w0 v p)(hr:DE w0 g f)(hx:AS p f x)(bC: ↑w0<=S)(hb:Ah w0 w0 w)(aU:Gq w S V d)(hl:d.length<=1048576):
 Ai Ap 240 #[Am #[v.r,v.k,v.f,v.t,g.p,f.gy,g.l,g.c],.pointer S,Am #[x.op,x.a,x.b,x.c]] w λe w'=>e=Al (BQ p f x d)/\Yk w S V (BQ p f x d) (Cy p f x d) w':=by
 obtain⟨I,L,F,G,N,O,f1,f3,rfl⟩:=hP.sl;obtain⟨z,A,B,C,D,E,rfl⟩:=EH hr;have H:=Av (d5 br (d5 bq (d5 hs (d5 hP (d5 hr (d5 hx (d5 bC (d5 hb (d5 aU hl)))))))));have E0:Ae (Jv w (Ac (Ac w (Ak #[Z I p.bO L,Z F p.ej G,Z f1 p.bW f3,Z N p.eD O,Z z f.gw A,f.gy,Z B f.gG C,Z D f.eC E] 158)) (Ak #[x.op,x.a,x.b,x.c] 72)) ⟨Z I p.bO L,Z F p.ej G,Z f1 p.bW f3,Z N p.eD O⟩ ⟨Z z f.gw A,Z B f.gG C,Z D f.eC E⟩ f x S V/\Gq (Ac (Ac w (Ak #[Z I p.bO L,Z F p.ej G,Z f1 p.bW f3,Z N p.eD O,Z z f.gw A,f.gy,Z B f.gG C,Z D f.eC E] 158)) (Ak #[x.op,x.a,x.b,x.c] 72)) S V d):=by have h2:=GY.of w ⟨Z I p.bO L,Z F p.ej G,Z f1 p.bW f3,Z N p.eD O⟩ ⟨Z z f.gw A,Z B f.gG C,Z D f.eC E⟩ f x.op x.a x.b x.c;exact⟨⟨h2.sb,h2.ib,EI.of h2.e8⟩,aU.a7 h2.e8⟩
 clear br bq hs hP hr hx bC hb aU hl;generalize p.bO.length=nr at H E0⊢;generalize p.ej.length=nk at H E0⊢;generalize p.bW.length=nf at H E0⊢;generalize p.eD.length=nt at H E0⊢;generalize f.gw.length=np at H E0⊢;generalize f.gG.length=nl at H E0⊢;generalize f.eC.length=nc at H E0⊢;go_enter func240,ntmps240;go_upto_region 1 with fail
 refine Ax (λu=>Ae (Jv w u ⟨Z I nr L,Z F nk G,Z f1 nf f3,Z N nt O⟩ ⟨Z z np A,Z B nl C,Z D nc E⟩ f x S V/\Gq u S V d)) E0 ?_
 rintro U E1;clear E0;have aq:Ae (∀u,EI (NU S V) w u->Ah w0 w0 u):= λu hu=>H.2.2.2.2.2.2.2.1.trans (hu.below H.2.2.2.2.2.2.2.1.size (λj hj e=>by have:=(NU.ge H.2.2.2.2.2.2.2.2.1 e).1;have:=H.2.2.2.2.2.2.1;omega))
 obtain⟨s0,s1,s2,s3,s4,s5,s6,s7⟩:=Q0 E1.1.sb;obtain⟨i0,i1,i2,i3⟩:=BP E1.1.ib;go_wp2_with fail;refine(TH ⟨Z I nr L,Z F nk G,Z f1 nf f3,Z N nt O⟩ p ⟨Z z np A,Z B nl C,Z D nc E⟩ f x U H.1 H.2.1.parts.1.1 H.2.2.1 (H.2.2.2.1.a7 (aq.o U E1.1.iG) lR) (H.2.2.2.2.1.a7 (aq.o U E1.1.iG) lR) H.2.2.2.2.2.1).mono ?_;rintro e u1 ⟨st,rfl,ao,b1⟩;obtain⟨ta,tc,rfl⟩:=ao.dk;have aF:=Av (Ot H.1 H.2.2.2.2.2.1);have T:=Av (d5 (E1.1.a7 b1) (d5 (E1.2.a7 b1) ao));clear ao b1 E1 s0 s1 s2 s3 s4 s5 s6 s7 i0 i1 i2 i3;clear U;generalize bx:CH p f x=h at aF T⊢;have aE:=Av bx;clear bx;obtain⟨i0,i1,i2,i3⟩:=BP T.1.ib;go_upto_region 2 with fail
 go_cut [22] (λs wx=>∃bb:Bool,s=An bb/\Ae (bb=true↔(x.op=29/\d≠h))/\Ae (Jv w wx ⟨Z I nr L,Z F nk G,Z f1 nf f3,Z N nt O⟩ ⟨Z z np A,Z B nl C,Z D nc E⟩ f x S V/\Gq wx S V d/\Rd wx 1 (Z ta h tc) h (Ad As h)))
 case first=>
  by_cases n:x.op=29
  . (have bJ:(x.op==29)=true:=by simpa using n);have aQ:=Av n;clear n;go_wp2_with fail;refine(Lr S V (Z ta h tc) d h u1 T.2.1 T.2.2 H.2.2.2.2.2.2.2.2.2 aF).mono ?_;rintro e u2 ⟨⟨b2,rfl,aZ⟩,aI⟩;have q:=Av (d5 (T.1.a7 aI) (d5 (T.2.1.a7 aI) (T.2.2.a7 aI lR)));have aW:=Av aZ;clear aZ aI T i0 i1 i2 i3;cases b2
    . go_wp2_with fail;go_meet;exact⟨true,rfl,⟨λ_=>⟨aQ, λe=>(by have:=aW.2 e;cases this)⟩, λ_=>rfl⟩,q⟩
    go_wp2_with fail;go_meet;exact⟨false,rfl,⟨λe=>(by cases e), λe=>absurd (aW.1 (by first|rfl|trivial)) e.2⟩,q⟩
  have bJ:(x.op==29)=false:=by simpa using n
  have aQ:=Av n;clear n;go_wp2_with fail;go_meet;exact⟨false,rfl,⟨λe=>(by cases e), λe=>absurd e.1 aQ.o⟩,T⟩
 case rest =>
  obtain⟨bb,rfl,aS,q⟩:=hcut;clear T i0 i1 i2 i3;obtain⟨W2,bP⟩:∃W,W=wc:=⟨_,rfl⟩;subst bP;cases bb
  case true=>(have m:Ae (BQ p f x d=5):=by have h1:=aS.1 rfl;show BQ p f x d=5;unfold BQ;rw[kZ h1.1,kP (λe=>h1.2 (by rw[<-aE,Ny h1.1];exact e))]);go_wp2_with fail;go_ret;exact⟨by rw[m];rfl,q.1.iG, λe=>absurd (m.symm.trans e) dC⟩
  case false =>
   (have HB:Ae (x.op=29->d=h):= λe=>lW λe2=>by have:=aS.2 ⟨e,e2⟩;cases this);clear aS;go_wp2_with fail;refine(UG S V (Z ta h tc) d h W2 q.2.1 q.2.2 H.2.2.2.2.2.2.2.2.2 aF).mono ?_;rintro e u3 ⟨V2,cc,rfl,bS⟩;rcases bS with⟨bo,rfl,aG⟩|⟨aH,am,rfl,aG⟩|⟨aH,am,rfl,⟨V1,bu,bp⟩,aM,bg⟩
   . (have m:Ae (BQ p f x d=1):=by show BQ p f x d=1;(have i:x.op≠29:= λe=>by have:=HB.o e;subst this;omega);unfold BQ;rw[kP i];exact SZ (by rw[<-JO i,aE];exact bo));have y:=Av (q.1.iG.on aG);clear bo aG q;go_wp2_with fail;go_ret;exact⟨by rw[m];rfl,y, λe=>absurd (m.symm.trans e) dC⟩
   . (have m:Ae (BQ p f x d=2):=by show BQ p f x d=2;(have i:x.op≠29:= λe=>by have:=HB.o e;subst this;rw[mU,List.drop_zero,Tb]at am;cases am);unfold BQ;rw[kP i];(have e1:AG p f x=h:=by rw[<-JO i,aE]);exact Jb (by rw[e1];exact aH) (.inl (by unfold IJ;rw[e1];exact am)));have y:=Av (q.1.iG.on aG);clear aH am aG q;go_wp2_with fail;go_ret;exact⟨by rw[m];rfl,y, λe=>absurd (m.symm.trans e) dC⟩
   . obtain ⟨va,vc,bH⟩:=AO aM;subst bH;have bL:=q.2.1.gK.lt;have bT:S<w.heap.size:=H.2.2.2.2.2.2.2.2.1.gK.lt;have y:=Av (d5 (q.1.step bg (λk e _=>.inl e) (λk e e2=>oM)) (d5 bu (d5 bp (Rd.gM aM))));have aY:Ae (GW (Z va h vc)):=by
      rcases BU aM with⟨e,_⟩|⟨g',c',e⟩
      . exact .inl e
      exact .inr ⟨_,_,_,e⟩
     have ah:=Av (d5 aH am);clear aH am bu bp aM bg q bL;clear W2;obtain⟨s0,s1,s2,s3,s4,s5,s6,s7⟩:=Q0 y.1.sb;obtain⟨i0,i1,i2,i3⟩:=BP y.1.ib;go_wp2_with fail;refine(Lk ⟨Z I nr L,Z F nk G,Z f1 nf f3,Z N nt O⟩ p ⟨Z z np A,Z B nl C,Z D nc E⟩ f x.op x.a x.b x.c u3 H.2.2.1 (H.2.2.2.1.a7 (aq.o u3 y.1.iG) lR) (H.2.2.2.2.1.a7 (aq.o u3 y.1.iG) lR) (λe=>H.2.2.2.2.2.1.local oM)).mono ?_;rintro e u4 ⟨⟨b4,rfl,b7⟩,aJ⟩;have X:=Av (d5 (y.1.a7 aJ) (d5 (y.2.1.a7 aJ) (d5 y.2.2.1 (y.2.2.2.a7 aJ lR))));have aR:=Av b7;clear b7 aJ y s0 s1 s2 s3 s4 s5 s6 s7 i0 i1 i2 i3;clear u3;(have aj:Ae (x.op≠29->AG p f x=h):= λe=>by rw[<-JO e,aE]);cases b4
     . have m:Ae (BQ p f x d=2):=by
        show BQ p f x d=2;have h1:x.op=27/\AN f x.a≠3:=lW λe=>by have:=aR.2 e;cases this
        have i:x.op≠29:=oM;unfold BQ;rw[kP i];exact Jb (by rw[aj.o i];exact ah.1) (.inr h1)
       go_wp2_with fail;go_ret;exact⟨by rw[m];rfl,X.1.iG, λe=>absurd (m.symm.trans e) dC⟩
     . have HG:Ae (¬(x.op=27/\AN f x.a≠3)):=aR.1 (by first|rfl|trivial)
       clear aR;obtain⟨s0,s1,s2,s3,s4,s5,s6,s7⟩:=Q0 X.1.sb;obtain⟨i0,i1,i2,i3⟩:=BP X.1.ib;go_wp2_with fail;refine(Te ⟨Z I nr L,Z F nk G,Z f1 nf f3,Z N nt O⟩ p ⟨Z z np A,Z B nl C,Z D nc E⟩ f x u4 H.1 H.2.1.parts.1.1 H.2.2.1 (H.2.2.2.1.a7 (aq.o u4 X.1.iG) lR) (H.2.2.2.2.1.a7 (aq.o u4 X.1.iG) lR) H.2.2.2.2.2.1).mono ?_;rintro e u5 ⟨gt,rfl,ao,b5⟩;obtain⟨ga,gc,rfl⟩:=ao.dk;have P:=Av (d5 (X.1.a7 b5) (d5 (X.2.1.a7 b5) (d5 X.2.2.1 (d5 (X.2.2.2.a7 b5 lR) ao))));clear ao b5 X s0 s1 s2 s3 s4 s5 s6 s7 i0 i1 i2 i3;clear u4;have bF:=Av ((Lh H.2.1 H.2.2.2.2.2.1).2);generalize bi:(AF p f x).length=gl at P⊢;have aX:=Av bi;clear bi;obtain⟨i0,i1,i2,i3⟩:=BP P.1.ib;have aA:Ae ((d.drop (d.length-↑h)).length= ↑h):=by
        show(d.drop (d.length-↑h)).length= ↑h
        rw[mQ];have:=ah.1;omega
       (go_upto_if 41 with fail);go_cut [10] (λs wx=>∃a c,∃R:List Int,s=Z a R c/\Ae (Cy p f x d=d.take (d.length-↑h)++R/\R.length<=1048576/\Jv w wx ⟨Z I nr L,Z F nk G,Z f1 nf f3,Z N nt O⟩ ⟨Z z np A,Z B nl C,Z D nc E⟩ f x S V/\Gq wx S V1 (d.take (d.length-↑h))/\Rd wx 1 (Z a R c) R (Ad As R)))
       case first=>
        by_cases au:x.op=23
        . (have bI:(x.op==23)=true:=by simpa using au);have aw:=Av au;clear au;have B0:=Aq u5 (Ak #[Z va h vc,Z va h vc] 46);have K0:=AC.new u5 #[Z va h vc,Z va h vc] 46;go_wp2_with fail;refine(Pe u5 (Z va h vc) (Z va h vc) (d.drop (d.length-↑h)) (d.drop (d.length-↑h)) _ (by rw[aA];exact aF) (by rw[aA];exact aF) (by rw[aA];exact P.2.2.2.1.a7 B0 lR) (by rw[aA];exact P.2.2.2.1.a7 B0 lR) aY aY (K0.cell 0) (K0.cell 1)).mono ?_
          rintro e u6 ⟨v6,rfl,aP,b6⟩;have bj:(d.drop (d.length-↑h)).length+(d.drop (d.length-↑h)).length=(d.drop (d.length-↑h)++d.drop (d.length-↑h)).length:=by rw[kE]
          rw[bj]at aP;obtain⟨a6,c6,e6⟩:=AO aP;subst e6;have B6:=Ar B0 lR b6;have Q:Ae (Cy p f x d=d.take (d.length-↑h)++(d.drop (d.length-↑h)++d.drop (d.length-↑h))/\(d.drop (d.length-↑h)++d.drop (d.length-↑h)).length<=1048576/\Jv w u6 ⟨Z I nr L,Z F nk G,Z f1 nf f3,Z N nt O⟩ ⟨Z z np A,Z B nl C,Z D nc E⟩ f x S V/\Gq u6 S V1 (d.take (d.length-↑h))/\Rd u6 1 (Z a6 (d.drop (d.length-↑h)++d.drop (d.length-↑h)).length c6) (d.drop (d.length-↑h)++d.drop (d.length-↑h)).length (Ad As (d.drop (d.length-↑h)++d.drop (d.length-↑h)))):=by
           (have i:x.op≠29:=by have:=aw.o;omega);(have e1:h.length=1:=by rw[<-aj.o i,Nz aw];rfl);refine⟨?_,?_,P.1.a7 B6,P.2.1.a7 B6,Rd.gM aP⟩
           . unfold Cy;rw[kP i,VT aw (by have:=ah.1;omega),e1]
           rw[kE,aA];omega
          clear aP b6 B6 B0 K0 bj P;generalize bR:d.drop (d.length-h.length)++d.drop (d.length-h.length)=R at Q⊢;clear bR;go_wp2_with fail;go_meet;exact⟨_,_,R,rfl,Q⟩
        (have bI:(x.op==23)=false:=by simpa using au);have aw:=Av au;clear au;have Q:Ae (Cy p f x d=d.take (d.length-↑h)++AF p f x/\(AF p f x).length<=1048576/\Jv w u5 ⟨Z I nr L,Z F nk G,Z f1 nf f3,Z N nt O⟩ ⟨Z z np A,Z B nl C,Z D nc E⟩ f x S V/\Gq u5 S V1 (d.take (d.length-↑h))/\Rd u5 1 (Z ga (AF p f x).length gc) (AF p f x).length (Ad As (AF p f x))):=by
         refine⟨?_,by have:=bF.o;omega,P.1,P.2.1,by rw[aX];exact P.2.2.2.2⟩;unfold Cy;split
         . rename_i n;have e1:d=h:=HB.o n;rw[Td n,e1,mU];rfl
         rename_i n;rw[Tu (Ua H.2.1 H.2.2.2.2.2.1) aw];unfold IJ;rw[aj.o n]
        go_wp2_with fail;go_meet;exact⟨_,_,AF p f x,by rw[aX],Q⟩
       case rest=>
        obtain⟨pa,pc,R,rfl,Q⟩:=hcut;clear i0 i1 i2 i3;have aT:=Av P.2.2.1;clear P;obtain⟨W7,bQ⟩:∃W,W=wc:=⟨_,rfl⟩;subst bQ;go_wp2_with fail;refine(Nr S V1 (Z pa R pc) (d.take (d.length-↑h)) R W7 Q.2.2.2.1 Q.2.2.2.2 (by rw[lh];have:=H.2.2.2.2.2.2.2.2.2;omega) Q.2.1).mono ?_
        rintro e u8 ⟨rfl,V',bt,bf,bB⟩;have E8:Ae (Jv w u8 ⟨Z I nr L,Z F nk G,Z f1 nf f3,Z N nt O⟩ ⟨Z z np A,Z B nl C,Z D nc E⟩ f x S V/\Gq u8 S V' (Cy p f x d)/\(V'.ownBlock=V.ownBlock\/∀g,V'.ownBlock=K g-> ↑w<=g)):=by
         refine⟨Q.2.2.1.step bf (λk e _=> ?_) (λk e e2=> ?_),by rw[Q.1];exact bt,?_⟩
         . rcases e with e|e
           . exact .inl e
           exact .inr (by rw[<-aT];exact e)
         . rcases e with e|e
           . omega
           have:=(H.2.2.2.2.2.2.2.2.1.lt k (by rw[<-aT];exact e)).2;omega
         rcases bB with e|e
         . exact .inl (e.trans aT)
         exact .inr λg hg=>kV Q.2.2.1.iG.size (e g hg)
        clear bt bf bB Q;clear W7;go_wp2_with fail;refine(Gz S V' (Cy p f x d) u8 E8.2.1).mono ?_;rintro e u9 ⟨rfl,rfl⟩;(have bG:Ae (x.op=29->Cy p f x d=[]):= λe=>by unfold Cy;rw[kZ e]);by_cases ae:64<(Cy p f x d).length
        . (have m:Ae (BQ p f x d=3):=by (have i:x.op≠29:= λe=>by rw[bG.o e]at ae;simp at ae);(have e1:Cy p f x d=BO p f x d:=by unfold Cy;rw[kP i]);rw[e1]at ae;show BQ p f x d=3;unfold BQ;rw[kP i];exact Q6 (by rw[aj.o i];exact ah.1) (by unfold IJ;rw[aj.o i];exact ah.2) HG ae);have bK:(64:Int)<((Cy p f x d).length:Int):=oM;clear ae;go_wp2_with fail;go_ret;exact⟨by rw[m];rfl,E8.1.iG, λe=>absurd (m.symm.trans e) dC⟩
        . have m:Ae (BQ p f x d=0):=by
           show BQ p f x d=0;unfold BQ;split
           . rename_i n;rw[kZ];rw[HB.o n,<-aE,Ny n]
           rename_i i;(have e1:Cy p f x d=BO p f x d:=by unfold Cy;rw[kP i]);rw[e1]at ae;exact Q5 (by rw[aj.o i];exact ah.1) (by unfold IJ;rw[aj.o i];exact ah.2) HG ae
          have bK:¬(64:Int)<((Cy p f x d).length:Int):=oM;clear ae;go_wp2_with fail;go_ret;exact⟨by rw[m];rfl,E8.1.iG, λ_=>⟨V',E8.2.1,E8.2.2⟩⟩
end Go.Proofs.YtmalfecapdmdbaaGreat
