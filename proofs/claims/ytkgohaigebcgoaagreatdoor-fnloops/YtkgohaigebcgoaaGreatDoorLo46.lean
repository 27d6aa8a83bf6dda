import Derived.Test.YtkgohaigebcgoaaGreatDoorLo45
namespace Go.Proofs.YtkgohaigebcgoaaGreatDoor
open Go.ChangeShapes Go.WideShapes Go.ChangeAt Go.RowKit Go.Proofs.Tryz
set_option linter.unusedVariables false
open Go.Value renaming slice → Z,int → Ag,agg → An,tuple → Ap
open Option renaming some → K,none → M
open Go renaming Value → J,World → Y,Calls → Ai,TypeId → Aj
open Go.RowKit renaming Hid → Ae,Below → Ah
open Go.Obj renaming cells → Ak
open Go.Ending renaming returned → Am
open Go.Proofs.Tryz renaming prog → Aq
open Go.World renaming setCell → Aa,alloc → Ac,ownsRow → Ab
open List renaming flatMap → Ad
open Go.IntKind renaming i64 → Af
set_option maxHeartbeats 16000000
set_option maxRecDepth 100000
variable {b c f g cap:Nat}{t e:Aj}{s:J}{y:Int}
theorem nQ{u:Y}{v:BQ}{c:J}(H:Ay u b (Jl v c s) t):u b=K (Z v.r.a v.r.n v.r.c)/\u ⟨b,1,M⟩=K (Z v.k.a v.k.n v.k.c)/\u ⟨b,2,M⟩=K (Z v.f.a v.f.n v.f.c)/\u ⟨b,3,M⟩=K (Z v.t.a v.t.n v.t.c)/\u ⟨b,4,M⟩=K (Z v.p.a v.p.n v.p.c)/\u ⟨b,5,M⟩=K ↑v.rs/\u ⟨b,6,M⟩=K (Z v.l.a v.l.n v.l.c)/\u ⟨b,7,M⟩=K (Z v.c.a v.c.n v.c.c)/\u ⟨b,8,M⟩=K ↑v.nu/\u ⟨b,9,M⟩=K ↑v.co/\u ⟨b,10,M⟩=K ↑v.at_/\u ⟨b,11,M⟩=K (Z v.b.a v.b.n v.b.c)/\u ⟨b,12,M⟩=K (Z v.o.a v.o.n v.o.c)/\u ⟨b,13,M⟩=K (Z v.i.a v.i.n v.i.c)/\u ⟨b,14,M⟩=K (Z v.q.a v.q.n v.q.c):=by unfold Jl at H;exact⟨H.cell 0,H.cell 1,H.cell 2,H.cell 3,H.cell 4,H.cell 5,H.cell 6,H.cell 7,H.cell 8,H.cell 9,H.cell 10,H.cell 11,H.cell 12,H.cell 13,H.cell 14⟩
def Cg(gC gS k:Nat):Prop:=k=gC\/k=gS
section
variable {u:Y} {B CB:Nat} {v:BQ} {n gC cC gS cS:Nat} {I:List Nat} {C:List Int}
theorem CH.ir(h:CH u B CB v n gC cC gS cS I C):CB≠gC/\CB≠gS:=by
 obtain⟨_,c1,b⟩:=AY h.co;obtain⟨_,c2,c⟩:=AY h.st;have a:=h.eP;unfold Ay at a;constructor
 . intro e;rw[<-e,a]at b;cases b
 intro e;rw[<-e,a]at c;cases c
theorem CH.lo(h:CH u B CB v n gC cC gS cS I C):B<=gC/\B<=gS:=⟨(AY h.co).1,(AY h.st).1⟩
theorem CH.fH(h:CH u B CB v n gC cC gS cS I C)(k:Nat)(c:Ks y):CH (Aa u ⟨gC,k,M⟩ y) B CB v n gC cC gS cS I (C.set k y):=by have b:=(mW h.co k y).1;rw[Pm]at b;exact{h with eP:=h.eP.other (a:=⟨gC,k,M⟩) h.ir.1 _,co:=b,st:=Ep h.st h.ne.symm,lc:=by rw[ki];exact h.lc,cc:=Rk h.cc c}
theorem CH.fR(h:CH u B CB v n gC cC gS cS I C)(k:Nat){y:Nat}(c:y<n):CH (Aa u ⟨gS,k,M⟩ y) B CB v n gC cC gS cS (I.set k y) C:=by have b:=(mW h.st k y).1;rw[pk]at b;exact{h with eP:=h.eP.other (a:=⟨gS,k,M⟩) h.ir.2 _,st:=b,co:=Ep h.co h.ne,li:=by rw[ki];exact h.li,ii:= λz d=>(lP d).elim (h.ii z) (λe=>by rw[e];exact c)}
theorem CH.frz(h:CH u B CB v n gC cC gS cS I C)(c:Nat):u.frozen? ⟨gC,c,M⟩=false/\u.frozen? ⟨gS,c,M⟩=false:=by obtain⟨_,c1,a⟩:=AY h.co;obtain⟨_,c2,b⟩:=AY h.st;exact⟨frozen_of_row u gC c c1 _ a,frozen_of_row u gS c c2 _ b⟩
end
def nI(E:Nat->List Nat)(n:Nat)(e:List MB)(l:ML)(I:List Nat)(C:List Int)(h:Nat)(f:Nat->Nat)(iv:Int)(b:Bool)(d:List Nat)(c:List Int):Prop:=∃(L:List Int) (small:Bool),oz E n (λb=>decide ((b:Int)∈l.aC)) I C h f L small/\(small=false->b=false)/\(small=true->∃ar a,EX (λb=>cf L (jf I b)) (λb=>(b:Int)∈l.back) ar/\EX (λb=>cf L (jf I b)) (λb=>(b:Int)∈l.aC/\Sf e l.aC b) a/\(4294967295<iv*ar+a->b=false)/\(iv*ar+a<=4294967295->b=true/\c=C.set h (iv*ar+a)/\∀j,jf d j=if j∈l.aC.map Int.toNat then h else jf I j))
structure Kt(w0 w u:Y)(CB:Nat)(v:BQ)(n gC cC gS cS h:Nat)(xa:Option Addr)(xc:Nat)(ka:Option Addr)(kc:Nat)(l:ML)(I:List Nat)(C:List Int):Prop where
 lb:Ay u w #[h,Z xa l.back xc,Z ka l.aC kc] 65
 co:CH u w0 CB v n gC cC gS cS I C
 ch:DX (Cg gC gS) w u
 cq:Ah w0 w0 u
theorem Kt.av{e w u d:Y}{CB:Nat}{v:BQ}{n gC cC gS cS h:Nat}{f:Option Addr}{b:Option Addr}{l:ML}{I:List Nat}{C:List Int}(H:Kt e w u CB v n gC cC gS cS h f g b c l I C)(a:Ah u u d):Kt e w d CB v n gC cC gS cS h f g b c l I C:=⟨H.lb.av a,H.co.av a,H.ch.on a,Ar H.cq lR a⟩
theorem Kt.jd{g w u:Y}{CB:Nat}{v:BQ}{n gC cC gS cS h:Nat}{i:Option Addr}{j:Nat}{d:Option Addr}{l:ML}{I:List Nat}{C:List Int}(H:Kt g w u CB v n gC cC gS cS h i j d f l I C): ↑w≠gC/\ ↑w≠gS:=by
 obtain⟨_,c1,b⟩:=AY H.co.co;obtain⟨_,c2,c⟩:=AY H.co.st;have a:=H.lb;unfold Ay at a;constructor
 . intro e;rw[<-e,a]at b;cases b
 intro e;rw[<-e,a]at c;cases c
theorem Kt.fH{d w u:Y}{CB:Nat}{v:BQ}{n gC cC gS cS h:Nat}{e:Option Addr}{b:Option Addr}{l:ML}{I:List Nat}{C:List Int}(H:Kt d w u CB v n gC cC gS cS h e f b c l I C)(k:Nat)(g:Ks y):Kt d w (Aa u ⟨gC,k,M⟩ y) CB v n gC cC gS cS h e f b c l I (C.set k y):=⟨H.lb.other (a:=⟨gC,k,M⟩) H.jd.1 _,H.co.fH k g,H.ch.setCell (.inl (.inl rfl)) _,H.cq.setCell H.co.lo.1 _⟩
theorem Kt.fR{d w u:Y}{CB:Nat}{v:BQ}{n gC cC gS cS h:Nat}{e:Option Addr}{b:Option Addr}{l:ML}{I:List Nat}{C:List Int}(H:Kt d w u CB v n gC cC gS cS h e f b c l I C)(k:Nat){y:Nat}(g:y<n):Kt d w (Aa u ⟨gS,k,M⟩ y) CB v n gC cC gS cS h e f b c l (I.set k y) C:=⟨H.lb.other (a:=⟨gS,k,M⟩) H.jd.2 _,H.co.fR k g,H.ch.setCell (.inl (.inr rfl)) _,H.cq.setCell H.co.lo.2 _⟩
theorem Kt.ia{d w u:Y}{CB:Nat}{v:BQ}{n gC cC gS cS h:Nat}{q:Option Addr}{r:Nat}{m:Option Addr}{p:Nat}{l:ML}{I:List Nat}{C:List Int}(H:Kt d w u CB v n gC cC gS cS h q r m p l I C){s:Array J}{ty:Aj}(D: ↑w<g)(E:(d:Nat)<= ↑w)(t:Ay u g s ty)(i:Nat)(z:J)(k:ty≠2:=by decide)(x:ty≠256:=by decide):Kt d w (Aa u ⟨g,i,M⟩ z) CB v n gC cC gS cS h q r m p l I C:=by
 obtain⟨F,c1,f⟩:=AY H.co.co;obtain⟨G,c2,j⟩:=AY H.co.st;have c:=H.co.eP;have b:=t;unfold Ay at c b;have y:gC≠g:= λe=>by rw[e,b]at f;cases f;exact k rfl
 have A:gS≠g:= λe=>by rw[e,b]at j;cases j;exact k rfl
 have B:CB≠g:= λe=>by rw[e,b]at c;cases c;exact x rfl
 exact⟨H.lb.other (a:=⟨g,i,M⟩) oS _,{H.co with eP:=H.co.eP.other (a:=⟨g,i,M⟩) B _,co:=Ep H.co.co y,st:=Ep H.co.st A},H.ch.setCell (.inr oS) _,H.cq.setCell oS _⟩
theorem Zz{I:List Nat}{k y j:Nat}(a:k< ↑I):jf (I.set k y) j=if j=k then y else jf I j:=by
 unfold jf;rw[jQ,jQ,List.getElem?_set];by_cases e:j=k
 . subst e;simp[a]
 rw[jH (Ne.symm e),jH e]
theorem Mc(y:Y)(CB:Nat)(v:BQ)(gC cC gS cS:Nat)(I:List Nat)(C:List Int)(p:MP)(fi:Int)(F:List (MB×J))(xs:List MI)(r:Ee)(E:Nat->List Nat)(R:List Nat)(pl:Nat->Nat)(h:Nat)(m:MB)(t:MT)(B:Option Addr)(D:Nat)(G:Option Addr)(N:Nat)(l:ML)(w:Y)(aZ:Ah y y w)(hG:Ug y v p fi F xs r)(hS:CH w y CB v r.aC gC cC gS cS I C)(hF:pT y v r.aC E R pl)(hl:l∈r.cv)(cj:l.head=(h:Int))(bg:∀z∈l.back,∃b:Nat,z=(b:Int)/\b< ↑r.aC)(hr:pS y (l,Z B l.back D,Z G l.aC N))(hm:r.aC[h]?=K m)(ht:Da p.bO fi m.cz=K t)(bZ:Ks t.init):
 Ai Aq 164 #[.pointer CB,An #[h,Z B l.back D,Z G l.aC N]] w λe d=>∃(b:Bool) (I':List Nat) (C':List Int),e=Am b/\CH d y CB v r.aC gC cC gS cS I' C'/\DX (Cg gC gS) w d/\Ah y y d/\nI E r.aC r.aC l I C h pl t.init b I' C':=by
 obtain⟨⟨h1,q1,hh⟩,bq,br,cJ⟩:=hG.fh.loop l hl;have eh:h=h1:=oM;subst eh;have bu:r.aC.length<=1024:=hG.fh.nb;have H:=Aw (fd hG (fd hF (fd hr (fd bq (fd bg (fd hm ht))))));have aa:=Aw aZ;have HS:=Aw hS;obtain⟨ce,cg⟩:=bZ;clear hG hF hr bq bg hm ht aZ hl cj q1 hS;generalize hn:r.aC.length=n at HS hh bu⊢;have HN:=Aw hn;clear hn;have cK:(h:Int)<(n:Int):=oM;have E0:Ae (Kt y w (Ac w (Ak #[h,Z B l.back D,Z G l.aC N] 65)) CB v n gC cC gS cS h B D G N l I C):=⟨Ay.new _ _ _,HS.av (Al _ _),DX.of (Al _ _),Ar aa lR (Al _ _)⟩;go_enter func164,ntmps164;go_upto_region 1 with fail
 refine Av (λu=>Ae (Kt y w u CB v n gC cC gS cS h B D G N l I C)) E0 ?_;rintro U X;clear E0;obtain⟨l0,l1,l2⟩:=Dv X.lb;go_wp2_with fail;have aE:=Aw (H.2.1.av X.cq);rw[HN]at aE;refine(He y CB v n gC cC gS cS I C E R pl h ⟨B,l.back,D⟩ G N l.aC U bu X.co aE hh br (Rd.av H.2.2.1.2 X.cq lR) (by rw[<-HN];exact H.2.2.2.1)).mono ?_;rintro e T ⟨gL,L,small,rfl,hL,aX,Q⟩;have aH:=Aw aX;have E1:=Aw (X.av Q);have HL:=Aw hL;clear hL aX Q X l0 l1 l2 aE;cases small
 case false=>
  have ae:Ae (∃(b:Bool) (I':List Nat) (C':List Int),Ending.returned false=Am b/\CH T y CB v n gC cC gS cS I' C'/\DX (Cg gC gS) w T/\Ah y y T/\nI E n r.aC l I C h pl t.init b I' C'):=⟨false,I,C,rfl,E1.co,E1.ch,E1.cq,L,false,aH, λ_=>rfl, λh=>(by cases h)⟩
  go_wp2_with fail;go_ret;exact ae
 have aW:Ae (∀u,Ah T T u->∀c,c<n->u ⟨gL,c,M⟩=K ↑(cf L c)):= λu hu c hc=>Az hu ((HL.o rfl).1 c hc)
 have aT:=Aw ((HL.o rfl).2);clear HL;go_upto_region 4 with fail
 go_cut [7] (λs wx=>∃KB:Nat,s=.pointer KB/\Ae (Kt y w wx CB v n gC cC gS cS h B D G N l I C/\Ay wx KB #[t.func,t.head,t.eI,Ag .u32 t.init] 37/\Ah T T wx))
 case first=>
  have x:Ae (Kt y w T.drew CB v n gC cC gS cS h B D G N l I C/\Ah T T T.drew):=⟨E1.av (At _),At _⟩
  have V:∀d,Kt y w d CB v n gC cC gS cS h B D G N l I C->d.cell? CB=K (Z v.r.a v.r.n v.r.c)/\d.cell? ⟨CB,1,M⟩=K (Z v.k.a v.k.n v.k.c)/\d.cell? ⟨CB,2,M⟩=K (Z v.f.a v.f.n v.f.c)/\d.cell? ⟨CB,3,M⟩=K (Z v.t.a v.t.n v.t.c)/\d.cell? ⟨CB,4,M⟩=K (Z v.p.a v.p.n v.p.c)/\d.cell? ⟨CB,5,M⟩=K ↑v.rs/\d.cell? ⟨CB,6,M⟩=K (Z v.l.a v.l.n v.l.c)/\d.cell? ⟨CB,7,M⟩=K (Z v.c.a v.c.n v.c.c)/\d.cell? ⟨CB,8,M⟩=K ↑v.nu/\d.cell? ⟨CB,9,M⟩=K ↑v.co/\d.cell? ⟨CB,10,M⟩=K ↑v.at_/\d.cell? ⟨CB,11,M⟩=K (Z v.b.a v.b.n v.b.c)/\d.cell? ⟨CB,12,M⟩=K (Z v.o.a v.o.n v.o.c)/\d.cell? ⟨CB,13,M⟩=K (Z v.i.a v.i.n v.i.c)/\d.cell? ⟨CB,14,M⟩=K (Z v.q.a v.q.n v.q.c)/\d.cell? w=K ↑h/\d.cell? ⟨w,1,M⟩=K (Z B l.back D)/\d.cell? ⟨w,2,M⟩=K (Z G l.aC N):= λd E=>by obtain⟨p0,p1,p2,p3,p4,p5,p6,p7,p8,p9,aK,aM,aO,aQ,aR⟩:=nQ E.co.eP;obtain⟨l0,l1,l2⟩:=Dv E.lb;exact⟨p0,p1,p2,p3,p4,p5,p6,p7,p8,p9,aK,aM,aO,aQ,aR,l0,l1,l2⟩
  have aA:Ae (∀u,Ah y y u->Ai Aq 67 #[An v.cells,An #[h,Z B l.back D,Z G l.aC N]] u λe d=>(∃b,e=Am (Ap #[An #[t.func,t.head,t.eI,Ag .u32 t.init],b]))/\Ah u u d):= λu hu=>by
   have hk:=H.1.av hu;refine(LQ v ⟨B,l.back,D⟩ ⟨G,l.aC,N⟩ p.bO F h m u (jN hk.bs.len oM) hk.bs.rd (by rw[hk.eb];exact H.2.2.2.2.2.1) hk.tn hk.tr).mono ?_;rintro e d ⟨⟨t',b,rfl,q1,q2⟩,Q⟩;rw[hk.nu,H.2.2.2.2.2.2]at q1 q2;cases b
   . cases q2 rfl
   (cases q1 rfl);exact⟨⟨true,rfl⟩,Q⟩
  refine wp_region_held_drew (S:= λd=>d.cell? CB=K (Z v.r.a v.r.n v.r.c)/\d.cell? ⟨CB,1,M⟩=K (Z v.k.a v.k.n v.k.c)/\d.cell? ⟨CB,2,M⟩=K (Z v.f.a v.f.n v.f.c)/\d.cell? ⟨CB,3,M⟩=K (Z v.t.a v.t.n v.t.c)/\d.cell? ⟨CB,4,M⟩=K (Z v.p.a v.p.n v.p.c)/\d.cell? ⟨CB,5,M⟩=K ↑v.rs/\d.cell? ⟨CB,6,M⟩=K (Z v.l.a v.l.n v.l.c)/\d.cell? ⟨CB,7,M⟩=K (Z v.c.a v.c.n v.c.c)/\d.cell? ⟨CB,8,M⟩=K ↑v.nu/\d.cell? ⟨CB,9,M⟩=K ↑v.co/\d.cell? ⟨CB,10,M⟩=K ↑v.at_/\d.cell? ⟨CB,11,M⟩=K (Z v.b.a v.b.n v.b.c)/\d.cell? ⟨CB,12,M⟩=K (Z v.o.a v.o.n v.o.c)/\d.cell? ⟨CB,13,M⟩=K (Z v.i.a v.i.n v.i.c)/\d.cell? ⟨CB,14,M⟩=K (Z v.q.a v.q.n v.q.c)/\d.cell? w=K ↑h/\d.cell? ⟨w,1,M⟩=K (Z B l.back D)/\d.cell? ⟨w,2,M⟩=K (Z G l.aC N)) kR (V _ x.1) (λP=> ?_)
  clear E1;generalize T.drew=U2 at x P⊢;unfold BQ.cells at aA;refine A5 0 ?_ (hw:=kR);refine A5 1 ?_ (hw:=kR);refine A5 2 ?_ (hw:=kR);refine A5 3 ?_ (hw:=kR);refine A5 4 ?_ (hw:=kR);refine wpAnyH_ready (rs:=[5,9]) kR sP ?_;refine AllReadyH.cons rfl ?_ (AllReadyH.cons rfl ?_ AllReadyH.nil)
  . intro O A;rw[jP kR];go_simp;refine(aA.o U2 x.1.cq).mono ?_;rintro e u3 ⟨⟨b,rfl⟩,Q⟩;have E3:=Aw (fd (x.1.av Q) (Ar x.2 lR Q));clear Q;go_simp;refine A.o _ _ (V _ E3.1) (λP=> ?_);clear A O;refine A5 6 ?_ (hw:=kR);refine A5 7 ?_ (hw:=kR);refine A5 8 ?_ (hw:=kR);refine DU 9 ?_;intro O A;rw[jP kR];go_simp;refine A.o _ _ (V _ (E3.1.av (Al _ _))) (λP=> ?_);clear A O;refine DU 10 ?_;intro O A;rw[jP kR];go_simp;refine A.o _ _ (V _ (E3.1.av (Al _ _))) (λP=> ?_);clear A O;refine A5 11 ?_ (hw:=kR);refine wpAnyH_done kR ?_ _;go_wp2_with fail;go_meet;exact⟨u3,rfl,E3.1.av (Al _ _),Ay.new _ _ _,Ar E3.2 lR (Al _ _)⟩
  intro O A;rw[jP kR];go_simp;refine A.o _ _ (V _ (x.1.av (Al _ _))) (λP=> ?_);clear A O;refine DU 5 ?_;intro O A;rw[jP kR];go_simp;refine(aA.o _ (x.1.av (Al _ _)).cq).mono ?_;rintro e u3 ⟨⟨b,rfl⟩,Q⟩;have E3:Ae (Kt y w u3 CB v n gC cC gS cS h B D G N l I C/\Ah T T u3):=⟨(x.1.av (Al _ _)).av Q,Ar x.2 lR (Ar (Al _ _) lR Q)⟩
  have BZ:Ae (Ay u3 U2 #[iZ 0,iZ 0,iZ 0,Ag .u32 0] 37):=(Ay.new _ _ _).av Q;have aq:=Aw x.2.size;have aj:=Aw x.1.lb.lt;clear Q;go_simp;refine A.o _ _ (V _ E3.1) (λP=> ?_);clear A O;refine A5 6 ?_ (hw:=kR);refine A5 7 ?_ (hw:=kR);refine A5 8 ?_ (hw:=kR);refine DU 10 ?_;intro O A;rw[jP kR];have bH:=BZ.cell 0;have bI:=BZ.cell 1;have bJ:=BZ.cell 2;have bP:=BZ.cell 3;have bS:=BZ.frozen 0;have bT:=BZ.frozen 1;have bV:=BZ.frozen 2;have bY:=BZ.frozen 3;generalize cH:U2.heap.size=KB at BZ bH bI bJ bP bS bT bV bY aq aj⊢;have W:Ae (Kt y w (Aa (Aa (Aa (u3.setCell KB t.func) ⟨KB,1,M⟩ t.head) ⟨KB,2,M⟩ t.eI) ⟨KB,3,M⟩ (Ag .u32 t.init)) CB v n gC cC gS cS h B D G N l I C/\Ah T T (Aa (Aa (Aa (u3.setCell KB t.func) ⟨KB,1,M⟩ t.head) ⟨KB,2,M⟩ t.eI) ⟨KB,3,M⟩ (Ag .u32 t.init))):=⟨(((E3.1.ia aj.o aa.size BZ.o 0 _).ia aj.o aa.size (BZ.set 0 _) 1 _).ia aj.o aa.size ((BZ.set 0 _).set 1 _) 2 _).ia aj.o aa.size (((BZ.set 0 _).set 1 _).set 2 _) 3 _,(((E3.2.setCell aq.o _).setCell aq.o _).setCell aq.o _).setCell aq.o _⟩
  have B5:=Aw ((((BZ.set 0 t.func).set 1 t.head).set 2 t.eI).set 3 (Ag .u32 t.init));simp only[kB,kX,kU]at B5;go_simp;refine A.o _ _ (V _ W.1) (λP=> ?_);clear A O;refine A5 11 ?_ (hw:=kR);refine wpAnyH_done kR ?_ _;go_wp2_with fail;go_meet;exact⟨KB,rfl,W.1,B5,W.2⟩
 case rest=>
 obtain⟨KB,rfl,E4⟩:=hcut;clear E1;go_upto_region 5 with fail
 have x:=Aw (fd (E4.1.av (At _)) (fd (E4.2.1.av (At _)) (Ar E4.2.2 lR (At _))));clear E4;have V:∀d,Kt y w d CB v n gC cC gS cS h B D G N l I C->d.cell? CB=K (Z v.r.a v.r.n v.r.c)/\d.cell? ⟨CB,1,M⟩=K (Z v.k.a v.k.n v.k.c)/\d.cell? ⟨CB,2,M⟩=K (Z v.f.a v.f.n v.f.c)/\d.cell? ⟨CB,3,M⟩=K (Z v.t.a v.t.n v.t.c)/\d.cell? ⟨CB,4,M⟩=K (Z v.p.a v.p.n v.p.c)/\d.cell? ⟨CB,5,M⟩=K ↑v.rs/\d.cell? ⟨CB,6,M⟩=K (Z v.l.a v.l.n v.l.c)/\d.cell? ⟨CB,7,M⟩=K (Z v.c.a v.c.n v.c.c)/\d.cell? ⟨CB,8,M⟩=K ↑v.nu/\d.cell? ⟨CB,9,M⟩=K ↑v.co/\d.cell? ⟨CB,10,M⟩=K ↑v.at_/\d.cell? ⟨CB,11,M⟩=K (Z v.b.a v.b.n v.b.c)/\d.cell? ⟨CB,12,M⟩=K (Z v.o.a v.o.n v.o.c)/\d.cell? ⟨CB,13,M⟩=K (Z v.i.a v.i.n v.i.c)/\d.cell? ⟨CB,14,M⟩=K (Z v.q.a v.q.n v.q.c)/\d.cell? w=K ↑h/\d.cell? ⟨w,1,M⟩=K (Z B l.back D)/\d.cell? ⟨w,2,M⟩=K (Z G l.aC N):= λd E=>by obtain⟨p0,p1,p2,p3,p4,p5,p6,p7,p8,p9,aK,aM,aO,aQ,aR⟩:=nQ E.co.eP;obtain⟨l0,l1,l2⟩:=Dv E.lb;exact⟨p0,p1,p2,p3,p4,p5,p6,p7,p8,p9,aK,aM,aO,aQ,aR,l0,l1,l2⟩
 have ai:Ae (∀u,Kt y w u CB v n gC cC gS cS h B D G N l I C->Ah T T u->RwS u n gS gL I L/\u ⟨CB,16,M⟩=K (sG gS n cS)):= λu E hb=>⟨⟨λb hb=>E.co.ig hb, λc hc=>aW.o u hb c hc⟩,E.co.cells.2.2.2⟩
 have aG:Ae (∀u,Ah y y u->Ai Aq 195 #[An v.cells,An #[h,Z B l.back D,Z G l.aC N]] u λe d=>∃(a:Option Addr) (c:Nat) (ps:List Int),e=Am (Z a ps c)/\Rd d 1 (Z a ps c) ps (Ad As ps)/\(∀z,z∈ps↔z∈l.aC/\Sf r.aC l.aC z.toNat)/\ps.length<=1024/\Ah u u d):= λu hu=>by have hk:=H.1.av hu;have:=Q8 v F xs h ⟨B,l.back,D⟩ G N l.aC u hk.bs hk.nx br (Rd.av H.2.2.1.2 hu lR) (by rw[hk.fl];exact H.2.2.2.1);rw[hk.eb]at this;exact this
 refine wp_region_held_drew (S:= λd=>d.cell? CB=K (Z v.r.a v.r.n v.r.c)/\d.cell? ⟨CB,1,M⟩=K (Z v.k.a v.k.n v.k.c)/\d.cell? ⟨CB,2,M⟩=K (Z v.f.a v.f.n v.f.c)/\d.cell? ⟨CB,3,M⟩=K (Z v.t.a v.t.n v.t.c)/\d.cell? ⟨CB,4,M⟩=K (Z v.p.a v.p.n v.p.c)/\d.cell? ⟨CB,5,M⟩=K ↑v.rs/\d.cell? ⟨CB,6,M⟩=K (Z v.l.a v.l.n v.l.c)/\d.cell? ⟨CB,7,M⟩=K (Z v.c.a v.c.n v.c.c)/\d.cell? ⟨CB,8,M⟩=K ↑v.nu/\d.cell? ⟨CB,9,M⟩=K ↑v.co/\d.cell? ⟨CB,10,M⟩=K ↑v.at_/\d.cell? ⟨CB,11,M⟩=K (Z v.b.a v.b.n v.b.c)/\d.cell? ⟨CB,12,M⟩=K (Z v.o.a v.o.n v.o.c)/\d.cell? ⟨CB,13,M⟩=K (Z v.i.a v.i.n v.i.c)/\d.cell? ⟨CB,14,M⟩=K (Z v.q.a v.q.n v.q.c)/\d.cell? w=K ↑h/\d.cell? ⟨w,1,M⟩=K (Z B l.back D)/\d.cell? ⟨w,2,M⟩=K (Z G l.aC N)) kR (V _ x.1) (λP=> ?_)
 generalize wc.drew=U2 at x P⊢;unfold BQ.cells at aG;refine A5 0 ?_ (hw:=kR);refine A5 1 ?_ (hw:=kR);refine A5 2 ?_ (hw:=kR);refine A5 3 ?_ (hw:=kR);refine A5 5 ?_ (hw:=kR);refine A5 6 ?_ (hw:=kR);refine A5 7 ?_ (hw:=kR);refine A5 8 ?_ (hw:=kR);refine A5 9 ?_ (hw:=kR);refine A5 10 ?_ (hw:=kR);refine A5 11 ?_ (hw:=kR);refine DU 4 ?_;intro O A;rw[jP kR];go_simp;refine(Ho CB n gS cS gL n I L B D l.back U2 oM (ai.o U2 x.1 x.2.2).2 (ai.o U2 x.1 x.2.2).1 oM (Rd.av H.2.2.1.1 x.1.cq lR) (by rw[<-HN];exact H.2.2.2.2.1)).mono ?_;rintro e u3 ⟨ar,rfl,rfl,aY⟩;have au:=Aw aY;clear aY;go_simp;refine A.o _ _ (V _ x.1) (λP=> ?_);clear A O;refine DU 12 ?_;intro O A;rw[jP kR];go_simp;refine(aG.o u3 x.1.cq).mono ?_;rintro e u4 ⟨pa,pc,ps,rfl,bC,bB,cQ,Q⟩;have HP:=Aw (fd bC bB);have W:=Aw (fd (x.1.av Q) (fd (x.2.1.av Q) (Ar x.2.2 lR Q)));clear bC bB Q;go_simp;refine A.o _ _ (V _ W.1) (λP=> ?_);clear A O x;refine DU 13 ?_;intro O A;rw[jP kR];go_simp;refine(Ho CB n gS cS gL n I L pa pc ps u4 oM (ai.o u4 W.1 W.2.2).2 (ai.o u4 W.1 W.2.2).1 oM HP.1 (λz hz=>by rw[<-HN];exact H.2.2.2.1 z ((HP.2 z).1 hz).1)).mono ?_;rintro e u5 ⟨ou,rfl,rfl,bx⟩;have ax:=Aw (bx.iff λb=>by rw[HP.2,i9]);clear bx;go_simp;refine A.o _ _ (V _ W.1) (λP=> ?_);clear A O;refine A5 14 ?_ (hw:=kR);refine A5 15 ?_ (hw:=kR);refine wpAnyH_done kR ?_ _;clear P V ai aG aW HP;have a1:=au.nn;have a2:ar<=4294967295:=au.le oM λb _=>(GN aT _).2
 have o1:=ax.nn;have o2:ou<=4294967295:=ax.le oM λb _=>(GN aT _).2
 have m1:0<=t.init*ar:=Int.mul_nonneg ce a1;have m2:t.init*ar<=4294967295*4294967295:=Int.mul_le_mul cg a2 a1 oM;have w1:IntKind.u64.wrap t.init=t.init:=by simp[IntKind.wrap,IntKind.bits,IntKind.signed];omega
 have w2:IntKind.u64.wrap ar=ar:=by simp[IntKind.wrap,IntKind.bits,IntKind.signed];omega
 have w3:IntKind.u64.wrap ou=ou:=by simp[IntKind.wrap,IntKind.bits,IntKind.signed];omega
 have w4:IntKind.u64.wrap (t.init*ar)=t.init*ar:=by generalize t.init*ar=q at m1 m2⊢;simp[IntKind.wrap,IntKind.bits,IntKind.signed];omega
 have w5:IntKind.u64.wrap (t.init*ar+ou)=t.init*ar+ou:=by generalize t.init*ar=q at m1 m2⊢;simp[IntKind.wrap,IntKind.bits,IntKind.signed];omega
 obtain⟨k0,k1,k2,k3⟩:=CP W.2.1;by_cases bf:t.init*ar+ou>4294967295;case pos=>
  have ae:Ae (∃(b:Bool) (I':List Nat) (C':List Int),Ending.returned false=Am b/\CH u5 y CB v n gC cC gS cS I' C'/\DX (Cg gC gS) w u5/\Ah y y u5/\nI E n r.aC l I C h pl t.init b I' C'):=⟨false,I,C,rfl,W.1.co,W.1.ch,W.1.cq,L,true,aH, λ_=>rfl, λ_=>⟨ar,ou,au,ax, λ_=>rfl, λh=>absurd bf oM⟩⟩
  go_wp2_with fail;go_ret;exact ae
 go_upto_region 9 with fail
 have bi:Ks (t.init*ar+ou):=⟨oM,oM⟩;have w6:IntKind.i64.wrap (t.init*ar+ou)=t.init*ar+ou:=nC _ ⟨oM,oM⟩;have x:=Aw (W.1.av (At _));clear k0 k1 k2 k3 w1 w2 w3 w4 w5 W;have V:∀I' C' d,Kt y w d CB v n gC cC gS cS h B D G N l I' C'->d.cell? w=K ↑h/\d.cell? ⟨CB,15,M⟩=K (sG gC n cC)/\d.cell? ⟨CB,16,M⟩=K (sG gS n cS):= λI' C' d E=>⟨(Dv E.lb).1,E.co.cells.2.2.1,E.co.cells.2.2.2⟩
 have aF:=Aw V;refine wp_region_held_drew (S:= λd=>d.cell? w=K ↑h/\d.cell? ⟨CB,15,M⟩=K (sG gC n cC)/\d.cell? ⟨CB,16,M⟩=K (sG gS n cS)) kR (V _ _ _ x) (λP=> ?_)
 clear V;generalize u5.drew=U6 at x P⊢;generalize bj:t.init*ar+ou=co at bf bi w6⊢;have aS:=Aw bj;clear bj m1 m2;refine A5 0 ?_ (hw:=kR);refine A5 1 ?_ (hw:=kR);refine A5 2 ?_ (hw:=kR);refine A5 3 ?_ (hw:=kR);refine A5 4 ?_ (hw:=kR);refine A5 5 ?_ (hw:=kR);refine A5 6 ?_ (hw:=kR);refine A5 7 ?_ (hw:=kR);refine A5 8 ?_ (hw:=kR);go_simp;refine DU 9 ?_;intro O A;rw[jP kR];have c0:=x.co.jA hh;have z0:=(x.co.frz h).1;have E6:=Aw (x.fH h bi);go_simp;refine A.o _ _ (aF.o _ _ _ E6) (λP=> ?_);clear A O;refine wpAnyH_done kR ?_ _;clear P c0 z0 x;generalize Aa U6 ⟨gC,h,M⟩ co=U7 at E6⊢;obtain⟨l0,l1,l2⟩:=Dv E6.lb;go_wp2_with fail;clear l0 l1 l2;go_loopw [68] (λi wr=>∃(k:Nat) (I2:List Nat),k<= ↑l.aC/\i=iZ k/\Ae (Kt y w wr CB v n gC cC gS cS h B D G N l I2 (C.set h co)/\∀j,jf I2 j=if j∈(l.aC.take k).map Int.toNat then h else jf I j)) (λi _=> ↑l.aC-(intOf i).toNat)
 case atStart=>exact⟨0,I,oM,rfl,E6, λj=>sP⟩
 case round=>
 clear E6;obtain⟨k,I2,hk,rfl,X⟩:=hrel;by_cases bt:k< ↑l.aC
 case neg=>
  have ae:Ae (∃(b:Bool) (I':List Nat) (C':List Int),Ending.returned true=Am b/\CH wr y CB v n gC cC gS cS I' C'/\DX (Cg gC gS) w wr/\Ah y y wr/\nI E n r.aC l I C h pl t.init b I' C'):=⟨true,I2,C.set h co,rfl,X.1.co,X.1.ch,X.1.cq,L,true,aH,(λh=>by cases h), λ_=>⟨ar,ou,au,ax,(λh=>by rw[aS]at h;exact absurd h oM), λ_=>⟨rfl,by rw[aS], λj=>by rw[X.2 j,kP (show ↑l.aC<=k from oM)]⟩⟩⟩
  go_wp2_with fail;go_ret;exact ae
 have cM:(k:Int)<(l.aC:Int):=oM;obtain⟨b,ez,hb⟩:=H.2.2.2.1 l.aC[k] (mu bt);rw[HN]at hb;have aJ:l.aC[k]?=K (b:Int):=by rw[an bt,ez]
 obtain⟨kg,ko,bQ,e0⟩:∃g o,G=K ⟨g,o,M⟩/\wr ⟨g,o+k,M⟩=K ↑b:=by
  rcases(Rd.av H.2.2.1.2 X.1.cq lR).2 with⟨q,_⟩|⟨g,o,c',e1,hc⟩
  . simp only[]at q;omega
  simp only[i8,kW]at e1;exact⟨g,o,e1.1,hc k _ (Fc aJ)⟩
 subst bQ;have bG:=Aw aJ;have cI:(b:Int)<(n:Int):=oM;clear ez aJ;go_upto_region 13 with fail
 have x:=Aw (X.1.av (At _));refine wp_region_held_drew (S:= λd=>d.cell? w=K ↑h/\d.cell? ⟨CB,15,M⟩=K (sG gC n cC)/\d.cell? ⟨CB,16,M⟩=K (sG gS n cS)) kR (aF.o _ _ _ x) (λP=> ?_)
 clear e0;generalize wr.drew=U8 at x P⊢;refine A5 0 ?_ (hw:=kR);refine A5 1 ?_ (hw:=kR);refine A5 2 ?_ (hw:=kR);refine A5 3 ?_ (hw:=kR);refine A5 4 ?_ (hw:=kR);refine A5 5 ?_ (hw:=kR);refine A5 6 ?_ (hw:=kR);refine A5 7 ?_ (hw:=kR);go_simp;refine DU 8 ?_;intro O A;rw[jP kR];have c0:=(x.co.ig hb).1;have z0:=(x.co.frz b).2;have E8:Ae (Kt y w (Aa U8 ⟨gS,b,M⟩ h) CB v n gC cC gS cS h B D (K ⟨kg,ko,M⟩) N l (I2.set b h) (C.set h co)/\∀j,jf (I2.set b h) j=if j∈(l.aC.take (k+1)).map Int.toNat then h else jf I j):=⟨x.fR b hh, λj=>by
  have aI:j∈(l.aC.take (k+1)).map Int.toNat↔j∈(l.aC.take k).map Int.toNat\/j=b:=by rw[List.take_add_one,bG.o,k8,jL];simp
  rw[Zz (by rw[x.co.li];exact hb),X.2 j];by_cases e:j=b
  . rw[jP e,jP (aI.2 (.inr e))]
  rw[jH e];by_cases e2:j∈(l.aC.take k).map Int.toNat
  . rw[jP e2,jP (aI.2 (.inl e2))]
  rw[jH e2,jH (λq=>(aI.1 q).elim e2 e)]⟩
 go_simp;refine A.o _ _ (aF.o _ _ _ E8.1) (λP=> ?_);clear A O;refine wpAnyH_done kR ?_ _;clear P c0 z0 x X;generalize Aa U8 ⟨gS,b,M⟩ h=U9 at E8⊢;go_wp2_with fail;go_roundw;case rel=>exact⟨k+1,_,oM,by go_num,E8⟩
 exact oI
def qL(r:Ee)(j:Nat)(z:Int):Prop:=∃l∈r.cv.take j,∃m,r.aC[l.head.toNat]?=K m/\m.cz=z
structure Uk(w u:Y)(v:BQ)(SB:Nat)(r:Ee)(j:Nat):Prop where
 body:Ay u w v.cells 111
 set:∃D,AP u SB j D/\∀z:Int,Go.Maps.has D (.int Af z)=true↔qL r j z
 lt: ↑w<SB
 cq:Ah w w u
theorem Uk.av{w u c:Y}{v:BQ}{b j:Nat}{r:Ee}(h:Uk w u v b r j)(a:Ah u.heap.size u c):Uk w c v b r j:=by obtain⟨D,d,e⟩:=h.set;exact⟨h.body.av a,⟨D,d.av a,e⟩,h.lt,Ar h.cq lR a⟩
theorem NI(v:BQ)(p:MP)(q:Nat)(F:List (MB×J))(xs:List MI)(r:Ee)(w:Y)(s:Ug w v p (q:Int) F xs r)(hw:∀t∈p.bO,Fb t.head):
 Ai Aq 128 #[.agg v.cells] w λe w'=>(∃(h:Int) (b:Bool),e=Am (.tuple #[h,b])/\(b=true->∃t,Hj (Ul q r) p.bO t/\h=t.head)/\(b=false->∀t∈p.bO,¬Ul q r t))/\Ah w w w':=by
 have bu:= @run_makeMap Aq;have H:=Aw s;have HW:=Aw hw;have bx:r.cv.length<=1024:=s.fh.nl;have bB:=s.tn;have HN:=Aw s.ln;obtain⟨qa,aO⟩:∃qa,v.q.a=qa:=⟨_,rfl⟩;have aI:=Aw aO;obtain⟨ta,tc,et⟩:=s.tr.aP;simp only[i8]at et;have aT:=Aw et.2.1;clear et ta tc;obtain⟨ta,aQ⟩:∃ta,v.t.a=ta:=⟨_,rfl⟩;have aK:=Aw aQ;clear aO aQ s hw;have E0:Ae (Ay (Ac w (Ak v.cells 111)) w v.cells 111/\Ah w w (Ac w (Ak v.cells 111))):=⟨Ay.new _ _ _,Al _ _⟩
 go_enter func128,ntmps128;go_upto_region 1 with fail
 refine Av (λu=>Ae (Ay u w v.cells 111/\Ah w w u)) E0 ?_
 rintro U d;clear E0;have bM:=Al U (.map #[] 0);have aJ:Ae (Uk w (Ac U (.map #[] 0)) v U r 0):=⟨d.1.av bM,⟨.map [],World.ownsMap_made _ _ _ _, λz=>⟨(λh=>by cases h), λ⟨l,h,_⟩=>by simp at h⟩⟩,d.1.lt,Ar d.2 lR bM⟩;clear bM d;go_upto_region 2 with fail
 refine Av (λu=>Ae (Uk w u v U r 0)) aJ ?_;clear aJ;rintro U1 HS;generalize U.heap.size=x at HS⊢;have aq:=HS.body.cell 14;simp only[BQ.cells]at aq;simp only[HN.o,aI.o]at aq;go_wp2_with fail;clear aq;go_loopw [14] (λi wr=>∃k:Nat,k<= ↑r.cv/\i=iZ k/\Ae (Uk w wr v x r k)) (λi _=> ↑r.cv-(intOf i).toNat)
 case atStart=>exact⟨0,oM,rfl,HS⟩
 case round=>
 clear HS;obtain⟨k,hk,rfl,d⟩:=hrel;by_cases ae:k< ↑r.cv
 case pos=>
  have bf:(k:Int)<(r.cv:Int):=oM;obtain⟨l,hl⟩:∃l,r.cv[k]?=K l:=⟨_,an ae⟩;have s:=H.av d.cq;obtain⟨gl,ol,V,x1,W,x2,ev,i0,i1,i2,bg⟩:=Lv s.ls hl;rw[aI]at ev;subst ev;obtain⟨⟨h,eh,hh⟩,_⟩:=H.fh.loop l (hC hl);obtain⟨m,hm⟩:∃m,r.aC[h]?=K m:=⟨_,an hh⟩;obtain⟨T,me,aM,aX,aY,aZ⟩:=H.fh.eP h m hm;have bt:T<1024:=by have:=H.fh.len;omega
  have Q:=Aw (fd hl (fd ((by rw[eh,i9];exact hm):r.aC[l.head.toNat]?=K m) aM));have HM:=Aw hm;rw[eh]at i0;clear hl bg s eh hm aM aX aY aZ;generalize l.back.length=n1 at i1;generalize l.aC.length=n2 at i2;go_upto_region 5 with fail
  have E4:Ae (Uk w (Ac wr (Ak #[h,Z V n1 x1,Z W n2 x2] 65)) v x r k/\Ay (Ac wr (Ak #[h,Z V n1 x1,Z W n2 x2] 65)) wr #[h,Z V n1 x1,Z W n2 x2] 65):=⟨d.av (Al _ _),Ay.new _ _ _⟩
  refine Av (λu=>Ae (Uk w u v x r k/\Ay u wr #[h,Z V n1 x1,Z W n2 x2] 65)) E4 ?_
  rintro U4 g;clear E4 i0 i1 i2 d;generalize wr.heap.size=X at g⊢;obtain⟨p0,p1,p2,p3,p4,p5,p6,p7,p8,p9,bi,bj,bq,br,aq⟩:=CY g.1.body;obtain⟨l0,l1,l2⟩:=Dv g.2;go_wp2_with fail;clear p0 p1 p2 p3 p4 p5 p6 p7 p8 p9 bi bj bq br aq l0 l1 l2;have s:=H.av g.1.cq;have aE:=EO (Z v.r.a v.r.n v.r.c) (Z v.k.a v.k.n v.k.c) (Z v.f.a v.f.n v.f.c) (Z v.t.a v.t.n v.t.c) (Z v.p.a v.p.n v.p.c) v.rs (Z v.l.a v.l.n v.l.c) (Z v.c.a v.c.n v.c.c) v.nu v.co v.at_ (Z v.b.a v.b.n v.b.c) (Z v.o.a v.o.n v.o.c) (Z v.i.a v.i.n v.i.c) (Z v.q.a v.q.n v.q.c) (Z V n1 x1) (Z W n2 x2) F h m U4 (by have:=s.bs.len;omega) s.bs.rd (by rw[s.eb];exact HM);rw[Q.2.2]at aE;refine aE.mono ?_;clear aE s;rintro e L ⟨rfl,N⟩;have y:Ae (Uk w (Ac L (Ak #[T] 2)) v x r k/\(Ac L (Ak #[T] 2)) L=K ↑T):=⟨(g.1.av N).av (Al _ _),(Ay.new L #[T] 2).cell 0⟩
  have aH:Ae (¬ ↑L=x):=by
   obtain⟨_,h5,_⟩:=(g.1.av N).set;have:=lg h5;show¬ ↑L=x
   omega
  clear N g;obtain⟨D,ai,aa⟩:=y.1.set;have E:=Aw (fd ai aa);clear ai aa;go_wp2_with fail;refine(Dh x k L 1 D (T:Int) _ (Dm oM) oM y.2 aH E.1).mono ?_;rintro e u6 ⟨rfl,s6,g6⟩;have aR:Ae (Uk w u6 v x r (k+1)):=by
   have ae:=y.1.lt;refine⟨y.1.body.apart g6 oM,⟨_,s6, λz=> ?_⟩,ae,y.1.cq.grown g6 y.1.cq.size (λj hj=>by cases hj;omega)⟩;rw[Ew D (lU E.1),Bool.or_eq_true,lC,E.2 z];unfold qL;rw[List.take_add_one,Q.1];constructor
   . rintro(⟨l',O,C⟩|rfl)
     . exact⟨l',jL.2 (.inl O),C⟩
     exact⟨l,sP,m,Q.2.1,Q.2.2⟩
   rintro⟨l',O,m',C,S⟩;rcases jL.1 O with e|e
   . exact .inl ⟨l',e,m',C,S⟩
   simp at e;rw[e,Q.2.1]at C;(cases C);exact .inr (S.symm.trans Q.2.2)
  clear s6 g6 y E aH;go_wp2;go_roundw;case rel=>exact⟨k+1,oM,by go_num,aR⟩
  exact oI
 obtain rfl:k=r.cv.length:=oM;have au:Ae (∀t:MT,Ul q r t↔t.func=(q:Int)/\¬qL r r.cv t.head):= λt=>by
  unfold Ul qL;rw[List.take_length];constructor
  . rintro⟨O,C⟩;exact⟨O, λ⟨l,S,m,h4,h5⟩=>C l S m h4 h5⟩
  rintro⟨O,C⟩;exact⟨O, λl S m h4 h5=>C ⟨l,S,m,h4,h5⟩⟩
 have p3:=d.body.cell 3;simp only[BQ.cells]at p3;simp only[aT.o,aK.o]at p3;go_wp2_with fail;clear p3;generalize r.cv.length=NL at d au;go_loopw [30] (λi wr=>∃k:Nat,k<= ↑p.bO/\i=iZ k/\Ae (∀t∈p.bO.take k,¬Ul q r t)/\Ae (Uk w wr v x r NL)) (λi _=> ↑p.bO-(intOf i).toNat)
 case atStart=>exact⟨0,oM,rfl,(λt ht=>by simp at ht),d⟩
 case round=>
 clear d;obtain⟨k,hk,rfl,aA,d⟩:=hrel;by_cases ae:k< ↑p.bO
 case neg=>
  have HA:Ae (∀t∈p.bO,¬Ul q r t):=by
   have:=aA.o;rw[kP (show ↑p.bO<=k from oM)]at this
   exact this
  go_wp2;exact kA (v:=.tuple #[iZ 0,false]) (by simp[results,results128,go_sem]) rfl ⟨⟨0,false,rfl,(λh=>by cases h), λ_=>HA.o⟩,d.cq⟩
 have bf:(k:Int)<(p.bO:Int):=oM;obtain⟨A,P⟩:∃c,p.bO[k]?=K c:=⟨_,an ae⟩;obtain⟨G,I,et,i0,i1,i2,i3⟩:∃G I,ta=K ⟨G,I,M⟩/\wr ⟨G,I+k*4,M⟩=K ↑A.func/\wr ⟨G,I+k*4+1,M⟩=K ↑A.head/\wr ⟨G,I+k*4+2,M⟩=K ↑A.eI/\wr ⟨G,I+k*4+3,M⟩=K (.int .u32 A.init):=by
  rcases(H.av d.cq).tr.2 with⟨e0,_⟩|⟨G,I,c',e1,hc⟩
  . omega
  simp only[i8]at e1;exact⟨G,I,by rw[<-aK];exact e1.1,Rd.elem MT.bW hc k A P 0 _ rfl,Rd.elem MT.bW hc k A P 1 _ rfl,Rd.elem MT.bW hc k A P 2 _ rfl,Rd.elem MT.bW hc k A P 3 _ rfl⟩
 subst et;have aF:=Aw P;have aW:=Aw (HW.o A (hC P));have aG:Ae (¬Ul q r A->∀t∈p.bO.take (k+1),¬Ul q r t):= λhn t ht=>by
  rw[List.take_add_one,aF]at ht;rcases jL.1 ht with e|e
  . exact aA.o t e
  simp at e;rw[e];exact hn
 clear P;obtain⟨R,B,co,aj⟩:=A;simp only[]at i0 i1 i2 i3;go_upto_region 10 with fail
 have E4:Ae (Uk w (Ac wr (Ak #[R,B,co,.int .u32 aj] 37)) v x r NL/\Ay (Ac wr (Ak #[R,B,co,.int .u32 aj] 37)) wr #[R,B,co,.int .u32 aj] 37):=⟨d.av (Al _ _),Ay.new _ _ _⟩
 refine Av (λu=>Ae (Uk w u v x r NL/\Ay u wr #[R,B,co,.int .u32 aj] 37)) E4 ?_
 rintro U4 g;clear E4 i0 i1 i2 i3 d;generalize wr.heap.size=X at g⊢;obtain⟨c0,c1,c2,c3⟩:=CP g.2;have p8:=g.1.body.cell 8;simp only[BQ.cells]at p8;simp only[H.nu]at p8;obtain⟨D,ai,aa⟩:=g.1.set;have E:=Aw (fd ai aa);clear ai aa;cases hfq:(R==(q:Int))
 case false=>
  have ax:=Aw (aG.o λe=>by have:=((au.o _).1 e).1;simp only[]at this;rw[this,beq_self_eq_true]at hfq;cases hfq);go_wp2_with fail;go_roundw;case rel=>exact⟨k+1,oM,by go_num,ax,g.1⟩
  exact oI
 go_wp2_with fail;refine(Jr x NL D B U4 aW E.1).mono ?_;rintro e L ⟨rfl,N⟩;have y:=Aw (fd (g.1.av N) (g.2.av N));clear N c0 c1 c2 c3 p8;cases hbo:Go.Maps.has D (.int Af B)
 case true=>
  have ax:=Aw (aG.o λe=>((au.o _).1 e).2 ((E.2 B).1 hbo));go_wp2_with fail;go_roundw;case rel=>exact⟨k+1,oM,by go_num,ax,y.1⟩
  exact oI
 case false=>have aS:Ae (Hj (Ul q r) p.bO ⟨R,B,co,aj⟩):=⟨k,aF,(au.o _).2 ⟨by simpa using hfq, λe=>by have:=(E.2 B).2 e;rw[hbo]at this;cases this⟩, λi t hi ht=>aA.o t (hC (by rw[List.getElem?_take,jP hi];exact ht))⟩;obtain⟨c0,c1,c2,c3⟩:=CP y.2;go_wp2_with fail;exact kA (v:=.tuple #[B,true]) (by simp[results,results128,go_sem]) rfl ⟨⟨B,true,rfl,(λ_=>⟨_,aS,rfl⟩), λh=>by cases h⟩,y.1.cq⟩
section
variable {r:Ee} {E:Nat->List Nat} {n:Nat} {O:List Nat} {D L:Nat->Nat->Bool} {h:Nat}
theorem Gd.iT(g:Gd r E n O D L)(d:h<n)(z:Nat):(z:Int)∈(Nz E D L n h).aC↔L h z=true:=by
 simp only[Nz,ints,kI,lY,k6];constructor
 . rintro⟨a,⟨_,c⟩,e⟩;have:a=z:=oM;rw[<-this];exact c
 exact λb=>⟨z,⟨g.fl.fv d ((g.il _ _).1 b),b⟩,rfl⟩
theorem Gd.iH(g:Gd r E n O D L)(a:h<n):Js (λb=>decide ((b:Int)∈(Nz E D L n h).aC)) n= λb=>L h b=true:=by
 funext b
 apply propext;unfold Js;rw[lC,g.iT a];exact⟨λq=>q.2, λq=>⟨g.fl.fv a ((g.il _ _).1 q),q⟩⟩
theorem nI.jG(g:Gd r (nx r.aC) n O D L)(N:∀b m,r.aC[b]?=K m->m.next=ints (nx r.aC b)){I E:List Nat}{C A:List Int}{B:Nat->Prop}{t:Int}{b:Bool}(s:Na (nx r.aC) n D B (jf I))(q:Wn (nx r.aC) n D L B h)(F:∀c,0<=cf C c)(ht:0<=t)(V:nI (nx r.aC) n r.aC (Nz (nx r.aC) D L n h) I C h (Ea O) t b E A):
 (b=false->Qk (nx r.aC) (λb=>L h b=true) (· ∈AO (nx r.aC) D n h) (jf I) h (cf C) t M)/\(b=true->∃v,Qk (nx r.aC) (λb=>L h b=true) (· ∈AO (nx r.aC) D n h) (jf I) h (cf C) t (K v)/\0<=v/\A=C.set h v/\∀j,jf E j=if j∈(Nz (nx r.aC) D L n h).aC.map Int.toNat then h else jf I j):=by
 have G:=q.rgn g.fl s;have aa:(AU (nx r.aC) D n h)= λb=>L h b=true:=funext λb=>propext (g.il h b).symm
 rw[aa]at G;have p:=G;rw[<-g.iH q.lt]at p;obtain⟨i,small,hw,T,U⟩:=V;cases small with
 | false=>have H:=hw.gZ g.fl p F;rw[g.iH q.lt]at H;have d:=T rfl;exact⟨λ_=>.inl ⟨rfl,H⟩, λe=>by rw[d]at e;cases e⟩
 | true =>
   obtain⟨ar,f,P,R,k1,k2⟩:=U rfl;have w:=hw.pass g.fl s p F;rw[g.iH q.lt]at w;(have Q:EX (λb=>cf i (jf I b)) (· ∈AO (nx r.aC) D n h) ar:=P.iff λb=>(Gd.inB b).symm);have S:EX (λb=>cf i (jf I b)) (oq (nx r.aC) λb=>L h b=true) f:=R.iff λb=>by
    unfold oq Sf;rw[g.iT q.lt];constructor
    . rintro⟨l,x,a,y⟩;refine⟨l,?_⟩;cases k:r.aC[b]? with
      |none=>unfold nx at a;rw[k]at a;cases a
      | some m=>refine⟨m,rfl,(x:Int),?_, λe=>y ((g.iT q.lt x).1 e)⟩;rw[N b m k];exact kI.2 ⟨x,a,rfl⟩
    rintro⟨l,m,k,z,a,y⟩;rw[N b m k]at a;obtain⟨x,hx,rfl⟩:=kI.1 a;exact⟨l,x,hx, λe=>y ((g.iT q.lt x).2 e)⟩
   by_cases u:4294967295<t*ar+f
   . have d:=k1 u;exact⟨λ_=>.inr ⟨cf i,ar,f,w,Q,S,by rw[jP u]⟩, λe=>by rw[d]at e;cases e⟩
   obtain⟨d,W,X⟩:=k2 oM;refine⟨(λe=>by rw[d]at e;cases e), λ_=>⟨t*ar+f,.inr ⟨cf i,ar,f,w,Q,S,by rw[jH u]⟩,?_,W,X⟩⟩;have l:=Int.mul_nonneg ht P.nn;have a:=R.nn;omega
end
section
variable {p:MP} {fi:Int} {costs:List Int} {xs:List MI} {r:Ee} {O:List Nat} {D L:Nat->Nat->Bool} {sl:List ML} {k hd:Nat} {I I2:List Nat} {C C2:List Int} {l:ML}
theorem P5.goI{t:Int}{b:Bool}(s:P5 p fi costs xs r D L sl k false I C)(g:Gd r (nx r.aC) r.aC O D L)(P:∀b m,r.aC[b]?=K m->m.next=ints (nx r.aC b))(u:sl.Perm r.cv)(w:sl.Pairwise K4)(a:sl[k]?=K l)(N:l∈r.cv)(G:l.head=(hd:Int))(B:A6 p fi xs r.aC l 0)(H:Ka p fi r.aC hd=t)(ht:0<=t)(F:C.length= ↑r.aC)(E:nI (nx r.aC) r.aC r.aC l I C hd (Ea O) t b I2 C2):
 (b=true->P5 p fi costs xs r D L sl (k+1) false I2 C2)/\(b=false->PZ (nx r.aC) r.aC D L (Ka p fi r.aC) (Ll xs r.aC) (sl.map hN) (jf (List.range r.aC)) (cf (r.aC.map (Cf xs costs))) (-1)):=by
 obtain⟨rfl,f⟩:=g.at_ N G;have d:=g.j9 u w a f;have j:(sl.drop k).map hN=hd::(sl.drop (k+1)).map hN:=by obtain⟨R,A⟩:=f7.1 a;rw[lV R,A,lM,Oa]
 obtain⟨y,z⟩:=E.jG g P s.j8 d s.cn ht;rw[<-H]at y z;refine⟨λe=> ?_, λe=>(s.ok rfl).2 _ (by rw[j];exact .bad (y e))⟩;obtain⟨v,S,T,rfl,U⟩:=z e;have i:jf I2= λb=>if L hd b then hd else jf I b:=by
  funext b
  rw[U b];by_cases e:L hd b=true
  . rw[jP ((g.inK d.lt b).2 e),jP e]
  rw[jH (λq=>e ((g.inK d.lt b).1 q)),jH e]
 have h:cf (C.set hd v)= λc=>if c=hd then v else cf C c:=funext λc=>Hn (an (by rw[F];exact d.lt))
 refine⟨λQ n=> ?_,by rw[i];exact g.step u w a f s.j8, λc=> ?_,(λe=>by cases e), λ_=>⟨(s.ok rfl).1, λv' x=>(s.ok rfl).2 v' ?_⟩⟩
 . rw[List.take_add_one,a]at n;rcases jL.1 n with q|q
   . exact s.lf Q q
   simp at q;rw[q];exact B
 . rw[h];by_cases q:c=hd
   . simp only[jP q];exact T
   simp only[jH q];exact s.cn c
 rw[j];rw[i,h]at x;exact .step S x
theorem Sd.bad(g:Gd r (nx r.aC) r.aC O D L)(c:sl.Perm r.cv)(d:sl.Pairwise K4)(b:∀l∈r.cv,A6 p fi xs r.aC l 0)(a:∀m∈r.aC,¬FJ xs costs m)(e:PZ (nx r.aC) r.aC D L (Ka p fi r.aC) (Ll xs r.aC) (sl.map hN) (jf (List.range r.aC)) (cf (r.aC.map (Cf xs costs))) (-1)):Sd p fi costs xs r (-1):=.inr ⟨b,a,O,D,L,sl,g,c,d,e⟩
theorem P5.iG{d:List Int}{small:Bool}{v:Int}(s:P5 p fi costs xs r D L sl sl false I C)(g:Gd r (nx r.aC) r.aC O D L)(h:sl.Perm r.cv)(l:sl.Pairwise K4)(f:oz (nx r.aC) r.aC (λb=>decide ((b:Int)∈r.dr)) I C 0 (Ea O) d small)(i:small=false->v=-1)(j:small=true->EX (λb=>cf d (jf I b)) (λb=>b< ↑r.aC/\Ll xs r.aC b) v):Sd p fi costs xs r v:=by
 have k:=s.fin g h;have c:Js (λb=>decide ((b:Int)∈r.dr)) r.aC= λb=>b<r.aC.length:=by
  funext b
  apply propext;unfold Js;rw[lC,g.ord];refine⟨λq=>q.1, λq=>⟨q,kI.2 ⟨b,kx.2 ((g.om b).2 q),rfl⟩⟩⟩
 have a:=k;rw[<-c]at a;refine s.done g h l (λ_=> ?_) (λe=>by cases e);cases small with
 | false=>have:=f.gZ g.fl a s.cn;rw[c]at this;exact .inl ⟨i rfl,this⟩
 | true=>have:=f.pass g.fl s.j8 a s.cn;rw[c]at this;exact .inr ⟨_,this,j rfl⟩
end
structure Qa(u:Y)(B CB TB:Nat)(v:BQ)(V S:J)(k j:Nat)(C:List Int):Prop where
 eP:Ay u CB (Jl v V S) 256
 co:Ab u B 2 1 V k (Ad As C)
 st:Ab u B 2 1 S j (nv (List.range j))
 ap:∀g,V.ownBlock=K g->S.ownBlock≠K g
 bl:B<=CB
 tb:Ay u TB #[.pointer CB] 254
theorem Kd{u u':Y}{B c n:Nat}{xs:List J}{row:Option Nat}(h:Ab u B e c s n xs)(i:u.grownBy u' row)(j:∀g,s.ownBlock=K g->row≠K g):Ab u' B e c s n xs:=by
 refine⟨h.1,?_⟩;rcases h.2 with h|⟨g,cap,d,a,f,b,k⟩
 . exact .inl h
 refine .inr ⟨g,cap,d,a,f,?_,k⟩;rw[i.block g (jS.1 b).1 (λe=>j g (by rw[a];rfl) e.symm)];exact b
theorem Ya{u:Y}{B b n:Nat}{xs:List J}(h:Ab u B e b s n xs)(a:s.ownBlock=K g):g<u.heap.size:=by
 rcases Bi h with⟨rfl,rfl⟩|⟨f,c,rfl⟩
 . cases a
 obtain⟨_,d,e⟩:=AY h;cases a
 exact(jS.1 e).1
theorem Dl{u:Y}{B j n:Nat}{xs:List J}{i:Nat}{f:Array J}(x:J)(h:Ab u B e j s n xs)(d:Ay u b f t)(k:t≠e):Ab (Aa u ⟨b,i,M⟩ x) B e j s n xs:=by
 rcases Bi h with⟨rfl,rfl⟩|⟨m,c,rfl⟩
 . refine⟨h.1,?_⟩;rcases h.2 with h|⟨g,cap,f,a,p,q,r⟩
   . exact .inl h
   cases a
 obtain⟨_,l,a⟩:=AY h;refine Ep h ?_;rintro rfl;unfold Ay at d;rw[a]at d;cases d
 exact k rfl
section
variable {u u':Y} {B CB TB:Nat} {v:BQ} {V S:J} {k j:Nat} {C:List Int}
theorem Qa.av(h:Qa u B CB TB v V S k j C)(a:Ah u u u'):Qa u' B CB TB v V S k j C:={h with eP:=h.eP.av a,co:=AC h.co a lR,st:=AC h.st a lR,tb:=h.tb.av a}
theorem Qa.cells(h:Qa u B CB TB v V S k j C):u TB=K (.pointer CB)/\u ⟨CB,15,M⟩=K V/\u ⟨CB,16,M⟩=K S:=⟨by rw[h.tb.cell];rfl,by rw[h.eP.cell];rfl,by rw[h.eP.cell];rfl⟩
theorem Qa.jv(h:Qa u B CB TB v V S k j C)(m:Ab u' B 2 1 (sG g (k+1) cap) (k+1) (Ad As C++[iZ y]))(d:u.grownBy u' V.ownBlock)(l:V.ownBlock=K g\/g= ↑u):
 Qa (Aa u' ⟨CB,15,M⟩ (sG g (k+1) cap)) B CB TB v (sG g (k+1) cap) S (k+1) j (C++[y])/\u' TB=K (.pointer CB)/\u' ⟨CB,15,M⟩=K V/\u'.frozen? ⟨CB,15,M⟩=false:=by
 have a:=h.eP.grown d h.co dC;have b:=h.tb.grown d h.co dC;have s1:=Kd h.st d (λf e c=>h.ap f c e);refine⟨⟨a.set 15 _,?_,Dl _ s1 a dC,?_,h.bl,b.other (λe=> ?_) _⟩,by rw[b.cell];rfl,by rw[a.cell];rfl,a.frozen 15⟩
 . have:=Dl (i:=15) (sG g (k+1) cap) m a dC;rw[kJ];exact this
 . rintro f e c;(cases e);rcases l with q|rfl
   . exact h.ap _ q c
   exact absurd (Ya h.st c) (Nat.lt_irrefl _)
 unfold Ay at a b;simp only[]at e;rw[e,a]at b;cases b
theorem Qa.ju(h:Qa u B CB TB v V S k j C)(m:Ab u' B 2 1 (sG g (j+1) cap) (j+1) (nv (List.range j)++[iZ (j:Int)]))(d:u.grownBy u' S.ownBlock)(l:S.ownBlock=K g\/g= ↑u):
 Qa (Aa u' ⟨CB,16,M⟩ (sG g (j+1) cap)) B CB TB v V (sG g (j+1) cap) k (j+1) C/\u' TB=K (.pointer CB)/\u' ⟨CB,16,M⟩=K S/\u'.frozen? ⟨CB,16,M⟩=false:=by
 have a:=h.eP.grown d h.st dC;have b:=h.tb.grown d h.st dC;have s1:=Kd h.co d (λf e c=>h.ap f e c);refine⟨⟨a.set 16 _,Dl _ s1 a dC,?_,?_,h.bl,b.other (λe=> ?_) _⟩,by rw[b.cell];rfl,by rw[a.cell];rfl,a.frozen 16⟩
 . have:=Dl (i:=16) (sG g (j+1) cap) m a dC;rw[mR,Mu];exact this
 . rintro f e c;(cases c);rcases l with q|rfl
   . exact h.ap _ e q
   exact absurd (Ya h.co e) (Nat.lt_irrefl _)
 unfold Ay at a b;simp only[]at e;rw[e,a]at b;cases b
theorem Qa.whole{n:Nat}(h:Qa u B CB TB v V S n n C)(r:0<n)(q: ↑C=n)(p:∀y∈C,Ks y):∃a c f d,CH u B CB v n a c f d (List.range n) C:=by
 obtain⟨j,g,i,k,l,_⟩:=h;rcases Bi g with⟨_,e⟩|⟨a,c,rfl⟩
 . omega
 rcases Bi i with⟨_,e⟩|⟨f,d,rfl⟩
 . omega
 exact⟨a,c,f,d,j,g,i, λe=>k a rfl (by rw[e];rfl),q,sP,p, λb m=>k6.1 m,l⟩
end
def qK(w:Y)(l:ML)(x:LV):Prop:=x.h=l.head/\x.xn= ↑l.back/\x.yn= ↑l.aC/\pS w (l,Z x.xa x.xn x.xc,Z x.ya x.yn x.yc)
def pj(w:Y)(g o k:Nat):LV:=match w ⟨g,o+k*3,M⟩,w ⟨g,o+k*3+1,M⟩,w ⟨g,o+k*3+2,M⟩with
 |some (Ag _ h),K (Z a n c),K (Z a' n' c')=>⟨h,a,n,c,a',n',c'⟩
 |_,_,_=>default
theorem qE{u:Y}{a:Option Addr}{n c:Nat}{p:List ML}(h:Sg u (Z a n c) p):∃w:List LV,w.length= ↑p/\(∀(k:Nat) (m:ML) (x:LV),p[k]?=K m->w[k]?=K x->qK u m x)/\Lz u u a w:=by
 cases hc:p with
 |nil=>exact⟨[],rfl, λk m x h=>by simp at h, λe=>absurd rfl e⟩
 | cons C E=>
   rw[<-hc];obtain⟨g,o,_,_,_,_,y,B,_⟩:=Lv h (k:=0) (m:=C) (by rw[hc];rfl);have A:∀k m,p[k]?=K m->∃d i f l,pj u g o k=⟨m.head,d,m.back,i,f,m.aC,l⟩/\u ⟨g,o+k*3,M⟩=K ↑m.head/\u ⟨g,o+k*3+1,M⟩=K (Z d m.back i)/\u ⟨g,o+k*3+2,M⟩=K (Z f m.aC l)/\pS u (m,Z d m.back i,Z f m.aC l):= λk m r=>by obtain⟨D,F,d,i,f,l,q,i0,s,t,v⟩:=Lv h r;rw[y]at q;(cases q);refine⟨d,i,f,l,?_,i0,s,t,v⟩;unfold pj;rw[i0,s,t]
   refine⟨(List.range p).map (pj u g o),sP, λk m x r b=> ?_, λ_=>⟨g,o,y,i7 B, λj x b=> ?_⟩⟩
   . obtain⟨d,i,f,l,q,_,_,_,v⟩:=A k m r;rw[jY,m8 (f7.1 r).1]at b;simp only[lw,jJ]at b;rw[<-b,q];exact⟨rfl,rfl,rfl,v⟩
   (have z:j<p.length:=by have:=(f7.1 b).1;simpa using this);obtain⟨d,i,f,l,q,i0,s,t,_⟩:=A j _ (an z);rw[jY,m8 z]at b;simp only[lw,jJ]at b;rw[<-b,q];exact⟨i0,s,t⟩
inductive Tx {α β:Type} (R:α->β->Prop):List α->List β->Prop
 |nil:Tx R [] []
 |cons {x:α} {m:β} {zs:List α} {ls:List β}:R x m->Tx R zs ls->Tx R (x::zs) (m::ls)
theorem Td{α β:Type}{R:α->β->Prop}{ts f:List α}(j:ts.Perm f):∀{a:List β},Tx R f a->∃sl:List β,sl.Perm a/\Tx R ts sl:=by
 induction j with
 |nil=>intro a h;exact⟨a,.refl _,h⟩
 | cons x _ k=>
   intro a h;cases h with
   | cons b c=>obtain⟨sl,d,e⟩:=k c;exact⟨_::sl,d.cons _,.cons b e⟩
 | swap x y l=>
   intro a h;cases h with
   | cons b c=>
     cases c with
     |cons g i=>exact⟨_::_::_,.swap _ _ _,.cons g (.cons b i)⟩
 | trans _ _ ih1 ih2=>intro a h;obtain⟨s1,m,d⟩:=ih2 h;obtain⟨s2,n,e⟩:=ih1 d;exact⟨s2,n.trans m,e⟩
section
variable {α β:Type} {R:α->β->Prop} {ts:List α} {sl:List β}
theorem Tx.len(h:Tx R ts sl):ts.length=sl.length:=by
 induction h with
 |nil=>rfl
 |cons _ _ a=>simp[a]
theorem Tx.at_(h:Tx R ts sl):∀{k:Nat} {x:α},ts[k]?=K x->∃l,sl[k]?=K l/\R x l:=by
 induction h with
 |nil=>intro k x h;simp at h
 | cons a _ b=>
   intro k x h;cases k with
   |zero=>simp at h;exact⟨_,rfl,h▸a⟩
   |succ k=>exact b (k:=k) (by simpa using h)
theorem Tx.mem(h:Tx R ts sl):∀{l:β},l∈sl->∃x∈ts,R x l:=by
 induction h with
 |nil=>intro l h;simp at h
 | cons a _ d=>
   intro l h;rcases jK.1 h with rfl|h
   . exact⟨_,sP,a⟩
   obtain⟨x,c,b⟩:=d h;exact⟨x,kh _ c,b⟩
theorem Tx.pair{P:α->α->Prop}{Q T:β->β->Prop}(h:Tx R ts sl)(i:∀a b l m,R a l->R b m->P a b->Q l m->T l m)(f:ts.Pairwise P)(g:sl.Pairwise Q):sl.Pairwise T:=by
 induction h with
 |nil=>exact .nil
 | cons d e n=>
   cases f with
   | cons p q=>
     cases g with
     | cons r s=>refine .cons (λm c=> ?_) (n q s);obtain⟨x,k,j⟩:=e.mem c;exact i _ _ _ _ d j (p x k) (r m c)
end
theorem TE{α β:Type}{R:α->β->Prop}:∀{b:List α} {a:List β},b.length= ↑a->(∀(k:Nat) x m,b[k]?=K x->a[k]?=K m->R x m)->Tx R b a
 |[],[],_,_=>.nil
 |[],_::_,h,_=>by simp at h
 |_::_,[],h,_=>by simp at h
 |x::b,m::a,h,h2=>.cons (h2 0 x m rfl rfl) (TE (by simpa using h) λk f e c d=>h2 (k+1) f e (by simpa using c) (by simpa using d))
theorem pz{w:Y}{ts j:List LV}{c:List ML}(v:ts.Perm j)(y:M9 ts)(u:j.length= ↑c)(q:∀(k:Nat) (m:ML) (x:LV),c[k]?=K m->j[k]?=K x->qK w m x)(s:c.Pairwise λa b=>a.head≠b.head):∃sl:List ML,sl.Perm c/\sl.Pairwise K4/\ts.length= ↑sl/\∀(k:Nat) (x:LV),ts[k]?=K x->∃l:ML,sl[k]?=K l/\l.head=x.h:=by
 obtain⟨sl,r,f⟩:=Td v (TE (R:= λ(x:LV) (m:ML)=>x.h=m.head/\x.yn= ↑m.aC) u λk x m n p=>⟨(q k m x p n).1,(q k m x p n).2.2.1⟩)
 have t:sl.Pairwise λa b=>a.head≠b.head:=(r.symm.pairwise_iff (λh=>Ne.symm h)).1 s
 refine⟨sl,r,f.pair (λa b l m g i d e=> ?_) y t,f.len, λk x z=> ?_⟩
 . rw[LV.lt_iff,mQ]at d;unfold K4;rw[<-g.1,<-i.1]at e;rw[<-g.1,<-i.1,<-g.2,<-i.2];omega
 obtain⟨l,d,e⟩:=f.at_ z;exact⟨l,d,e.1.symm⟩
section
open Go.Shelf
section
variable {u u':Y} {row:Option Nat}
theorem Ay.held{a:Array J}(h:Ay u b a t)(c:u.grownBy u' row)(d:∀r,row=K r->∃o:Obj,u.heap[r]?=K o/\o.isCells=false):Ay u' b a t:=(grownBy_keeps_cells c d h rfl).trans h
theorem Rs{B d n:Nat}{xs:List J}(h:Ab u B e d s n xs)(i:u.grownBy u' row)(j:∀r,row=K r->∃o:Obj,u.heap[r]?=K o/\o.isCells=false):Ab u' B e d s n xs:=Kd h i (λg b k=>by
 rcases Bi h with⟨rfl,rfl⟩|⟨m,c,rfl⟩
 . cases b
 obtain⟨_,l,e⟩:=AY h;cases b
 obtain⟨o,a,f⟩:=j _ k;rw[e]at a;cases a
 cases f)
theorem CH.held{B c:Nat}{v:BQ}{n gC cC gS cS:Nat}{I:List Nat}{C:List Int}(h:CH u B c v n gC cC gS cS I C)(a:u.grownBy u' row)(b:∀r,row=K r->∃o:Obj,u.heap[r]?=K o/\o.isCells=false):CH u' B c v n gC cC gS cS I C:={h with eP:=h.eP.held a b,co:=Rs h.co a b,st:=Rs h.st a b}
theorem CH.sz{B a:Nat}{v:BQ}{n gC cC gS cS:Nat}{I:List Nat}{C:List Int}(h:CH u B a v n gC cC gS cS I C):gC< ↑u/\gS<u.heap.size:=by obtain⟨_,c1,b⟩:=AY h.co;obtain⟨_,c2,c⟩:=AY h.st;exact⟨(jS.1 b).1,(jS.1 c).1⟩
theorem DX.kpc{gC gS:Nat}(h:DX (Cg gC gS) u u'):JS gC gS u u':=⟨h.size, λk o a _ b c=>(h.block k (jS.1 a).1 (λe=>e.elim b c)).trans a⟩
theorem CH.keeps{A B d:Nat}{v:BQ}{n gC cC gS cS:Nat}{I:List Nat}{C:List Int}(h:CH u B d v n gC cC gS cS I C)(c:DX (Cg gC gS) u u'):KeepsFrom A u u':=by
 obtain⟨_,c1,e⟩:=AY h.co;obtain⟨_,c2,f⟩:=AY h.st;refine⟨c.size, λk o _ a b=>(c.block k (jS.1 a).1 ?_).trans a⟩;rintro(rfl|rfl)
 . rw[e]at a;cases a;cases b
 rw[f]at a;cases a;cases b
end
structure Sc(w u:Y)(v:BQ)(y:Int):Prop where
 body:Ay u w v.cells 111
 eY:Ay u ((w:Nat)+1) #[y] 2
 cq:Ah w w u
theorem Sc.av{w u u':Y}{v:BQ}(h:Sc w u v y)(a:Ah u u u'):Sc w u' v y:=⟨h.body.av a,h.eY.av a,Ar h.cq lR a⟩
theorem Sc.set{w u:Y}{v:BQ}(h:Sc w u v y)(z:Int):Sc w (Aa u ⟨(w:Nat)+1,0,M⟩ z) v z:=⟨h.body.other sP _,h.eY.set 0 _,h.cq.setCell sP _⟩
def n9(p:MP)(fi:Int)(xs:List MI)(r:Ee)(costs:List Int)(D L:Nat->Nat->Bool)(sl:List ML)(v:Int):Prop:=PZ (nx r.aC) r.aC D L (Ka p fi r.aC) (Ll xs r.aC) (sl.map hN) (jf (List.range r.aC)) (cf (r.aC.map (Cf xs costs))) v
def M8{zs:List LV}(a:List {x:LV//x∈zs})(sl:List ML):Prop:=∀(k:Nat) (x:{x:LV//x∈zs}),a[k]?=K x->∃l:ML,sl[k]?=K l/\l.head=x.1.h
theorem M8.init{zs:List LV}{a:List {x:LV//x∈zs}}{x:{x:LV//x∈zs}}{sl:List ML}(h:M8 (a++[x]) sl):M8 a sl/\∃l:ML,sl[a.length]?=K l/\l.head=x.1.h:=by refine⟨λk y b=>h k y ?_,h a x sP⟩;rw[kL (f7.1 b).1];exact b
structure nz(w0:Y)(v:BQ)(p:MP)(fi:Int)(xs:List MI)(r:Ee)(costs:List Int)(D L:Nat->Nat->Bool)(gC cC gS cS:Nat)(zs:List LV)(pre:List {x:LV//x∈zs})(W:Y):Prop where
 ex:∃(I:List Nat) (C:List Int),CH W w0 w0 v r.aC gC cC gS cS I C/\∀sl:List ML,sl.Perm r.cv->sl.Pairwise K4->M8 pre sl->P5 p fi costs xs r D L sl pre false I C
 tb:Ay W ((w0:Nat)+1) #[.pointer w0] 254
 cq:Ah w0 w0 W
structure qG(w:Y)(v:BQ)(p:MP)(fi:Int)(xs:List MI)(r:Ee)(costs:List Int)(D L:Nat->Nat->Bool)(zs:List LV)(c:Code)(pre:List {x:LV//x∈zs})(W:Y):Prop where
 ret:c=.ret
 fr:Sc w W v (-1)
 bad:∀sl:List ML,sl.Perm r.cv->sl.Pairwise K4->M8 pre sl->n9 p fi xs r costs D L sl (-1)
section
variable {w w0:Y} {v:BQ} {p:MP} {fi:Int} {xs:List MI} {r:Ee} {costs:List Int} {D L:Nat->Nat->Bool} {gC cC gS cS:Nat} {zs:List LV}
theorem nz.own{B:Nat}(i: ↑w0<=B):OwnFrom B (nz w0 v p fi xs r costs D L gC cC gS cS zs):= λm W l row j a c=>by
 obtain⟨⟨I,C,f,g⟩,h,b⟩:=j;have d:∀r,row=K r->∃o:Obj,W.heap[r]?=K o/\o.isCells=false:= λr e=>(c r e).2
 exact⟨⟨I,C,f.held a d,g⟩,h.held a d,b.grown a b.size (λk e=>jN i (c k e).1)⟩
theorem qG.own{B:Nat}(l: ↑w<=B)(c:Code):OwnFrom B (qG w v p fi xs r costs D L zs c):= λq W n row m a d=>by
 obtain⟨g,⟨h,i,b⟩,j⟩:=m;have f:∀r,row=K r->∃o:Obj,W.heap[r]?=K o/\o.isCells=false:= λr e=>(d r e).2
 exact⟨g,⟨h.held a f,i.held a f,b.grown a b.size (λk e=>jN l (d k e).1)⟩,j⟩
theorem nz.av{c:List {x:LV//x∈zs}}{W b:Y}(h:nz w0 v p fi xs r costs D L gC cC gS cS zs c W)(a:Ah W W b):nz w0 v p fi xs r costs D L gC cC gS cS zs c b:=by obtain⟨⟨I,C,d,e⟩,f,g⟩:=h;exact⟨⟨I,C,d.av a,e⟩,f.av a,Ar g lR a⟩
end
theorem ZZ{zs:List LV}{g:Operand}{assign body:Code}{Q:Exit->Act->Y->Prop}{a:Act}{w:Y}{gf:Nat}{lb:Array J}(gC gS:Nat)(j:a.eval g=.func (.func gf) #[] lb)(n:∀args w,(callFunc gf args).run Aq w=.ok (.enter gf args) w)
 {S m:List {x:LV//x∈zs}->Prop} {N:Nat} (L:SeqStopsK Fence.wide 4 Aq gf lb (λx:{x:LV//x∈zs}=>#[.agg x.1.arr]) (JS gC gS) S m N w)
 (I:List {x:LV//x∈zs}->Y->Prop) (h:Code->List {x:LV//x∈zs}->Y->Prop) (z:OwnFrom w I) (A:∀c,OwnFrom w (h c)) (s:I [] w)
 (C:∀(l:Nat) (b:List {x:LV//x∈zs}) (x:{x:LV//x∈zs}) (W:Y) (K:Act->Y->Prop),I b W->(∀d,KeepsFrom w W d->JS gC gS W d->I b d->∀Bx,Ay d Bx x.1.arr 65->K {tmps:=(a.tmps.setIfInBounds 67 (.agg x.1.arr)).setIfInBounds 12 (.pointer Bx),defers:=[]} d)->
  assign.wpIn (Fence.wide.inRound l) 3 Aq (Exit.then K (λ_ _ _=>False)) {tmps:=a.tmps.setIfInBounds 67 (.agg x.1.arr),defers:=[]} W)
 (E:∀(l:Nat) (b:List {x:LV//x∈zs}) (x:{x:LV//x∈zs}) (Bx:Nat) (W:Y),Ay W Bx x.1.arr 65->I b W->body.wpIn (Fence.wide.inRound l) 3 Aq (ownPostG w (JS gC gS) I h (b++[x]) W) {tmps:=(a.tmps.setIfInBounds 67 (.agg x.1.arr)).setIfInBounds 12 (.pointer Bx),defers:=[]} W)
 (F:∀(D:Nat) (xs:List {x:LV//x∈zs}) (W:Y), ↑w<=D->S xs->I xs W->W.heap[D]?=some (.deferred (some []))->Q .normal {a with defers:={target:=.collected D,args:=#[]}::a.defers} W)
 (O:∀(D:Nat) (c:Code) (b:List {x:LV//x∈zs}) (W:Y), ↑w<=D->m b->h c b W->W.heap[D]?=some (.deferred (some []))->c.wpIn Fence.wide 5 Aq Q {a with defers:={target:=.collected D,args:=#[]}::a.defers} W):
 (Code.rangeFunc g #[67] assign body).wpIn Fence.wide 5 Aq Q a w:=by
 refine wpIn_rangeFunc_ownH rfl oM j trivial n L JS.trans JS.put (jZ _ _) (λ_=>rfl) I h z A s
  (λx a' W=>∃Bx,Ay W Bx x.1.arr 65/\a'={tmps:=(a.tmps.setIfInBounds 67 (.agg x.1.arr)).setIfInBounds 12 (.pointer Bx),defers:=[]})
  (λx a' _ X R row H j G=>by obtain⟨Bx,f,i⟩:=H;exact⟨Bx,f.held j (λr e=>(G r e).2),i⟩) ?_ ?_ F O
 . intro l b x W K k B;(have q:=C l b x W K k λd f i u Bx y=>B _ _ f i u ⟨Bx,y,rfl⟩);have e:((#[67]:Array Tmp).zip #[Value.agg x.1.arr]).foldl (λ(t:Array J) (P:Tmp×J)=>match P with|(p,v)=>t.setIfInBounds p v) a.tmps=a.tmps.setIfInBounds 67 (.agg x.1.arr):=sP;rw[<-e]at q;exact q
 rintro l b x a' W _ _ k ⟨Bx,f,rfl⟩ _;exact E l b x Bx W f k
end
end Go.Proofs.YtkgohaigebcgoaaGreatDoor
