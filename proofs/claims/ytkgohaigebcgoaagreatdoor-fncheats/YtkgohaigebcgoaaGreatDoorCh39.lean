import Derived.Test.YtkgohaigebcgoaaGreatDoorCh36
import Derived.Test.YtkgohaigebcgoaaGreatDoorCh34
namespace Go.Proofs.YtkgohaigebcgoaaGreatDoor
open Go.ChangeShapes Go.WideShapes Go.ChangeAt Go.RowKit Go.Proofs.Tryz
set_option linter.unusedVariables false
open Go.Value renaming slice → Z,agg → An
open Option renaming some → K,none → M
open Go renaming Value → J,World → Y,Calls → Ai
open Go.RowKit renaming Hid → Ae,Below → Ah
open Go.Ending renaming returned → Am
open Go.Proofs.Tryz renaming prog → Aq
open Go.World renaming ownsRow → Ab
open List renaming flatMap → Ad
set_option maxHeartbeats 8000000
set_option maxRecDepth 100000
variable {b N base:Nat}{w:Y}{v:BN}{F:List (MB×J)}{ys:List (ML×J×J)}{c vl:J}{r:DQ}
theorem UP{g:List MB}{l:List Int}{k:Nat}{z:Int}{m:MB}(q:l[k]?=K z)(n:z=(b:Int))(p:g[b]?=K m)(a:Int):DV g (l.take (k+1)) a↔DV g (l.take k) a\/(m.cz<=a/\a<=m.last):=by
 have s:=(f7.1 q).1;have e:l.take (k+1)=l.take k++[z]:=by
  rw[mZ s];congr 2
  exact(f7.1 q).2
 rw[e];unfold DV;constructor
 . rintro⟨y,c,j,d,f⟩;rcases mA.1 c with c|c
   . exact .inl ⟨y,c,j,d,f⟩
   simp only[lW,lZ,mS]at c;subst c;rw[n,lV,p]at d;have r:=mD d;subst r;exact .inr f
 rintro(⟨y,c,j,d,f⟩|h)
 . exact⟨y,mA.2 (.inl c),j,d,f⟩
 exact⟨z,sP,m,by rw[n,lV];exact p,h⟩
theorem Xe{b:List MB}(l:List Int)(a:Int):¬DV b (l.take 0) a:=by rintro⟨y,c,_⟩;simp at c
structure JI(w:Y)(v:BN)(F:List (MB×J))(N:Nat):Prop where
 len:F.length<=1024
 top:N<=1024
 rd:Rd w 3 (Z v.b.a v.b.n v.b.c) F (Ad Dj F)
 eI:∀(i:Nat) (m:MB),(F.map Prod.fst)[i]?=K m->∃a e:Nat,m.cz=(a:Int)/\m.last=(e:Int)/\a<=e/\e<N
theorem JI.av{u:Y}(h:JI w v F N)(a:Ah w w u):JI u v F N:=⟨h.len,h.top,h.rd.av a lR,h.eI⟩
theorem JI.at(h:JI w v F N)(t:b< ↑F):∃(m:MB) (g o a e:Nat) (nx:J),(F.map Prod.fst)[b]?=K m/\v.b.a=K ⟨g,o,M⟩/\v.b.n= ↑F/\w ⟨g,o+b*3,M⟩=K ↑a/\w ⟨g,o+b*3+1,M⟩=K ↑e/\w ⟨g,o+b*3+2,M⟩=K nx/\m.cz=(a:Int)/\m.last=(e:Int)/\a<=e/\e<N/\F[b]?=K (m,nx):=by
 obtain⟨x,c⟩:∃x,F[b]?=K x:=⟨_,an t⟩;have l:(F.map Prod.fst)[b]?=K x.1:=by rw[mN,c];rfl
 obtain⟨a,e,j,k,r,s⟩:=h.eI b x.1 l;rcases h.rd.2 with⟨y,_⟩|⟨g,o,cc,d,f⟩
 . omega
 simp only[lU]at d;have p:=Rd.elem Bj f b x c 0 _ rfl;have q:=Rd.elem Bj f b x c 1 _ rfl;have u:=Rd.elem Bj f b x c 2 _ rfl;rw[mL,j]at p;rw[k]at q;exact⟨x.1,g,o,a,e,x.2,l,d.1,d.2.1,p,q,u,j,k,r,s,c⟩
theorem Fu(v:BN)(S:Int)(x y:EJ)(F:List (MB×J))(N:Nat)(f:List Int)(w:Y)(hF:JI w v F N)(T:Rd w 1 (Z y.a y.n y.c) f (Ad At f))(aJ:f.length<=1024)(r:∀z∈f,∃b:Nat,z=(b:Int)/\b< ↑F):
 Ai Aq 70 #[An v.cells,An #[S,Z x.a x.n x.c,Z y.a y.n y.c]] w λe w'=>∃(a:Option Addr) (c:Nat) (j:List Int),e=Am (Z a j c)/\Rd w' 1 (Z a j c) j (Ad At j)/\(∀z,z∈j↔DV (F.map Prod.fst) f z)/\j.length<=1048576/\Ah w w w':=by
 obtain⟨k0,hk,aF,aG,aH⟩:=nE Ct;have H:Ae (JI w v F N/\Rd w 1 (Z y.a y.n y.c) f (Ad At f)/\∀z∈f,∃b:Nat,z=(b:Int)/\b< ↑F):=⟨hF,T,r⟩
 obtain⟨I,L,Q⟩:=T.aD;simp only[lU]at Q;have aq:y.n=f.length:=Q.2.1;clear hF T r Q I L;obtain⟨I,yn,L⟩:=y;simp only[]at aq H⊢;subst aq;have W:=Bw w v.cells #[S,Z x.a x.n x.c,Z I f L] 111 65;go_enter func70,ntmps70;go_upto_region 2 with fail
 refine Av (λu=>Ae (Ay u w v.cells 111/\Ay u ((w:Nat)+1) #[S,Z x.a x.n x.c,Z I f L] 65/\Ah w w u)) W ?_
 rintro U A;clear W;obtain⟨l0,l1,l2⟩:=CI A.2.1;go_wp2_with fail;clear l0 l1 l2;go_loopw [5,12] (λs i wr=>∃(k:Nat) (j:List Int),k<= ↑f/\i=iZ k/\Ae (Ab wr U 2 1 s j (Ad At j)/\(∀z,z∈j↔DV (F.map Prod.fst) (f.take k) z)/\ ↑j<=k*1024/\Ah U U wr)) (λ_ i _=> ↑f-(intOf i).toNat)
 case atStart=>exact⟨0,[],oM,rfl,mX _ _ _ _, λz=>⟨λe=>(by cases e), λe=>absurd e (Xe _ _)⟩,sP,mP _ _⟩
 case round=>
 obtain⟨k,j,aQ,rfl,q⟩:=hrel;by_cases aA:k< ↑f
 case pos=>
  obtain⟨z,r⟩:∃z,f[k]?=K z:=⟨_,an aA⟩;obtain⟨b,R,hb⟩:=H.2.2 z (lP r);obtain⟨m,g,o,B,C,nx,hm,eg,en,V,G,i2,e1,e2,aT,aW,_⟩:=H.1.at hb;rcases H.2.1.2 with⟨q0,_⟩|⟨gd,od,cd,q1,ae⟩
  . omega
  simp only[lU,mj]at q1;obtain⟨rfl,rfl⟩:=q1;have O:=Rd.elem AE ae k z r 0 _ rfl;rw[nX,mL,R]at O;have E:=Aw (lN r (lN R (lN hm (lN e1 e2))));clear r R hm e1 e2 ae;have D:=Aw (Ar A.2.2 lR q.2.2.2);have X:=Aw (lN (A.1.av q.2.2.2) G);rw[<-D.cell (lT O)]at O;rw[<-D.cell (lT V)]at V;have t:=X.1.cell 11;simp only[BN.cells]at t;simp only[eg,en]at t;have aS:F.length<=1024:=H.1.len;have aY:N<=1024:=H.1.top;have aI:(b:Int)<(F:Int):=oM;go_wp2_with fail;clear V t O;go_loopw [5,8] (λs i wr=>∃(d:Nat) (p:List Int),B<=d/\d<=C+1/\i=iZ d/\Ae (Ab wr U 2 1 s p (Ad At p)/\(∀z,z∈p↔DV (F.map Prod.fst) (f.take k) z\/((B:Int)<=z/\z<(d:Int)))/\ ↑p<=k*1024+(d-B)/\Ah U U wr)) (λ_ i _=>C+1-(intOf i).toNat)
  case atStart=>exact⟨B,j,oM,oM,rfl,q.1, λz=>⟨λe=>.inl ((q.2.1 z).1 e), λe=>(q.2.1 z).2 (e.elim id λe=>absurd e.2 oM)⟩,by have:=q.2.2.1;omega,q.2.2.2⟩
  case round=>
  clear q D;obtain⟨d,p,aK,aM,rfl,l⟩:=hrel;have D:=Aw (Ar A.2.2 lR l.2.2.2);have G:=X.2;rw[<-D.cell (lT G)]at G;have t:=(A.1.av l.2.2.2).cell 11;simp only[BN.cells]at t;simp only[eg,en]at t;by_cases aR:d<=C;case pos=>
   have ax:(d:Int)<=(C:Int):=oM;obtain⟨sa,sc,P⟩:=AF l.1;subst P;have aX: ↑p<=k*1024+(d-B):=l.2.2.1
   go_wp2_with (at_builtin;refine wpList_append_own _ rfl _ _ 27 rfl U 2 k0 (iZ 0) 1 8 underlying27 hk aF aG aH rfl dC _ p (Ad At p) rfl (l.1.alloc _) wr 1 1 [d] rfl rfl (Go.cell_one_new _ _ _) (λu hu=>by simp at hu;subst hu;rfl) oX oM (by have:=l.2.2.2.size;simp;omega) ?_;intro v' w3 aj ai aE);have aa:Ae (Ab w3 U 2 1 v' (p++[(d:Int)]).length (Ad At (p++[(d:Int)]))/\Ah U U w3):=by have o1:=l.1;refine⟨?_,(l.2.2.2.alloc l.2.2.2.size _).grown ai (by have:=l.2.2.2.size;simp;omega) (λi hi=>(o1.lt i hi).1)⟩;rw[mW,mB];exact aj
   clear aj ai aE;have HM:Ae (∀z,z∈p++[(d:Int)]↔DV (F.map Prod.fst) (f.take k) z\/((B:Int)<=z/\z<((d+1:Nat):Int))):= λz=>by
    rw[mA,l.2.1 z];simp only[lW,lZ,mS];constructor
    . rintro((h|h)|h)
      . exact .inl h
      . exact .inr oM
      exact .inr oM
    rintro(h|h)
    . exact .inl (.inl h)
    by_cases e:z=(d:Int)
    . exact .inr e
    exact .inl (.inr oM)
   clear G t;go_wp2;go_roundw;(case rel=>exact⟨d+1,p++[(d:Int)],oM,oM,by go_num,aa.1,HM,by rw[mB,mT];omega,aa.2⟩);exact oI
  have aO:d=C+1:=oM;have ax:¬(d:Int)<=(C:Int):=oM;have HM:Ae ((∀z,z∈p↔DV (F.map Prod.fst) (f.take (k+1)) z)/\ ↑p<=(k+1)*1024):=⟨λz=>by
   rw[l.2.1 z,UP E.1 E.2.1 E.2.2.1,E.2.2.2.1,E.2.2.2.2];constructor
   . rintro(h|h)
     . exact .inl h
     exact .inr oM
   rintro(h|h)
   . exact .inl h
   exact .inr oM,by have:=l.2.2.1;omega⟩
  go_wp2;go_roundw;case rel=>exact⟨k+1,p,oM,by go_num,l.1,HM.1,HM.2,l.2.2.2⟩
  exact oI
 have au:k=f.length:=oM;subst au;obtain⟨sa,sc,P⟩:=AF q.1;subst P;have HR:Ae ((∀z,z∈j↔DV (F.map Prod.fst) f z)/\j.length<=1048576):=⟨λz=>by have:=q.2.1 z;rw[List.take_length]at this;exact this,by have:=q.2.2.1;omega⟩
 go_wp2;go_ret;exact⟨sa,sc,j,rfl,Rd.eP q.1,HR.1,HR.2,Ar A.2.2 lR q.2.2.2⟩
theorem UW{y:ML×J×J}(h:y∈ys):(y.2.1,y.1.back)∈Gn ys/\(y.2.2,y.1.a7)∈Gn ys:=⟨oK.2 ⟨y,h,sP⟩,oK.2 ⟨y,h,sP⟩⟩
theorem CP.rd{b a:J}(h:CP w base c b a vl F ys r):JL w c b a vl r:=by
 have d:F.length=r.a7.length:=by rw[<-h.eb,mQ]
 have e:ys.length=r.cv.length:=by rw[<-h.el,mQ]
 refine⟨⟨F,h.eb,?_, λx g=> ?_⟩,Rd.eP (h.fg.own (b,r.dr) sP),Rd.eP (h.fg.own (a,r.fv) sP),⟨ys,h.el,?_, λy j=> ?_⟩⟩
 . rw[<-d];exact Rd.eP h.jD
 . exact Rd.eP (h.fg.own (x.2,x.1.next) (by refine mA.2 (.inl ?_);unfold Dt;exact oF (f:= λx=>(x.2,x.1.next)) g))
 . rw[<-e];exact Rd.eP h.jC
 have:=UW j;exact⟨Rd.eP (h.fg.own (y.2.1,y.1.back) (mA.2 (.inr (by simp[this.1])))),Rd.eP (h.fg.own (y.2.2,y.1.a7) (mA.2 (.inr (by simp[this.2]))))⟩
def IG(w:Y)(s:J)(fs:List MF):Prop:=∃ys:List (MF×VF),ys.map Prod.fst=fs/\Rd w 4 s fs (Ad GH ys)/\∀z∈ys,∃a c,z.2.c=Z a z.1.aU c/\ ↑z.1.aU<=c
theorem IG.at{s:J}{fs:List MF}(h:IG w s fs){q:Nat}{f:MF}(d:fs[q]?=K f){gk ok ck:Nat}(m:s=Z (K ⟨gk,ok,M⟩) fs ck):∃a c,w ⟨gk,ok+q*4+3,M⟩=K (Z a f.aU c)/\ ↑f.aU<=c:=by
 obtain⟨ys,p,r,t⟩:=h;have y:=(f7.1 d).1;obtain⟨z,e,n⟩:∃z,ys[q]?=K z/\z.1=f:=by rw[<-p,mN]at d;exact nJ.1 d
 subst n;obtain⟨a,c,k,l⟩:=t z (lP e);rcases r.2 with⟨v,_⟩|⟨g,o,cc,b,u⟩
 . omega
 rw[m]at b;simp only[lU,lX,ny,oZ,mj]at b;obtain⟨⟨rfl,rfl⟩,_⟩:=b;have j:=Rd.elem AK u q z e 3 _ rfl;rw[k]at j;exact⟨a,c,j,l⟩
theorem CP.jb{e:Y}{b d:J}(h:CP w base b d c vl F ys r)(a:Ah w w e):CP e base b d c vl F ys r:=⟨AD h.jD a lR,AD h.jC a lR,h.fg.av a,h.eb,h.el⟩
end Go.Proofs.YtkgohaigebcgoaaGreatDoor
