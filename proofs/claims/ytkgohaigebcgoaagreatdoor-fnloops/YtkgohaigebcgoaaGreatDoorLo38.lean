import Derived.Test.YtkgohaigebcgoaaGreatDoorLo35
import Derived.Test.YtkgohaigebcgoaaGreatDoorLo34
namespace Go.Proofs.YtkgohaigebcgoaaGreatDoor
open Go.ChangeShapes Go.WideShapes Go.ChangeAt Go.RowKit Go.Proofs.Tryz
set_option linter.unusedVariables false
open Go.Value renaming slice → Z,agg → An
open Option renaming some → K,none → M
open Go renaming Value → J,World → Y,Calls → Ai
open Go.RowKit renaming Hid → Ae,Below → Ah
open Go.Ending renaming returned → Am
open Go.Proofs.Tryz renaming prog → Aq
open Go.World renaming ownsRow → Ab
open List renaming flatMap → Ad
set_option maxHeartbeats 8000000
set_option maxRecDepth 100000
variable {b N base:Nat}{w:Y}{v:BQ}{F:List (MB×J)}{ys:List (ML×J×J)}{c vl s:J}{r:Ee}{fs:List MF}
theorem UU{g:List MB}{l:List Int}{k:Nat}{z:Int}{m:MB}(p:l[k]?=K z)(j:z=(b:Int))(n:g[b]?=K m)(a:Int):DZ g (l.take (k+1)) a↔DZ g (l.take k) a\/(m.cz<=a/\a<=m.last):=by
 have r:=(f7.1 p).1;have e:l.take (k+1)=l.take k++[z]:=by
  rw[kN r];congr 2
  exact(f7.1 p).2
 rw[e];unfold DZ;constructor
 . rintro⟨y,c,i,d,f⟩;rcases jL.1 c with c|c
   . exact .inl ⟨y,c,i,d,f⟩
   simp only[jK,jO,kM]at c;subst c;rw[j,i9,n]at d;have q:=jM d;subst q;exact .inr f
 rintro(⟨y,c,i,d,f⟩|h)
 . exact⟨y,jL.2 (.inl c),i,d,f⟩
 exact⟨z,sP,m,by rw[j,i9];exact n,h⟩
theorem XA{b:List MB}(l:List Int)(a:Int):¬DZ b (l.take 0) a:=by rintro⟨y,c,_⟩;simp at c
structure JQ(w:Y)(v:BQ)(F:List (MB×J))(N:Nat):Prop where
 len:F.length<=1024
 top:N<=1024
 rd:Rd w 3 (Z v.b.a v.b.n v.b.c) F (Ad Dq F)
 eP:∀(i:Nat) (m:MB),(F.map Prod.fst)[i]?=K m->∃a e:Nat,m.cz=(a:Int)/\m.last=(e:Int)/\a<=e/\e<N
theorem JQ.av{u:Y}(h:JQ w v F N)(a:Ah w w u):JQ u v F N:=⟨h.len,h.top,h.rd.av a lR,h.eP⟩
theorem JQ.at(h:JQ w v F N)(r:b< ↑F):∃(m:MB) (g o a e:Nat) (nx:J),(F.map Prod.fst)[b]?=K m/\v.b.a=K ⟨g,o,M⟩/\v.b.n= ↑F/\w ⟨g,o+b*3,M⟩=K ↑a/\w ⟨g,o+b*3+1,M⟩=K ↑e/\w ⟨g,o+b*3+2,M⟩=K nx/\m.cz=(a:Int)/\m.last=(e:Int)/\a<=e/\e<N/\F[b]?=K (m,nx):=by
 obtain⟨x,c⟩:∃x,F[b]?=K x:=⟨_,an r⟩;have k:(F.map Prod.fst)[b]?=K x.1:=by rw[jY,c];rfl
 obtain⟨a,e,i,j,p,q⟩:=h.eP b x.1 k;rcases h.rd.2 with⟨t,_⟩|⟨g,o,cc,d,f⟩
 . omega
 simp only[i8]at d;have i0:=Rd.elem Bo f b x c 0 _ rfl;have l:=Rd.elem Bo f b x c 1 _ rfl;have s:=Rd.elem Bo f b x c 2 _ rfl;rw[jV,i]at i0;rw[j]at l;exact⟨x.1,g,o,a,e,x.2,k,d.1,d.2.1,i0,l,s,i,j,p,q,c⟩
theorem Fz(v:BQ)(S:Int)(x y:Fs)(F:List (MB×J))(N:Nat)(f:List Int)(w:Y)(hF:JQ w v F N)(T:Rd w 1 (Z y.a y.n y.c) f (Ad As f))(aI:f.length<=1024)(r:∀z∈f,∃b:Nat,z=(b:Int)/\b< ↑F):
 Ai Aq 70 #[An v.cells,An #[S,Z x.a x.n x.c,Z y.a y.n y.c]] w λe w'=>∃(a:Option Addr) (c:Nat) (j:List Int),e=Am (Z a j c)/\Rd w' 1 (Z a j c) j (Ad As j)/\(∀z,z∈j↔DZ (F.map Prod.fst) f z)/\j.length<=1048576/\Ah w w w':=by
 obtain⟨k0,hk,aE,aF,aG⟩:=km Cy;have H:Ae (JQ w v F N/\Rd w 1 (Z y.a y.n y.c) f (Ad As f)/\∀z∈f,∃b:Nat,z=(b:Int)/\b< ↑F):=⟨hF,T,r⟩
 obtain⟨I,L,Q⟩:=T.aP;simp only[i8]at Q;have aj:y.n=f.length:=Q.2.1;clear hF T r Q I L;obtain⟨I,yn,L⟩:=y;simp only[]at aj H⊢;subst aj;have V:=BT w v.cells #[S,Z x.a x.n x.c,Z I f L] 111 65;go_enter func70,ntmps70;go_upto_region 2 with fail
 refine Av (λu=>Ae (Ay u w v.cells 111/\Ay u ((w:Nat)+1) #[S,Z x.a x.n x.c,Z I f L] 65/\Ah w w u)) V ?_
 rintro U A;clear V;obtain⟨l0,l1,l2⟩:=Dv A.2.1;go_wp2_with fail;clear l0 l1 l2;go_loopw [5,12] (λs i wr=>∃(k:Nat) (j:List Int),k<= ↑f/\i=iZ k/\Ae (Ab wr U 2 1 s j (Ad As j)/\(∀z,z∈j↔DZ (F.map Prod.fst) (f.take k) z)/\ ↑j<=k*1024/\Ah U U wr)) (λ_ i _=> ↑f-(intOf i).toNat)
 case atStart=>exact⟨0,[],oM,rfl,kH _ _ _ _, λz=>⟨λe=>(by cases e), λe=>absurd e (XA _ _)⟩,sP,jZ _ _⟩
 case round=>
 obtain⟨k,j,aO,rfl,q⟩:=hrel;by_cases ax:k< ↑f
 case pos=>
  obtain⟨z,r⟩:∃z,f[k]?=K z:=⟨_,an ax⟩;obtain⟨b,R,hb⟩:=H.2.2 z (hC r);obtain⟨m,g,o,B,C,nx,hm,eg,en,i0,G,i2,e1,e2,aS,aT,_⟩:=H.1.at hb;rcases H.2.1.2 with⟨q0,_⟩|⟨gd,od,cd,q1,aa⟩
  . omega
  simp only[i8,kW]at q1;obtain⟨rfl,rfl⟩:=q1;have O:=Rd.elem AE aa k z r 0 _ rfl;rw[lJ,jV,R]at O;have E:=Aw (fd r (fd R (fd hm (fd e1 e2))));clear r R hm e1 e2 aa;have D:=Aw (Ar A.2.2 lR q.2.2.2);have W:=Aw (fd (A.1.av q.2.2.2) G);rw[<-D.cell (i7 O)]at O;rw[<-D.cell (i7 i0)]at i0;have t:=W.1.cell 11;simp only[BQ.cells]at t;simp only[eg,en]at t;have aR:F.length<=1024:=H.1.len;have aX:N<=1024:=H.1.top;have aH:(b:Int)<(F:Int):=oM;go_wp2_with fail;clear i0 t O;go_loopw [5,8] (λs i wr=>∃(d:Nat) (p:List Int),B<=d/\d<=C+1/\i=iZ d/\Ae (Ab wr U 2 1 s p (Ad As p)/\(∀z,z∈p↔DZ (F.map Prod.fst) (f.take k) z\/((B:Int)<=z/\z<(d:Int)))/\ ↑p<=k*1024+(d-B)/\Ah U U wr)) (λ_ i _=>C+1-(intOf i).toNat)
  case atStart=>exact⟨B,j,oM,oM,rfl,q.1, λz=>⟨λe=>.inl ((q.2.1 z).1 e), λe=>(q.2.1 z).2 (e.elim id λe=>absurd e.2 oM)⟩,by have:=q.2.2.1;omega,q.2.2.2⟩
  case round=>
  clear q D;obtain⟨d,p,aJ,aK,rfl,l⟩:=hrel;have D:=Aw (Ar A.2.2 lR l.2.2.2);have G:=W.2;rw[<-D.cell (i7 G)]at G;have t:=(A.1.av l.2.2.2).cell 11;simp only[BQ.cells]at t;simp only[eg,en]at t;by_cases aQ:d<=C;case pos=>
   have au:(d:Int)<=(C:Int):=oM;obtain⟨sa,sc,P⟩:=AF l.1;subst P;have aW: ↑p<=k*1024+(d-B):=l.2.2.1
   go_wp2_with (at_builtin;refine wpList_append_own _ rfl _ _ 27 rfl U 2 k0 (iZ 0) 1 8 underlying27 hk aE aF aG rfl dC _ p (Ad As p) rfl (l.1.alloc _) wr 1 1 [d] rfl rfl (Go.cell_one_new _ _ _) (λu hu=>by simp at hu;subst hu;rfl) oX oM (by have:=l.2.2.2.size;simp;omega) ?_;intro v' w3 ai ae aA);have X:Ae (Ab w3 U 2 1 v' (p++[(d:Int)]).length (Ad As (p++[(d:Int)]))/\Ah U U w3):=by have o1:=l.1;refine⟨?_,(l.2.2.2.alloc l.2.2.2.size _).grown ae (by have:=l.2.2.2.size;simp;omega) (λi hi=>(o1.lt i hi).1)⟩;rw[kJ,jI];exact ai
   clear ai ae aA;have HM:Ae (∀z,z∈p++[(d:Int)]↔DZ (F.map Prod.fst) (f.take k) z\/((B:Int)<=z/\z<((d+1:Nat):Int))):= λz=>by
    rw[jL,l.2.1 z];simp only[jK,jO,kM];constructor
    . rintro((h|h)|h)
      . exact .inl h
      . exact .inr oM
      exact .inr oM
    rintro(h|h)
    . exact .inl (.inl h)
    by_cases e:z=(d:Int)
    . exact .inr e
    exact .inl (.inr oM)
   clear G t;go_wp2;go_roundw;(case rel=>exact⟨d+1,p++[(d:Int)],oM,oM,by go_num,X.1,HM,by rw[jI,kE];omega,X.2⟩);exact oI
  have aM:d=C+1:=oM;have au:¬(d:Int)<=(C:Int):=oM;have HM:Ae ((∀z,z∈p↔DZ (F.map Prod.fst) (f.take (k+1)) z)/\ ↑p<=(k+1)*1024):=⟨λz=>by
   rw[l.2.1 z,UU E.1 E.2.1 E.2.2.1,E.2.2.2.1,E.2.2.2.2];constructor
   . rintro(h|h)
     . exact .inl h
     exact .inr oM
   rintro(h|h)
   . exact .inl h
   exact .inr oM,by have:=l.2.2.1;omega⟩
  go_wp2;go_roundw;case rel=>exact⟨k+1,p,oM,by go_num,l.1,HM.1,HM.2,l.2.2.2⟩
  exact oI
 have aq:k=f.length:=oM;subst aq;obtain⟨sa,sc,P⟩:=AF q.1;subst P;have HR:Ae ((∀z,z∈j↔DZ (F.map Prod.fst) f z)/\j.length<=1048576):=⟨λz=>by have:=q.2.1 z;rw[List.take_length]at this;exact this,by have:=q.2.2.1;omega⟩
 go_wp2;go_ret;exact⟨sa,sc,j,rfl,Rd.eS q.1,HR.1,HR.2,Ar A.2.2 lR q.2.2.2⟩
theorem Vt{y:ML×J×J}(h:y∈ys):(y.2.1,y.1.back)∈Jz ys/\(y.2.2,y.1.aC)∈Jz ys:=⟨lZ.2 ⟨y,h,sP⟩,lZ.2 ⟨y,h,sP⟩⟩
theorem Hl.rd{b a:J}(h:Hl w base c b a vl F ys r):JU w c b a vl r:=by
 have d:F.length=r.aC.length:=by rw[<-h.eb,kC]
 have e:ys.length=r.cv.length:=by rw[<-h.el,kC]
 refine⟨⟨F,h.eb,?_, λx g=> ?_⟩,Rd.eS (h.eT.own (b,r.dr) sP),Rd.eS (h.eT.own (a,r.eU) sP),⟨ys,h.el,?_, λy i=> ?_⟩⟩
 . rw[<-d];exact Rd.eS h.iB
 . exact Rd.eS (h.eT.own (x.2,x.1.next) (by refine jL.2 (.inl ?_);unfold DQ;exact l9 (f:= λx=>(x.2,x.1.next)) g))
 . rw[<-e];exact Rd.eS h.jb
 have:=Vt i;exact⟨Rd.eS (h.eT.own (y.2.1,y.1.back) (jL.2 (.inr (by simp[this.1])))),Rd.eS (h.eT.own (y.2.2,y.1.aC) (jL.2 (.inr (by simp[this.2]))))⟩
def Jh(w:Y)(s:J)(fs:List MF):Prop:=∃ys:List (MF×VF),ys.map Prod.fst=fs/\Rd w 4 s fs (Ad DF ys)/\∀z∈ys,∃a c,z.2.c=Z a z.1.aU c/\ ↑z.1.aU<=c
theorem FN.rdk(h:FN w base s fs):Jh w s fs:=by obtain⟨xs,a,b,c⟩:=h;exact⟨xs,a,Rd.eS b, λx d=>X9 (c x d).2.2⟩
theorem Jh.at(h:Jh w s fs){q:Nat}{f:MF}(d:fs[q]?=K f){gk ok ck:Nat}(l:s=Z (K ⟨gk,ok,M⟩) fs ck):∃a c,w ⟨gk,ok+q*4+3,M⟩=K (Z a f.aU c)/\ ↑f.aU<=c:=by
 obtain⟨ys,n,p,r⟩:=h;have v:=(f7.1 d).1;obtain⟨z,e,m⟩:∃z,ys[q]?=K z/\z.1=f:=by rw[<-n,jY]at d;exact lE.1 d
 subst m;obtain⟨a,c,j,k⟩:=r z (hC e);rcases p.2 with⟨u,_⟩|⟨g,o,cc,b,t⟩
 . omega
 rw[l]at b;simp only[i8,jJ,lT,mD,kW]at b;obtain⟨⟨rfl,rfl⟩,_⟩:=b;have i:=Rd.elem AK t q z e 3 _ rfl;rw[j]at i;exact⟨a,c,i,k⟩
theorem Hl.gI{e:Y}{b d:J}(h:Hl w base b d c vl F ys r)(a:Ah w w e):Hl e base b d c vl F ys r:=⟨AC h.iB a lR,AC h.jb a lR,h.eT.av a,h.eb,h.el⟩
end Go.Proofs.YtkgohaigebcgoaaGreatDoor
