import Derived.Test.YtkgohaigebcgoaaGreatDoorCh51
namespace Go.Proofs.YtkgohaigebcgoaaGreatDoor
open Go.ChangeShapes Go.WideShapes Go.ChangeAt Go.RowKit Go.Proofs.Tryz
set_option linter.unusedVariables false
open Option renaming some → K,none → M
open Go.Value renaming slice → Z,int → Ag,agg → An,bool → Ao
open Go renaming Value → J,World → Y,TypeId → Aj,Calls → Ai
open Go.RowKit renaming Below → Ah,Hid → Ae
open Go.World renaming setCell → Aa,ownsRow → Ab,alloc → Ac
open List renaming flatMap → Ad
open Go.IntKind renaming i64 → Af
open Go.Ending renaming returned → Am
open Go.Proofs.Tryz renaming prog → Aq
open Go.Obj renaming cells → Ak
set_option maxHeartbeats 8000000
set_option maxRecDepth 100000
variable {b:List MB}{xs cs:List MI}{d u w W:Y}{j:Nat}{e:J}{ts:List MT}
def E5:Nat->List Nat|0=>[1]|1=>[2]|2=>[3,4]|3=>[1]|_=>[]
def R5:Nat->List Nat|0=>[]|1=>[0]|2=>[0,1]|3=>[0,1,2,4]|4=>[0,1,2,3]|_=>[0,1,2,3,4]
def D5(d b:Nat):Bool:= !(R5 d).contains b
theorem uu(d b:Nat):DA E5 (· ≠d) 0 b↔b∈R5 d:=by
 match d with
 |0=>exact⟨λh=>absurd rfl h.kj, λh=>by cases h⟩
 | 1 =>
   refine DZ dC (λx a y e j=> ?_) (λx a=> ?_) b
   . simp only[R5,lW,lZ,mS]at a⊢;subst a;simp only[E5,lW,lZ,mS]at e;exact absurd e j
   simp only[R5,lW,lZ,mS]at a;subst a;exact .here dC
 | 2 =>
   refine DZ dC (λx a y e j=> ?_) (λx a=> ?_) b
   . simp only[R5,lW,lZ,mS]at a⊢;rcases a with rfl|rfl<;>simp only[E5,lW,lZ,mS]at e<;>omega
   have c:DA E5 (· ≠2) 0 0:=.here dC;simp only[R5,lW,lZ,mS]at a;rcases a with rfl|rfl
   . exact c
   exact .step c dC dC
 | 3 =>
   refine DZ dC (λx a y e j=> ?_) (λx a=> ?_) b
   . simp only[R5,lW,lZ,mS]at a⊢;rcases a with rfl|rfl|rfl|rfl<;>simp only[E5,lW,lZ,mS]at e<;>omega
   have c:DA E5 (· ≠3) 0 0:=.here dC;have g:DA E5 (· ≠3) 0 1:=.step c dC dC;have f:DA E5 (· ≠3) 0 2:=.step g dC dC;simp only[R5,lW,lZ,mS]at a;rcases a with rfl|rfl|rfl|rfl
   . exact c
   . exact g
   . exact f
   exact .step f dC dC
 | 4 =>
   refine DZ dC (λx a y e j=> ?_) (λx a=> ?_) b
   . simp only[R5,lW,lZ,mS]at a⊢;rcases a with rfl|rfl|rfl|rfl<;>simp only[E5,lW,lZ,mS]at e<;>omega
   have c:DA E5 (· ≠4) 0 0:=.here dC;have g:DA E5 (· ≠4) 0 1:=.step c dC dC;have f:DA E5 (· ≠4) 0 2:=.step g dC dC;simp only[R5,lW,lZ,mS]at a;rcases a with rfl|rfl|rfl|rfl
   . exact c
   . exact g
   . exact f
   exact .step f dC dC
 | d +5=>
   refine DZ (by show 0∈[0,1,2,3,4];decide) (λx a y e j=> ?_) (λx a=> ?_) b
   . simp only[R5,lW,lZ,mS]at a⊢;rcases a with rfl|rfl|rfl|rfl|rfl<;>simp only[E5,lW,lZ,mS]at e<;>omega
   have c:DA E5 (· ≠d+5) 0 0:=.here oM;have g:DA E5 (· ≠d+5) 0 1:=.step c dC oM;have f:DA E5 (· ≠d+5) 0 2:=.step g dC oM;simp only[R5,lW,lZ,mS]at a;rcases a with rfl|rfl|rfl|rfl|rfl
   . exact c
   . exact g
   . exact f
   . exact .step f dC oM
   exact .step f dC oM
theorem YN(d b:Nat):D5 d b=true↔Ea E5 d b:=by unfold Ea D5;rw[uu];simp
theorem vs5:Vs E5 [] [] [0] [4,3,2,1,0] [3,4,2,1,0]:=.new dC (.new dC (.new dC (.new dC (.old dC (.nil _ _)) (.new dC (.nil _ _) (.nil _ _))) (.nil _ _)) (.nil _ _)) (.nil _ _)
def I5:Nat->Int|0=> -1|1=>0|2=>1|3=>2|4=>2|_=>0
def tI(h y:Nat):Bool:=decide (y=h)||(decide (h=1)&&(decide (y=2)||decide (y=3)))
theorem pk(h:Nat):AP E5 D5 5 h=if h=1 then[3]else[]:=by
 match h with
 |0=>decide
 |1=>decide
 |2=>decide
 |3=>decide
 |4=>decide
 | h+5=>
   rw[lY oM,List.eq_nil_iff_forall_not_mem];intro p c;obtain⟨b,a,_⟩:=(Db _ _ _ _ _).1 c;match p,b with
   |0,_=>simp[E5]at a
   |1,_=>simp[E5]at a
   |2,_=>simp[E5]at a
   |3,_=>simp[E5]at a
   |4,_=>simp[E5]at a
theorem in5(h y:Nat):tI h y=true↔AW E5 D5 5 h y:=by
 have two:∀y,DA (Bo E5 5) (· ≠1) 3 y->y=2\/y=3:=by
  intro y b;induction b with
  |here _=>exact .inr rfl
  | step _ d ok f=>
    obtain⟨p,q⟩:=(CS _ _ _ _).1 d;rename_i c _;rcases f with rfl|rfl
    . match c,p with
      |0,_=>simp[E5]at q
      |1,_=>exact absurd rfl ok
      |2,_=>exact .inl rfl
      |3,_=>exact .inr rfl
      |4,_=>simp[E5]at q
    . match c,p with
      |0,_=>simp[E5]at q
      |1,_=>exact absurd rfl ok
      |2,_=>exact .inl rfl
      |3,_=>exact .inr rfl
      |4,_=>simp[E5]at q
 unfold tI AW;rw[pk];simp only[Bool.or_eq_true,mo,mu];constructor
 . rintro(e|⟨rfl,rfl|rfl⟩)
   . exact .inl e
   . exact .inr ⟨3,sP,.step (.here dC) dC dC⟩
   exact .inr ⟨3,sP,.here dC⟩
 rintro(e|⟨t,a,b⟩)
 . exact .inl e
 by_cases e:h=1
 . subst e;rw[mE rfl,mK]at a;subst a;exact .inr ⟨rfl,two y b⟩
 rw[lY e]at a;cases a
theorem tk:∀b,b<5->(b=0/\I5 b=-1)\/b≠0/\∃c:Nat,c<5/\I5 b=(c:Int)/\Fm E5 b c:=by
 have h:∀b c:Nat,c≠b->D5 c b=true->(∀d,d≠b->D5 d b=true->D5 d c=true)->Fm E5 b c:= λb c g k l=>⟨g,(YN _ _).1 k, λd m f=>(YN _ _).1 (l d m ((YN _ _).2 f))⟩
 have all:∀b c:Nat,b<5->c<5->c≠b->D5 c b=true->((List.range 5).all λd=>decide (d=b)|| !D5 d b||D5 d c)=true->Fm E5 b c:= λb c f p g k l=>h b c g k λd m a=>by
  by_cases n:d<5
  . have:=nV.1 l d (nN.2 n);simp only[Bool.or_eq_true,mo,Bool.not_eq_true']at this;rcases this with(e|e)|e
    . exact absurd e m
    . rw[a]at e;cases e
    exact e
  obtain⟨j,rfl⟩:∃j,d=j+5:=⟨d-5,oM⟩;match b,f with
  |0,_=>simp[D5,R5]at a
  |1,_=>simp[D5,R5]at a
  |2,_=>simp[D5,R5]at a
  |3,_=>simp[D5,R5]at a
  |4,_=>simp[D5,R5]at a
 intro b f;match b,f with
 |0,_=>exact .inl ⟨rfl,rfl⟩
 |1,_=>exact .inr ⟨dC,0,dC,rfl,all 1 0 dC dC dC dC dC⟩
 |2,_=>exact .inr ⟨dC,1,dC,rfl,all 2 1 dC dC dC dC dC⟩
 |3,_=>exact .inr ⟨dC,2,dC,rfl,all 3 2 dC dC dC dC dC⟩
 |4,_=>exact .inr ⟨dC,2,dC,rfl,all 4 2 dC dC dC dC dC⟩
theorem rE(a n:Nat):nx (Ir 3 a n)=E5:=by
 funext b
 match b with
 |0=>rfl
 |1=>rfl
 |2=>rfl
 |3=>rfl
 |4=>rfl
 |k+5=>rfl
theorem TA{v:Nat}(h:v≠3)(a n:Nat):Ir v a n=[⟨0,(a:Int)+1,[1]⟩,⟨(a:Int)+2,(a:Int)+2,[2,3]⟩,⟨(a:Int)+3,(a:Int)+n+3,[1]⟩,⟨(a:Int)+n+4,(a:Int)+n+4,[]⟩]:=by unfold Ir;rw[lY h]
theorem qc{v:Nat}(h:v≠3)(a n:Nat):nx (Ir v a n)=E4:=by
 rw[TA h];funext b
 match b with
 |0=>rfl
 |1=>rfl
 |2=>rfl
 |3=>rfl
 |k+4=>rfl
def Gz(v:Nat):ML:=if v=3 then⟨1,[3],[1,2,3]⟩else⟨1,[2],[1,2]⟩
def Nf(v a n:Nat):DQ:=if v=3 then⟨0,0,Ir v a n,[0,1,2,4,3],[-1,0,1,2,2],[⟨1,[3],[1,2,3]⟩]⟩else⟨0,0,Ir v a n,[0,1,3,2],[-1,0,1,1],[⟨1,[2],[1,2]⟩]⟩
theorem Ji(v a n:Nat):(Nf v a n).aU=0:=by unfold Nf;split<;>rfl
theorem Cs(v a n:Nat):(Nf v a n).a7=Ir v a n:=by unfold Nf;split<;>rfl
theorem DL(v a n:Nat):(Nf v a n).cv=[Gz v]:=by unfold Nf Gz;split<;>rfl
theorem Ur:∀v:Fin 7,∀a:Fin 4,∀i:Fin 6,((Ch v.val a.val (3+i.val))[(Ch v.val a.val (3+i.val)).length-1]?).map (λx=>(x.op,x.a,x.b,x.c))=K (29,0,0,0):=by decide+kernel
theorem Qn{v a n k:Nat}(h:FZ v a n k):(Ch v a n)[(Ch v a n).length-1]?=K ⟨29,0,0,0⟩:=by obtain⟨i,rfl⟩:=h.i;have d:=Ur ⟨v,h.v⟩ ⟨a,h.a⟩ i;obtain⟨x,b,c⟩:=nJ.1 d;simp only[]at b;rw[b];obtain⟨_,_,_,_⟩:=x;simp only[Prod.mk.injEq]at c;obtain⟨rfl,rfl,rfl,rfl⟩:=c;rfl
theorem Fc{v a n k:Nat}(h:FZ v a n k):Ba (Ch v a n) (Nf v a n):=by
 have j:=Uu h;have q:=Qn h;by_cases m:v=3
 . subst m;(have f:nx (AR (Ch 3 a n))=E5:=by rw[j,rE]);(have g:(AR (Ch 3 a n)).length=5:=by rw[j];rfl);have l:=Ba.good (xs:=Ch 3 a n) (S:=[4,3,2,1,0]) (O:=[3,4,2,1,0]) (D:=D5) (L:=tI) (I:=I5) (TC h) q rfl (by rw[f];exact vs5) (by rw[g];intro c p;match c,p with|0,_=>decide|1,_=>decide|2,_=>decide|3,_=>decide|4,_=>decide) (by rw[f];exact YN) (by
    rw[f,g];intro b j t d;match b,j with
    |0,_=>simp only[E5,lW,lZ,mS]at d;subst d;unfold MX;decide
    |1,_=>simp only[E5,lW,lZ,mS]at d;subst d;unfold MX;decide
    | 2,_=>simp only[E5,lW,lZ,mS]at d;rcases d with rfl|rfl<;>(unfold MX;decide)
    |3,_=>simp only[E5,lW,lZ,mS]at d;subst d;unfold MX;decide
    |4,_=>simp[E5]at d) (by rw[f,g];exact tk) (by rw[f,g];exact in5)
   rw[f,g,j]at l;(have e:Bv E5 D5 tI 5 5=[⟨1,[3],[1,2,3]⟩]:=by unfold Bv;rw[show List.range 5=[0,1,2,3,4]from rfl];simp only[List.filterMap_cons,List.filterMap_nil,pk];rfl);rw[e]at l;exact l
 have f:nx (AR (Ch v a n))=E4:=by rw[j,qc m]
 have g:(AR (Ch v a n)).length=4:=by rw[j,TA m];rfl
 have l:=Ba.good (xs:=Ch v a n) (S:=[3,2,1,0]) (O:=[2,3,1,0]) (D:=D4) (L:=Tt) (I:=I4) (TC h) q rfl (by rw[f];exact vs4) (by rw[g];intro c p;match c,p with|0,_=>decide|1,_=>decide|2,_=>decide|3,_=>decide) (by rw[f];exact WG) (by
  rw[f,g];intro b j t d;match b,j with
  |0,_=>simp only[E4,lW,lZ,mS]at d;subst d;unfold MX;decide
  | 1,_=>simp only[E4,lW,lZ,mS]at d;rcases d with rfl|rfl<;>(unfold MX;decide)
  |2,_=>simp only[E4,lW,lZ,mS]at d;subst d;unfold MX;decide
  |3,_=>simp[E4]at d) (by rw[f,g];exact tj) (by rw[f,g];exact in4)
 rw[f,g,j]at l;have e:Bv E4 D4 Tt 4 4=[⟨1,[2],[1,2]⟩]:=by unfold Bv;rw[show List.range 4=[0,1,2,3]from rfl];simp only[List.filterMap_cons,List.filterMap_nil,Wq];rfl
 rw[e]at l;unfold Nf;rw[lY m];exact l
def inB(b:List MB)(l:List Int)(a:Int):Bool:=l.any λz=>match b[z.toNat]? with|some m=>decide (m.cz<=a)&&decide (a<=m.last)|none=>false
theorem Lh{l:List Int}{a:Int}:inB b l a=true↔DV b l a:=by
 unfold inB DV;rw[List.any_eq_true];constructor
 . rintro⟨z,c,h⟩;cases e:b[z.toNat]? with
   |none=>rw[e]at h;cases h
   |some m=>rw[e]at h;exact⟨z,c,m,e,by simpa using h⟩
 rintro⟨z,c,m,e,h⟩;exact⟨z,c,by rw[e];simpa using h⟩
def uy(xs:List MI)(k:Int)(i:Nat):Bool:=match xs[i]? with|some x=>(decide (x.op=3)||decide (x.op=27))&&decide (x.a=k)|none=>false
theorem T3{k a:Int}:uy xs k a.toNat=true↔OT xs k a:=by
 unfold uy OT;cases e:xs[a.toNat]? with
 |none=>simp
 |some x=>simp
def PK(xs:List MI)(a:List MB)(l:List Int)(f k:Int):Bool:=(List.range xs).any λi=>inB a l (i:Int)&&decide ((i:Int)≠f)&&uy xs k i
theorem KM{l:List Int}{f k:Int}(q:∀m∈b,0<=m.cz):PK xs b l f k=true↔∃a,DV b l a/\a≠f/\OT xs k a:=by
 unfold PK;rw[List.any_eq_true];constructor
 . rintro⟨i,t,h⟩;simp only[mu,mo]at h;exact⟨i,Lh.1 h.1.1,h.1.2,T3.1 (by rw[lV];exact h.2)⟩
 rintro⟨a,c,j,d⟩;have r:0<=a:=by obtain⟨z,u,m,p,n,s⟩:=c;exact Int.le_trans (q m (lP p)) n
 obtain⟨i,rfl⟩:∃i:Nat,a=(i:Int):=⟨a.toNat,oM⟩;have e:=T3.2 d;rw[lV]at e;refine⟨i,nN.2 ?_,by simp only[mu,mo];exact⟨⟨Lh.2 c,j⟩,e⟩⟩;obtain⟨x,g,_⟩:=d;rw[lV]at g;exact(f7.1 g).1
def TY(b:List MC)(xs:List MI)(m:MB)(c:MT):Bool:=decide (m.cz<=Jl xs m-1)&&match xs[(Jl xs m-1).toNat]?,xs[(Jl xs m).toNat]? with
 |some x,K y=>decide (x.op=1)&&decide (y.op=3)&&decide (y.a=c.dT)&&(match b[x.a.toNat]? with|some v=>decide (v.type=3)&&decide (v.word=c.init)|none=>false)
 |_,_=>false
theorem Ot{k:List MC}{m:MB}{c:MT}:TY k xs m c=true↔BO k xs m c:=by
 unfold TY BO;rw[mu,mo];refine and_congr_right λ_=> ?_
 constructor
 . intro h;split at h
   . rename_i x y g j;simp only[mu,mo]at h;obtain⟨⟨⟨b,d⟩,e⟩,a⟩:=h;split at a
     . rename_i v f;simp only[mu,mo]at a;exact⟨x,y,v,g,j,b,d,e,f,a.1,a.2⟩
     cases a
   cases h
 rintro⟨x,y,v,g,j,b,d,e,f,a,l⟩;rw[g,j];simp only[b,d,e,f,a,l,decide_true,Bool.and_self]
def XI(d:List MC)(xs:List MI)(a:List MB)(l:ML)(c:MT):Bool:=(List.range a).any λb=>match a[b]? with|some m=>m.next.contains l.head&& !l.a7.contains (b:Int)&& !TY d xs m c|none=>false
theorem Oj{d:List MC}{a:List MB}{l:ML}{c:MT}:XI d xs a l c=true↔Kj d xs a l c:=by
 unfold XI Kj;rw[List.any_eq_true];constructor
 . rintro⟨b,_,h⟩;cases e:a[b]? with
   |none=>rw[e]at h;cases h
   | some m=>
     rw[e]at h;simp only[mu,Bool.not_eq_true',List.contains_iff_mem]at h;refine⟨b,m,e,h.1.1, λq=> ?_, λq=> ?_⟩
     . have:=h.1.2;rw[List.contains_iff_mem.2 q]at this;cases this
     have:=h.2;rw[Ot.2 q]at this;cases this
 rintro⟨b,m,e,f,g,j⟩;refine⟨b,nN.2 (f7.1 e).1,?_⟩;rw[e];simp only[mu,Bool.not_eq_true',List.contains_iff_mem];refine⟨⟨f,?_⟩,?_⟩
 . cases q:l.a7.contains (b:Int)with
   |false=>rfl
   |true=>exact absurd (List.contains_iff_mem.1 q) g
 . cases q:TY d xs m c with
   |false=>rfl
   |true=>exact absurd (Ot.1 q) j
def Iy(ts:List MT)(f:List MC)(e:Int)(xs:List MI)(b:List MB)(l:ML):Option Int:=match b[l.head.toNat]? with
 |none=>M
 | some d=>match Cr ts e d.cz with
   |none=>K 1
   | some c=>match xs[d.cz.toNat]? with
     |none=>M
     |some g=>if¬(g.op=27/\g.a=c.dT)then K 2 else if inB b l.a7 g.c=true then K 3 else if PK xs b l.a7 d.cz c.dT=true then K 4 else if decide (l.head=0)||XI f xs b l c then K 5 else K 0
theorem Xr{p:MP}{k n:Int}{l:ML}(r:∀m∈b,0<=m.cz)(h:Iy p.bO p.b8 k xs b l=K n):A5 p k xs b l n:=by
 unfold Iy at h;split at h
 . cases h
 rename_i u s;refine⟨u,s,?_⟩;split at h
 . rename_i d;(cases h);exact .inl ⟨d,rfl⟩
 rename_i c d;split at h
 . cases h
 rename_i g t;refine .inr ⟨c,g,d,t,?_⟩;split at h
 . rename_i e;cases h;exact .inl ⟨e,rfl⟩
 rename_i e;refine .inr ⟨Classical.not_not.1 e,?_⟩;split at h
 . rename_i f;cases h;exact .inl ⟨Lh.1 f,rfl⟩
 rename_i f;refine .inr ⟨λq=>f (Lh.2 q),?_⟩;split at h
 . rename_i j;cases h;exact .inl ⟨(KM r).1 j,rfl⟩
 rename_i j;refine .inr ⟨λq=>j ((KM r).2 q),?_⟩;split at h
 . rename_i a;(cases h);rw[Bool.or_eq_true,mo,Oj]at a;exact .inl ⟨a,rfl⟩
 rename_i a;cases h
 rw[Bool.or_eq_true,mo,Oj]at a;exact .inr ⟨a,rfl⟩
def RU(v:Nat):Int:=if v=6 then 0 else(v:Int)
theorem sL:∀a:Fin 4,∀i:Fin 6,∀k:Fin 30,Iy (N0 0 a.val (1+k.val)) [⟨3,((1+k.val:Nat):Int)⟩] 0 (Ch 0 a.val (3+i.val)) (Ir 0 a.val (3+i.val)) (Gz 0)=K (RU 0):=by decide+kernel
theorem sM:∀a:Fin 4,∀i:Fin 6,∀k:Fin 30,Iy (N0 1 a.val (1+k.val)) [⟨3,((1+k.val:Nat):Int)⟩] 0 (Ch 1 a.val (3+i.val)) (Ir 1 a.val (3+i.val)) (Gz 1)=K (RU 1):=by decide+kernel
theorem sQ:∀a:Fin 4,∀i:Fin 6,∀k:Fin 30,Iy (N0 2 a.val (1+k.val)) [⟨3,((1+k.val:Nat):Int)⟩] 0 (Ch 2 a.val (3+i.val)) (Ir 2 a.val (3+i.val)) (Gz 2)=K (RU 2):=by decide+kernel
theorem sR:∀a:Fin 4,∀i:Fin 6,∀k:Fin 30,Iy (N0 3 a.val (1+k.val)) [⟨3,((1+k.val:Nat):Int)⟩] 0 (Ch 3 a.val (3+i.val)) (Ir 3 a.val (3+i.val)) (Gz 3)=K (RU 3):=by decide+kernel
theorem sS:∀a:Fin 4,∀i:Fin 6,∀k:Fin 30,Iy (N0 4 a.val (1+k.val)) [⟨3,((1+k.val:Nat):Int)⟩] 0 (Ch 4 a.val (3+i.val)) (Ir 4 a.val (3+i.val)) (Gz 4)=K (RU 4):=by decide+kernel
theorem sT:∀a:Fin 4,∀i:Fin 6,∀k:Fin 30,Iy (N0 5 a.val (1+k.val)) [⟨3,((1+k.val:Nat):Int)⟩] 0 (Ch 5 a.val (3+i.val)) (Ir 5 a.val (3+i.val)) (Gz 5)=K (RU 5):=by decide+kernel
theorem sU:∀a:Fin 4,∀i:Fin 6,∀k:Fin 30,Iy (N0 6 a.val (1+k.val)) [⟨3,((1+k.val:Nat):Int)⟩] 0 (Ch 6 a.val (3+i.val)) (Ir 6 a.val (3+i.val)) (Gz 6)=K (RU 6):=by decide+kernel
section
variable {v a n k:Nat}
theorem FZ.ik(h:FZ v a n k):∃(i:Fin 6) (j:Fin 30),3+i.val=n/\1+j.val=k:=⟨⟨n-3,by have:=h.n1;omega⟩,⟨k-1,by have:=h.k1;have:=h.k0;omega⟩,by have:=h.n0;show 3+(n-3)=n;omega,by have:=h.k0;show 1+(k-1)=k;omega⟩
theorem YG(v a n:Nat):∀m∈Ir v a n,0<=m.cz:=by
 intro m b;unfold Ir at b;split at b
 . simp only[lW,lZ,mS]at b;rcases b with rfl|rfl|rfl|rfl|rfl<;>simp only[]<;>omega
 simp only[lW,lZ,mS]at b;rcases b with rfl|rfl|rfl|rfl<;>simp only[]<;>omega
theorem Lg(h:FZ v a n k):A5 (CE v a n k) 0 (Ch v a n) (Ir v a n) (Gz v) (RU v):=by
 obtain⟨i,j,rfl,rfl⟩:=h.ik;refine Xr (YG _ _ _) ?_;show Iy (N0 v a (1+j.val)) [⟨3,((1+j.val:Nat):Int)⟩] 0 (Ch v a (3+i.val)) (Ir v a (3+i.val)) (Gz v)=K (RU v);match v,h.v with
 |0,_=>exact sL ⟨a,h.a⟩ i j
 |1,_=>exact sM ⟨a,h.a⟩ i j
 |2,_=>exact sQ ⟨a,h.a⟩ i j
 |3,_=>exact sR ⟨a,h.a⟩ i j
 |4,_=>exact sS ⟨a,h.a⟩ i j
 |5,_=>exact sT ⟨a,h.a⟩ i j
 |6,_=>exact sU ⟨a,h.a⟩ i j
end
def ui(v:Nat):List Nat:=if v=3 then[0,1,2,4,3]else[0,1,3,2]
def Qo(v a n k:Nat):R7:=RE (Ch v a n).length (J6 (CE v a n k) (Gy v a n) (Ir v a n) (ui v) Wb)
theorem sV:∀a:Fin 4,∀i:Fin 6,∀k:Fin 30,Zw (Qo 0 a.val (3+i.val) (1+k.val))=true:=by decide+kernel
theorem sW:∀a:Fin 4,∀i:Fin 6,∀k:Fin 30,Zw (Qo 1 a.val (3+i.val) (1+k.val))=true:=by decide+kernel
theorem sX:∀a:Fin 4,∀i:Fin 6,∀k:Fin 30,Zw (Qo 2 a.val (3+i.val) (1+k.val))=true:=by decide+kernel
theorem sY:∀a:Fin 4,∀i:Fin 6,∀k:Fin 30,Zw (Qo 3 a.val (3+i.val) (1+k.val))=true:=by decide+kernel
theorem sZ:∀a:Fin 4,∀i:Fin 6,∀k:Fin 30,Zw (Qo 4 a.val (3+i.val) (1+k.val))=true:=by decide+kernel
theorem s9:∀a:Fin 4,∀i:Fin 6,∀k:Fin 30,Zw (Qo 5 a.val (3+i.val) (1+k.val))=true:=by decide+kernel
theorem td:∀a:Fin 4,∀i:Fin 6,∀k:Fin 30,Zw (Qo 6 a.val (3+i.val) (1+k.val))=true:=by decide+kernel
section
variable {v a n k:Nat}
theorem LH(h:FZ v a n k):Lp (CE v a n k) 0 (Qo v a n k):=by
 refine .inr ⟨Hh h,dC,Gy v a n,Nf v a n,rfl,Fc h,Ji v a n,?_⟩;rw[Cs];have:(Nf v a n).dr.map Int.toNat=ui v:=by unfold Nf ui;split<;>rfl
 rw[this];rfl
theorem Sl(h:FZ v a n k):(Qo v a n k).aU=0/\(Qo v a n k).depth<=64:=by
 obtain⟨i,j,rfl,rfl⟩:=h.ik;have:Zw (Qo v a (3+i.val) (1+j.val))=true:=by
  match v,h.v with
  |0,_=>exact sV ⟨a,h.a⟩ i j
  |1,_=>exact sW ⟨a,h.a⟩ i j
  |2,_=>exact sX ⟨a,h.a⟩ i j
  |3,_=>exact sY ⟨a,h.a⟩ i j
  |4,_=>exact sZ ⟨a,h.a⟩ i j
  |5,_=>exact s9 ⟨a,h.a⟩ i j
  |6,_=>exact td ⟨a,h.a⟩ i j
 unfold Zw at this;simpa using this
end
section
variable {v a n k:Nat}
theorem Sj(h:FZ v a n k){c g x:Int}{C D:List Int}(b:Tr (CE v a n k) [0] [-1] [0] c g x C D):PM (CE v a n k) c g x C D:=by refine .inr (.inr ⟨Hh h,by rw[Qp h];simp,[-1],[0],rfl,rfl,?_⟩);rw[Qp h];exact b
theorem OY(v a n:Nat):∃m,(Ir v a n)[1]?=K m/\m.cz=(a:Int)+2:=by unfold Ir;split<;>exact⟨_,rfl,rfl⟩
theorem Gj(v:Nat):(Gz v).head=1:=by unfold Gz;split<;>rfl
theorem qR(h:FZ v a n k)(l:1<=v)(p:v<=5):PM (CE v a n k) 5 0 ((a:Int)+2) [] []:=by
 obtain⟨m,f,c⟩:=OY v a n;have b:=Lg h;have g:RU v≠0:=by unfold RU;rw[lY oM];omega
 refine Sj h (.bad (q:=0) (v:=0) (d:=0) ⟨Gy v a n,Nf v a n,rfl,Fc h,.inr ⟨Ji _ _ _,Qo v a n k,LH h,.inr ⟨(Sl h).1,.inl ⟨Gz v,m,⟨0,by rw[DL];rfl,⟨RU v,g,by rw[Cs];exact b⟩, λj y e=>absurd e (Nat.not_lt_zero _)⟩,by rw[Cs,Gj];exact f,rfl,c.symm⟩⟩⟩⟩ dC)
theorem LG(h:FZ v a n k)(e:RU v=0):∀l∈(Nf v a n).cv,¬se (CE v a n k) 0 (Ch v a n) (Nf v a n).a7 l:=by intro l b;rw[DL,mK]at b;subst b;rintro⟨q,d,c⟩;rw[Cs]at c;have:=Lg h;rw[e]at this;exact d (c.one this)
theorem qV(h:FZ 6 a n k):PM (CE 6 a n k) 6 0 ((a:Int)+2+1) [] []:=by
 obtain⟨m,p,g⟩:=OY 6 a n;have f:(CE 6 a n k).bO=[⟨0,(a:Int)+2,0,k⟩,⟨0,(a:Int)+2+1,1,3⟩]:=rfl;have t:∀l∈(Nf 6 a n).cv,∀b,(Nf 6 a n).a7[l.head.toNat]?=K b->b.cz=(a:Int)+2:=by intro l c b e;rw[DL,mK]at c;subst c;rw[Cs,Gj]at e;have:b=m:=mD (e.symm.trans p);rw[this];exact g
 refine Sj h (.bad (q:=0) (v:=0) (d:=0) ⟨Gy 6 a n,Nf 6 a n,rfl,Fc h,.inr ⟨Ji _ _ _,Qo 6 a n k,LH h,.inr ⟨(Sl h).1,.inr ⟨LG h rfl,.inl ⟨⟨0,(a:Int)+2+1,1,3⟩,⟨1,by rw[f];rfl,⟨rfl, λl c b e=> ?_⟩, λj y u r s=> ?_⟩,rfl,rfl⟩⟩⟩⟩⟩ dC)
 . rw[t l c b e];show(a:Int)+2≠(a:Int)+2+1;omega
 obtain rfl:j=0:=oM;rw[f]at r;cases r
 exact s.2 (Gz 6) (by rw[DL];exact mK.2 rfl) m (by rw[Cs,Gj];exact p) g
theorem Sk:∀a:Fin 4,∀i:Fin 6,(Ch 0 a.val (3+i.val)).all (λx=>decide (x.op≠28))=true:=by decide+kernel
theorem N2(h:FZ 0 a n k):∀x∈Ch 0 a n,x.op≠28:=by obtain⟨i,rfl⟩:=h.i;intro x b;simpa using nV.1 (Sk ⟨a,h.a⟩ i) x b
theorem qS:∀a:Fin 4,∀i:Fin 6,(Ir 0 a.val (3+i.val)).map (Cm (Ch 0 a.val (3+i.val)) [-1])=[(a.val:Int)+2,2,((3+i.val:Nat):Int)+2,2]:=by decide+kernel
theorem po(h:FZ 0 a n k):(Ir 0 a n).map (Cm (Ch 0 a n) [-1])=[(a:Int)+2,2,(n:Int)+2,2]:=by obtain⟨i,rfl⟩:=h.i;exact qS ⟨a,h.a⟩ i
theorem qW{C:Nat->Int}(u:n<9)(r:k<60)(c1:C 1=2)(c2:C 2=(n:Int)+2):P7 E4 (λb=>Tt 1 b=true) (· ∈AP E4 D4 4 1) J4 1 C (k:Int) (K ((k:Int)*((n:Int)+4)+2)):=by
 have s:(k:Int)*((n:Int)+4)<=10000/\0<=(k:Int)*((n:Int)+4):=by
  have d:k*(n+4)<=60*13:=Nat.mul_le_mul oM oM;have e:(k:Int)*((n:Int)+4)=((k*(n+4):Nat):Int):=by rw[Int.natCast_mul];rfl
  omega
 have g:Yp E4 (λb=>Tt 1 b=true) J4 1 C (s1 n):=⟨by rw[c1];rfl, λb x a j l d c=>by
  rcases uj j with⟨rfl,rfl⟩|⟨rfl,rfl⟩|⟨rfl,rfl⟩|⟨rfl,rfl⟩
  . exact absurd rfl c
  . show(2:Int)+C 2<=(n:Int)+4;rw[c2];omega
  . exact absurd l dC
  exact absurd rfl c⟩
 refine .inr ⟨s1 n,(n:Int)+4,2,⟨⟨g, λt f b a=> ?_⟩, λb a=> ?_⟩,?_,?_,?_⟩
 . have m:t 1=C 1:=f.hd;have p:=f.ed 1 2 dC dC dC dC dC;have q:t 1+C 2<=t 2:=p;rw[c1]at m;rw[c2]at q;rcases um.1 a with rfl|rfl
   . show(2:Int)<=t 1;omega
   show(n:Int)+4<=t 2;omega
 . rcases um.1 a with rfl|rfl
   . show(2:Int)<=4294967295;decide
   show(n:Int)+4<=4294967295;omega
 . rw[Wq,mE rfl];exact⟨oM, λb a=>(by rw[mK.1 a];exact Int.le_refl _),.inr ⟨2,mK.2 rfl,rfl⟩⟩
 . refine⟨dC, λb a=> ?_,.inr ⟨1,⟨dC,3,dC,dC⟩,rfl⟩⟩;obtain⟨d,x,c,h⟩:=a;rcases um.1 d with rfl|rfl
   . exact Int.le_refl _
   rcases uj c with⟨e,_⟩|⟨e,_⟩|⟨e,_⟩|⟨_,rfl⟩
   . cases e
   . cases e
   . cases e
   exact absurd dC h
 rw[lY oM]
def uv(c v:Int)(b:Nat):Int:=if b=0 then c else if b=3 then c+v+2 else c+v
theorem qT{C:Nat->Int}{R:Nat->Prop}{c v:Int}(p:0<=c)(q:c<=100)(l:0<=v)(d:v<=20000)(c0:C 0=c)(c3:C 3=2)(g:R 3)(n:∀b,R b->b<4):PX E4 4 R (λb=>if Tt 1 b then 1 else J4 b) (λb=>if b=1 then v else C b) (c+v+2):=by
 have f:Yp E4 (λb=>b<4) (λb=>if Tt 1 b then 1 else J4 b) 0 (λb=>if b=1 then v else C b) (uv c v):=⟨by show uv c v 0=C 0;rw[c0];rfl, λb x a h r d m=>by
  rcases uj h with⟨rfl,rfl⟩|⟨rfl,rfl⟩|⟨rfl,rfl⟩|⟨rfl,rfl⟩
  . exact Int.le_refl _
  . exact absurd rfl d
  . show c+v+C 3<=c+v+2;rw[c3];exact Int.le_refl _
  exact absurd rfl d⟩
 refine .inr ⟨uv c v,⟨⟨f, λt e b a=> ?_⟩, λb a=> ?_⟩,oM, λb a=> ?_,.inr ⟨3,⟨dC,g⟩,rfl⟩⟩
 . have j:t 0=C 0:=e.hd;have s:t 0+v<=t 1:=e.ed 0 1 dC dC dC dC dC;have k:t 1+C 3<=t 3:=e.ed 1 3 dC dC dC dC dC;rw[c0]at j;rw[c3]at k;match b,a with
   |0,_=>show c<=t 0;omega
   |1,_=>show c+v<=t 1;omega
   |2,_=>show c+v<=t 1;omega
   |3,_=>show c+v+2<=t 3;omega
 . match b,a with
   |0,_=>show c<=4294967295;omega
   |1,_=>show c+v<=4294967295;omega
   |2,_=>show c+v<=4294967295;omega
   |3,_=>show c+v+2<=4294967295;omega
 . obtain⟨a,_⟩:=a;match b,a with
   |0,_=>show c<=c+v+2;omega
   |1,_=>show c+v<=c+v+2;omega
   |2,_=>show c+v<=c+v+2;omega
   |3,_=>show c+v+2<=c+v+2;omega
theorem tf(h:FZ 0 a n k):Ju (CE 0 a n k) 0 (Ir 0 a n) 1=(k:Int):=by
 have b:(Ir 0 a n)[1]?=K ⟨(a:Int)+2,(a:Int)+2,[2,3]⟩:=by rw[TA dC];rfl
 have c:Cr (CE 0 a n k).bO 0 ((a:Int)+2)=K ⟨0,(a:Int)+2,0,k⟩:=by show Cr [⟨0,(a:Int)+2,0,k⟩] 0 ((a:Int)+2)=_;unfold Cr;simp
 unfold Ju;rw[b];simp only[];rw[c]
def ES(a n k:Nat):Int:=(a:Int)+2+((k:Int)*((n:Int)+4)+2)+2
theorem NZ(h:FZ 0 a n k):0<=ES a n k/\(k:Int)*((n:Int)+4)<=10000/\0<=(k:Int)*((n:Int)+4):=by
 have b:=h.k1;have c:=h.n1;have d:k*(n+4)<=60*13:=Nat.mul_le_mul oM oM;have e:(k:Int)*((n:Int)+4)=((k*(n+4):Nat):Int):=by rw[Int.natCast_mul];rfl
 unfold ES;omega
theorem YL(h:FZ 0 a n k):My (Ch 0 a n) (Ir 0 a n) 3:=by refine⟨⟨(a:Int)+n+4,(a:Int)+n+4,[]⟩,⟨29,0,0,0⟩,by rw[TA dC];rfl,?_,rfl⟩;have:=Qn h;rw[H5]at this;show(Ch 0 a n)[((a:Int)+n+4).toNat]?=_;rw[show((a:Int)+n+4).toNat=a+n+5-1 from oM];exact this
theorem YJ(h:FZ 0 a n k):GZ (CE 0 a n k) 0 [-1] (ES a n k):=by
 obtain⟨B,f,q⟩:=NZ h;have C:=h.a;refine .inr ⟨Gy 0 a n,Nf 0 a n,Hh h,dC,rfl,Fc h,rfl,.inr ⟨λl w=> ?_, λm s p=> ?_,?_⟩⟩
 . rw[DL,mK]at w;subst w;rw[Cs];exact Lg h
 . rcases p with⟨j,x,_,_,t,z⟩|p
   . exact z λe=>absurd e (N2 h x (lP t))
   have p:4294967295<Cm (Ch 0 a n) [-1] m:=p;have f:Cm (Ch 0 a n) [-1] m∈(Ir 0 a n).map (Cm (Ch 0 a n) [-1]):=mV.2 ⟨m,s,rfl⟩;rw[po h]at f;have:=h.n1;simp only[lW,lZ,mS]at f;omega
 obtain⟨O,D,L,g⟩:=(Fc h).gd rfl;have r:nx (Nf 0 a n).a7=E4:=by rw[Cs];exact qc dC a n
 have u:D=D4:=by
  funext d b
  have f:=g.fl.D d b;rw[r]at f;have q:=WG d b;cases e1:D d b<;>cases e2:D4 d b<;>simp_all
 have A:L=Tt:=by
  funext x y
  have f:=g.il x y;rw[r,u]at f;have q:=in4 x y;have t:L x y=true↔Tt x y=true:=f.trans q.symm;cases e1:L x y<;>cases e2:Tt x y<;>simp_all
 refine⟨O,D,L,[Gz 0],g,List.Perm.refl _,List.pairwise_singleton _ _,?_⟩;rw[r,u,A];show PW E4 4 D4 Tt (Ju (CE 0 a n k) 0 (Ir 0 a n)) (My (Ch 0 a n) (Ir 0 a n)) [1] J4 (cf ((Ir 0 a n).map (Cm (Ch 0 a n) [-1]))) _;rw[po h];refine .step (v:=(k:Int)*((n:Int)+4)+2) ?_ (.nil (qT (c:=(a:Int)+2) oM oM oM oM rfl rfl (YL h) (λb p=> ?_)))
 . rw[tf h];exact qW h.n1 (by have:=h.k1;omega) rfl rfl
 obtain⟨m,x,s,_⟩:=p;exact(f7.1 s).1
theorem th(h:FZ 0 a n k):∃C D,cf C 0=ES a n k/\PM (CE 0 a n k) 0 0 0 C D:=by
 obtain⟨j,l⟩:=Sl h;have b:IQ (CE 0 a n k) (Gy 0 a n) (Qo 0 a n k) [0]<=64:=by unfold IQ;rw[TE (xs:=(Gy 0 a n).aU) (N2 h)];exact l
 refine⟨[ES a n k],[IQ (CE 0 a n k) (Gy 0 a n) (Qo 0 a n k) [0]],rfl,Sj h (.step (v:=ES a n k) (d:=IQ (CE 0 a n k) (Gy 0 a n) (Qo 0 a n k) [0]) ⟨Gy 0 a n,Nf 0 a n,rfl,Fc h,.inr ⟨rfl,Qo 0 a n k,LH h,.inr ⟨j,.inr ⟨LG h rfl,.inr ⟨λt g f=> ?_,_,YJ h,.inr ⟨(NZ h).1,.inr ⟨b,rfl,rfl,rfl,rfl⟩⟩⟩⟩⟩⟩⟩ .nil)⟩;obtain rfl:t=⟨0,(a:Int)+2,0,(k:Int)⟩:=mK.1 g;obtain⟨m,e,c⟩:=OY 0 a n;exact f.2 (Gz 0) (by rw[DL];exact mK.2 rfl) m (by rw[Cs,Gj];exact e) c
end
theorem Do.plus{p:MP}{k j:Nat}{s s1 s2:MS}(d:Do p k s s1)(e:Do p j s1 s2):Do p (k+j) s s2:=by
 induction e with
 |zero=>exact d
 |next _ a b c f=>exact .next (f d) a b c
abbrev tS(t:Nat)(c:Int)(st:List MC)(C N:Int):MS:=⟨0,false,C,N,[[],[],[]],st,[⟨0,(t:Int),0,[⟨3,c⟩,⟨3,0⟩]⟩]⟩
theorem H6:Bl 0=1/\Bl 1=1/\Bl 3=1/\Bl 25=2/\Bl 27=2/\Bl 29=2:=by decide+kernel
section
variable {v a n k t:Nat} {c C N z:Int}
theorem Tf(h:(Ch v a n)[t]?=K Hw):Bb (CE v a n k) (tS t c [] C N) (tS (t+1) c [] (C+1) (N+1)):=by
 have q:=Bb.does (p:=CE v a n k) (s:=tS t c [] C N) (g:=⟨0,t,0,[⟨3,c⟩,⟨3,0⟩]⟩) (f:=Gy v a n) (x:=Hw) rfl rfl (Int.natCast_nonneg t) h rfl;have e:tS t c [] (C+1) (N+1)={tS t c [] C N with steps:=N+1,cost:=C+Bl 0}:=by rw[H6.1]
 have b:Bb (CE v a n k) (tS t c [] C N) (DR (CE v a n k) (Gy v a n) ⟨0,t,0,[⟨3,c⟩,⟨3,0⟩]⟩ (tS t c [] (C+1) (N+1)) Hw):=by rw[e];exact q
 exact b
theorem MH(h:(Ch v a n)[t]?=K ⟨1,0,0,0⟩):Bb (CE v a n k) (tS t c [] C N) (tS (t+1) c [⟨3,(k:Int)⟩] (C+1) (N+1)):=by
 have q:=Bb.does (p:=CE v a n k) (s:=tS t c [] C N) (g:=⟨0,t,0,[⟨3,c⟩,⟨3,0⟩]⟩) (f:=Gy v a n) (x:=⟨1,0,0,0⟩) rfl rfl (Int.natCast_nonneg t) h rfl;have e:tS t c [] (C+1) (N+1)={tS t c [] C N with steps:=N+1,cost:=C+Bl 1}:=by rw[H6.2.1]
 have b:Bb (CE v a n k) (tS t c [] C N) (DR (CE v a n k) (Gy v a n) ⟨0,t,0,[⟨3,c⟩,⟨3,0⟩]⟩ (tS t c [] (C+1) (N+1)) ⟨1,0,0,0⟩):=by rw[e];exact q
 exact b
theorem MK(h:(Ch v a n)[t]?=K ⟨3,0,0,0⟩):Bb (CE v a n k) (tS t c [⟨3,z⟩] C N) (tS (t+1) z [] (C+1) (N+1)):=by
 have q:=Bb.does (p:=CE v a n k) (s:=tS t c [⟨3,z⟩] C N) (g:=⟨0,t,0,[⟨3,c⟩,⟨3,0⟩]⟩) (f:=Gy v a n) (x:=⟨3,0,0,0⟩) rfl rfl (Int.natCast_nonneg t) h rfl;have e:tS t c [⟨3,z⟩] (C+1) (N+1)={tS t c [⟨3,z⟩] C N with steps:=N+1,cost:=C+Bl 3}:=by rw[H6.2.2.1]
 have b:Bb (CE v a n k) (tS t c [⟨3,z⟩] C N) (DR (CE v a n k) (Gy v a n) ⟨0,t,0,[⟨3,c⟩,⟨3,0⟩]⟩ (tS t c [⟨3,z⟩] (C+1) (N+1)) ⟨3,0,0,0⟩):=by rw[e];exact q
 exact b
theorem TZ{u:Nat}(h:(Ch v a n)[t]?=K ⟨25,0,0,(u:Int)⟩):Bb (CE v a n k) (tS t c [] C N) (tS u c [] (C+2) (N+1)):=by
 have q:=Bb.does (p:=CE v a n k) (s:=tS t c [] C N) (g:=⟨0,t,0,[⟨3,c⟩,⟨3,0⟩]⟩) (f:=Gy v a n) (x:=⟨25,0,0,(u:Int)⟩) rfl rfl (Int.natCast_nonneg t) h rfl;have e:tS t c [] (C+2) (N+1)={tS t c [] C N with steps:=N+1,cost:=C+Bl 25}:=by rw[H6.2.2.2.1]
 have b:Bb (CE v a n k) (tS t c [] C N) (DR (CE v a n k) (Gy v a n) ⟨0,t,0,[⟨3,c⟩,⟨3,0⟩]⟩ (tS t c [] (C+2) (N+1)) ⟨25,0,0,(u:Int)⟩):=by rw[e];exact q
 exact b
theorem MJ{u:Nat}(h:(Ch v a n)[t]?=K ⟨27,0,0,(u:Int)⟩):Bb (CE v a n k) (tS t c [] C N) (if c=0 then tS u c [] (C+2) (N+1)else tS (t+1) (c-1) [] (C+2) (N+1)):=by
 have q:=Bb.does (p:=CE v a n k) (s:=tS t c [] C N) (g:=⟨0,t,0,[⟨3,c⟩,⟨3,0⟩]⟩) (f:=Gy v a n) (x:=⟨27,0,0,(u:Int)⟩) rfl rfl (Int.natCast_nonneg t) h rfl;have e:tS t c [] (C+2) (N+1)={tS t c [] C N with steps:=N+1,cost:=C+Bl 27}:=by rw[H6.2.2.2.2.1]
 have j:Bb (CE v a n k) (tS t c [] C N) (DR (CE v a n k) (Gy v a n) ⟨0,t,0,[⟨3,c⟩,⟨3,0⟩]⟩ (tS t c [] (C+2) (N+1)) ⟨27,0,0,(u:Int)⟩):=by rw[e];exact q
 have d:DR (CE v a n k) (Gy v a n) ⟨0,t,0,[⟨3,c⟩,⟨3,0⟩]⟩ (tS t c [] (C+2) (N+1)) ⟨27,0,0,(u:Int)⟩=if c=0 then tS u c [] (C+2) (N+1)else tS (t+1) (c-1) [] (C+2) (N+1):=by
  show(if c=0 then _ else _)=_;by_cases b:c=0
  . rw[mE b,mE b];rfl
  rw[lY b,lY b];rfl
 rw[d]at j;exact j
theorem rQ(h:(Ch v a n)[t]?=K ⟨29,0,0,0⟩):Bb (CE v a n k) (tS t c [] C N) ⟨0,true,C+2,N+1,[[],[],[]],[],[]⟩:=by
 have q:=Bb.does (p:=CE v a n k) (s:=tS t c [] C N) (g:=⟨0,t,0,[⟨3,c⟩,⟨3,0⟩]⟩) (f:=Gy v a n) (x:=⟨29,0,0,0⟩) rfl rfl (Int.natCast_nonneg t) h rfl;have e:tS t c [] (C+2) (N+1)={tS t c [] C N with steps:=N+1,cost:=C+Bl 29}:=by rw[H6.2.2.2.2.2]
 have b:Bb (CE v a n k) (tS t c [] C N) (DR (CE v a n k) (Gy v a n) ⟨0,t,0,[⟨3,c⟩,⟨3,0⟩]⟩ (tS t c [] (C+2) (N+1)) ⟨29,0,0,0⟩):=by rw[e];exact q
 exact b
theorem ZT(j:z≠0)(h:(Ch v a n)[t]?=K ⟨22,3,1,0⟩):∃b,Bb (CE v a n k) (tS t c [⟨3,z⟩] C N) (tS (t+1) c [⟨1,1⟩] b (N+1)):=by
 have q:=Bb.does (p:=CE v a n k) (s:=tS t c [⟨3,z⟩] C N) (g:=⟨0,t,0,[⟨3,c⟩,⟨3,0⟩]⟩) (f:=Gy v a n) (x:=⟨22,3,1,0⟩) rfl rfl (Int.natCast_nonneg t) h rfl;refine⟨C+Bl 22,?_⟩;generalize Bl 22=y at q⊢;have d:DR (CE v a n k) (Gy v a n) ⟨0,t,0,[⟨3,c⟩,⟨3,0⟩]⟩ {tS t c [⟨3,z⟩] C N with steps:=N+1,cost:=C+y} ⟨22,3,1,0⟩=tS (t+1) c [⟨1,1⟩] (C+y) (N+1):=by
  have w:M1 3 1 z=1:=by (have e:(z != 0)=true:=by simpa using j);unfold M1;rw[e];rfl
  show(⟨0,false,C+y,N+1,[[],[],[]],[⟨1,M1 3 1 z⟩],[⟨0,((t+1:Nat):Int),0,[⟨3,c⟩,⟨3,0⟩]⟩]⟩:MS)=_;rw[w]
 rw[d]at q;exact q
theorem tA{u:Nat}(h:(Ch v a n)[t]?=K ⟨26,0,0,(u:Int)⟩):∃b,Bb (CE v a n k) (tS t c [⟨1,1⟩] C N) (tS (t+1) c [] b (N+1)):=by have q:=Bb.does (p:=CE v a n k) (s:=tS t c [⟨1,1⟩] C N) (g:=⟨0,t,0,[⟨3,c⟩,⟨3,0⟩]⟩) (f:=Gy v a n) (x:=⟨26,0,0,(u:Int)⟩) rfl rfl (Int.natCast_nonneg t) h rfl;refine⟨C+Bl 26,?_⟩;generalize Bl 26=y at q⊢;exact q
end
def Ue(xs:List MI)(i:Nat):Option (Int×Int×Int×Int):=(xs[i]?).map λx=>(x.op,x.a,x.b,x.c)
theorem CQ{i:Nat}{o a b c:Int}(h:Ue xs i=K (o,a,b,c)):xs[i]?=K ⟨o,a,b,c⟩:=by obtain⟨x,e,d⟩:=nJ.1 h;rw[e];obtain⟨_,_,_,_⟩:=x;simp only[Prod.mk.injEq]at d;obtain⟨rfl,rfl,rfl,rfl⟩:=d;rfl
theorem qN:∀v:Fin 7,∀a:Fin 4,∀i:Fin 6,∀j:Fin 4,j.val<a.val->Ue (Ch v.val a.val (3+i.val)) j.val=K (0,0,0,0):=by decide+kernel
theorem qO:∀v:Fin 7,∀a:Fin 4,∀i:Fin 6,Ue (Ch v.val a.val (3+i.val)) a.val=K (1,0,0,0)/\Ue (Ch v.val a.val (3+i.val)) (a.val+1)=K (3,0,0,0)/\Ue (Ch v.val a.val (3+i.val)) (a.val+(3+i.val)+3)=K (25,0,0,((a.val+2:Nat):Int))/\Ue (Ch v.val a.val (3+i.val)) (a.val+(3+i.val)+4)=K (29,0,0,0):=by decide+kernel
theorem qP:∀v:Fin 7,∀a:Fin 4,∀i:Fin 6,v.val≠2->Ue (Ch v.val a.val (3+i.val)) (a.val+2)=K (27,0,0,((if v.val=3 then a.val+3 else a.val+(3+i.val)+4:Nat):Int)):=by decide+kernel
theorem qQ:∀v:Fin 7,∀a:Fin 4,∀i:Fin 6,∀j:Fin 8,(if v.val=3 then 3 else if v.val=4 then 2 else 0)<=j.val->j.val<3+i.val->Ue (Ch v.val a.val (3+i.val)) (a.val+3+j.val)=K (0,0,0,0):=by decide+kernel
theorem qL:∀a:Fin 4,∀i:Fin 6,Ue (Ch 3 a.val (3+i.val)) (a.val+3)=K (1,0,0,0)/\Ue (Ch 3 a.val (3+i.val)) (a.val+4)=K (22,3,1,0)/\Ue (Ch 3 a.val (3+i.val)) (a.val+5)=K (26,0,0,((a.val+(3+i.val)+4:Nat):Int)):=by decide+kernel
theorem qM:∀a:Fin 4,∀i:Fin 6,Ue (Ch 4 a.val (3+i.val)) (a.val+3)=K (1,0,0,0)/\Ue (Ch 4 a.val (3+i.val)) (a.val+4)=K (3,0,0,0):=by decide+kernel
section
variable {v a n k:Nat}
theorem sE(h:FZ v a n k)(b:j<a):(Ch v a n)[j]?=K Hw:=by obtain⟨i,rfl⟩:=h.i;exact CQ (qN ⟨v,h.v⟩ ⟨a,h.a⟩ i ⟨j,by have:=h.a;omega⟩ b)
theorem Sd(h:FZ v a n k):(Ch v a n)[a]?=K ⟨1,0,0,0⟩/\(Ch v a n)[a+1]?=K ⟨3,0,0,0⟩/\(Ch v a n)[a+n+3]?=K ⟨25,0,0,((a+2:Nat):Int)⟩/\(Ch v a n)[a+n+4]?=K ⟨29,0,0,0⟩:=by obtain⟨i,rfl⟩:=h.i;obtain⟨b,c,d,e⟩:=qO ⟨v,h.v⟩ ⟨a,h.a⟩ i;exact⟨CQ b,CQ c,CQ d,CQ e⟩
theorem YA(h:FZ v a n k)(b:v≠2):(Ch v a n)[a+2]?=K ⟨27,0,0,((if v=3 then a+3 else a+n+4:Nat):Int)⟩:=by obtain⟨i,rfl⟩:=h.i;exact CQ (qP ⟨v,h.v⟩ ⟨a,h.a⟩ i b)
theorem sF(h:FZ v a n k)(b:(if v=3 then 3 else if v=4 then 2 else 0)<=j)(c:j<n):(Ch v a n)[a+3+j]?=K Hw:=by obtain⟨i,rfl⟩:=h.i;exact CQ (qQ ⟨v,h.v⟩ ⟨a,h.a⟩ i ⟨j,by have:=h.n1;omega⟩ b c)
theorem qI(h:FZ 3 a n k):(Ch 3 a n)[a+3]?=K ⟨1,0,0,0⟩/\(Ch 3 a n)[a+4]?=K ⟨22,3,1,0⟩/\(Ch 3 a n)[a+5]?=K ⟨26,0,0,((a+n+4:Nat):Int)⟩:=by obtain⟨i,rfl⟩:=h.i;obtain⟨b,c,d⟩:=qL ⟨a,h.a⟩ i;exact⟨CQ b,CQ c,CQ d⟩
theorem sD(h:FZ 4 a n k):(Ch 4 a n)[a+3]?=K ⟨1,0,0,0⟩/\(Ch 4 a n)[a+4]?=K ⟨3,0,0,0⟩:=by obtain⟨i,rfl⟩:=h.i;obtain⟨b,c⟩:=qM ⟨a,h.a⟩ i;exact⟨CQ b,CQ c⟩
theorem N1(h:FZ v a n k):Ga (CE v a n k) ⟨[],[],[]⟩ (tS 0 0 [] 0 0):=.inl ⟨⟨Hh h,[],[],[],rfl,rfl,⟨rfl, λi b=>absurd b (Nat.not_lt_zero _)⟩,⟨rfl, λi b=>absurd b (Nat.not_lt_zero _)⟩⟩,[],[],[],Gy v a n,[],rfl,rfl,rfl⟩
theorem Px{t:Nat}{c C N:Int}:∀m:Nat,(∀j,j<m->(Ch v a n)[t+j]?=K Hw)->Do (CE v a n k) m (tS t c [] C N) (tS (t+m) c [] (C+m) (N+m))
 |0,_=>by rw[show C+((0:Nat):Int)=C by omega,show N+((0:Nat):Int)=N by omega];exact .zero
 | m+1,h=>by have:=Do.next (Px (c:=c) (C:=C) (N:=N) m (λj b=>h j oM)) rfl rfl (Tf (k:=k) (h m oM));rw[show C+((m+1:Nat):Int)=C+m+1 from oM,show N+((m+1:Nat):Int)=N+m+1 from oM];exact this
theorem Rz(h:FZ 0 a n k):∀(j:Nat) (C N:Int),Do (CE 0 a n k) (j*(n+2)) (tS (a+2) j [] C N) (tS (a+2) 0 [] (C+j*((n:Int)+4)) (N+j*((n:Int)+2)))
 | 0,C,N=>by rw[Nat.zero_mul,show C+((0:Nat):Int)*((n:Int)+4)=C by simp,show N+((0:Nat):Int)*((n:Int)+2)=N by simp];exact .zero
 | j+1,C,N=>by have g:=MJ (k:=k) (c:=((j+1:Nat):Int)) (C:=C) (N:=N) (YA h dC);rw[lY oM,show((j+1:Nat):Int)-1=j from oM]at g;have d:=Do.next (.zero (s:=tS (a+2) ((j+1:Nat):Int) [] C N)) rfl rfl g;have b:=d.plus (Px n (λi f=>sF h (oC _) f));rw[show a+2+1+n=a+n+3 from oM]at b;have e:=(b.next rfl rfl (TZ (Sd h).2.2.1)).plus (Rz h j _ _);rw[show(j+1)*(n+2)=0+1+n+1+j*(n+2)by rw[Nat.succ_mul];omega,show C+((j+1:Nat):Int)*((n:Int)+4)=C+2+n+2+j*((n:Int)+4)by rw[show((j+1:Nat):Int)=j+1 from oM,Int.add_mul];omega,show N+((j+1:Nat):Int)*((n:Int)+2)=N+1+n+1+j*((n:Int)+2)by rw[show((j+1:Nat):Int)=j+1 from oM,Int.add_mul];omega];exact e
theorem qU(h:FZ 0 a n k):∃s:MS,Il (CE 0 a n k) ⟨[],[],[]⟩ 2000 s/\s.done=true/\s.cost=ES a n k:=by have l:k*(n+2)<=60*11:=Nat.mul_le_mul (by have:=h.k1;omega) (by have:=h.n1;omega);have f:=h.a;have s1:=Px (k:=k) (t:=0) (c:=0) (C:=0) (N:=0) a (λj b=>by rw[m9];exact sE h b);rw[m9]at s1;have s2:=(s1.next rfl rfl (MH (Sd h).1)).next rfl rfl (MK (Sd h).2.1);have d:=s2.plus (Rz h k _ _);have g:=MJ (k:=k) (c:=0) (C:=0+(a:Int)+1+1+k*((n:Int)+4)) (N:=0+(a:Int)+1+1+k*((n:Int)+2)) (YA h dC);rw[mE rfl]at g;have e:=(d.next rfl rfl g).next rfl rfl (rQ (Sd h).2.2.2);refine⟨_,⟨tS 0 0 [] 0 0,N1 h,_,e,.inr ⟨oM,.inr rfl⟩⟩,rfl,?_⟩;show 0+(a:Int)+1+1+(k:Int)*((n:Int)+4)+2+2=ES a n k;unfold ES;omega
def tW(v a n k:Nat)(s:MS):Prop:=∃(t:Nat) (c:Int) (st:List MC) (C N:Int),s=tS t c st C N/\
 ((t<=a/\st=[])\/(t=a+1/\st=[⟨3,(k:Int)⟩])\/(t=a+2/\st=[]/\(v=4->c=k))\/
  (t=a+3/\st=[])\/(t=a+4/\st=[⟨3,(k:Int)⟩])\/(v=3/\t=a+5/\st=[⟨1,1⟩])\/
  ((if v=3 then a+6 else a+5)<=t/\t<=a+n+3/\st=[]/\(v=4->c=k)))
theorem YK(h:FZ v a n k)(d:v=3\/v=4){s:MS}(f:tW v a n k s):∃s',Bb (CE v a n k) s s'/\tW v a n k s':=by
 obtain⟨t,c,st,C,N,rfl,f⟩:=f;have A:=h.n0;have y:=h.k0;rcases f with⟨b,rfl⟩|⟨rfl,rfl⟩|⟨rfl,rfl,b⟩|⟨rfl,rfl⟩|⟨rfl,rfl⟩|⟨rfl,rfl,rfl⟩|⟨b,u,rfl,l⟩
 . by_cases e:t=a
   . subst e;exact⟨_,MH (Sd h).1,t+1,c,_,_,_,rfl,.inr (.inl ⟨rfl,rfl⟩)⟩
   exact⟨_,Tf (sE h oM),t+1,c,_,_,_,rfl,.inl ⟨oM,rfl⟩⟩
 . exact⟨_,MK (Sd h).2.1,a+2,k,_,_,_,rfl,.inr (.inr (.inl ⟨rfl,rfl, λ_=>rfl⟩))⟩
 . have g:=MJ (k:=k) (c:=c) (C:=C) (N:=N) (YA h oM);by_cases m:c=0
   . rw[mE m]at g;rcases d with rfl|rfl
     . exact⟨_,g,a+3,c,_,_,_,rfl,.inr (.inr (.inr (.inl ⟨rfl,rfl⟩)))⟩
     have:=b rfl;omega
   rw[lY m]at g;exact⟨_,g,a+3,c-1,_,_,_,rfl,.inr (.inr (.inr (.inl ⟨rfl,rfl⟩)))⟩
 . have e:(Ch v a n)[a+3]?=K ⟨1,0,0,0⟩:=by
    rcases d with rfl|rfl
    . exact(qI h).1
    exact(sD h).1
   exact⟨_,MH e,a+4,c,_,_,_,rfl,.inr (.inr (.inr (.inr (.inl ⟨rfl,rfl⟩))))⟩
 . rcases d with rfl|rfl
   . obtain⟨p,g⟩:=ZT (k:=k) (c:=c) (C:=C) (N:=N) (z:=(k:Int)) oM (qI h).2.1;exact⟨_,g,a+5,c,_,_,_,rfl,.inr (.inr (.inr (.inr (.inr (.inl ⟨rfl,rfl,rfl⟩)))))⟩
   exact⟨_,MK (sD h).2,a+5,k,_,_,_,rfl,.inr (.inr (.inr (.inr (.inr (.inr ⟨by rw[lY dC];exact Nat.le_refl _,oM,rfl, λ_=>rfl⟩)))))⟩
 . obtain⟨p,g⟩:=tA (k:=k) (c:=c) (C:=C) (N:=N) (qI h).2.2;exact⟨_,g,a+6,c,_,_,_,rfl,.inr (.inr (.inr (.inr (.inr (.inr ⟨by rw[mE rfl];exact Nat.le_refl _,oM,rfl, λe=>by cases e⟩)))))⟩
 by_cases e:t=a+n+3
 . subst e;exact⟨_,TZ (Sd h).2.2.1,a+2,c,_,_,_,rfl,.inr (.inr (.inl ⟨rfl,rfl,l⟩))⟩
 have w:a+5<=t:=by split at b<;>omega
 have q:(Ch v a n)[t]?=K Hw:=by
  have r:(if v=3 then 3 else if v=4 then 2 else 0)<=t-(a+3):=by
   rcases d with rfl|rfl
   . rw[mE rfl]at b⊢;omega
   rw[lY dC]at b;rw[lY dC,mE rfl];omega
  have:=sF h (j:=t-(a+3)) r oM;rw[show a+3+(t-(a+3))=t from oM]at this;exact this
 exact⟨_,Tf q,t+1,c,_,_,_,rfl,.inr (.inr (.inr (.inr (.inr (.inr ⟨oM,oM,rfl,l⟩)))))⟩
theorem pq(h:FZ v a n k)(b:v=3\/v=4):∀m:Nat,∃s,Do (CE v a n k) m (tS 0 0 [] 0 0) s/\tW v a n k s
 |0=>⟨_,.zero,0,0,[],0,0,rfl,.inl ⟨oC _,rfl⟩⟩
 | m+1=>by
   obtain⟨s,s1,s2⟩:=pq h b m;obtain⟨s',c,d⟩:=YK h b s2;refine⟨s',.next s1 ?_ ?_ c,d⟩
   . obtain⟨_,_,_,_,_,rfl,_⟩:=s2;rfl
   obtain⟨_,_,_,_,_,rfl,_⟩:=s2;rfl
theorem Wv(h:FZ v a n k)(b:v=3\/v=4):∃s:MS,Il (CE v a n k) ⟨[],[],[]⟩ 2000 s/\s.done=false:=by obtain⟨s,s1,s2⟩:=pq h b 2000;refine⟨s,⟨tS 0 0 [] 0 0,N1 h,2000,s1,.inl rfl⟩,?_⟩;obtain⟨_,_,_,_,_,rfl,_⟩:=s2;rfl
end
theorem Kv{a:Option Addr}{len:Nat}(h:CodeAt w w a len)(f:Ah w w u):CodeAt u w a len:=by
 rcases h with d|⟨b,off,e,c,j⟩
 . exact .inl d
 exact .inr ⟨b,off,e,c, λi g=>by obtain⟨v,l,m,k⟩:=j i g;exact⟨v,l,m,by rw[f.cell c];exact k⟩⟩
theorem YD:∀{j:Nat} {o a b c:Int},cs[j]?=K ⟨o,a,b,c⟩->∀z:Int,(Ad MI.cells cs).set (j*4+1) z=Ad MI.cells (cs.set j ⟨o,z,b,c⟩):=by
 induction cs with
 |nil=>intro j o a b c h;cases h
 | cons x r d=>
   intro j o a b c h z;cases j with
   |zero=>cases h;rfl
   | succ j=>have e:=d (j:=j) h z;rw[show(j+1)*4+1=j*4+1+1+1+1+1 from oM];show MI.cells x++(Ad MI.cells r).set (j*4+1) z=MI.cells x++Ad MI.cells (r.set j ⟨o,z,b,c⟩);rw[e]
theorem YE:∀{j:Nat} {o a b c:Int},cs[j]?=K ⟨o,a,b,c⟩->∀z:Int,(Ad MI.cells cs).set (j*4+3) z=Ad MI.cells (cs.set j ⟨o,a,b,z⟩):=by
 induction cs with
 |nil=>intro j o a b c h;cases h
 | cons x r d=>
   intro j o a b c h z;cases j with
   |zero=>cases h;rfl
   | succ j=>have e:=d (j:=j) h z;rw[show(j+1)*4+3=j*4+3+1+1+1+1 from oM];show MI.cells x++(Ad MI.cells r).set (j*4+3) z=MI.cells x++Ad MI.cells (r.set j ⟨o,a,b,z⟩);rw[e]
theorem YF:∀{j:Nat},j< ↑cs->∀o a b c:Int,((((Ad MI.cells cs).set (j*4) o).set (j*4+1) a).set (j*4+2) b).set (j*4+3) c=Ad MI.cells (cs.set j ⟨o,a,b,c⟩):=by
 induction cs with
 |nil=>intro j h;cases h
 | cons x r d=>
   intro j h o a b c;cases j with
   |zero=>rfl
   | succ j=>have e:=d (j:=j) (by simpa using h) o a b c;rw[show(j+1)*4=j*4+1+1+1+1 from oM];show MI.cells x++((((Ad MI.cells r).set (j*4) o).set (j*4+1) a).set (j*4+2) b).set (j*4+3) c=MI.cells x++Ad MI.cells (r.set j ⟨o,a,b,c⟩);rw[e]
theorem Mx{b:Y}{B m n c k:Nat}{xs:List J}(h:Rd u k (Z B m c) n xs)(l:b.heap[B]?=u.heap[B]?):Rd b k (Z B m c) n xs:=by
 refine⟨h.1,?_⟩;rcases h.2 with e|⟨f,q,c1,a,g⟩
 . exact .inl e
 have d:B=f:=by simp only[lU,lX,ny]at a;exact a.1.1
 subst d;refine .inr ⟨B,q,c1,a, λj v p=> ?_⟩;have:=g j v p;unfold World.cell? at this⊢;simp only[l]at this⊢;exact this
structure RV(w u:Y)(N g cp P:Nat)(cs:List MI)(k:Int)(tc:Array J)(vt:J)(ts:List MT):Prop where
 lw:MZ w u N g cp cs k tc
 p:Ay u P #[(Pm N vt).r,(Pm N vt).k,(Pm N vt).f,vt] 40
 t:Rd u 4 vt ts (Ad MT.cells ts)
 lo:N+1+1+1+1+1+1+1<P
theorem RV.av{N g b P:Nat}{k:Int}{c:Array J}(h:RV w u N g b P cs k c e ts)(a:Ah u u d):RV w d N g b P cs k c e ts:=⟨h.lw.av a,h.p.av a,h.t.av a lR,h.lo⟩
theorem MZ.off{N g c b i:Nat}{k:Int}{d:Array J}(h:MZ w W N g c cs k d)(j:N+1+1+1+1+1+1+1<b)(V:J):MZ w (Aa W ⟨b,i,M⟩ V) N g c cs k d:=by have m:=h.lo.2.2;have f:=h.lo.1;refine⟨h.l.jW (a:=⟨b,i,M⟩) ⟨by show _≠b;omega,by show _≠b;omega,by show _≠b;omega,by show _≠b;omega,by show _≠b;omega⟩ V,?_,h.t.other (a:=⟨b,i,M⟩) (by show _≠b;omega) V,h.lo,h.cq.setCell (by show _<=b;omega) V⟩;exact mR h.o (by show K g≠K b;intro e;cases e;omega) V
theorem MZ.iP{N g b i:Nat}{k:Int}{c:Array J}(h:MZ w W N g b cs k c)(V:J):MZ w (Aa W ⟨N+1+1+1+1+1+1+1,i,M⟩ V) N g b cs k (c.setIfInBounds i V):=by have f:=h.lo.2.2;have d:=h.lo.1;refine⟨h.l.jW (a:=⟨N+1+1+1+1+1+1+1,i,M⟩) ⟨by show _≠N+1+1+1+1+1+1+1;omega,by show _≠N+1+1+1+1+1+1+1;omega,by show _≠N+1+1+1+1+1+1+1;omega,by show _≠N+1+1+1+1+1+1+1;omega,by show _≠N+1+1+1+1+1+1+1;omega⟩ V,?_,h.t.set i V,h.lo,h.cq.setCell (by show _<=N+1+1+1+1+1+1+1;omega) V⟩;exact mR h.o (by show K g≠K (N+1+1+1+1+1+1+1);intro e;cases e;omega) V
theorem MZ.lh{w W a:Y}{N g d:Nat}{e:List MI}{k:Int}{n:Array J}(h:MZ w W N g d cs k n)(j:e.length= ↑cs)(m:Ab a w 25 4 (Z g cs d) cs (Ad MI.cells e))(s:∀b,b≠g->a.heap[b]?=W.heap[b]?)(p:Ah w w a):MZ w a N g d e k n:=by
 have u:=h.lo.2.2;have c:∀{b:Nat} {X:Array J} {t:Aj},g<b->Ay W b X t->Ay a b X t:= λv q=>by unfold Ay at q⊢;rw[s _ oM];exact q
 rw[<-j]at m;exact⟨⟨c oM h.l.r,c oM h.l.k,by rw[j];exact c oM h.l.f,c oM h.l.l,Rd.eP m,by rw[j];exact h.l.cc⟩,m,c oM h.t,h.lo,p⟩
theorem Ff(W:Y)(g i b:Nat)(V:J)(h:b≠g):(Aa W ⟨g,i,M⟩ V).heap[b]?=W.heap[b]?:=oJ W ⟨g,i,M⟩ b V h
theorem RV.one{N g e P j:Nat}{k:Int}{l:Array J}{d:J}{o a b c:Int}(h:RV w u N g e P cs k l d ts)(s:d=Z (K ⟨N+1+1+1+1+1+1+1,0,M⟩) 1 1)(n:cs[j]?=K ⟨o,a,b,c⟩)(z:Int):RV w (Aa u ⟨g,j*4+1,M⟩ z) N g e P (cs.set j ⟨o,z,b,c⟩) k l d ts:=by have m:=h.lw.lo;have v:=h.lo;have f:=(h.lw.o.stored (j*4+1) z).1;rw[YD n z]at f;refine⟨h.lw.lh (by rw[mF]) f (λq r=>Ff u g _ q _ r) (h.lw.cq.setCell m.2.1 _),h.p.other (by show P≠g;omega) _,?_,h.lo⟩;subst s;exact Mx h.t (Ff _ g _ _ _ oM)
theorem RV.three{N g e P j:Nat}{k:Int}{l:Array J}{d:J}{o a b c:Int}(h:RV w u N g e P cs k l d ts)(s:d=Z (K ⟨N+1+1+1+1+1+1+1,0,M⟩) 1 1)(n:cs[j]?=K ⟨o,a,b,c⟩)(z:Int):RV w (Aa u ⟨g,j*4+3,M⟩ z) N g e P (cs.set j ⟨o,a,b,z⟩) k l d ts:=by have m:=h.lw.lo;have v:=h.lo;have f:=(h.lw.o.stored (j*4+3) z).1;rw[YE n z]at f;refine⟨h.lw.lh (by rw[mF]) f (λq r=>Ff u g _ q _ r) (h.lw.cq.setCell m.2.1 _),h.p.other (by show P≠g;omega) _,?_,h.lo⟩;subst s;exact Mx h.t (Ff _ g _ _ _ oM)
theorem RV.all{N g l P j:Nat}{k:Int}{n:Array J}{f:J}(h:RV w u N g l P cs k n f ts)(s:f=Z (K ⟨N+1+1+1+1+1+1+1,0,M⟩) 1 1)(r:j< ↑cs)(o a b c:Int):RV w (Aa (Aa (Aa (Aa u ⟨g,j*4,M⟩ o) ⟨g,j*4+1,M⟩ a) ⟨g,j*4+2,M⟩ b) ⟨g,j*4+3,M⟩ c) N g l P (cs.set j ⟨o,a,b,c⟩) k n f ts:=by
 have d:=h.lw.lo;have v:=h.lo;have m:=((((h.lw.o.stored (j*4) o).1.stored (j*4+1) a).1.stored (j*4+2) b).1.stored (j*4+3) c).1;rw[YF r o a b c]at m;have far:∀q,q≠g->(Aa (Aa (Aa (Aa u ⟨g,j*4,M⟩ o) ⟨g,j*4+1,M⟩ a) ⟨g,j*4+2,M⟩ b) ⟨g,j*4+3,M⟩ c).heap[q]?=u.heap[q]?:= λq e=>by rw[Ff _ g _ q _ e,Ff _ g _ q _ e,Ff _ g _ q _ e,Ff _ g _ q _ e]
 refine⟨h.lw.lh (by rw[mF]) m far ((((h.lw.cq.setCell d.2.1 _).setCell d.2.1 _).setCell d.2.1 _).setCell d.2.1 _),(((h.p.other (by show P≠g;omega) _).other (by show P≠g;omega) _).other (by show P≠g;omega) _).other (by show P≠g;omega) _,?_,h.lo⟩;subst s;exact Mx h.t (far _ oM)
def Rk(n:Nat):Code->Option (Array Oper)
 |.region id ops _=>if id=n then K ops else M
 |.seq a b=>(Rk n a).or (Rk n b)
 |.cond _ a b=>(Rk n a).or (Rk n b)
 |.block _ a=>Rk n a
 |.loop a=>Rk n a
 |_=>M
def Tu(R:Act->Y->Prop):Exit->Act->Y->Prop
 |.normal,a,w=>R a w
 |_,_,_=>False
theorem Tu.imp{Q:Exit->Act->Y->Prop}:∀(e:Exit) (a:Act) (w:Y),Tu (Q .normal) e a w->Q e a w:= λe a w h=>by cases e<;>first|exact h|exact(h:False).elim
def Kp(v:Nat):Prop:=∀{p:Array Oper} (iM:Tryz.f5.body.bind (Rk 32)=K p) {R:Act->Y->Prop} {a:Y} {P b f c cl N eU eX m j n l:Nat} {g:Int} {eT h k:Option Addr} {sd:Bool} {q s1 s2 s3 s4 s7 S T U X aG aW bu bH bI bJ bP bQ bS bT bV bY bZ ce cj cH cI cJ cK cM cQ cR cT cU cW cX cY cZ d8 d9 db dd de df dg dh di dj dm dq dt du dv dw dx dy dz dA dB dD dE dF dG dH dI dJ dK dL dM dN dO dP dQ dR dS dU dV dW dX dY dZ e9 eu eF eG eH eJ eK eL eM eQ eR eS r s t w y z A B C D E F G H I L O Q eY eZ f8 fd fh fj fk fp ft fw fy fA fB fC fD fE fF fG fH fI fJ fK fL fM fN fO fP fQ fR fS fT fU fV fW fX fY fZ gj gm gq V W aa ae ai aj aq au ax aA aE aF aH aI aJ aK aM aO aQ aR aS aT aX aY aZ bf bg bi bj bq br bt bx bB bC bG:J}
    (iL:∀u,Ah a a u->u.cell? b=K (Ag Af 2)/\u.cell? ⟨b,1,M⟩=K (Ag Af 5)/\u.cell? ⟨b,3,M⟩=K ↑g/\u.cell? P=K (Z (K ⟨N+1+1+1,0,M⟩) 3 3)/\u.cell? ⟨P,1,M⟩=K (Z (K ⟨N+1+1+1+1,0,M⟩) 1 1)/\u.cell? ⟨P,2,M⟩=K (Z (K ⟨N+1+1+1+1+1+1,0,M⟩) 1 1)/\u.cell? ⟨P,3,M⟩=K (Z eT eU eX)/\u.cell? c=K (Ag Af 1)/\u.cell? ⟨c,1,M⟩=K (Z h m j)/\u.cell? ⟨c,2,M⟩=K (Z k n l)/\u.cell? ⟨f,1,M⟩=K ↑sd)
    (iK:∀u,Ah a a u->Ai Aq 12 #[An #[Z (K ⟨N+1+1+1,0,M⟩) 3 3,Z (K ⟨N+1+1+1+1,0,M⟩) 1 1,Z (K ⟨N+1+1+1+1+1+1,0,M⟩) 1 1,Z eT eU eX],Ag Af 0,An #[Ag Af 1,Z h m j,Z k n l]] u λe d=>e=Am ((v:Nat):Int)/\Ah u u d)
    (hQ:∀(gu gw gy gE gG gI gJ gK gM gQ gR gT gU gV gW gX gY gZ i6 i7 i8 i9 ie ig im io iq ir iu iw iA iB iC iD iE iG iH iI iJ:J) (d:Y),Ah a a d->R ⟨#[q,s1,s2,s3,s4,(Ag Af ((v:Nat):Int)),(.pointer P),s7,(Ag Af g),(Ag Af ((v:Nat):Int)),(.pointer b),(.pointer f),(Z c 1 cl),S,T,U,X,aG,aW,bu,bH,bI,bJ,bP,bQ,bS,bT,bV,bY,bZ,ce,cj,cH,cI,cJ,cK,cM,cQ,cR,cT,cU,cW,cX,cY,cZ,d8,d9,db,dd,de,df,dg,dh,di,dj,dm,dq,dt,du,dv,dw,dx,dy,dz,dA,dB,dD,dE,dF,dG,dH,dI,dJ,dK,dL,dM,dN,dO,dP,dQ,dR,dS,dU,dV,dW,dX,dY,dZ,e9,eu,eF,eG,eH,eJ,eK,eL,eM,eQ,eR,eS,r,s,t,w,y,z,A,B,C,D,E,F,G,H,I,L,O,Q,gu,gw,gy,gE,gG,gI,gJ,gK,gM,gQ,gR,gT,gU,gV,gW,gX,gY,gZ,i6,i7,i8,i9,ie,ig,im,io,iq,ir,iu,iw,iA,iB,iC,iD,iE,iG,iH,iI,iJ,Ao false,V,W,aa,ae,ai,aj,aq,au,ax,aA,aE,aF,aH,aI,aJ,aK,aM,aO,aQ,aR,aS,aT,aX,aY,aZ,bf,bg,bi,bj,bq,br,bt,bx,bB,bC,bG],[]⟩ d)
    (iN:v=3\/v=4->sd=false),
    (Code.region 32 p true).wp Aq (Tu R) ⟨#[q,s1,s2,s3,s4,(Ag Af ((v:Nat):Int)),(.pointer P),s7,(Ag Af g),(Ag Af ((v:Nat):Int)),(.pointer b),(.pointer f),(Z c 1 cl),S,T,U,X,aG,aW,bu,bH,bI,bJ,bP,bQ,bS,bT,bV,bY,bZ,ce,cj,cH,cI,cJ,cK,cM,cQ,cR,cT,cU,cW,cX,cY,cZ,d8,d9,db,dd,de,df,dg,dh,di,dj,dm,dq,dt,du,dv,dw,dx,dy,dz,dA,dB,dD,dE,dF,dG,dH,dI,dJ,dK,dL,dM,dN,dO,dP,dQ,dR,dS,dU,dV,dW,dX,dY,dZ,e9,eu,eF,eG,eH,eJ,eK,eL,eM,eQ,eR,eS,r,s,t,w,y,z,A,B,C,D,E,F,G,H,I,L,O,Q,eY,eZ,f8,fd,fh,fj,fk,fp,ft,fw,fy,fA,fB,fC,fD,fE,fF,fG,fH,fI,fJ,fK,fL,fM,fN,fO,fP,fQ,fR,fS,fT,fU,fV,fW,fX,fY,fZ,gj,gm,gq,V,W,aa,ae,ai,aj,aq,au,ax,aA,aE,aF,aH,aI,aJ,aK,aM,aO,aQ,aR,aS,aT,aX,aY,aZ,bf,bg,bi,bj,bq,br,bt,bx,bB,bC,bG],[]⟩ a
theorem Rl{v:Nat}(h:Ae (v=v)->Kp v:=by
 intro HV;intro ops hops R w11 P RB SB gl cl N vt2 vt3 lnb b3 lnk k3 hh vt1 b1 k1' sd s0 s1 s2 s3 s4 s7 s13 s14 s15 s16 s17 s18 s19 s20 s21 s22 s23 s24 s25 s26 s27 s28 s29 s30 s31 s32 s33 s34 s35 s36 s37 s38 s39 s40 s41 s42 s43 s44 s45 s46 s47 s48 s49 s50 s51 s52 s53 s54 s55 s56 s57 s58 s59 s60 s61 s62 s63 s64 s65 s66 s67 s68 s69 s70 s71 s72 s73 s74 s75 s76 s77 s78 s79 s80 s81 s82 s83 s84 s85 s86 s87 s88 s89 s90 s91 s92 s93 s94 s95 s96 s97 s98 s99 s100 s101 s102 s103 s104 s105 s106 s107 s108 s109 s110 s111 s112 s113 s114 s115 s116 s117 s118 s119 s120 s121 s122 s123 s124 s125 s126 s127 s128 s129 s130 s131 s132 s133 s134 s135 s136 s137 s138 s139 s140 s141 s142 s143 s144 s145 s146 s147 s148 s149 s150 s151 s152 s153 s154 s155 s156 s157 s158 s159 s160 s161 s162 s163 s164 s165 s166 s167 s168 s169 s170 s171 s172 s173 s174 s175 s176 s177 s178 s179 s180 s181 s182 s183 s184 s185 s186 s187 s188 s189 s190 s191 s192 s193 hKW hCO hQ hsd;have HKW:=Aw hKW;have HCO:=Aw hCO;have HQ:=Aw hQ;have HSD:=Aw hsd;clear hsd;clear hKW hCO hQ;simp only[Tryz.f5,Option.bind,Rk,Option.or,Nat.reduceEqDiff,if_true,if_false,lX]at hops;subst hops;refine wp_region_held_drew (S:= λu=>u.cell? RB=K (Ag Af 2)/\u.cell? ⟨RB,1,M⟩=K (Ag Af 5)/\u.cell? ⟨RB,3,M⟩=K ↑hh/\u.cell? P=K (Z (K ⟨N+1+1+1,0,M⟩) 3 3)/\u.cell? ⟨P,1,M⟩=K (Z (K ⟨N+1+1+1+1,0,M⟩) 1 1)/\u.cell? ⟨P,2,M⟩=K (Z (K ⟨N+1+1+1+1+1+1,0,M⟩) 1 1)/\u.cell? ⟨P,3,M⟩=K (Z vt1 vt2 vt3)/\u.cell? gl=K (Ag Af 1)/\u.cell? ⟨gl,1,M⟩=K (Z b1 lnb b3)/\u.cell? ⟨gl,2,M⟩=K (Z k1' lnk k3)/\u.cell? ⟨SB,1,M⟩=K ↑sd) (by kernel_rfl) (HKW.o _ (As _)) (λhHeld=> ?_)
 have D0:Ae (Ah w11 w11 w11.drew):=As _;generalize w11.drew=W12 at D0 hHeld⊢;refine AU 0 ?_ (hw:=by kernel_rfl);refine AU 1 ?_ (hw:=by kernel_rfl);refine AU 2 ?_ (hw:=by kernel_rfl);refine AU 3 ?_ (hw:=by kernel_rfl);go_simp;refine AU 4 ?_ (hw:=by kernel_rfl);refine AU 5 ?_ (hw:=by kernel_rfl);refine AU 6 ?_ (hw:=by kernel_rfl);go_simp;refine AU 7 ?_ (hw:=by kernel_rfl);refine AU 8 ?_ (hw:=by kernel_rfl);go_simp;refine AU 9 ?_ (hw:=by kernel_rfl);refine AU 10 ?_ (hw:=by kernel_rfl);refine AU 11 ?_ (hw:=by kernel_rfl);go_simp;refine AU 12 ?_ (hw:=by kernel_rfl);refine AU 13 ?_ (hw:=by kernel_rfl);refine AU 14 ?_ (hw:=by kernel_rfl);go_simp;refine AU 15 ?_ (hw:=by kernel_rfl);refine AU 16 ?_ (hw:=by kernel_rfl);refine AU 17 ?_ (hw:=by kernel_rfl);go_simp;refine AU 18 ?_ (hw:=by kernel_rfl);refine AU 19 ?_ (hw:=by kernel_rfl);go_simp;refine AU 20 ?_ (hw:=by kernel_rfl);refine AU 21 ?_ (hw:=by kernel_rfl);go_simp;refine AU 22 ?_ (hw:=by kernel_rfl);refine AU 23 ?_ (hw:=by kernel_rfl);go_simp;refine AU 25 ?_ (hw:=by kernel_rfl);refine DO 24 (λKC hKC=> ?_);rw[mE (by kernel_rfl)];go_simp;refine(HCO.o W12 D0.o).mono ?_;rintro e' w13 ⟨rfl,bb⟩;have D2:=Aw (Ar D0.o lR bb);clear bb;refine hKC.o _ _ (HKW.o _ D2.o) (λhHeld=> ?_);clear hKC KC;refine AU 26 ?_ (hw:=by kernel_rfl);refine AU 27 ?_ (hw:=by kernel_rfl);go_simp;refine AU 28 ?_ (hw:=by kernel_rfl);refine AU 29 ?_ (hw:=by kernel_rfl);go_simp;refine AU 30 ?_ (hw:=by kernel_rfl);refine AU 31 ?_ (hw:=by kernel_rfl);go_simp;first|(have:=(HV:Ae (3=3));refine tT 32 ?_ (hw:=by kernel_rfl))|refine AU 32 ?_ (hw:=by kernel_rfl)
 first|(have:=(HV:Ae (3=3));refine tT 33 ?_ (hw:=by kernel_rfl))|refine AU 33 ?_ (hw:=by kernel_rfl)
 go_simp;refine AU 34 ?_ (hw:=by kernel_rfl);refine AU 35 ?_ (hw:=by kernel_rfl);first|(have:Ae (sd=false):=Aw (HSD.o (by decide));refine AU 36 ?_ (hw:=by kernel_rfl))|refine tT 36 ?_ (hw:=by kernel_rfl)
 go_simp;first|(have:Ae (sd=false):=Aw (HSD.o (by decide));refine AU 37 ?_ (hw:=by kernel_rfl))|refine tT 37 ?_ (hw:=by kernel_rfl)
 refine AU 38 ?_ (hw:=by kernel_rfl);refine AU 39 ?_ (hw:=by kernel_rfl);go_simp;refine wpAnyH_done (by kernel_rfl) ?_ _;clear hHeld;first|rw[HSD.o (by decide)]|skip
 exact HQ.o _ _ _ _ _ _ _ _ _ _ _ _ _ _ _ _ _ _ _ _ _ _ _ _ _ _ _ _ _ _ _ _ _ _ _ _ _ _ _ _ D2.o):Kp v:=h (Aw rfl)
theorem ZG:Kp 1:=Rl
theorem ZH:Kp 2:=Rl
theorem ZK:Kp 5:=Rl
theorem ZI:Kp 3:=Rl
theorem ZJ:Kp 4:=Rl
theorem VX{z:Int}(a:0<=z)(b:z<=100):Fa z:=DB oM oM
theorem Ut{v a n k:Nat}(h:FZ v a n k):(CE v a n k).small:=by
 have d:=h.a;have e:=h.n1;refine⟨by show 3<=_;omega, λr b=> ?_,by show 1<=_;omega,by show 1<=_;omega, λf c=> ?_,?_⟩
 . simp only[CE,JU,lW,lZ,mS,or_self]at b;rw[b];decide
 . rw[mK.1 c];exact⟨oC _,by show 2<=_;omega,by show(Ch v a n).length<=_;rw[H5];omega⟩
 show(N0 v a k).length<=_;have:(N0 v a k).length<=2:=by
  unfold N0;split
  . exact oC _
  split
  . show 1<=2;omega
  split
  . show 2<=2;omega
  show 1<=2;omega
 omega
theorem YI:∀v:Fin 7,∀a:Fin 4,∀i:Fin 6,(Ch v.val a.val (3+i.val)).all (λx=>decide (0<=x.op)&&decide (x.op<=100)&&decide (0<=x.a)&&decide (x.a<=100)&&decide (0<=x.b)&&decide (x.b<=100)&&decide (0<=x.c)&&decide (x.c<=100))=true:=by decide+kernel
theorem qK{v a n k:Nat}(h:FZ v a n k):(CE v a n k).wf:=by
 have w:=h.a;have y:=h.k1;refine⟨λr d z c=> ?_, λx b=> ?_, λf t=> ?_,?_⟩
 . simp only[CE,JU,lW,lZ,mS,or_self]at d;rw[d]at c;cases c
 . rw[mK.1 b];exact⟨VX (z:=3) dC dC,OS (by show 0<=(k:Int);omega) (by show(k:Int)<=_;omega)⟩
 . rw[mK.1 t];refine⟨λz c=>(by cases c),VX (z:=0) dC dC, λz c=> ?_, λx b=> ?_⟩
   . simp only[lW,lZ,mS,or_self]at c;rw[c];exact VX dC dC
   obtain⟨i,rfl⟩:=h.i;have:=nV.1 (YI ⟨v,h.v⟩ ⟨a,h.a⟩ i) x b;simp only[mu,mo]at this;obtain⟨⟨⟨⟨⟨⟨⟨e,g⟩,j⟩,l⟩,m⟩,p⟩,q⟩,s⟩:=this;exact⟨VX e g,VX j l,VX m p,VX q s⟩
 show∀x∈N0 v a k,x.wf;have c0:∀z:Int,0<=z->z<=100->(⟨0,(a:Int)+2,0,z⟩:MT).wf:= λz u A=>⟨VX (z:=0) dC dC,VX (z:=(a:Int)+2) oM oM,VX (z:=0) dC dC,OS u (by show z<=_;omega)⟩
 intro x b;unfold N0 at b;split at b
 . cases b
 split at b
 . rw[mK.1 b];exact c0 _ oM oM
 split at b
 . simp only[lW,lZ,mS]at b;rcases b with rfl|rfl
   . exact c0 _ oM oM
   exact⟨VX (z:=0) dC dC,VX (z:=(a:Int)+2+1) oM oM,VX (z:=1) dC dC,OS (z:=3) dC dC⟩
 rw[mK.1 b];exact c0 _ oM oM
def sj(v:Nat):Int:=if v=0 then 0 else if v=6 then 6 else 5
def tM(v a:Nat):Int:=if v=0 then 0 else if v=6 then(a:Int)+2+1 else(a:Int)+2
theorem Wu{v a n k:Nat}(h:FZ v a n k):∃C D,PM (CE v a n k) (sj v) 0 (tM v a) C D/\(v=0->cf C 0=ES a n k):=by
 have g:=h.v;by_cases b:v=0
 . subst b;obtain⟨C,D,d,f⟩:=th h;exact⟨C,D,f, λ_=>d⟩
 by_cases c:v=6
 . subst c;exact⟨[],[],qV h, λe=>absurd e b⟩
 refine⟨[],[],?_, λe=>absurd e b⟩;unfold sj tM;rw[lY b,lY c,lY b,lY c];exact qR h oM oM
theorem Xp{a P c d:Nat}{e:Int}{g j l m lb f:J}{n:Bool}(h:w a=K (Ag Af 2)/\w ⟨a,1,M⟩=K (Ag Af 5)/\w ⟨a,3,M⟩=K ↑e/\w P=K (g)/\w ⟨P,1,M⟩=K (j)/\w ⟨P,2,M⟩=K (l)/\w ⟨P,3,M⟩=K (m)/\w c=K (Ag Af 1)/\w ⟨c,1,M⟩=K (lb)/\w ⟨c,2,M⟩=K (f)/\w ⟨d,1,M⟩=K ↑n)(E:Ah w w u):u a=K (Ag Af 2)/\u ⟨a,1,M⟩=K (Ag Af 5)/\u ⟨a,3,M⟩=K ↑e/\u P=K (g)/\u ⟨P,1,M⟩=K (j)/\u ⟨P,2,M⟩=K (l)/\u ⟨P,3,M⟩=K (m)/\u c=K (Ag Af 1)/\u ⟨c,1,M⟩=K (lb)/\u ⟨c,2,M⟩=K (f)/\u ⟨d,1,M⟩=K ↑n:=by
 have k:∀{b i:Nat} {x:J},w ⟨b,i,M⟩=K x->u ⟨b,i,M⟩=K x:= λq=>by rw[E.cell (lT q)];exact q
 obtain⟨p,r,t,v,y,z,A,B,C,D,s⟩:=h;exact⟨k p,k r,k t,k v,k y,k z,k A,k B,k C,k D,k s⟩
theorem Us(v:Nat):(Gz v).small:=by unfold Gz;split<;>exact⟨by show 1<=_;omega,by show _<=1048576;decide⟩
theorem ti{v:Nat}(h:sj v=0):v=0:=by
 unfold sj at h;split at h
 . assumption
 split at h<;>cases h
theorem WV(d e:Int)(a c b vl:J)(w:Y):(Instr.field 61 (An #[d,e,a,c,b,vl]) 5).run Aq w=.ok vl w:=kR
theorem tg{v a n k:Nat}(h:FZ v a n k){q:Int}(g:qr (CE v a n k) 0 (Gz v) q):q=RU v:=by
 rcases g with⟨b,_⟩|⟨f,r,b,c⟩
 . exact absurd ⟨Hh h,dC,Gy v a n,Nf v a n,rfl,Fc h,Ji v a n,by rw[DL];exact mK.2 rfl⟩ b
 have d:f=Gy v a n:=(mD b.2.2.1).symm;subst d;have e:=b.2.2.2.1.one (Fc h);subst e;rw[Cs]at c;exact c.one (Lg h)
theorem pz{v a n k:Nat}(h:FZ v a n k):(F7 a n)[a+2]?=K ⟨27,0,0,(a:Int)+2+n+2⟩:=by have:=YA (v:=0) ⟨dC,h.a,h.n0,h.n1,h.k0,h.k1⟩ dC;rw[lY dC]at this;rw[show(a:Int)+2+n+2=((a+n+4:Nat):Int)from oM];exact this
structure ql(w u:Y)(N g cp P v a n k:Nat)(vt:J):Prop where
 l:Ii u (N+1+1+1) (N+1+1+1+1) (N+1+1+1+1+1+1) (N+1+1+1+1+1) N (K ⟨N+1,0,M⟩) (K ⟨N+1+1,0,M⟩) 0 0 0 [3,3] (Ch v a n) (k:Int) g cp
 p:Ay u P #[(Pm N vt).r,(Pm N vt).k,(Pm N vt).f,vt] 40
 t:Rd u 4 vt (N0 v a k).length (Ad MT.cells (N0 v a k))
 cq:Ah w w u
theorem ql.av{N g c P v a n k:Nat}(h:ql w u N g c P v a n k e)(b:Ah u u d):ql w d N g c P v a n k e:=⟨h.l.av b,h.p.av b,h.t.av b lR,Ar h.cq lR b⟩
theorem ql.jL{N g c P v a n k:Nat}{b:J}(h:ql w u N g c P v a n k b):Eb u (Pm N b) (CE v a n k)/\D8 u (Pm N b).r (CE v a n k).az/\EZ u (Pm N b).f (CE v a n k).aC/\IG u (Pm N b).f (CE v a n k).aC:=h.l.jL h.t
theorem RV.x{N g b P v a n k:Nat}{f:Array J}{c:J}(h:RV w u N g b P cs (k:Int) f c ts)(d:cs=Ch v a n)(e:ts=N0 v a k):ql w u N g b P v a n k c:=by subst d e;exact⟨h.lw.l,h.p,h.t,h.lw.cq⟩
theorem Ii.ji{w p:Y}{n j e m g B:Nat}{A C D:Option Addr}{s u v:Nat}{z:List Int}{k:Int}{cc:Nat}(h:Ii w n j e m A C D s u v z cs k g cc)(y:∀b,b<B->p.heap[b]?=w.heap[b]?)(a:n<B/\j<B/\e<B/\m<B/\g<B):Ii p n j e m A C D s u v z cs k g cc:=by
 have d:∀{b:Nat} {X:Array J} {t:Aj},b<B->Ay w b X t->Ay p b X t:= λE q=>by unfold Ay at q⊢;rw[y _ E];exact q
 exact⟨d a.1 h.r,d a.2.1 h.k,d a.2.2.1 h.f,d a.2.2.2.1 h.l,Mx h.c (y _ a.2.2.2.2),h.cc⟩
theorem Yi:(Tryz.prog.info? 37).map (λi=>(i.zero,i.size,i.bytes))=K (K (An #[Ag Af 0,Ag Af 0,Ag Af 0,Ag .u32 0]),4,32):=kR
theorem Nj(a0:Option Addr)(len cap:Nat)(w:Y)(hc:CodeAt w w a0 len)(hg:Dz w):
 Ai Aq 5 #[Z a0 len cap] w λe w'=>e=Am true/\Ah w w w':=by
 obtain⟨iX,dG,dy,dz,dA⟩:=nE Yi;have HW:=Aw (lN hc hg);clear hc hg;by_cases bu:len<=1048576;case neg=>have dM:(len:Int)>1048576:=oM;go_enter func5,ntmps5;go_wp2_with fail;go_ret;exact⟨rfl,mP _ _⟩
 have dM:¬((len:Int)>1048576):=oM;go_enter func5,ntmps5;go_wp2_with fail;refine(Me a0 len cap 0 30 w w bu oM oM oM HW.o.1).mono ?_;rintro e u1 ⟨⟨k1,e9,rfl⟩,H⟩;have B1:=Aw H;clear H;obtain⟨k,hk⟩:∃k:Nat,1+k1=k:=⟨_,rfl⟩;have dJ:(1:Int)+(k1:Int)=(k:Int):=oM;have dI:k<31:=oM;have HK:Ae (1<=k):=by exact(by omega:1<=k)
 go_upto_region 4 with fail
 clear dJ hk;go_wp2_with fail;refine(Me a0 len cap 1 6 w u1 bu oM oM oM (Kv HW.o.1 B1.o)).mono ?_;rintro e u2 ⟨⟨n1,eF,rfl⟩,H⟩;have B2:=Aw (Ar B1.o lR H);clear H B1;obtain⟨n,hn⟩:∃n:Nat,3+n1=n:=⟨_,rfl⟩;have dQ:(3:Int)+(n1:Int)=(n:Int):=oM;have db:n<9:=oM;have HN:Ae (3<=n):=by exact(by omega:3<=n)
 go_upto_region 5 with fail
 clear dQ hn;go_wp2_with fail;go_loopw [5] (λi wr=>∃v:Nat,v<=7/\i=Ag Af (v:Int)/\Ae (Ah w w wr)) (λi _=>7-(intOf i).toNat)
 case atStart=>exact⟨0,oM,rfl,B2⟩
 clear B2;obtain⟨v,hv,rfl,E1⟩:=hrel;by_cases cZ:v<7;case neg=>have dP:¬((v:Int)<7):=oM;go_wp2_with fail;go_ret;exact⟨rfl,E1.o⟩
 have dP:(v:Int)<7:=oM;go_wp2_with fail;refine(Me a0 len cap 2 4 w wr bu oM oM oM (Kv HW.o.1 E1.o)).mono ?_;rintro e u3 ⟨⟨a,ha,rfl⟩,H⟩;have B3:=Aw (Ar E1.o lR H);clear H E1;go_wp2_with fail;refine(SV a n k u3 ha db oM).mono ?_;rintro e u4 ⟨N,g,cp,rfl,hL⟩;have ae:Ae (FZ v a n k):=⟨cZ,ha,HN.o,db,HK.o,dI⟩;have L4:=Aw (hL.down B3.o);clear hL B3;go_upto_region 9 with fail
 obtain⟨A,dF⟩:∃A:Nat,a+2=A:=⟨_,rfl⟩;have aj:=Aw dF;have aY:(a:Int)+2=(A:Int):=oM;have E5:Ae (RV w (Ac u4 (Ak #[Z (some ⟨N+1+1+1,0,M⟩) 3 3,Z (some ⟨N+1+1+1+1,0,M⟩) 1 1,Z (some ⟨N+1+1+1+1+1+1,0,M⟩) 1 1,Z (some ⟨N+1+1+1+1+1+1+1,0,M⟩) 1 1] 40)) N g cp u4 (F7 a n) (k:Int) #[Ag Af 0,Ag Af ((a:Int)+2),Ag Af 0,Ag .u32 (k:Int)] (Z (some ⟨N+1+1+1+1+1+1+1,0,M⟩) 1 1) [⟨0,(a:Int)+2,0,(k:Int)⟩]):=by have bA:=Al u4 (Ak #[Z (some ⟨N+1+1+1,0,M⟩) 3 3,Z (some ⟨N+1+1+1+1,0,M⟩) 1 1,Z (some ⟨N+1+1+1+1+1+1,0,M⟩) 1 1,Z (some ⟨N+1+1+1+1+1+1+1,0,M⟩) 1 1] 40);have L5:=L4.o.av bA;exact⟨L5,Ay.new _ _ _,JZ (cs:=[Ag Af 0,Ag Af ((a:Int)+2),Ag Af 0,Ag .u32 (k:Int)]) (n:=1) (k:=4) L5.t rfl 1,L4.o.t.lt⟩
 clear L4;generalize Ac u4 (Ak #[Z (some ⟨N+1+1+1,0,M⟩) 3 3,Z (some ⟨N+1+1+1+1,0,M⟩) 1 1,Z (some ⟨N+1+1+1+1+1+1,0,M⟩) 1 1,Z (some ⟨N+1+1+1+1+1+1+1,0,M⟩) 1 1] 40)=U5 at E5⊢;generalize u4.heap.size=P at E5⊢;have dL:(F7 a n).length=a+n+5:=AN a n;have q2:=E5.o.p.cell 2;have I:=E5.o.p.cell 3;have f3:=E5.o.lw.l.f.cell 3;have t1:=E5.o.lw.t.cell 1;simp only[lQ,lO,lS]at q2 I f3 t1;rw[aY]at t1;go_upto_block 2 with fail
 clear q2 I f3 t1;go_cut [8]from 43 to 109 (λs8 wx=>s8=Ag Af (A:Int)/\∃(aA:Option Addr) (aE aF:Nat),Ae (ql w wx N g cp P v a n k (Z aA aE aF)))
 case first=>
  have bG:Ae ((A:Int)=(a:Int)+2):=aY.symm;clear aY;have dY:A+3<a+n+5:=by have:=aj.o;have:=HN.o;omega
  have bI:=Aw E5.o.lw.lo;have bq:=Aw E5.o.lo;rcases(by omega:v=0\/v=1\/v=2\/v=3\/v=4\/v=5\/v=6)with rfl|rfl|rfl|rfl|rfl|rfl|rfl
  . go_wp2_with fail;go_meet;exact⟨rfl,_,_,_,E5.o.x rfl rfl⟩
  . have I:=E5.o.p.cell 3;have z3:=E5.o.p.frozen 3;simp only[lQ,lO,lS]at I;go_wp2_with fail;go_meet;refine⟨rfl,M,0,0,?_⟩;have hb:=E5.o.p.set 3 (Z M 0 0);have hl:=E5.o.lw.off (b:=P) (i:=3) E5.o.lo (Z M 0 0);exact⟨hl.l,by simpa using hb,Rg _ _,hl.cq⟩
  . have cW:A<a+n+5:=oM;have aq:=pz ae.o;rw[aj.o]at aq;have bj:=Aw aq;clear aq;obtain⟨y1,O⟩:∃y,(Ad MI.cells (F7 a n))[A*4+1]?=some y:=⟨_,an (by rw[E5.o.lw.o.1,AN];omega)⟩;have c1:=E5.o.lw.o.cellAt (A*4+1) (by rw[AN];omega);rw[O]at c1;have W:=E5.o.lw.o.frozenAt (A*4+1);clear O;go_wp2_with fail;go_meet;refine⟨rfl,_,_,_,(E5.o.one rfl bj.o 1).x ?_ rfl⟩;rw[<-aj.o];rfl
  . have cW:A<a+n+5:=oM;obtain⟨d,aK⟩:∃d:Nat,A+1=d:=⟨_,rfl⟩;obtain⟨s,aM⟩:∃s:Nat,A+2=s:=⟨_,rfl⟩;have cT:(A:Int)+1=(d:Int):=oM;have dH:(A:Int)+2=(s:Int):=oM;have bt:d<a+n+5:=oM;have dK:s<a+n+5:=oM;have aR:=Aw aK;have aS:=Aw aM;clear aK aM;obtain⟨G,cU⟩:∃G:Nat,A+3=G:=⟨_,rfl⟩;have dZ:(A:Int)+3=(G:Int):=oM;have eu:G<a+n+5:=oM;have bH:=Aw cU;clear cU;have aq:=pz ae.o;rw[aj.o]at aq;have bj:=Aw aq;clear aq;obtain⟨y0,T⟩:∃y,(Ad MI.cells (F7 a n))[d*4]?=some y:=⟨_,an (by rw[E5.o.lw.o.1,AN];omega)⟩;have c0:=E5.o.lw.o.cellAt (d*4) (by rw[AN];omega);rw[T]at c0;have V:=E5.o.lw.o.frozenAt (d*4);obtain⟨y1,O⟩:∃y,(Ad MI.cells (F7 a n))[d*4+1]?=some y:=⟨_,an (by rw[E5.o.lw.o.1,AN];omega)⟩;have c1:=E5.o.lw.o.cellAt (d*4+1) (by rw[AN];omega);rw[O]at c1;have W:=E5.o.lw.o.frozenAt (d*4+1);obtain⟨y2,U⟩:∃y,(Ad MI.cells (F7 a n))[d*4+2]?=some y:=⟨_,an (by rw[E5.o.lw.o.1,AN];omega)⟩;have c2:=E5.o.lw.o.cellAt (d*4+2) (by rw[AN];omega);rw[U]at c2;have z2:=E5.o.lw.o.frozenAt (d*4+2);obtain⟨y3,Q⟩:∃y,(Ad MI.cells (F7 a n))[d*4+3]?=some y:=⟨_,an (by rw[E5.o.lw.o.1,AN];omega)⟩;have c3:=E5.o.lw.o.cellAt (d*4+3) (by rw[AN];omega);rw[Q]at c3;have z3:=E5.o.lw.o.frozenAt (d*4+3);clear T O U Q;(go_upto_region 19 with fail);have m:=Aw (E5.o.all rfl (j:=d) (by rw[AN];omega) 1 0 0 0);clear c0 V c1 W c2 z2 c3 z3;generalize (Aa (Aa (Aa (Aa U5 ⟨g,d*4,M⟩ (Ag Af 1)) ⟨g,d*4+1,M⟩ (Ag Af 0)) ⟨g,d*4+2,M⟩ (Ag Af 0)) ⟨g,d*4+3,M⟩ (Ag Af 0))=U6 at m⊢;obtain⟨y0,T⟩:∃y,(Ad MI.cells ((F7 a n).set d ⟨1,0,0,0⟩))[s*4]?=some y:=⟨_,an (by rw[m.o.lw.o.1,mF,AN];omega)⟩;have c0:=m.o.lw.o.cellAt (s*4) (by rw[mF,AN];omega);rw[T]at c0
    have V:=m.o.lw.o.frozenAt (s*4);obtain⟨y1,O⟩:∃y,(Ad MI.cells ((F7 a n).set d ⟨1,0,0,0⟩))[s*4+1]?=some y:=⟨_,an (by rw[m.o.lw.o.1,mF,AN];omega)⟩;have c1:=m.o.lw.o.cellAt (s*4+1) (by rw[mF,AN];omega);rw[O]at c1;have W:=m.o.lw.o.frozenAt (s*4+1);obtain⟨y2,U⟩:∃y,(Ad MI.cells ((F7 a n).set d ⟨1,0,0,0⟩))[s*4+2]?=some y:=⟨_,an (by rw[m.o.lw.o.1,mF,AN];omega)⟩;have c2:=m.o.lw.o.cellAt (s*4+2) (by rw[mF,AN];omega);rw[U]at c2;have z2:=m.o.lw.o.frozenAt (s*4+2);obtain⟨y3,Q⟩:∃y,(Ad MI.cells ((F7 a n).set d ⟨1,0,0,0⟩))[s*4+3]?=some y:=⟨_,an (by rw[m.o.lw.o.1,mF,AN];omega)⟩;have c3:=m.o.lw.o.cellAt (s*4+3) (by rw[mF,AN];omega);rw[Q]at c3;have z3:=m.o.lw.o.frozenAt (s*4+3);clear T O U Q;(go_upto_region 20 with fail);have L:=Aw (m.o.all rfl (j:=s) (by rw[mF,AN];omega) 22 3 1 0);clear c0 V c1 W c2 z2 c3 z3;generalize (Aa (Aa (Aa (Aa U6 ⟨g,s*4,M⟩ (Ag Af 22)) ⟨g,s*4+1,M⟩ (Ag Af 3)) ⟨g,s*4+2,M⟩ (Ag Af 1)) ⟨g,s*4+3,M⟩ (Ag Af 0))=U7 at L⊢;obtain⟨y0,T⟩:∃y,(Ad MI.cells ((((F7 a n).set d ⟨1,0,0,0⟩).set s ⟨22,3,1,0⟩)))[G*4]?=some y:=⟨_,an (by rw[L.o.lw.o.1,mF,mF,AN];omega)⟩;have c0:=L.o.lw.o.cellAt (G*4) (by rw[mF,mF,AN];omega);rw[T]at c0;have V:=L.o.lw.o.frozenAt (G*4);obtain⟨y1,O⟩:∃y,(Ad MI.cells ((((F7 a n).set d ⟨1,0,0,0⟩).set s ⟨22,3,1,0⟩)))[G*4+1]?=some y:=⟨_,an (by rw[L.o.lw.o.1,mF,mF,AN];omega)⟩;have c1:=L.o.lw.o.cellAt (G*4+1) (by rw[mF,mF,AN];omega);rw[O]at c1;have W:=L.o.lw.o.frozenAt (G*4+1);obtain⟨y2,U⟩:∃y,(Ad MI.cells ((((F7 a n).set d ⟨1,0,0,0⟩).set s ⟨22,3,1,0⟩)))[G*4+2]?=some y:=⟨_,an (by rw[L.o.lw.o.1,mF,mF,AN];omega)⟩;have c2:=L.o.lw.o.cellAt (G*4+2) (by rw[mF,mF,AN];omega);rw[U]at c2
    have z2:=L.o.lw.o.frozenAt (G*4+2);obtain⟨y3,Q⟩:∃y,(Ad MI.cells ((((F7 a n).set d ⟨1,0,0,0⟩).set s ⟨22,3,1,0⟩)))[G*4+3]?=some y:=⟨_,an (by rw[L.o.lw.o.1,mF,mF,AN];omega)⟩;have c3:=L.o.lw.o.cellAt (G*4+3) (by rw[mF,mF,AN];omega);rw[Q]at c3;have z3:=L.o.lw.o.frozenAt (G*4+3);clear T O U Q;(go_upto_region 21 with fail);have R:=Aw (L.o.all rfl (j:=G) (by rw[mF,mF,AN];omega) 26 0 0 ((A:Int)+(n:Int)+2));clear c0 V c1 W c2 z2 c3 z3;generalize (Aa (Aa (Aa (Aa U7 ⟨g,G*4,M⟩ (Ag Af 26)) ⟨g,G*4+1,M⟩ (Ag Af 0)) ⟨g,G*4+2,M⟩ (Ag Af 0)) ⟨g,G*4+3,M⟩ (Ag Af ((A:Int)+(n:Int)+2)))=U8 at R⊢;(have e8:((((F7 a n).set d ⟨1,0,0,0⟩).set s ⟨22,3,1,0⟩).set G ⟨26,0,0,(A:Int)+(n:Int)+2⟩)[A]?=some ⟨27,0,0,(a:Int)+2+n+2⟩:=by rw[ni (by have:=bH.o;omega),ni (by have:=aS.o;omega),ni (by have:=aR.o;omega)];exact bj.o);have di:=Aw e8;clear e8;obtain⟨y3,Q⟩:∃y,(Ad MI.cells (((((F7 a n).set d ⟨1,0,0,0⟩).set s ⟨22,3,1,0⟩).set G ⟨26,0,0,(A:Int)+(n:Int)+2⟩)))[A*4+3]?=some y:=⟨_,an (by rw[R.o.lw.o.1,mF,mF,mF,AN];omega)⟩;have c3:=R.o.lw.o.cellAt (A*4+3) (by rw[mF,mF,mF,AN];omega);rw[Q]at c3;have z3:=R.o.lw.o.frozenAt (A*4+3);clear Q;go_wp2_with fail;go_meet;refine⟨rfl,_,_,_,(R.o.three rfl di.o _).x ?_ rfl⟩;rw[<-cT,bG.o,<-aR.o,<-aS.o,<-bH.o,<-aj.o];rfl
  . have cW:A<a+n+5:=oM;obtain⟨d,aK⟩:∃d:Nat,A+1=d:=⟨_,rfl⟩;obtain⟨s,aM⟩:∃s:Nat,A+2=s:=⟨_,rfl⟩;have cT:(A:Int)+1=(d:Int):=oM;have dH:(A:Int)+2=(s:Int):=oM;have bt:d<a+n+5:=oM;have dK:s<a+n+5:=oM;have aR:=Aw aK;have aS:=Aw aM;clear aK aM;obtain⟨y0,T⟩:∃y,(Ad MI.cells (F7 a n))[d*4]?=some y:=⟨_,an (by rw[E5.o.lw.o.1,AN];omega)⟩;have c0:=E5.o.lw.o.cellAt (d*4) (by rw[AN];omega);rw[T]at c0;have V:=E5.o.lw.o.frozenAt (d*4);obtain⟨y1,O⟩:∃y,(Ad MI.cells (F7 a n))[d*4+1]?=some y:=⟨_,an (by rw[E5.o.lw.o.1,AN];omega)⟩;have c1:=E5.o.lw.o.cellAt (d*4+1) (by rw[AN];omega);rw[O]at c1;have W:=E5.o.lw.o.frozenAt (d*4+1);obtain⟨y2,U⟩:∃y,(Ad MI.cells (F7 a n))[d*4+2]?=some y:=⟨_,an (by rw[E5.o.lw.o.1,AN];omega)⟩;have c2:=E5.o.lw.o.cellAt (d*4+2) (by rw[AN];omega);rw[U]at c2;have z2:=E5.o.lw.o.frozenAt (d*4+2);obtain⟨y3,Q⟩:∃y,(Ad MI.cells (F7 a n))[d*4+3]?=some y:=⟨_,an (by rw[E5.o.lw.o.1,AN];omega)⟩;have c3:=E5.o.lw.o.cellAt (d*4+3) (by rw[AN];omega);rw[Q]at c3;have z3:=E5.o.lw.o.frozenAt (d*4+3);clear T O U Q;(go_upto_region 24 with fail);have m:=Aw (E5.o.all rfl (j:=d) (by rw[AN];omega) 1 0 0 0);clear c0 V c1 W c2 z2 c3 z3;generalize (Aa (Aa (Aa (Aa U5 ⟨g,d*4,M⟩ (Ag Af 1)) ⟨g,d*4+1,M⟩ (Ag Af 0)) ⟨g,d*4+2,M⟩ (Ag Af 0)) ⟨g,d*4+3,M⟩ (Ag Af 0))=U6 at m⊢;obtain⟨y0,T⟩:∃y,(Ad MI.cells ((F7 a n).set d ⟨1,0,0,0⟩))[s*4]?=some y:=⟨_,an (by rw[m.o.lw.o.1,mF,AN];omega)⟩;have c0:=m.o.lw.o.cellAt (s*4) (by rw[mF,AN];omega);rw[T]at c0;have V:=m.o.lw.o.frozenAt (s*4);obtain⟨y1,O⟩:∃y,(Ad MI.cells ((F7 a n).set d ⟨1,0,0,0⟩))[s*4+1]?=some y:=⟨_,an (by rw[m.o.lw.o.1,mF,AN];omega)⟩
    have c1:=m.o.lw.o.cellAt (s*4+1) (by rw[mF,AN];omega);rw[O]at c1;have W:=m.o.lw.o.frozenAt (s*4+1);obtain⟨y2,U⟩:∃y,(Ad MI.cells ((F7 a n).set d ⟨1,0,0,0⟩))[s*4+2]?=some y:=⟨_,an (by rw[m.o.lw.o.1,mF,AN];omega)⟩;have c2:=m.o.lw.o.cellAt (s*4+2) (by rw[mF,AN];omega);rw[U]at c2;have z2:=m.o.lw.o.frozenAt (s*4+2);obtain⟨y3,Q⟩:∃y,(Ad MI.cells ((F7 a n).set d ⟨1,0,0,0⟩))[s*4+3]?=some y:=⟨_,an (by rw[m.o.lw.o.1,mF,AN];omega)⟩;have c3:=m.o.lw.o.cellAt (s*4+3) (by rw[mF,AN];omega);rw[Q]at c3;have z3:=m.o.lw.o.frozenAt (s*4+3);clear T O U Q;go_wp2_with fail;go_meet;refine⟨rfl,_,_,_,(m.o.all rfl (j:=s) (by rw[mF,AN];omega) 3 0 0 0).x ?_ rfl⟩;rw[<-aR.o,<-aS.o,<-aj.o];rfl
  . have I:=E5.o.p.cell 3;have t3:=E5.o.lw.t.cell 3;have z3:=E5.o.lw.t.frozen 3;simp only[lQ,lO,lS]at I t3;go_wp2_with fail;go_meet;refine⟨rfl,some ⟨N+1+1+1+1+1+1+1,0,M⟩,1,1,?_⟩;have hl:=E5.o.lw.iP (i:=3) (Ag .u32 ((k:Int)+1));(have ht:Ay (Aa U5 ⟨N+1+1+1+1+1+1+1,3,M⟩ (Ag .u32 ((k:Int)+1))) (N+1+1+1+1+1+1+1) #[Ag Af 0,Ag Af ((a:Int)+2),Ag Af 0,Ag .u32 ((k:Int)+1)] 37:=by simpa using hl.t);exact⟨hl.l,E5.o.p.other (by show P≠N+1+1+1+1+1+1+1;have:=bq.o;omega) _,JZ (cs:=[Ag Af 0,Ag Af ((a:Int)+2),Ag Af 0,Ag .u32 ((k:Int)+1)]) (n:=1) (k:=4) ht rfl 1,hl.cq⟩
  have I:=E5.o.p.cell 3;simp only[lQ,lO,lS]at I;obtain⟨m1,m2,d8,d9,eG⟩:∃m1 m2:Nat,m1=1/\m2=1/\U5 ⟨P,3,M⟩=some (Z (some ⟨N+1+1+1+1+1+1+1,0,M⟩) m1 m2):=⟨1,1,rfl,rfl,I⟩
  have aJ:=Aw d8;have dm:=Aw d9;clear d8 d9 I;have bA:=Al U5 (Ak #[Ag Af 0,Ag Af ((A:Int)+1),Ag Af 1,Ag .u32 3] 37);have m:=Aw (E5.o.av bA);have EO:Ae (Ab (Ac U5 (Ak #[Ag Af 0,Ag Af ((A:Int)+1),Ag Af 1,Ag .u32 3] 37)) w 37 4 (Z (some ⟨N+1+1+1+1+1+1+1,0,M⟩) m1 m2) m1 [Ag Af 0,Ag Af ((a:Int)+2),Ag Af 0,Ag .u32 (k:Int)]):=by rw[aJ.o,dm.o];exact⟨rfl,.inr ⟨N+1+1+1+1+1+1+1,1,_,rfl,mC bI.o.1 oM,m.o.lw.t,Nat.le_refl _,oX,rfl,rfl⟩⟩
  clear bA;have bT:Ae (P< ↑U5):=E5.o.p.lt
  have bC:(Ac U5 (Ak #[Ag Af 0,Ag Af ((A:Int)+1),Ag Af 1,Ag .u32 3] 37)).heap.size= ↑U5+1:=oQ _ _
  have du:=Aw bC;have dt:Ae (P<(Ac U5 (Ak #[Ag Af 0,Ag Af ((A:Int)+1),Ag Af 1,Ag .u32 3] 37)).heap.size):=by rw[bC];exact Nat.lt_succ_of_lt bT.o
  have dq:Ae (some P≠(Z (some ⟨N+1+1+1+1+1+1+1,0,M⟩) m1 m2).ownBlock):= λe=>by have e':P=N+1+1+1+1+1+1+1:=mD e;have:=bq.o;omega
  clear bC;go_wp2_with (first|(at_builtin;refine wpList_append_lies _ rfl _ _ 38 rfl w 37 iX (An #[Ag Af 0,Ag Af 0,Ag Af 0,Ag .u32 0]) 4 32 underlying38 dG dy dz dA rfl dC (Z (some ⟨N+1+1+1+1+1+1+1,0,M⟩) m1 m2) m1 [Ag Af 0,Ag Af ((a:Int)+2),Ag Af 0,Ag .u32 (k:Int)] rfl EO.o U5 1 1 [Ag Af 0,Ag Af ((A:Int)+1),Ag Af 1,Ag .u32 3] rfl rfl (IU U5 _ _) (by intro q hq;simp only[lW,lZ,mS]at hq;rcases hq with rfl|rfl|rfl|rfl<;>rfl) oM (by rw[aJ.o];unfold maxLen;omega) (by rw[aJ.o];omega) m.o.lw.cq.size _ rfl ?_;intro g5 bV w5 bx br dB dO;have QP:Ae (Ay w5 P #[(Pm N (Z (some ⟨N+1+1+1+1+1+1+1,0,none⟩) 1 1)).r,(Pm N (Z (some ⟨N+1+1+1+1+1+1+1,0,none⟩) 1 1)).k,(Pm N (Z (some ⟨N+1+1+1+1+1+1+1,0,none⟩) 1 1)).f,Z (some ⟨N+1+1+1+1+1+1+1,0,none⟩) 1 1] 40):=(br.block P dt.o dq.o).trans m.o.p;rw[aJ.o]at bx;have QO:=Aw bx;have QG:=Aw br;have I:=QP.o.cell 3;have z3:=QP.o.frozen 3;simp only[lQ,lO,lS]at I;clear bx br dB dO)|go_in);obtain rfl:=aJ.o;go_meet;refine⟨rfl,some g5,2,bV,?_⟩;have hw:=bI.o;have hp:=bq.o;have hu:=bT.o;have hs:=du.o;have cZ:=(QO.o.lt g5 rfl);have l5:Ii w5 (N+1+1+1) (N+1+1+1+1) (N+1+1+1+1+1+1) (N+1+1+1+1+1) N (some ⟨N+1,0,M⟩) (some ⟨N+1+1,0,M⟩) 0 0 0 [3,3] (F7 a n) (k:Int) g cp:=m.o.lw.l.ji (B:=N+1+1+1+1+1+1+1) (λb hb=>QG.o.block b (by rw[hs];omega) (λe=>by have e':b=N+1+1+1+1+1+1+1:=mD e;omega)) ⟨oM,oM,oM,oM,oM⟩;have dx:g5≠P:= λe=>by
   rcases QO.o.2 with⟨e1,_⟩|⟨g',cap,dv,e1,_,hb,_⟩
   . cases e1
   (cases e1);have:=QP.o;unfold Ay at this;rw[e,this]at hb;cases hb
  have b5:Ah w w w5:=m.o.lw.cq.grown QG.o m.o.lw.cq.size (λq hq=>(EO.o.lt q hq).1);have dS:=QP.o.set 3 (Z g5 2 bV);have bg:=Rd.eP QO.o;have dN: ↑w<=P:=oM
  refine⟨l5.jW (a:=⟨P,3,M⟩) ⟨by show _≠P;omega,by show _≠P;omega,by show _≠P;omega,by show _≠P;omega,by show _≠P;omega⟩ _,by simpa using dS,?_,b5.setCell dN _⟩;have e6:Ad MT.cells (N0 6 a k)=[Ag Af 0,Ag Af ((a:Int)+2),Ag Af 0,Ag .u32 (k:Int)]++[Ag Af 0,Ag Af ((A:Int)+1),Ag Af 1,Ag .u32 3]:=by rw[bG.o];rfl
  rw[e6];exact Mx (n:=2) bg (Ff _ P _ g5 _ dx)
 obtain⟨rfl,aA,aE,aF,m⟩:=hcut;clear E5 aY dL;have aG:Ae ((CE v a n k).small/\(CE v a n k).wf):=⟨Ut ae.o,qK ae.o⟩
 have dj:Ae (∀u,Ah w w u->Dz u):= λu hu=>HW.o.2.av hu
 have q0:=m.o.p.cell 0;have q1:=m.o.p.cell 1;have q2:=m.o.p.cell 2;have I:=m.o.p.cell 3;simp only[lQ,lO,lS]at q0 q1 q2 I;go_wp2_with fail;obtain⟨hA,hB,hC,hD⟩:=m.o.jL;refine(Uv (Pm N (Z aA aE aF)) _ wc aG.o.1 aG.o.2 hA hB hC hD (dj.o _ m.o.cq)).mono ?_;rintro e' w7 ⟨ck,cg,ca,C,D,cH,H,cK⟩;obtain⟨C0,D0,cj,cQ⟩:=Wu ae.o;obtain⟨rfl,rfl,rfl,rfl,rfl⟩:=cH.one cj;obtain⟨c0,c1,c3,c8,y4,m4,d4,y5,m5,d5,y6,m6,d6,y7,m7,d7,rfl,cI,cJ⟩:∃(c0 c1 c3 c8:Int) (y4:Option Addr) (m4 d4:Nat) (y5:Option Addr) (m5 d5:Nat) (y6:Option Addr) (m6 d6:Nat) (y7:Option Addr) (m7 d7:Nat),e'=Am (An #[c0,c1,Ag Af 0,c3,Z y4 m4 d4,Z y5 m5 d5,Z y6 m6 d6,Z y7 m7 d7,c8])/\(v=0->c0=0/\c8=ES a n k)/\(v≠0->c0=2/\c1=sj v/\c3=tM v a):=by
  rcases cK with⟨hz,b0,b1,b2,b3,n0,n1,n2,n3,k0,k1,k2,k3,rfl⟩|⟨dR,rfl⟩
  . exact⟨0,0,0,_,b0,n0,k0,b1,n1,k1,b2,n2,k2,b3,n3,k3,rfl, λh=>⟨rfl,cQ h⟩, λh=>absurd (ti hz) h⟩
  exact⟨2,_,_,0,M,0,0,M,0,0,M,0,0,M,0,0,rfl, λh=>absurd (by rw[h];rfl) dR, λ_=>⟨rfl,rfl,rfl⟩⟩
 have HC:=Aw (lN cI cJ);have L:=Aw (m.o.av H);clear H cH cj cQ cK cI cJ hA hB hC hD m q0 q1 q2 I;go_upto_region 30 with fail
 have bA:=Al w7 (Ak #[c0,c1,Ag Af 0,c3,Z y4 m4 d4,Z y5 m5 d5,Z y6 m6 d6,Z y7 m7 d7,c8] 42);have R:=Aw (lN (L.o.av bA) (Ay.new w7 #[c0,c1,Ag Af 0,c3,Z y4 m4 d4,Z y5 m5 d5,Z y6 m6 d6,Z y7 m7 d7,c8] 42));clear L bA;generalize Ac w7 (Ak #[c0,c1,Ag Af 0,c3,Z y4 m4 d4,Z y5 m5 d5,Z y6 m6 d6,Z y7 m7 d7,c8] 42)=U8 at R⊢;generalize w7.heap.size=RB at R⊢;have q0:=R.o.1.p.cell 0;have q1:=R.o.1.p.cell 1;have q2:=R.o.1.p.cell 2;have I:=R.o.1.p.cell 3;simp only[lQ,lO,lS]at q0 q1 q2 I;go_wp2_with fail;obtain⟨hA,hB,hC,hD⟩:=R.o.1.jL;refine(QS (Pm N (Z aA aE aF)) _ ⟨Z M 0 0,Z M 0 0,Z M 0 0⟩ ⟨[],[],[]⟩ 2000 2000 U8 dC DB aG.o.1 aG.o.2 hA hB hC ⟨by show 0<=_;omega,by show 0<=_;omega,by show 0<=_;omega⟩ ⟨λz hz=>(by cases hz), λz hz=>(by cases hz), λz hz=>(by cases hz)⟩ ⟨Rg _ _,Rg _ _,Rg _ _⟩).mono ?_;rintro e' w9 ⟨st,sd,sc,sn,X,Cc,K,F,rfl,bf,bB,_,H⟩;obtain⟨x0,x1,bY⟩:=AF bf.cells;obtain⟨x2,x3,bZ⟩:=AF (bf.fg.own (X.k,K) sP);obtain⟨x4,x5,ce⟩:=AF bf.dk;obtain⟨Xc,Xk,Xf⟩:=X;simp only[]at bY bZ ce;subst bY bZ ce;have bQ:Ae ((v=0->sd=true/\sc=ES a n k)/\(v=3\/v=4->sd=false)):=by
  refine⟨λh=> ?_, λh=> ?_⟩
  . subst h;obtain⟨s0,h1,h2,h3⟩:=qU ae.o;have aZ:=bB.one h1;exact⟨by rw[<-h2,<-aZ];rfl,by rw[<-h3,<-aZ];rfl⟩
  obtain⟨s0,h1,h2⟩:=Wv ae.o h;have aZ:=bB.one h1;rw[<-h2,<-aZ];rfl
 have E9:=Aw (lN (R.o.1.av H) (R.o.2.av H));clear bf bB hA hB hC hD q0 q1 q2 I R H;go_upto_block 3 with fail
 have bA:=Al w9 (Ak #[st,sd,sc,sn,Z x0 Cc x1,Z x2 K x3,Z x4 F x5] 48);have S:=Aw (lN (E9.o.1.av bA) (lN (E9.o.2.av bA) (Ay.new w9 #[st,sd,sc,sn,Z x0 Cc x1,Z x2 K x3,Z x4 F x5] 48)));clear E9 bA;generalize Ac w9 (Ak #[st,sd,sc,sn,Z x0 Cc x1,Z x2 K x3,Z x4 F x5] 48)=U9 at S⊢;generalize w9.heap.size=SB at S⊢;have r0:=S.o.2.1.cell 0;have r1:=S.o.2.1.cell 1;have r3:=S.o.2.1.cell 3;have r8:=S.o.2.1.cell 8;have s1:=S.o.2.2.cell 1;have s2:=S.o.2.2.cell 2;simp only[lQ,lO,lS]at r0 r1 r3 r8 s1 s2;by_cases h0:v=0;case pos=>
  obtain⟨e0,e8⟩:=HC.o.1 h0;obtain⟨e1,e2⟩:=bQ.o.1 h0;rw[e0]at r0;rw[e8]at r8;rw[e1]at s1;rw[e2]at s2;have dV:((v:Int)==0)=true:=by rw[beq_iff_eq];omega
  have H0:=Aw h0;clear e0 e8 e1 e2 h0 r1 r3;go_wp2_with fail;go_roundw;case rel=>exact⟨v+1,oM,by go_num,S.o.1.cq⟩
  exact oI
 obtain⟨e0,e1,e3⟩:=HC.o.2 h0;rw[e0]at r0;have dV:((v:Int)==0)=false:=by rw[o3];omega
 by_cases h6:v=6;case pos=>
  have aH:c1=6:=by rw[e1,h6];rfl
  have aI:c3=(A:Int)+1:=by have:=aj.o;rw[e3,h6];show(a:Int)+2+1=_;omega
  rw[aH]at r1;rw[aI]at r3;have dU:((v:Int)==6)=true:=by rw[beq_iff_eq];omega
  clear e0 e1 e3 aH aI h0 h6 r8 s1 s2;go_wp2_with fail;go_roundw;case rel=>exact⟨v+1,oM,by go_num,S.o.1.cq⟩
  exact oI
 have aH:c1=5:=by rw[e1];unfold sj;rw[lY h0,lY h6]
 have aI:c3=(A:Int):=by have:=aj.o;rw[e3];unfold tM;rw[lY h0,lY h6];omega
 rw[aH]at r1;rw[aI]at r3;have dU:((v:Int)==6)=false:=by rw[o3];omega
 have HV:Ae (v≠0/\v≠6):=⟨h0,h6⟩
 have bi:Ae (c0=2/\c1=5/\c3=(A:Int)):=⟨e0,aH,aI⟩
 clear e0 e1 e3 aH aI h0 h6 r0 r1 r3 r8 s1 s2;go_wp2_with fail;have bg:Rd U9 4 (Z g (a+n+5) cp) (Ch v a n).length (Ad MI.cells (Ch v a n)):=by rw[<-H5 v a n];exact S.o.1.l.c
 refine(GK (Z g (a+n+5) cp) (Ch v a n) U9 (by rw[H5];have:=ae.o.a;omega) bg).mono ?_;rintro e' ai ⟨r,vb,vo,vi,vl,F',ys,rfl,cR,au,H⟩;obtain rfl:=cR.one (Fc ae.o);have aX:=au.el;rw[DL]at aX;obtain⟨⟨l0,xb,xk⟩,rfl⟩:∃y,ys=[y]:=by
  have bt:ys.length=1:=by have:=congrArg List.length aX;simpa using this
  match ys,bt with
  |[y],_=>exact⟨y,rfl⟩
 obtain rfl:l0=Gz v:=by simpa using aX
 obtain⟨b1,b3,eb⟩:=AF (au.fg.own (xb,(Gz v).back) (by simp[Gn]));obtain⟨ax,k3,ek⟩:=AF (au.fg.own (xk,(Gz v).a7) (by simp[Gn]));simp only[]at eb ek;subst eb ek;have aO:=au.jC;rcases aO.2 with⟨_,e0⟩|⟨gl,cl,dv,dw,dE,dD,h1,h2,h3,h4⟩
 . cases e0
 obtain rfl:=dw;have V:=aO.cellAt 0 (by show 0<1*3;omega);have W:=aO.cellAt 1 (by show 1<1*3;omega);have z2:=aO.cellAt 2 (by show 2<1*3;omega);simp only[mv,List.flatMap_nil,nm,FV,lO,lS]at V W z2;rw[Gj]at V;have bP:Ae (M4 ai ⟨Z b1 (Gz v).back.length b3,Z ax (Gz v).a7.length k3⟩ (Gz v)):=⟨Rd.eP (au.fg.own (Z b1 (Gz v).back.length b3,(Gz v).back) (by simp[Gn])),Rd.eP (au.fg.own (Z ax (Gz v).a7.length k3,(Gz v).a7) (by simp[Gn]))⟩;have aT:Ae (ai gl=some (Ag Af 1)/\ai ⟨gl,1,M⟩=some (Z b1 (Gz v).back.length b3)/\ai ⟨gl,2,M⟩=some (Z ax (Gz v).a7.length k3)):=⟨V,W,z2⟩
 have aa:=Aw (lN (S.o.1.av H) (lN (S.o.2.1.av H) (S.o.2.2.av H)));clear S H cR au aX aO dE dD h1 h2 h3 h4 bg V W z2;have hf:=WV;go_upto_region 32 with fail
 clear hf;have R0:=aa.o.2.1.cell 0;have R1:=aa.o.2.1.cell 1;have R3:=aa.o.2.1.cell 3;have P0:=aa.o.1.p.cell 0;have P1:=aa.o.1.p.cell 1;have P2:=aa.o.1.p.cell 2;have P3:=aa.o.1.p.cell 3;have S1:=aa.o.2.2.cell 1;simp only[lQ,lO,lS]at R0 R1 R3 P0 P1 P2 P3 S1;rw[bi.o.1]at R0;rw[bi.o.2.1]at R1;rw[bi.o.2.2]at R3;have KW:Ae (∀u,Ah ai ai u->u RB=some (Ag Af 2)/\u ⟨RB,1,M⟩=some (Ag Af 5)/\u ⟨RB,3,M⟩=some ↑A/\u P=some (Z (some ⟨N+1+1+1,0,M⟩) 3 3)/\u ⟨P,1,M⟩=some (Z (some ⟨N+1+1+1+1,0,M⟩) 1 1)/\u ⟨P,2,M⟩=some (Z (some ⟨N+1+1+1+1+1+1,0,M⟩) 1 1)/\u ⟨P,3,M⟩=some (Z aA aE aF)/\u gl=some (Ag Af 1)/\u ⟨gl,1,M⟩=some (Z b1 (Gz v).back.length b3)/\u ⟨gl,2,M⟩=some (Z ax (Gz v).a7.length k3)/\u ⟨SB,1,M⟩=some ↑sd):= λu hu=>Xp ⟨R0,R1,R3,P0,P1,P2,P3,aT.o.1,aT.o.2.1,aT.o.2.2,S1⟩ hu
 clear R0 R1 R3 P0 P1 P2 P3 S1;have aW:Ae (M4 ai ⟨Z b1 (Gz v).back.length b3,Z ax (Gz v).a7.length k3⟩ (Gz v)):=bP.o;have bS:=Aw (Us v);have bJ:Ae (RU v=(v:Int)):=by unfold RU;rw[lY HV.o.2];rfl
 clear bP aT;obtain⟨dd,cX⟩:∃x,(Gz v).back.length=x:=⟨_,rfl⟩;obtain⟨de,cY⟩:∃x,(Gz v).a7.length=x:=⟨_,rfl⟩;rw[cX,cY]at KW aW;clear cX cY;obtain⟨vn,dW⟩:∃vn:Nat,vn=v+1:=⟨_,rfl⟩;have dh:Ae (∀u,Ah ai ai u->Ai Aq 12 #[An #[Z (some ⟨N+1+1+1,0,M⟩) 3 3,Z (some ⟨N+1+1+1+1,0,M⟩) 1 1,Z (some ⟨N+1+1+1+1+1+1,0,M⟩) 1 1,Z aA aE aF],Ag Af 0,An #[Ag Af 1,Z b1 dd b3,Z ax de k3]] u λe w'=>e=Am v/\Ah u u w'):= λu hu=>by have aQ:=aa.o.1.av hu;have cM:=Pe (Pm N (Z aA aE aF)) (CE v a n k) 0 ⟨Z b1 dd b3,Z ax de k3⟩ (Gz v) u aG.o.1 aG.o.2 aQ.jL.1 aQ.jL.2.1 aQ.jL.2.2.1 aQ.jL.2.2.2 bS.o ⟨aW.o.1.av hu lR,aW.o.2.av hu lR⟩;rw[Gj]at cM;refine cM.mono ?_;rintro e' dX ⟨⟨q,rfl,hq⟩,H⟩;obtain rfl:=tg ae.o hq;rw[bJ.o];exact⟨rfl,H⟩
 have dg:=Aw aa.o.1.cq;clear aa aW bS bJ;have hr:Kp v:=by
  rcases(by have:=HV.o;omega:v=1\/v=2\/v=3\/v=4\/v=5)with rfl|rfl|rfl|rfl|rfl
  . exact ZG
  . exact ZH
  . exact ZI
  . exact ZJ
  exact ZK
 refine Code.wp_mono Tu.imp (hr kR KW.o dh.o ?_ bQ.o.2);intro eH eJ eK eL eM eQ eR eS eT eU eX eY eZ f8 fd fh fj fk fp ft fw fy fA fB fC fD fE fF fG fH fI fJ fK fL fM fN fO fP fQ dX HB;have df:=Aw (Ar dg.o lR HB);clear HB;go_wp2_with fail;go_roundw;case rel=>exact⟨vn,oM,by(subst dW;first|rfl|go_num),df⟩
 first|(simp[intOf];done)|(simp[intOf];omega)
end Go.Proofs.YtkgohaigebcgoaaGreatDoor
