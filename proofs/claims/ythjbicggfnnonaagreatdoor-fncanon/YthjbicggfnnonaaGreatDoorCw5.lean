import Derived.Test.YthjbicggfnnonaaGreatDoorCw4
namespace Go.Proofs.YthjbicggfnnonaaGreatDoor
open Go.ChangeShapes Go.WideShapes Go.ChangeAt Go.RowKit
set_option linter.unusedVariables false
set_option maxHeartbeats 4000000
set_option maxRecDepth 100000
variable {base k n j a:Nat}{e:TypeId}{s v:Value}{m xs:List Value}{w u:World}{z:Int}
theorem D8:(Tryz.prog.info? 4).map (fun i=>(i.zero,i.size,i.bytes))=some (some (.bool false),1,1):=kR
theorem CU{w f:World}{B:Nat}{d:TypeId}{x m:Nat}{i:List Value}(h:w.ownsRow base e k s n xs)(q:w.grownBy f v.ownBlock)(t:w.ownsRow B d x v m i)(r:e≠d):f.ownsRow base e k s n xs:=by
 refine⟨h.1,?_⟩;rcases h.2 with h|⟨g,cap,j,l,p,b,u⟩
 . exact .inl h
 refine .inr ⟨g,cap,j,l,p,?_,u⟩;rw[q.block g (kN.1 b).1 ?_]
 . exact b
 intro c;rcases t.2 with⟨rfl,_⟩|⟨A,y,z,rfl,_,a,_⟩
 . cases c
 simp only[Value.ownBlock,i4]at c;subst c;rw[b]at a;simp only[i4,lZ]at a;exact r a.2.1
def Do(xs:List MI)(k n:Nat):List Value:=(List.range (n+1)).map fun j=>Value.bool (Cq xs k j)
theorem Je(xs:List MI)(k n:Nat):(Do xs k n).length=n+1:=by simp[Do]
theorem Hm(xs:List MI)(k n j:Nat)(a:j<=n):(Do xs k n)[j]?=some (.bool (Cq xs k j)):=by simp[Do,show j<n+1 from oM]
theorem Pq(xs:List MI)(n:Nat):(List.replicate (n+1) (Value.bool false)).set 0 (.bool true)=Do xs 0 n:=by
 apply la;intro j;by_cases b:j<n+1
 . rw[Hm _ _ _ _ oM,Oj];by_cases a:j=0
   . subst a;simp
   rw[lj oM];simp[a,b]
 rw[kK oT,kK (by simp[Do];omega)]
theorem Mh(xs:List MI)(k n c:Nat)(d:c<=n)(P:Nat->Bool)(h:∀j,P j=(Cq xs k j||decide (j=c))):(Do xs k n).set c (.bool true)=(List.range (n+1)).map fun j=>Value.bool (P j):=by
 apply la;intro j;by_cases b:j<n+1
 . by_cases a:j=c
   . subst a;rw[lu (by rw[Je];omega)];simp[b,h]
   rw[lj oM,Hm _ _ _ _ oM];simp[b,h,a]
 rw[kK (by simp[Do];omega),kK oT]
theorem Pp(P:Nat->Bool)(n c:Nat)(d:c<=n)(Q:Nat->Bool)(h:∀j,Q j=(P j||decide (j=c))):((List.range (n+1)).map fun j=>Value.bool (P j)).set c (.bool true)=(List.range (n+1)).map fun j=>Value.bool (Q j):=by
 apply la;intro j;by_cases b:j<n+1
 . by_cases a:j=c
   . subst a;rw[lu oT];simp[b,h]
   rw[lj oM];simp[b,h,a]
 rw[kK oT,kK oT]
theorem QX(xs:List MI)(k n c:Nat)(x:MI)(g:xs[k]?=some x)(d:BR x=true)(a:x.c=(c:Int))(b:c<=n)(f:k+1<=n):((Do xs k n).set c (.bool true)).set (k+1) (.bool true)=Do xs (k+1) n:=by
 rw[Mh xs k n c b (fun j=>Cq xs k j||decide (j=c)) (fun j=>rfl)];refine(Pp _ n (k+1) f (fun j=>Cq xs (k+1) j) (fun j=> ?_)).trans rfl;rw[IM xs k j x g];have e:decide ((c:Int)=(j:Int))=decide (j=c):=by
  by_cases h:j=c
  . simp[h]
  have:¬(c:Int)=(j:Int):=oM;simp[h,this]
 simp[Jf,d,a,e,Bool.or_assoc]
theorem SF(xs:List MI)(k n:Nat)(x:MI)(d:xs[k]?=some x)(a:BR x=false)(c:x.op=29)(b:k+1<=n):(Do xs k n).set (k+1) (.bool true)=Do xs (k+1) n:=by
 rw[Mh xs k n (k+1) b (fun j=>Cq xs (k+1) j) (fun j=> ?_)]
 . rfl
 rw[IM xs k j x d];simp[Jf,a,c]
theorem QY(xs:List MI)(k n:Nat)(x:MI)(c:xs[k]?=some x)(a:BR x=false)(b:¬x.op=29):Do xs k n=Do xs (k+1) n:=by
 unfold Do;congr 1
 funext j
 rw[IM xs k j x c];simp[Jf,a,b]
def Hp(xs:List MI)(j:Nat):List Value:=Ad (Ba xs j)
theorem DU(xs:List MI)(j:Nat):(Hp xs j).length=1:=rfl
def Lm(m:MB):List Value:=[.int .i64 m.cK,.int .i64 m.last,.slice none 0 0]
theorem Fy(m:MB):(Lm m).length=3:=rfl
theorem Ty(a:List MB)(b:MB)(i:Int):((a++[b]).flatMap Lm).set (a.length*3+1) (.int .i64 i)=(a++[(⟨b.cK,i,b.next⟩:MB)]).flatMap Lm:=by have c:(a.flatMap Lm).length=a.length*3:=Av Lm 3 Fy a;simp only[kO,kG,lG,nD];rw[mR _ _ oM,c];simp[Lm]
theorem SE(xs:List MI)(n:Nat)(h:1<=n)(m:MB)(d:m∈BQ xs n):∃e:Nat,m.last=(e:Int)/\e<n:=by
 rw[DP]at d;unfold build at d;obtain⟨i,b⟩:=lY d;rw[mY]at b;cases h1:(IW xs n)[i]? with
 |none=>rw[h1]at b;simp at b
 | some a =>
   cases h2:((IW xs n).tail++[n])[i]? with
   |none=>rw[h1,h2]at b;simp at b
   | some q=>
     rw[h1,h2]at b;simp only[i4]at b;subst b;have j:1<=q/\q<=n:=by
      rcases kB.1 (d9 h2)with c|c
      . have f:=GJ xs n;have g:=((Ef xs n q).1 (mw c)).1;cases hL:IW xs n with
        |nil=>rw[hL]at c;cases c
        | cons y r=>rw[hL]at f c;have:=(l3.1 f).1 q c;omega
      simp at c;omega
     exact⟨q-1,oS,oM⟩
structure Wx(F:List (List Int×Value))(cs:List MC)(G:List (MF×VF))(ts:List MT):Prop where
 fl:F.length<=1048576
 f:∀x∈F,x.1.length<=1048576
 c:cs.length<=1048576
 gl:G.length<=1048576
 g:∀x∈G,x.1.small
 t:ts.length<=1048576
theorem CJ.front{L M:List Ax}(h:CJ w base (L++M)):CJ w base L:=⟨fun r a=>h.own r (by simp[a]),(lX.1 h.sep).1⟩
theorem Pd(w u:World)(s:CP)(k:GK)(p:Int)(v:VP)(S:Value)(g:Gn)(left d:Int)(D:List Ax)(op a b c:Int)(h:SM w u s k p v S g left d D)(I:g.code.length<=1000000)(X:-1000000<=left/\left<=1000000):
 Calls Tryz.prog 89 #[.pointer (some ⟨k.Gb,0,none⟩),iZ op,iZ a,iZ b,iZ c] u fun e R=>e=.returned (iZ (g.code.length:Int))/\∃T,SM w R s k p v T ⟨g.code++[(⟨op,a,b,c⟩:MI)],g.ag,g.a7⟩ (left-1) d D:=by
 obtain⟨N,G,K,L,M⟩:=kS Me;obtain⟨⟨y,c1,F⟩,_⟩:=h.bl.ia;subst F;have H:=Ag h;obtain⟨_,_,_,E,_,_⟩:=h.cells;clear h;generalize B:g.code.length=n at H E I⊢;have x:=Ag B;clear B;have j:Hid (SM w (u.alloc (.cells #[iZ op,iZ a,iZ b,iZ c] 96)) s k p v (.slice y n c1) g left d D):=H.o.aa (Aa _ _);go_enter Tryz.func89,Tryz.ntmps89;go_upto_region 2 with(at_builtin;refine wpList_append_lies _ rfl _ _ 66 rfl w.heap.size 96 N (.agg #[iZ 0,iZ 0,iZ 0,iZ 0]) 4 32 Tryz.underlying66 G K L M rfl dC _ n (g.code.flatMap MI.cells) rfl (by have:=j.o.bl.ia.2;rw[x.o]at this;exact this) ⟨u.heap.size,0,none⟩ 1 1 [iZ op,iZ a,iZ b,iZ c] rfl rfl (Ci u _ _) (F6 [(⟨op,a,b,c⟩:MI)]) oM (by simp[maxLen];omega) oM j.o.bl.size _ rfl ?_;intro i f q C A z J;have m:Hid (SM w (q.setCell ⟨k.Gb,3,none⟩ (sG i (n+1) f)) s k p v (sG i (n+1) f) ⟨g.code++[(⟨op,a,b,c⟩:MI)],g.ag,g.a7⟩ left d D/\q.cell? ⟨k.Gb,3,none⟩=some (.slice y n c1)/\q.frozen? ⟨k.Gb,3,none⟩=false):=j.o.push [(⟨op,a,b,c⟩:MI)] (sG i (n+1) f) (by rw[x.o];exact C) A (Ck z);have O:=m.o.2.1;have P:=m.o.2.2;clear C A z J)
 refine Ao (fun U=>Hid (SM w U s k p v (sG i (n+1) f) ⟨g.code++[(⟨op,a,b,c⟩:MI)],g.ag,g.a7⟩ left d D)) m.o.1 ?_;clear O P m j E;intro U l;obtain⟨_,_,_,_,Q,_⟩:=l.o.cells;have V:=l.o.frozen 4;have r:=Ag (l.o.jE (left-1));go_upto_region 3 with fail
 refine Ao (fun U=>Hid (SM w U s k p v (sG i (n+1) f) ⟨g.code++[(⟨op,a,b,c⟩:MI)],g.ag,g.a7⟩ (left-1) d D)) r ?_;clear r l Q V;intro W t;obtain⟨_,_,_,Y,_,_⟩:=t.o.cells;go_wp2_with fail;go_ret;exact⟨sP,_,t.o⟩
theorem AA{s:CP}{k:GK}{p left d:Int}{sl:Nat}{D:List Ax}(q:DH k)(h:GS w u s k p left d sl D)(A:-900000<=left){op a b c:Int}(r:Cr op)(j:Cr a)(l:Cr b)(m:Cr c):
 Calls Tryz.prog 89 #[.pointer (some ⟨k.Gb,0,none⟩),iZ op,iZ a,iZ b,iZ c] u fun e f=>∃n:Nat,e=.returned (iZ (n:Int))/\(n:Int)=k.L0-left/\GS w f s k p (left-1) d (sl-1) D:=by
 obtain⟨v,y,g,h1,h2⟩:=h.ex;have:=h2.len;have:=q.l0;refine(Pd w u s k p v y g left d D op a b c h1 oM oM).mono ?_;rintro e f ⟨rfl,z,i⟩;refine⟨g.code.length,rfl,oM,v,z,_,i,⟨?_,?_,h2.nt,?_,h2.wk,h2.wt⟩⟩
 . simp only[f6,jY];omega
 . have:=h2.nc;simp only[f6,jY];omega
 intro x t;rcases kB.1 t with e|e
 . exact h2.wc x e
 rw[kM.1 e];exact⟨r,j,l,m⟩
def MI.iE(x:MI)(i:Nat)(z:Int):MI:=match i with|0=>⟨z,x.a,x.b,x.c⟩|1=>⟨x.op,z,x.b,x.c⟩|2=>⟨x.op,x.a,z,x.c⟩|_=>⟨x.op,x.a,x.b,z⟩
theorem Qt{x:MI}(h:x.wf)(i:Nat)(a:Cr z):(x.iE i z).wf:=by
 obtain⟨h1,h2,b,c⟩:=h;unfold MI.iE;split
 . exact⟨a,h2,b,c⟩
 . exact⟨h1,a,b,c⟩
 . exact⟨h1,h2,a,c⟩
 exact⟨h1,h2,b,a⟩
theorem L7{code:List MI}{i:Nat}{x:MI}(a:code[j]?=some x)(c:i<4):(code.flatMap MI.cells).set (j*4+i) (.int .i64 z)=(code.set j (x.iE i z)).flatMap MI.cells:=by
 induction code generalizing j with
 |nil=>cases a
 | cons y r b=>
   cases j with
   | zero=>
     simp only[i5,i4]at a;subst a;have:i=0\/i=1\/i=2\/i=3:=oM
     rcases this with rfl|rfl|rfl|rfl<;>rfl
   | succ j=>simp only[i8]at a;rw[kb,kG,kG,<-b a,show(j+1)*4+i=j*4+i+1+1+1+1 from oM];rfl
section
variable {w u u':World} {s:CP} {k:GK} {p left lv:Int} {sl:Nat} {D:List Ax}
theorem GS.code(h:GS w u s k p left lv sl D)(H:(j:Int)<k.L0-left):∃(a d:Nat),u.cell? ⟨k.Gb,3,none⟩=some (.slice (some ⟨a,0,none⟩) (k.L0-left).toNat d)/\∀i,i<4->(∃b:Int,u.cell? ⟨a,j*4+i,none⟩=some (.int .i64 b))/\u.frozen? ⟨a,j*4+i,none⟩=false/\∀z,Cr z->GS w (u.setCell ⟨a,j*4+i,none⟩ (.int .i64 z)) s k p left lv sl D:=by
 obtain⟨v,F,g,h1,h2⟩:=h.ex;have t:=h2.len;have c:=h1.bl.ia.2;rcases B9 c with⟨e,G⟩|⟨a,d,e⟩
 . omega
 have m:=h1.cells.2.2.2.1;have A:g.code.length=(k.L0-left).toNat:=oM;rw[e,A]at m;obtain⟨x,l⟩:∃x,g.code[j]?=some x:=⟨_,an oM⟩;rw[e]at c;refine⟨a,d,m,fun i r=> ?_⟩;have f:=kW c (j*4+i) oM;rw[CQ MI.cells 4 MI.aK g.code j i x l r]at f;obtain⟨b,B⟩:∃b,x.cells[i]?=some (.int .i64 b):=by
  have:i=0\/i=1\/i=2\/i=3:=oM
  rcases this with rfl|rfl|rfl|rfl<;>exact⟨_,rfl⟩
 rw[B]at f;refine⟨⟨b,f⟩,c.frozenAt _,fun z E=>⟨v,F,⟨g.code.set j (x.iE i z),g.ag,g.a7⟩,⟨?_⟩,⟨by simpa using t,by simpa using h2.nc,h2.nt,fun y C=> ?_,h2.wk,h2.wt⟩⟩⟩
 . exact h1.bl.jD (n:=0) e sP (j*4+i) (.int .i64 z) (L7 l r)
 rcases mM C with q|q
 . exact h2.wc y q
 rw[q];exact Qt (h2.wc x (d9 l)) i E
theorem GS.j5(h:GS w u s k p left lv sl D):u.cell? ⟨k.Gb,5,none⟩=some (.int .i64 lv)/\u.frozen? ⟨k.Gb,5,none⟩=false/\∀x,GS w (u.setCell ⟨k.Gb,5,none⟩ (.int .i64 x)) s k p left x sl D:=by obtain⟨v,a,g,h1,h2⟩:=h.ex;exact⟨h1.cells.2.2.2.2.2,h1.frozen 5,fun x=>⟨v,a,g,h1.jz x,h2⟩⟩
theorem GS.iH(h:GS w u s k p left lv sl D)(b:∀v a g,SM w u s k p v a g left lv D->T1 k g left sl->g.a7.length<=n):GS w u s {k with nt:=n} p left lv sl D:=by obtain⟨v,a,g,h1,h2⟩:=h.ex;exact⟨v,a,g,⟨h1.bl⟩,⟨h2.len,h2.nc,b v a g h1 h2,h2.wc,h2.wk,h2.wt⟩⟩
theorem DH.iH(h:DH k)(a:n<=64):DH {k with nt:=n}:=⟨h.f3,h.fr,h.fi,h.gl,h.pr,h.lc,h.l0,h.wf,h.wr,h.nc,a⟩
end
theorem EQ{v:VP}{F:List (List Int×Value)}{b:List MC}{G:List (MF×VF)}{ts:List MT}{B:List Ax}(h:CJ w base (Ab v F b G ts B)):∃d c1 e c2 f c3 g c4,v=⟨.slice d F.length c1,.slice e b.length c2,.slice f G.length c3,.slice g ts.length c4⟩:=by obtain⟨j,vk,i,k⟩:=v;obtain⟨d,c1,l⟩:∃a c,j=.slice a F.length c:=AO (h.own (Bf j F) (by simp[Ab]));obtain⟨e,c2,m⟩:∃a c,vk=.slice a b.length c:=AO (h.own (Cd vk b) (by simp[Ab]));obtain⟨f,c3,n⟩:∃a c,i=.slice a G.length c:=AO (h.own (AP i G) (by simp[Ab]));obtain⟨g,c4,p⟩:∃a c,k=.slice a ts.length c:=AO (h.own (BS k ts) (by simp[Ab]));exact⟨d,c1,e,c2,f,c3,g,c4,by rw[l,m,n,p]⟩
def VO(b:Bool):List Value:=[.bool b]
structure SW(w u:World)(xs:List MI)(n k q:Nat)(V:Value):Prop where
 lead:u.ownsRow w.heap.size 4 1 (.slice (some ⟨w.heap.size+1,0,none⟩) (n+1) (n+1)) (n+1) (Do xs n n)
 num:u.ownsRow w.heap.size 2 1 (sG q n n) n (Dd (Hp xs) [iZ 0] (List.range n) k n)
 o:u.ownsRow w.heap.size 216 3 V (BQ xs k).length ((BQ xs k).flatMap Lm)
 aC:Below w.heap.size w u
theorem PP{B d g b k l n n' c c':Nat}{a:TypeId}(h:u.ownsRow B e k (sG g n c) n xs)(i:u.ownsRow d a l (sG b n' c') n' m)(j:e≠a):¬g=b:=fun f=>by subst f;obtain⟨_,p,h1⟩:=AQ h;obtain⟨_,q,h2⟩:=AQ i;rw[h1]at h2;simp only[i4,lZ]at h2;exact j h2.2.1
theorem CA{B d g k l n n' c:Nat}{b:TypeId}(h:u.ownsRow B e k s n xs)(f:u.ownsRow d b l (sG g n' c) n' m)(j:e≠b)(i:Nat)(z:Value):(u.setCell ⟨g,i,none⟩ z).ownsRow B e k s n xs:=by obtain⟨_,p,h1⟩:=AQ f;exact i9 h (a:=⟨g,i,none⟩) (fun q=>B3 h h1 j _ q rfl) z
theorem SW.fin{xs:List MI}{n k q c cap:Nat}{a:List MB}{b:MB}(h:k<n)(h1:u.ownsRow w.heap.size 4 1 (.slice (some ⟨w.heap.size+1,0,none⟩) (n+1) (n+1)) (n+1) (Do xs n n))(h2:u.ownsRow w.heap.size 2 1 (sG q n n) n (Dd (Hp xs) [iZ 0] (List.range n) k n))(g:u.ownsRow w.heap.size 216 3 (sG c (a.length+1) cap) (a.length+1) ((a++[b]).flatMap Lm))(l:Below w.heap.size w u)(r:BQ xs (k+1)=a++[(⟨b.cK,(k:Int),b.next⟩:MB)])(p:Ba xs k=(a.length:Int)):
 SW w ((u.setCell ⟨q,k,none⟩ (iZ a.length)).setCell ⟨c,a.length*3+1,none⟩ (iZ k)) xs n (k+1) q (sG c (a.length+1) cap):=by
 have s:w.heap.size<=q:=(AQ h2).1;have m:w.heap.size<=c:=(AQ g).1;have j:=CA h1 h2 dC k (iZ a.length);have d:=CA g h2 dC k (iZ a.length);have e:=(h2.stored k (iZ a.length)).1;have i:(Dd (Hp xs) [iZ 0] (List.range n) k n).set k (iZ a.length)=Dd (Hp xs) [iZ 0] (List.range n) (k+1) n:=by rw[GE _ _ _ _ _ h,Wk _ _ _ _ k (by rw[Av (Hp xs) 1 (DU xs),lB,lO];omega),NO (Hp xs) _ _ k n k (by simp[h])];simp[Hp,Ad,p]
 rw[i]at e;refine⟨CA j d dC _ _,CA e d dC _ _,?_,(l.setCell s _).setCell m _⟩;have f:=(d.stored (a.length*3+1) (iZ k)).1;rw[Ty]at f;rw[r,f6,jY];exact f
theorem VQ{w wr c:World}{xs:List MI}{q cap:Nat}(h:SW w wr xs k j q v)(x:BQ xs (j+1)=BQ xs j++[(⟨(j:Int),(j:Int),[]⟩:MB)])(u:Ba xs j=((BQ xs j).length:Int))(r:j<k)(f:c.ownsRow w.heap.size 216 3 (sG a ((BQ xs j).length+1) cap) ((BQ xs j).length+1) ((BQ xs j).flatMap Lm++[iZ j,iZ 0,sN]))(l:(wr.alloc (.cells #[iZ j,iZ 0,sN] 216)).grownBy c v.ownBlock):
 Hid (SW w ((c.setCell ⟨q,j,none⟩ (iZ (BQ xs j).length)).setCell ⟨a,(BQ xs j).length*3+1,none⟩ (iZ j)) xs k (j+1) q (sG a ((BQ xs j).length+1) cap))/\¬a=q/\¬q=a/\c.cell? ⟨q,j,none⟩=some (iZ 0)/\c.frozen? ⟨q,j,none⟩=false/\c.cell? ⟨a,(BQ xs j).length*3+1,none⟩=some (iZ 0)/\c.frozen? ⟨a,(BQ xs j).length*3+1,none⟩=false:=by
 have d:=Aa wr (.cells #[iZ j,iZ 0,sN] 216);have p:=Ai h.o d lR;have y:=CU (Ai h.lead d lR) l p dC;have g:=CU (Ai h.num d lR) l p dC;have bel:=(Ac h.aC lR d).grown l (jX h.aC.size d.size) (fun i t=>(p.lt i t).1);have s:=PP f g dC;have m:=g.cellAt j oM;have n:=f.cellAt ((BQ xs j).length*3+1) oM;rw[GE _ _ _ _ _ r,ky (by rw[Av (Hp xs) 1 (DU xs),lB,lO];omega),show j-(List.flatMap (Hp xs) (List.take j (List.range k))).length=0 by rw[Av (Hp xs) 1 (DU xs),lB,lO];omega]at m;simp only[kL,i5]at m;rw[ky (by rw[Av Lm 3 Fy];omega),show(BQ xs j).length*3+1-(List.flatMap Lm (BQ xs j)).length=1 by rw[Av Lm 3 Fy];omega]at n;simp only[i8,i5]at n;refine⟨SW.fin (b:=⟨(j:Int),0,[]⟩) r y g (by rw[kO];exact f) bel x u,s,fun e=>s e.symm,m,g.frozenAt j,n,f.frozenAt _⟩
theorem DT(n:Nat):(madeCells (Value.bool false).cells (n*1)).toList=List.replicate n (.bool false):=by rw[FM VO [.bool false] [] n (.bool false) 1 rfl rfl oM];simp[Dd,List.flatten_replicate_singleton]
theorem K4(n:Nat)(f:Nat->List Value)(a:List Nat):(madeCells (Value.int .i64 0).cells (n*1)).toList=Dd f [iZ 0] a 0 n:=by rw[FM f [iZ 0] a n (iZ 0) 1 rfl rfl oM]
structure SV(w u:World)(xs:List MI)(n k:Nat):Prop where
 lead:u.ownsRow w.heap.size 4 1 (.slice (some ⟨w.heap.size+1,0,none⟩) (n+1) (n+1)) (n+1) (Do xs k n)
 o:Aw u w.heap.size #[] 216
 aC:Below w.heap.size w u
theorem SV.set{xs:List MI}(h:SV w u xs n k)(j:Nat)(b:(Do xs k n).set j (.bool true)=Do xs a n):SV w (u.setCell ⟨w.heap.size+1,j,none⟩ (.bool true)) xs n a:=by refine⟨?_,h.o.other oS _,h.aC.setCell oS _⟩;have:=(h.lead.stored j (.bool true)).1;rw[b]at this;exact this
theorem SV.jR{xs:List MI}{b:Nat}(h:SV w u xs n k)(j a:Nat)(c:((Do xs k n).set j (.bool true)).set a (.bool true)=Do xs b n):SV w ((u.setCell ⟨w.heap.size+1,j,none⟩ (.bool true)).setCell ⟨w.heap.size+1,a,none⟩ (.bool true)) xs n b:=by refine⟨?_,(h.o.other oS _).other oS _,(h.aC.setCell oS _).setCell oS _⟩;have:=((h.lead.stored j (.bool true)).1.stored a (.bool true)).1;rw[c]at this;exact this
end Go.Proofs.YthjbicggfnnonaaGreatDoor
