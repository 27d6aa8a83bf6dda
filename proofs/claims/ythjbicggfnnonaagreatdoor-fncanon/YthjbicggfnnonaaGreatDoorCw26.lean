import Derived.Test.YthjbicggfnnonaaGreatDoorCw24
namespace Go.Proofs.YthjbicggfnnonaaGreatDoor
open Go.ChangeShapes Go.WideShapes Go.ChangeAt Go.RowKit
set_option linter.unusedVariables false
set_option maxHeartbeats 8000000
set_option maxRecDepth 100000
variable {L C:List Int}{k:Nat}{c:Int}
def Eh(L:List Int):Nat:=(L.map fun x=>(4294967296-x).toNat).sum
theorem Q9{x:Int}(h:L[k]?=some x)(d:x<c)(b:c<=4294967295):Eh (L.set k c)<Eh L:=by
 induction L generalizing k with
 |nil=>cases h
 | cons y r a=>
   cases k with
   | zero=>simp only[i5,i4]at h;subst h;simp only[Eh,kX,mL,List.sum_cons];omega
   | succ k=>simp only[i8]at h;have:=a h;simp only[Eh,kb,mL,List.sum_cons]at this⊢;omega
def Wp(x:Int):Prop:=-1<=x/\x<=4294967295
theorem MJ:(C.flatMap Ad).set k (iZ c)=(C.set k c).flatMap Ad:=by
 induction C generalizing k with
 |nil=>rfl
 | cons y r a=>
   cases k with
   |zero=>rfl
   | succ k=>rw[kb,kG,kG];show Ad y++_=_;rw[<-a];rfl
theorem JZ{P:Int->Prop}(h:∀x∈L,P x)(a:P c):∀x∈L.set k c,P x:=fun x b=>by
 rcases mM b with e|e
 . exact h x e
 subst e;exact a
structure Wy(w u0 u:World)(G n:Nat)(x:GV)(bad:Bool)(I:List Nat)(C:List Int)(gn cn:Nat)(P:Nat->Bool)(gB:Nat)(L:List Int):Prop where
 gr:Gr w u G n x bad I C
 jw:u.ownsRow w.heap.size 4 1 (sG gn n cn) n (bv P n)
 own:u.ownsRow u0.heap.size 2 1 (sG gB n n) n (L.flatMap Ad)
 ll:L.length=n
 lb:∀y∈L,Wp y
 lo:w.heap.size<=u0.heap.size/\G<u0.heap.size/\x.gi<u0.heap.size/\x.gc<u0.heap.size/\gn<u0.heap.size
 fr:∀b,b<u0.heap.size->b≠G->u.heap[b]?=u0.heap[b]?
section
variable {w u0 u:World} {G n:Nat} {x:GV} {bad:Bool} {I:List Nat} {C:List Int} {gn cn:Nat} {P:Nat->Bool} {gB:Nat} {L:List Int}
theorem Wy.gX(h:Wy w u0 u G n x bad I C gn cn P gB L):Wy w u0 (u.setCell ⟨G,8,none⟩ (.bool true)) G n x true I C gn cn P gB L:=by have d:=(AQ h.own).1;have f:=h.lo;refine{h with gr:=h.gr.gX,jw:=Cv h.jw fun e=> ?_,own:=Cv h.own oM,fr:=fun b h1 h2=>by rw[km u ⟨G,8,none⟩ b _ h2];exact h.fr b h1 h2};obtain⟨_,c1,a⟩:=AQ h.jw;have c:=h.gr.cC;unfold Aw at c;rw[e,c]at a;cases a
theorem Wy.set(h:Wy w u0 u G n x bad I C gn cn P gB L)(k:Nat)(d:Wp c):Wy w u0 (u.setCell ⟨gB,k,none⟩ (iZ c)) G n x bad I C gn cn P gB (L.set k c):=by have e:=(AQ h.own).1;have f:=h.lo;have a:=(lm h.own k (iZ c)).1;rw[MJ]at a;exact{h with gr:=h.gr.other oM oM oM oM,jw:=Cv h.jw oM,own:=a,ll:=by rw[lw];exact h.ll,lb:=JZ h.lb d,fr:=fun b h1 h2=>by rw[km u ⟨gB,k,none⟩ b _ (by show b≠gB;omega)];exact h.fr b h1 h2}
theorem Wy.aa{c:World}(h:Wy w u0 u G n x bad I C gn cn P gB L)(a:Below u.heap.size u c):Wy w u0 c G n x bad I C gn cn P gB L:=by
 have e:∀b,b<u0.heap.size->b≠G->c.heap[b]?=u0.heap[b]?:=fun b h1 h2=>by obtain⟨f,_,d⟩:=AQ h.own;have:=(kN.1 d).1;rw[a.block b oM];exact h.fr b h1 h2
 exact{h with gr:=h.gr.aa a,jw:=Ai h.jw a lR,own:=Ai h.own a lR,fr:=e}
theorem Wy.at_(h:Wy w u0 u G n x bad I C gn cn P gB L)(b:k<n):∃y,L[k]?=some y/\Wp y/\u.cell? ⟨gB,k,none⟩=some (iZ y)/\u.frozen? ⟨gB,k,none⟩=false:=by
 have a:k<L.length:=by rw[h.ll];exact b
 have:=kW h.own k oM;rw[FN (an a)]at this;exact⟨_,an a,h.lb _ (ku a),this,h.own.frozenAt k⟩
theorem Wy.iD(h:Wy w u0 u G n x bad I C gn cn P gB L)(a:k<n):u.cell? ⟨gn,k,none⟩=some (.bool (P k)):=by have:=kW h.jw k oM;rw[KD _ _ _ a]at this;exact this
end
def Qn(u:World)(g n:Nat):Nat:=((List.range n).map fun i=>match u.cell? ⟨g,i,none⟩with|some (.int _ y)=>(4294967296-y).toNat|_=>0).sum
theorem Wy.rest{w u0 u:World}{G n:Nat}{x:GV}{bad:Bool}{I:List Nat}{gn cn:Nat}{P:Nat->Bool}{gB:Nat}(h:Wy w u0 u G n x bad I C gn cn P gB L):Qn u gB n=Eh L:=by
 unfold Qn Eh;congr 1
 apply la;intro k;by_cases a:k<n
 . obtain⟨y,h1,_,b,_⟩:=h.at_ a;rw[kh,kh,h1,nO a];simp only[nF,b]
 rw[kK oT,kK (by rw[kZ,h.ll];omega)]
def J5(a:Value):Nat:=match a with|.bool true=>1|_=>0
theorem UU(n:Nat):(madeCells (Value.int .i64 0).cells (n*1)).toList=(List.replicate n (0:Int)).flatMap Ad:=by
 rw[K4 n (fun _=>[]) []];simp[Dd,List.flatten_replicate_singleton];induction n with
 |zero=>rfl
 |succ n a=>rw[mi,mi,kG,<-a];rfl
def VN(w u:World)(G n:Nat)(x:GV)(I:List Nat)(C:List Int)(gn cn:Nat)(P:Nat->Bool)(e:Ending)(a:World):Prop:=∃gB bad L,e=.returned (sG gB n n)/\Wy w u a G n x bad I C gn cn P gB L
theorem KX(w u:World)(G n:Nat)(x:GV)(bad:Bool)(I:List Nat)(C:List Int)(E:Nat->List Nat)(O:List Nat)(gn cn f:Nat)(P:Nat->Bool)(h0:n<=1048576)(hf:f<n)(h:Gr w u G n x bad I C)(hF:GF w n x E O)(hi:u.ownsRow w.heap.size 4 1 (sG gn n cn) n (bv P n)):
 Calls Tryz.prog 148 #[.pointer (some ⟨G,0,none⟩),iZ (f:Int),sG gn n cn] u (VN w u G n x I C gn cn P):=by
 obtain⟨k0,hk,aR,aS,aT⟩:=kS Co;have bt:(f:Int)<(n:Int):=oM;have H:Hid (Gr w u G n x bad I C/\GF w n x E O/\u.ownsRow w.heap.size 4 1 (sG gn n cn) n (bv P n)):=⟨h,hF,hi⟩
 obtain⟨p2,p3,p6,p7,p8,z8⟩:=h.cells;go_enter Tryz.func148,Tryz.ntmps148;go_wp2_with (at_make;refine lQ _ rfl _ _ 58 rfl u.heap.size 2 k0 (iZ 0) 1 Tryz.underlying58 hk aR aS .i64 .i64 _ _ n rfl rfl rfl rfl (by rw[aT];omega) oX lR ?_;intro w3 au aJ;rw[UU]at au);have a8:Below u.heap.size u w3:=(kV _ _).grown aJ lR (fun k hk=>by cases hk);have d:Hid (Wy w u w3 G n x bad I C gn cn P u.heap.size (List.replicate n 0)):=⟨H.o.1.aa a8,Ai H.o.2.2 a8 lR,au,nS,fun y hy=>by rw[(List.mem_replicate.1 hy).2];exact⟨oM,oM⟩,⟨H.o.1.aC.size,H.o.1.cC.lt,by obtain⟨_,c,e⟩:=AQ H.o.1.gQ;exact(kN.1 e).1,by obtain⟨_,c,e⟩:=AQ H.o.1.cost;exact(kN.1 e).1,by obtain⟨_,c,e⟩:=AQ H.o.2.2;exact(kN.1 e).1⟩,fun b h1 _=>a8.block b h1⟩;go_loopw [9] (fun i wr=>∃(k:Nat) (L:List Int),k<=n/\i=iZ k/\Hid (Wy w u wr G n x bad I C gn cn P u.heap.size L)) (fun i _=>n-(intOf i).toNat)
 case atStart=>exact⟨0,_,oM,rfl,d⟩
 obtain⟨k,L,bu,rfl,d⟩:=hrel;by_cases ah:k<n
 . have aN:(k:Int)<(n:Int):=oM;obtain⟨y,_,_,c0,z0⟩:=d.o.at_ ah;have X:Hid (Wy w u (wr.setCell ⟨u.heap.size,k,none⟩ (iZ (-1))) G n x bad I C gn cn P u.heap.size (L.set k (-1))):=d.o.set k ⟨oM,oM⟩;go_wp2_with fail;go_roundw;(case rel=>exact⟨k+1,_,oM,by go_num,X⟩);exact oI
 have aM:k=n:=oM;subst aM;obtain⟨p2,p3,p6,p7,p8,z8⟩:=d.o.gr.cells;obtain⟨yf,_,aA,cf⟩:=d.o.gr.ie hf;obtain⟨y0,_,_,c0,z0⟩:=d.o.at_ hf;have X:Hid (Wy w u (wr.setCell ⟨u.heap.size,f,none⟩ (iZ yf)) G k x bad I C gn cn P u.heap.size (L.set f yf)):=d.o.set f ⟨by have:=aA.1;omega,aA.2⟩;go_wp2_with fail;have bw:0<k:=oM;go_loopw [10,11,12,13,14,15,16,17] (fun a _ _ _ _ _ _ _ wr=>∃(l g:Bool) (L:List Int),a=.bool l/\Hid (Wy w u wr G k x g I C gn cn P u.heap.size L)) (fun a _ _ _ _ _ _ _ wr=>Qn wr u.heap.size k+J5 a)
 case atStart=>exact⟨true,bad,_,rfl,X⟩
 obtain⟨l,g,L0,rfl,d⟩:=hrel;obtain⟨p2,p3,p6,p7,p8,z8⟩:=d.o.gr.cells;by_cases a6:l=true/\g=false
 case neg=>
  cases l
  . clear a6;go_wp2_with fail;go_ret;exact⟨_,_,_,rfl,d.o⟩
  have aI:g=true:=by cases g<;>simp at a6⊢
  subst aI;go_wp2_with fail;go_ret;exact⟨_,_,_,rfl,d.o⟩
 obtain⟨rfl,rfl⟩:=a6;have HR:Hid (Qn wr u.heap.size k=Eh L0):=d.o.rest;go_wp2_with fail;go_loopw [10,11,12,13,14,15,16,17] (fun a i _ _ _ _ _ _ wr=>∃(m:Nat) (l g:Bool) (L:List Int),m<=k/\a=.bool l/\i=iZ m/\Hid (Wy w u wr G k x g I C gn cn P u.heap.size L/\Eh L+J5 (.bool l)<=Eh L0)) (fun _ i _ _ _ _ _ _ _=>k-(intOf i).toNat)
 case atStart=>exact⟨0,false,_,_,oM,rfl,rfl,d.o,Nat.le_refl _⟩
 obtain⟨m,l,g,L1,hm,rfl,rfl,d⟩:=hrel;by_cases ah:m<k;case neg=>
  go_wp2_with fail;go_roundw;case rel=>exact⟨l,g,L1,rfl,d.o.1⟩
  rw[HR.o,d.o.1.rest];have:=d.o.2;simp only[J5]at this⊢;omega
 have aN:(m:Int)<(k:Int):=oM;obtain⟨p2,p3,p6,p7,p8,z8⟩:=d.o.1.gr.cells;obtain⟨b,R,o0⟩:=(H.o.2.1.at_ d.o.1.gr.aC).1 m ah;have bp:(b:Int)<(k:Int):=oM;obtain⟨t,_,ht,i0⟩:=d.o.1.gr.im R;have bF:(t:Int)<(k:Int):=oM;have n0:=d.o.1.iD R;obtain⟨y,hy,bJ,b0,z0⟩:=d.o.1.at_ ht;cases hP:P b
 case false=>
  rw[hP]at n0;go_wp2_with fail;go_roundw;case rel=>exact⟨m+1,l,g,L1,oM,rfl,by go_num,d⟩
  exact oI
 rw[hP]at n0;by_cases bI:y<0
 . go_wp2_with fail;go_roundw;(case rel=>exact⟨m+1,l,g,L1,oM,rfl,by go_num,d⟩);exact oI
 obtain⟨a,c,aE,hr⟩:=H.o.2.1.gr b R;have g0:=Af d.o.1.gr.aC aE;have V:Hid (LW w (.slice a (E b).length c) (E b)/\∀y∈E b,y<k):=⟨hr,H.o.2.1.eb b R⟩
 have aF:=H.o.2.1.sz b;have HY:Hid (∃y,L1[t]?=some y/\0<=y):=⟨y,hy,oM⟩
 generalize aZ:E b=D at V g0 aF;go_wp2_with fail;go_loopw [10,15,16,17] (fun a j _ _ wr=>∃(q:Nat) (l g:Bool) (L:List Int),q<=D.length/\a=.bool l/\j=iZ q/\Hid (Wy w u wr G k x g I C gn cn P u.heap.size L/\Eh L+J5 (.bool l)<=Eh L0/\∃y,L[t]?=some y/\0<=y)) (fun _ j _ _ _=>D.length-(intOf j).toNat)
 case atStart=>exact⟨0,l,g,L1,oM,rfl,rfl,d.o.1,d.o.2,HY.o⟩
 obtain⟨q,l,g,L2,hq,rfl,rfl,d⟩:=hrel;by_cases aq:q<D.length;case neg=>
  go_wp2_with fail;go_roundw;case rel=>exact⟨m+1,l,g,L2,oM,rfl,by go_num,d.o.1,d.o.2.1⟩
  exact oI
 have bx:(q:Int)<(D.length:Int):=oM;obtain⟨ga,oa,ea,_,e0⟩:=V.o.1.at_ (an aq);have T:D[q]<k:=V.o.2 _ (ku aq);subst ea;generalize D[q]=z at T e0;have bH:(z:Int)<(k:Int):=oM;have HT:Hid (w.cell? ⟨ga,oa+q,none⟩=some (iZ (z:Int))):=e0;obtain⟨r,hr,aj,_⟩:=d.o.1.gr.im T;have bz:(r:Int)<(k:Int):=oM;have HC:Hid (∀(W:World) (g:Bool) (L:List Int),Wy w u W G k x g I C gn cn P u.heap.size L->W.cell? ⟨G,6,none⟩=some (sG x.gi k x.ci)/\W.cell? ⟨ga,oa+q,none⟩=some (iZ (z:Int))/\W.cell? ⟨x.gi,z,none⟩=some (iZ (r:Int))):=fun W g L s=>by
  obtain⟨y',h1,_,h2⟩:=s.gr.im T;rw[hr]at h1;cases h1
  exact⟨s.gr.cells.2.2.1,Af s.gr.aC HT.o,h2⟩
 go_upto_region 21 with fail
 have p:Hid (Wy w u wr.drew G k x g I C gn cn P u.heap.size L2/\Eh L2+J5 (.bool l)<=Eh L0/\∃y,L2[t]?=some y/\0<=y):=⟨d.o.1.aa (Ae _),d.o.2⟩
 refine wp_region_held_drew (S:=fun W=>W.cell? ⟨G,6,none⟩=some (sG x.gi k x.ci)/\W.cell? ⟨ga,oa+q,none⟩=some (iZ (z:Int))/\W.cell? ⟨x.gi,z,none⟩=some (iZ (r:Int))) kR (by exact HC.o _ _ _ p.o.1) (fun Q=> ?_)
 generalize wr.drew=UD at p Q⊢;refine An 0 ?_;refine An 1 ?_;refine An 2 ?_;refine An 3 ?_;refine An 4 ?_;refine An 5 ?_;refine An 6 ?_;refine An 7 ?_;refine An 8 ?_;refine An 9 ?_;refine An 10 ?_;refine wpAnyH_done kR ?_ _;have n1:=p.o.1.iD T;obtain⟨_,e1,_⟩:=HC.o _ _ _ p.o.1;by_cases M:P z=false\/r=t\/r=f
 case pos=>
  cases K:P z
  case false=>rw[K]at n1;go_wp2_with fail;go_roundw;(case rel=>exact⟨q+1,l,g,L2,oM,rfl,by go_num,p⟩);exact oI
  rw[K]at n1;by_cases aw:r=t
  . subst aw;go_wp2_with fail;go_roundw;(case rel=>exact⟨q+1,l,g,L2,oM,rfl,by go_num,p⟩);exact oI
  have aP:r=f:=by rcases M with e|e|e;{rw[K]at e;cases e};{exact absurd e aw};{exact e}
  subst aP;have aQ:((r:Int)==(t:Int))=false:=oT;go_wp2_with fail;go_roundw;case rel=>exact⟨q+1,l,g,L2,oM,rfl,by go_num,p⟩
  exact oI
 have K:P z=true:=by cases e:P z;{exact absurd (.inl e) M};{rfl}
 rw[K]at n1;have aQ:((r:Int)==(t:Int))=false:=by simp;intro e;exact M (.inr (.inl oM))
 have bB:((r:Int)==(f:Int))=false:=by simp;intro e;exact M (.inr (.inr oM))
 have aD:Hid (r≠t):=fun e=>M (.inr (.inl e))
 go_upto_region 23 with fail
 obtain⟨A,am,aY⟩:=p.o.2.2;obtain⟨U,aW,aX,_⟩:=p.o.1.gr.ie aj;have ao:Hid (∀(W:World) (g:Bool),Wy w u W G k x g I C gn cn P u.heap.size L2->W.cell? ⟨u.heap.size,t,none⟩=some (iZ A)/\W.cell? ⟨G,7,none⟩=some (sG x.gc k x.cc)/\W.cell? ⟨x.gc,r,none⟩=some (iZ U)):=fun W g s=>by
  obtain⟨y1,h1,_,h2⟩:=s.gr.ie aj;obtain⟨y2,J,_,h4,_⟩:=s.at_ ht;rw[aW]at h1;rw[am]at J;cases h1
  cases J
  exact⟨h4,s.gr.cells.2.2.2.1,h2⟩
 have B:Hid (Ll A/\Ll U/\L2[t]?=some A):=⟨⟨aY,by obtain⟨y2,J,h4,_⟩:=p.o.1.at_ ht;rw[am]at J;cases J;exact h4.2⟩,aX,am⟩
 have v:Hid (Wy w u UD.drew G k x g I C gn cn P u.heap.size L2/\Eh L2+J5 (.bool l)<=Eh L0):=⟨p.o.1.aa (Ae _),p.o.2.1⟩
 refine wp_region_held_drew (S:=fun W=>W.cell? ⟨u.heap.size,t,none⟩=some (iZ A)/\W.cell? ⟨G,7,none⟩=some (sG x.gc k x.cc)/\W.cell? ⟨x.gc,r,none⟩=some (iZ U)) kR (by exact ao.o _ _ v.o.1) (fun Q=> ?_)
 generalize UD.drew=U2 at v Q⊢;refine An 0 ?_;refine An 1 ?_;refine An 2 ?_;refine An 3 ?_;refine An 4 ?_;refine An 5 ?_;refine An 6 ?_;refine An 7 ?_;refine An 8 ?_;refine An 9 ?_;refine An 10 ?_;refine An 11 ?_;refine rdH 12 ?_;intro KC aG;go_simp;refine(Gj G A U _ U2 B.o.1 B.o.2.1 v.o.1.gr.cells.2.2.2.2.1 v.o.1.gr.cells.2.2.2.2.2).mono ?_;rintro e Z ⟨F,rfl,ae,hU⟩;have HG:Hid (∃g,Wy w u Z G k x g I C gn cn P u.heap.size L2):=by
  rcases hU with rfl|rfl
  . exact⟨_,v.o.1⟩
  exact⟨_,v.o.1.gX⟩
 have HL:Hid (Eh L2+J5 (.bool l)<=Eh L0):=v.o.2;refine aG.o _ _ (by obtain⟨g,s⟩:=HG.o;exact ao.o _ _ s) (fun Q=> ?_);refine An 13 ?_;refine wpAnyH_done kR ?_ _;obtain⟨N,aH⟩:=HG.o;have Y:Hid (Wy w u Z G k x N I C gn cn P u.heap.size L2):=aH;obtain⟨yo,aU,_,o1,z1⟩:=Y.o.at_ aj;by_cases aL:F>yo
 . have HN:Hid (Wy w u (Z.setCell ⟨u.heap.size,r,none⟩ (iZ F)) G k x N I C gn cn P u.heap.size (L2.set r F)/\Eh (L2.set r F)+J5 (.bool true)<=Eh L0/\∃y,(L2.set r F)[t]?=some y/\0<=y):=by
    refine⟨Y.o.set r ⟨by have:=ae.1;omega,ae.2⟩,?_,A,?_,B.o.1.1⟩
    . have h1:=Q9 aU aL ae.2;have h2:=HL.o;show _+1<=_;omega
    rw[lj aD.o];exact B.o.2.2
   go_wp2_with fail;go_roundw;(case rel=>exact⟨q+1,true,N,_,oM,rfl,by go_num,HN⟩);exact oI
 . go_wp2_with fail;go_roundw;(case rel=>exact⟨q+1,l,N,L2,oM,rfl,by go_num,Y.o,HL.o,A,B.o.2.2,B.o.1.1⟩);exact oI
end Go.Proofs.YthjbicggfnnonaaGreatDoor
