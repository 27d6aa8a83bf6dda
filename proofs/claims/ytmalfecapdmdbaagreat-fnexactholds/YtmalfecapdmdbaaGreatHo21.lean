import Derived.Test.YtmalfecapdmdbaaGreatHo20
namespace Go.Proofs.YtmalfecapdmdbaaGreat
open Go.ChangeShapes Go.WideShapes Go.ChangeAt Go.RowKit
set_option linter.unusedVariables false
open Option renaming some → K,none → M
open Go renaming Value → J,World → Y
open Go.IntKind renaming i64 → Af
open Go.Value renaming int → Ag
open Go.RowKit renaming Below → Ah
open Go.World renaming setCell → Aa,ownsRow → Ab
open List renaming flatMap → Ad
variable {k:Nat}{c:Int}
def FJ(L:List Int):Nat:=(L.map λx=>(4294967296-x).toNat).sum
theorem TA{L:List Int}{x c:Int}(h:L[k]?=K x)(d:x<c)(b:c<=4294967295):FJ (L.set k c)<FJ L:=by
 induction L generalizing k with
 |nil=>cases h
 | cons y r a=>
   cases k with
   | zero=>simp only[i9,kI]at h;subst h;simp only[FJ,lI,mX,List.sum_cons];omega
   | succ k=>simp only[kC]at h;have:=a h;simp only[FJ,lT,mX,List.sum_cons]at this⊢;omega
def Yl(x:Int):Prop:=-1<=x/\x<=4294967295
theorem Hc{C:List Int}:(Ad As C).set k c=Ad As (C.set k c):=by
 induction C generalizing k with
 |nil=>rfl
 | cons y r a=>
   cases k with
   |zero=>rfl
   | succ k=>rw[lT,lD,lD];show As y++_=_;rw[<-a];rfl
theorem Hi{P:Int->Prop}{L:List Int}(h:∀x∈L,P x)(a:P c):∀x∈L.set k c,P x:= λx b=>by
 rcases nP b with e|e
 . exact h x e
 subst e;exact a
structure Wy(w u0 u:Y)(G n:Nat)(x:GV)(bad:Bool)(I:List Nat)(C:List Int)(gn cn:Nat)(P:Nat->Bool)(gB:Nat)(L:List Int):Prop where
 gr:Gr w u G n x bad I C
 jS:Ab u w 4 1 (sG gn n cn) n (bv P n)
 own:Ab u u0 2 1 (sG gB n n) n (Ad As L)
 ll: ↑L=n
 lb:∀y∈L,Yl y
 lo:(w:Nat)<= ↑u0/\G< ↑u0/\x.gi< ↑u0/\x.gc< ↑u0/\gn< ↑u0
 fr:∀b,b< ↑u0->b≠G->u.heap[b]?=u0.heap[b]?
section
variable {w u0 u:Y} {G n:Nat} {x:GV} {bad:Bool} {I:List Nat} {C:List Int} {gn cn:Nat} {P:Nat->Bool} {gB:Nat} {L:List Int}
theorem Wy.im(h:Wy w u0 u G n x bad I C gn cn P gB L):Wy w u0 (Aa u ⟨G,8,M⟩ true) G n x true I C gn cn P gB L:=by have g:=(AD h.own).1;have i:=h.lo;refine{h with gr:=h.gr.im,jS:=Bn h.jS λe=> ?_,own:=Bn h.own oM,fr:= λb f d=>by rw[lY u ⟨G,8,M⟩ b _ d];exact h.fr b f d};obtain⟨_,c1,a⟩:=AD h.jS;have c:=h.gr.gK;unfold AC at c;rw[e,c]at a;cases a
theorem Wy.set(h:Wy w u0 u G n x bad I C gn cn P gB L)(k:Nat)(f:Yl c):Wy w u0 (Aa u ⟨gB,k,M⟩ c) G n x bad I C gn cn P gB (L.set k c):=by have g:=(AD h.own).1;have i:=h.lo;have a:=(mI h.own k c).1;rw[Hc]at a;exact{h with gr:=h.gr.other oM oM oM oM,jS:=Bn h.jS oM,own:=a,ll:=by rw[mG];exact h.ll,lb:=Hi h.lb f,fr:= λb d e=>by rw[lY u ⟨gB,k,M⟩ b _ (by show b≠gB;omega)];exact h.fr b d e}
theorem Wy.a7{c:Y}(h:Wy w u0 u G n x bad I C gn cn P gB L)(a:Ah u u c):Wy w u0 c G n x bad I C gn cn P gB L:=by
 have g:∀b,b< ↑u0->b≠G->c.heap[b]?=u0.heap[b]?:= λb d e=>by obtain⟨i,_,f⟩:=AD h.own;have:=(kM.1 f).1;rw[a.block b oM];exact h.fr b d e
 exact{h with gr:=h.gr.a7 a,jS:=Aw h.jS a lR,own:=Aw h.own a lR,fr:=g}
theorem Wy.at_(h:Wy w u0 u G n x bad I C gn cn P gB L)(b:k<n):∃y,L[k]?=K y/\Yl y/\u ⟨gB,k,M⟩=K (iZ y)/\u.frozen? ⟨gB,k,M⟩=false:=by
 have a:k<L.length:=by rw[h.ll];exact b
 have:=lj h.own k oM;rw[Db (an a)]at this;exact⟨_,an a,h.lb _ (mN a),this,h.own.frozenAt k⟩
theorem Wy.j6(h:Wy w u0 u G n x bad I C gn cn P gB L)(a:k<n):u ⟨gn,k,M⟩=K ↑(P k):=by have:=lj h.jS k oM;rw[KX _ _ _ a]at this;exact this
end
def UJ(u:Y)(g n:Nat):Nat:=((List.range n).map λi=>match u ⟨g,i,M⟩with|some (Ag _ y)=>(4294967296-y).toNat|_=>0).sum
theorem Wy.rest{w u0 u:Y}{G n:Nat}{x:GV}{bad:Bool}{I:List Nat}{C:List Int}{gn cn:Nat}{P:Nat->Bool}{gB:Nat}{L:List Int}(h:Wy w u0 u G n x bad I C gn cn P gB L):UJ u gB n=FJ L:=by
 unfold UJ FJ;congr 1
 apply mP;intro k;by_cases a:k<n
 . obtain⟨y,b,_,c,_⟩:=h.at_ a;rw[lE,lE,b,oC a];simp only[nI,c]
 rw[kW oT,kW (by rw[lC,h.ll];omega)]
def Ni(a:J):Nat:=match a with|.bool true=>1|_=>0
theorem LG(n:Nat):(madeCells (Ag Af 0).cells (n*1)).toList=Ad As (List.replicate n (0:Int)):=by
 rw[Jj n (λ_=>[]) []];simp[Bu,List.flatten_replicate_singleton];induction n with
 |zero=>rfl
 |succ n a=>rw[nY,nY,lD,<-a];rfl
end Go.Proofs.YtmalfecapdmdbaaGreat
