import Derived.Test.YtadcneiiokbofaaGreatBo17
namespace Go.Proofs.YtadcneiiokbofaaGreat
open Go.ChangeShapes Go.WideShapes Go.ChangeAt Go.RowKit
set_option linter.unusedVariables false
open Option renaming some → K,none → M
open Go renaming Value → J,World → Y
open Go.IntKind renaming i64 → Af
open Go.Value renaming int → Ag
open Go.RowKit renaming Below → Ah
open Go.World renaming setCell → Aa,ownsRow → Ab
open List renaming flatMap → Ad
variable {k:Nat}{c:Int}
def Ge(L:List Int):Nat:=(L.map λx=>(4294967296-x).toNat).sum
theorem Ul{L:List Int}{x c:Int}(h:L[k]?=K x)(d:x<c)(b:c<=4294967295):Ge (L.set k c)<Ge L:=by
 induction L generalizing k with
 |nil=>cases h
 | cons y r a=>
   cases k with
   | zero=>simp only[lC,lH]at h;subst h;simp only[Ge,lU,nQ,List.sum_cons];omega
   | succ k=>simp only[lF]at h;have:=a h;simp only[Ge,lX,nQ,List.sum_cons]at this⊢;omega
def Zu(x:Int):Prop:=-1<=x/\x<=4294967295
theorem Ht{C:List Int}:(Ad As C).set k c=Ad As (C.set k c):=by
 induction C generalizing k with
 |nil=>rfl
 | cons y r a=>
   cases k with
   |zero=>rfl
   | succ k=>rw[lX,mF,mF];show As y++_=_;rw[<-a];rfl
theorem H6{P:Int->Prop}{L:List Int}(h:∀x∈L,P x)(a:P c):∀x∈L.set k c,P x:= λx b=>by
 rcases oU b with e|e
 . exact h x e
 subst e;exact a
structure Wy(w u0 u:Y)(G n:Nat)(x:GV)(bad:Bool)(I:List Nat)(C:List Int)(gn cn:Nat)(P:Nat->Bool)(gB:Nat)(L:List Int):Prop where
 gr:Gr w u G n x bad I C
 k7:Ab u w 4 1 (sG gn n cn) n (bv P n)
 own:Ab u u0 2 1 (sG gB n n) n (Ad As L)
 ll: ↑L=n
 lb:∀y∈L,Zu y
 lo:(w:Nat)<= ↑u0/\G< ↑u0/\x.gi< ↑u0/\x.gc< ↑u0/\gn< ↑u0
 fr:∀b,b< ↑u0->b≠G->u.heap[b]?=u0.heap[b]?
section
variable {w u0 u:Y} {G n:Nat} {x:GV} {bad:Bool} {I:List Nat} {C:List Int} {gn cn:Nat} {P:Nat->Bool} {gB:Nat} {L:List Int}
theorem Wy.iC(h:Wy w u0 u G n x bad I C gn cn P gB L):Wy w u0 (Aa u ⟨G,8,M⟩ true) G n x true I C gn cn P gB L:=by have g:=(AD h.own).1;have i:=h.lo;refine{h with gr:=h.gr.iC,k7:=Bn h.k7 λe=> ?_,own:=Bn h.own oM,fr:= λb f d=>by rw[mS u ⟨G,8,M⟩ b _ d];exact h.fr b f d};obtain⟨_,c1,a⟩:=AD h.k7;have c:=h.gr.ie;unfold AA at c;rw[e,c]at a;cases a
theorem Wy.set(h:Wy w u0 u G n x bad I C gn cn P gB L)(k:Nat)(f:Zu c):Wy w u0 (Aa u ⟨gB,k,M⟩ c) G n x bad I C gn cn P gB (L.set k c):=by have g:=(AD h.own).1;have i:=h.lo;have a:=(nC h.own k c).1;rw[Ht]at a;exact{h with gr:=h.gr.other oM oM oM oM,k7:=Bn h.k7 oM,own:=a,ll:=by rw[mZ];exact h.ll,lb:=H6 h.lb f,fr:= λb d e=>by rw[mS u ⟨gB,k,M⟩ b _ (by show b≠gB;omega)];exact h.fr b d e}
theorem Wy.a7{c:Y}(h:Wy w u0 u G n x bad I C gn cn P gB L)(a:Ah u u c):Wy w u0 c G n x bad I C gn cn P gB L:=by
 have g:∀b,b< ↑u0->b≠G->c.heap[b]?=u0.heap[b]?:= λb d e=>by obtain⟨i,_,f⟩:=AD h.own;have:=(lK.1 f).1;rw[a.block b oM];exact h.fr b d e
 exact{h with gr:=h.gr.a7 a,k7:=Aw h.k7 a lR,own:=Aw h.own a lR,fr:=g}
theorem Wy.at_(h:Wy w u0 u G n x bad I C gn cn P gB L)(b:k<n):∃y,L[k]?=K y/\Zu y/\u ⟨gB,k,M⟩=K (iZ y)/\u.frozen? ⟨gB,k,M⟩=false:=by
 have a:k<L.length:=by rw[h.ll];exact b
 have:=ms h.own k oM;rw[Di (an a)]at this;exact⟨_,an a,h.lb _ (nG a),this,h.own.frozenAt k⟩
theorem Wy.jW(h:Wy w u0 u G n x bad I C gn cn P gB L)(a:k<n):u ⟨gn,k,M⟩=K ↑(P k):=by have:=ms h.k7 k oM;rw[Lq _ _ _ a]at this;exact this
end
def VW(u:Y)(g n:Nat):Nat:=((List.range n).map λi=>match u ⟨g,i,M⟩with|some (Ag _ y)=>(4294967296-y).toNat|_=>0).sum
theorem Wy.rest{w u0 u:Y}{G n:Nat}{x:GV}{bad:Bool}{I:List Nat}{C:List Int}{gn cn:Nat}{P:Nat->Bool}{gB:Nat}{L:List Int}(h:Wy w u0 u G n x bad I C gn cn P gB L):VW u gB n=Ge L:=by
 unfold VW Ge;congr 1
 apply nB;intro k;by_cases a:k<n
 . obtain⟨y,b,_,c,_⟩:=h.at_ a;rw[mE,mE,b,pB a];simp only[oL,c]
 rw[lW oT,lW (by rw[mD,h.ll];omega)]
def NU(a:J):Nat:=match a with|.bool true=>1|_=>0
theorem SE(n:Nat):(madeCells (Ag Af 0).cells (n*1)).toList=Ad As (List.replicate n (0:Int)):=by
 rw[JE n (λ_=>[]) []];simp[BG,List.flatten_replicate_singleton];induction n with
 |zero=>rfl
 |succ n a=>rw[pA,pA,mF,<-a];rfl
end Go.Proofs.YtadcneiiokbofaaGreat
