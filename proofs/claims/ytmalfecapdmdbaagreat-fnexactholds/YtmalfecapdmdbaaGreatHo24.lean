import Derived.Test.YtmalfecapdmdbaaGreatHo21
namespace Go.Proofs.YtmalfecapdmdbaaGreat
open Go.ChangeShapes Go.WideShapes Go.ChangeAt Go.RowKit
set_option linter.unusedVariables false
open Option renaming some → K,none → M
open Go renaming Value → J,World → Y,TypeId → Aj
open Go.RowKit renaming Below → Ah
open Go.World renaming setCell → Aa,ownsRow → Ab
variable {I:List Nat}{k y G n X c:Nat}{w u e d:Y}{x:GV}{bad:Bool}{C:List Int}{f g:J}
theorem Uy:(nv I).set k y=nv (I.set k y):=by unfold nv;rw[List.map_set]
theorem Gr.jU(h:Gr w u G n x bad I C)(k:Nat)(d:y<n):Gr w (Aa u ⟨x.gi,k,M⟩ y) G n x bad (I.set k y) C:=by
 have b:=(mI h.ia k y).1;rw[Uy]at b;have c:∀z∈I.set k y,z<n:= λz f=>by
  rcases nP f with e|e
  . exact h.ib z e
  subst e;exact d
 exact{h with gK:=h.gK.other (a:=⟨x.gi,k,M⟩) (λe=>h.iW.1 e.symm) _,ia:=b,cost:=Bn h.cost h.ne.symm,e8:=h.e8.setCell (AD h.ia).1 _,il:=by rw[mG];exact h.il,ib:=c}
theorem Gr.iD(h:Gr w u G n x bad I C)(k:Nat){y:Int}(c:Ew y):Gr w (Aa u ⟨x.gc,k,M⟩ y) G n x bad I (C.set k y):=by have b:=(mI h.cost k y).1;rw[Hc]at b;exact{h with gK:=h.gK.other (a:=⟨x.gc,k,M⟩) (λe=>h.iW.2 e.symm) _,ia:=Bn h.ia h.ne,cost:=b,e8:=h.e8.setCell (AD h.cost).1 _,cl:=by rw[mG];exact h.cl,cb:=Hi h.cb c}
structure Bx(w u0 u:Y)(G:Nat)(x:GV)(X hd:Nat)(vb vk:J):Prop where
 gK:AC u X #[hd,vb,vk] 85
 lo: ↑w<=X
 up: ↑u0<=X
 fr:∀b,b< ↑u0->b≠G->b≠x.gi->b≠x.gc->u.heap[b]?=u0.heap[b]?
theorem Bx.a7(h:Bx w e u G x X c f g)(a:Ah u u d):Bx w e d G x X c f g:=⟨h.gK.a7 a,h.lo,h.up, λb i j k l=>by have:=h.gK.lt;have:=h.up;rw[a.block b oM];exact h.fr b i j k l⟩
theorem Bx.cells{a:Nat}{b c:J}(h:Bx w d u G x X a b c):u X=K ↑a/\u ⟨X,1,M⟩=K b/\u ⟨X,2,M⟩=K c:=⟨by rw[h.gK.cell];rfl,by rw[h.gK.cell];rfl,by rw[h.gK.cell];rfl⟩
theorem Bx.row{f:Y}{l B g i:Nat}{e:Aj}{xs:List J}{z m p:J}(h:Bx w f u G x X l m p)(E:Ab u B e k (sG g n c) n xs)(D:e≠85)(C: ↑f<=g\/g=x.gi\/g=x.gc):Bx w f (Aa u ⟨g,i,M⟩ z) G x X l m p:=by
 refine⟨h.gK.other (a:=⟨g,i,M⟩) (λr=> ?_) _,h.lo,h.up, λb t v y A=> ?_⟩
 . obtain⟨_,F,d⟩:=AD E;have j:=h.gK;unfold AC at j;have s:X=g:=r;rw[<-s,j]at d;(injection d with d);(injection d with _ d);exact D d.symm
 rw[lY u ⟨g,i,M⟩ b _ (by show b≠g;rcases C with q|q|q<;>omega)];exact h.fr b t v y A
theorem Bx.ne{f:Y}{i:J}(h:Bx w f u G x X c g i)(d:Gr w u G n x bad I C):X≠G:= λe=>by
 have a:=h.gK;have b:=d.gK;unfold AC at a b;rw[e,b]at a;injection a with a
 injection a with _ a
 exact absurd a dC
theorem Bx.im{d:Nat}(h:Bx w e u G x X d f g)(l:Gr w u G n x bad I C):Bx w e (Aa u ⟨G,8,M⟩ true) G x X d f g:=⟨h.gK.other (a:=⟨G,8,M⟩) (h.ne l) _,h.lo,h.up, λb i c j k=>by rw[lY u ⟨G,8,M⟩ b _ c];exact h.fr b i c j k⟩
theorem UI(n:Nat):(madeCells (Value.bool false).cells (n*1)).toList=bv (λ_=>false) n:=by rw[DX,Hv]
end Go.Proofs.YtmalfecapdmdbaaGreat
