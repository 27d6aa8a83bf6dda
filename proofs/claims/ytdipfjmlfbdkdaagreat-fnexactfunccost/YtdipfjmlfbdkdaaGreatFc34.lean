import Derived.Test.YtdipfjmlfbdkdaaGreatFc28
namespace Go.Proofs.YtdipfjmlfbdkdaaGreat
open Go.ChangeShapes Go.WideShapes Go.ChangeAt Go.RowKit
set_option linter.unusedVariables false
theorem Pl{I:List Nat}{k y:Nat}:(nv I).set k (iZ (y:Int))=nv (I.set k y):=by
 unfold nv;rw[List.map_set]
theorem Gr.setI{w u:World}{G n:Nat}{x:GV}{bad:Bool}{I:List Nat}{C:List Int}(h:Gr w u G n x bad I C)(k:Nat){y:Nat}(hy:y<n):Gr w (u.setCell ⟨x.gi,k,none⟩ (iZ (y:Int))) G n x bad (I.set k y) C:=by
 have hs:=(cT h.is_ k (iZ (y:Int))).1;rw[Pl]at hs
 have hib:∀z∈I.set k y,z<n:=fun z hz=>by
  rcases dT hz with e|e
  . exact h.ib z e
  . subst e
    exact hy
 exact{h with blk:=h.blk.other (a:=⟨x.gi,k,none⟩) (fun e=>h.gi_ne.1 e.symm) _,is_:=hs,cost:=Bf h.cost h.ne.symm,bel:=h.bel.setCell (Am h.is_).1 _,il:=by rw[dZ];exact h.il,ib:=hib}
theorem Gr.setC{w u:World}{G n:Nat}{x:GV}{bad:Bool}{I:List Nat}{C:List Int}(h:Gr w u G n x bad I C)(k:Nat){y:Int}(hy:CW y):Gr w (u.setCell ⟨x.gc,k,none⟩ (iZ y)) G n x bad I (C.set k y):=by
 have hs:=(cT h.cost k (iZ y)).1;rw[Kh]at hs;exact{h with blk:=h.blk.other (a:=⟨x.gc,k,none⟩) (fun e=>h.gi_ne.2 e.symm) _,is_:=Bf h.is_ h.ne,cost:=hs,bel:=h.bel.setCell (Am h.cost).1 _,cl:=by rw[dZ];exact h.cl,cb:=ET h.cb hy}
structure Bx(w u0 u:World)(G:Nat)(x:GV)(X hd:Nat)(vb vk:Value):Prop where
 blk:Ak u X #[iZ (hd:Int),vb,vk] 68
 lo:w.heap.size<=X
 up:u0.heap.size<=X
 fr:∀b,b<u0.heap.size->b≠G->b≠x.gi->b≠x.gc->u.heap[b]?=u0.heap[b]?
theorem Bx.keep{w u0 u u':World}{G X hd:Nat}{x:GV}{vb vk:Value}(h:Bx w u0 u G x X hd vb vk)(hb:Below u.heap.size u u'):Bx w u0 u' G x X hd vb vk:=⟨h.blk.keep hb,h.lo,h.up,fun b h1 h2 h3 h4=>by have:=h.blk.lt;have:=h.up;rw[hb.block b (by omega)];exact h.fr b h1 h2 h3 h4⟩
theorem Bx.cells{w u0 u:World}{G X hd:Nat}{x:GV}{vb vk:Value}(h:Bx w u0 u G x X hd vb vk):u.cell? ⟨X,0,none⟩=some (iZ (hd:Int))/\u.cell? ⟨X,1,none⟩=some vb/\u.cell? ⟨X,2,none⟩=some vk:=⟨by rw[h.blk.cell];rfl,by rw[h.blk.cell];rfl,by rw[h.blk.cell];rfl⟩
theorem Bx.row{w u0 u:World}{G X hd B g k n c i:Nat}{x:GV}{e:TypeId}{xs:List Value}{z vb vk:Value}(h:Bx w u0 u G x X hd vb vk)(ho:u.ownsRow B e k (sG g n c) n xs)(hne:e≠68)(hg:u0.heap.size<=g\/g=x.gi\/g=x.gc):Bx w u0 (u.setCell ⟨g,i,none⟩ z) G x X hd vb vk:=by
 refine⟨h.blk.other (a:=⟨g,i,none⟩) (fun e'=> ?_) _,h.lo,h.up,fun b h1 h2 h3 h4=> ?_⟩
 . obtain⟨_,cur,e1⟩:=Am ho
   have e3:=h.blk;unfold Ak at e3;have e4:X=g:=e';rw[<-e4,e3]at e1;injection e1 with e1
   injection e1 with _ e1
   exact hne e1.symm
 . rw[bi u ⟨g,i,none⟩ b _ (by show b≠g;rcases hg with q|q|q<;>omega)]
   exact h.fr b h1 h2 h3 h4
theorem Bx.ne{w u0 u:World}{X hd G n:Nat}{vb vk:Value}{x:GV}{bad:Bool}{I:List Nat}{C:List Int}(h:Bx w u0 u G x X hd vb vk)(hg:Gr w u G n x bad I C):X≠G:=fun e=>by
 have e1:=h.blk;have e2:=hg.blk;unfold Ak at e1 e2;rw[e,e2]at e1;injection e1 with e1
 injection e1 with _ e1
 exact absurd e1 (by decide)
theorem Bx.bad_{w u0 u:World}{X hd G n:Nat}{vb vk:Value}{x:GV}{bad:Bool}{I:List Nat}{C:List Int}(h:Bx w u0 u G x X hd vb vk)(hg:Gr w u G n x bad I C):Bx w u0 (u.setCell ⟨G,8,none⟩ (.bool true)) G x X hd vb vk:=⟨h.blk.other (a:=⟨G,8,none⟩) (h.ne hg) _,h.lo,h.up,fun b h1 h2 h3 h4=>by rw[bi u ⟨G,8,none⟩ b _ h2];exact h.fr b h1 h2 h3 h4⟩
theorem Pq(n:Nat):(madeCells (Value.bool false).cells (n*1)).toList=bv (fun _=>false) n:=by rw[CQ,Fc]
end Go.Proofs.YtdipfjmlfbdkdaaGreat
