import Derived.Test.YtdipfjmlfbdkdaaGreatFc34
import Derived.Test.YtdipfjmlfbdkdaaGreatFc29
namespace Go.Proofs.YtdipfjmlfbdkdaaGreat
open Go.ChangeShapes Go.WideShapes Go.ChangeAt Go.RowKit
set_option linter.unusedVariables false
structure Gp(w u:World)(G:Nat)(fc fa:Int)(vb vo vi vl vI vC:Value)(bad:Bool)(I:List Nat)(C:List Int):Prop where
 blk:Ak u G #[iZ fc,iZ fa,vb,vo,vi,vl,vI,vC,.bool bad] 56
 lo:w.heap.size<=G
 is_:u.ownsRow w.heap.size 2 1 vI I.length (nv I)
 cost:u.ownsRow w.heap.size 2 1 vC C.length (C.flatMap Ac)
 ne:∀b,vI.ownBlock=some b->vC.ownBlock=some b->False
 bel:Below w.heap.size w u
 cb:∀y∈C,CW y
section
variable {w u u':World} {G:Nat} {fc fa:Int} {vb vo vi vl vI vC:Value} {bad:Bool} {I:List Nat} {C:List Int}
theorem Gp.keep(h:Gp w u G fc fa vb vo vi vl vI vC bad I C)(hb:Below u.heap.size u u'):Gp w u' G fc fa vb vo vi vl vI vC bad I C:={h with blk:=h.blk.keep hb,is_:=Ag h.is_ hb lR,cost:=Ag h.cost hb lR,bel:=Ab h.bel lR hb}
theorem Gp.bad_(h:Gp w u G fc fa vb vo vi vl vI vC bad I C):Gp w (u.setCell ⟨G,8,none⟩ (.bool true)) G fc fa vb vo vi vl vI vC true I C:=
 {h with blk:=by have:=h.blk.set 8 (.bool true);simpa using this,is_:=aP h.is_ (a:=⟨G,8,none⟩) (fun q=>Bc h.is_ h.blk (by decide) _ q rfl) _,cost:=aP h.cost (a:=⟨G,8,none⟩) (fun q=>Bc h.cost h.blk (by decide) _ q rfl) _,bel:=h.bel.setCell h.lo _}
theorem Gp.cells(h:Gp w u G fc fa vb vo vi vl vI vC bad I C):u.cell? ⟨G,6,none⟩=some vI/\u.cell? ⟨G,7,none⟩=some vC/\u.cell? ⟨G,8,none⟩=some (.bool bad)/\∀i,u.frozen? ⟨G,i,none⟩=false:=
 ⟨by rw[h.blk.cell];rfl,by rw[h.blk.cell];rfl,by rw[h.blk.cell];rfl,h.blk.frozen⟩
theorem Gh{B k n:Nat}{e:TypeId}{s:Value}{xs:List Value}{o:Option Nat}(h:u.ownsRow B e k s n xs)(hg:u.grownBy u' o)(hne:∀b,s.ownBlock=some b->some b≠o):u'.ownsRow B e k s n xs:=by
 refine⟨h.1,?_⟩;rcases h.2 with h|⟨g,cap,cur,e1,hb1,hgg,hr⟩
 . exact .inl h
 . refine .inr ⟨g,cap,cur,e1,hb1,?_,hr⟩
   rw[hg.block g (aQ.1 hgg).1 (hne g (by rw[e1];rfl))];exact hgg
theorem ND{B k n b:Nat}{e:TypeId}{s:Value}{xs:List Value}(h:u.ownsRow B e k s n xs)(hb:s.ownBlock=some b):b<u.heap.size:=(h.lt b hb).2
theorem Gp.push_I(h:Gp w u G fc fa vb vo vi vl vI vC bad I C)(b:Nat)(V:Value)(ho:u'.ownsRow w.heap.size 2 1 V (I.length+1) (nv I++[iZ (b:Int)]))(hg:u.grownBy u' vI.ownBlock)(hat:V.ownBlock=vI.ownBlock\/V.ownBlock=some u.heap.size):Gp w (u'.setCell ⟨G,6,none⟩ V) G fc fa vb vo vi vl V vC bad (I++[b]) C/\u'.cell? ⟨G,6,none⟩=some vI/\u'.frozen? ⟨G,6,none⟩=false:=by
 have hb':Ak u' G _ _:=h.blk.grown hg h.is_ (by decide);have hc':u'.ownsRow w.heap.size 2 1 vC C.length (C.flatMap Ac):=Gh h.cost hg (fun b hb q=>h.ne b q.symm hb);refine⟨⟨by have:=hb'.set 6 V;simpa using this,h.lo,?_,aP hc' (a:=⟨G,6,none⟩) (fun q=>Bc hc' hb' (by decide) _ q rfl) _,fun b h1 h2=> ?_,((h.bel.grown hg h.bel.size (fun j hj=>(h.is_.lt j hj).1)).setCell h.lo _),h.cb⟩,by rw[hb'.cell];rfl,hb'.frozen 6⟩
 . have:=aP ho (a:=⟨G,6,none⟩) (fun q=>Bc ho hb' (by decide) _ q rfl) V
   rw[aH,aI,DC];exact this
 . rcases hat with e|e
   . exact h.ne b (e▸h1) h2
   . rw[e]at h1
     have:=ND h.cost h2;simp only[aR]at h1;omega
theorem Gp.push_C(h:Gp w u G fc fa vb vo vi vl vI vC bad I C){c:Int}(hc:CW c)(V:Value)(ho:u'.ownsRow w.heap.size 2 1 V (C.length+1) (C.flatMap Ac++[iZ c]))(hg:u.grownBy u' vC.ownBlock)(hat:V.ownBlock=vC.ownBlock\/V.ownBlock=some u.heap.size):Gp w (u'.setCell ⟨G,7,none⟩ V) G fc fa vb vo vi vl vI V bad I (C++[c])/\u'.cell? ⟨G,7,none⟩=some vC/\u'.frozen? ⟨G,7,none⟩=false:=by
 have hb':Ak u' G _ _:=h.blk.grown hg h.cost (by decide);have hc':u'.ownsRow w.heap.size 2 1 vI I.length (nv I):=Gh h.is_ hg (fun b hb q=>h.ne b hb q.symm);refine⟨⟨by have:=hb'.set 7 V;simpa using this,h.lo,aP hc' (a:=⟨G,7,none⟩) (fun q=>Bc hc' hb' (by decide) _ q rfl) _,?_,fun b h1 h2=> ?_,((h.bel.grown hg h.bel.size (fun j hj=>(h.cost.lt j hj).1)).setCell h.lo _),fun y hy=> ?_⟩,by rw[hb'.cell];rfl,hb'.frozen 7⟩
 . have:=aP ho (a:=⟨G,7,none⟩) (fun q=>Bc ho hb' (by decide) _ q rfl) V
   rw[aH,aI,bP];exact this
 . rcases hat with e|e
   . exact h.ne b h1 (e▸h2)
   . rw[e]at h2
     have:=ND h.is_ h1;simp only[aR]at h2;omega
 . rcases aU.1 hy with e|e
   . exact h.cb y e
   . rw[dU.1 e]
     exact hc
theorem Gp.gr{n gb ob cb go oo co:Nat}(h:Gp w u G fc fa (sO gb ob n cb) (sO go oo n co) vi vl vI vC bad (List.range n) C)(hl:C.length=n)(hn:0<n):∃gi ci gc cc,Gr w u G n ⟨fc,fa,gb,ob,cb,go,oo,co,vi,vl,gi,ci,gc,cc⟩ bad (List.range n) C:=by
 have h1:=h.is_;have h2:=h.cost;rw[bo]at h1;rw[hl]at h2;rcases Bv h1 with⟨_,e⟩|⟨gi,ci,e1⟩
 . omega
 rcases Bv h2 with⟨_,e⟩|⟨gc,cc,e2⟩
 . omega
 subst e1 e2;exact⟨gi,ci,gc,cc,h.blk,h.lo,h1,h2,fun e=>h.ne gi rfl (by simp only[]at e;rw[e];rfl),h.bel,bo,fun y hy=>br.1 hy,hl,h.cb⟩
end
end Go.Proofs.YtdipfjmlfbdkdaaGreat
