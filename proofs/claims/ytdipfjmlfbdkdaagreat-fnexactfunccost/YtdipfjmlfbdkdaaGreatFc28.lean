import Derived.Test.YtdipfjmlfbdkdaaGreatFc26
namespace Go.Proofs.YtdipfjmlfbdkdaaGreat
open Go.ChangeShapes Go.WideShapes Go.ChangeAt Go.RowKit
set_option linter.unusedVariables false
def CG(L:List Int):Nat:=(L.map fun x=>(4294967296-x).toNat).sum
theorem On{L:List Int}{k:Nat}{x c:Int}(h:L[k]?=some x)(hx:x<c)(hc:c<=4294967295):CG (L.set k c)<CG L:=by
 induction L generalizing k with
 |nil=>cases h
 | cons y r ih=>
   cases k with
   | zero=>
     simp only[aM,aR]at h;subst h;simp only[CG,b7,cZ,List.sum_cons];omega
   | succ k=>
     simp only[aj]at h;have:=ih h;simp only[CG,bj,cZ,List.sum_cons]at this⊢;omega
def RD(x:Int):Prop:=-1<=x/\x<=4294967295
theorem Kh{C:List Int}{k:Nat}{c:Int}:(C.flatMap Ac).set k (iZ c)=(C.set k c).flatMap Ac:=by
 induction C generalizing k with
 |nil=>rfl
 | cons y r ih=>
   cases k with
   |zero=>rfl
   | succ k=>
     rw[bj,bT,bT];show Ac y++_=_;rw[<-ih];rfl
theorem ET{P:Int->Prop}{L:List Int}{k:Nat}{c:Int}(h:∀x∈L,P x)(hc:P c):∀x∈L.set k c,P x:=fun x hx=>by
 rcases dT hx with e|e
 . exact h x e
 . subst e
   exact hc
structure Wy(w u0 u:World)(G n:Nat)(x:GV)(bad:Bool)(I:List Nat)(C:List Int)(gn cn:Nat)(P:Nat->Bool)(gB:Nat)(L:List Int):Prop where
 gr:Gr w u G n x bad I C
 in_:u.ownsRow w.heap.size 4 1 (sG gn n cn) n (bv P n)
 own:u.ownsRow u0.heap.size 2 1 (sG gB n n) n (L.flatMap Ac)
 ll:L.length=n
 lb:∀y∈L,RD y
 lo:w.heap.size<=u0.heap.size/\G<u0.heap.size/\x.gi<u0.heap.size/\x.gc<u0.heap.size/\gn<u0.heap.size
 fr:∀b,b<u0.heap.size->b≠G->u.heap[b]?=u0.heap[b]?
section
variable {w u0 u:World} {G n:Nat} {x:GV} {bad:Bool} {I:List Nat} {C:List Int} {gn cn:Nat} {P:Nat->Bool} {gB:Nat} {L:List Int}
theorem Wy.bad_(h:Wy w u0 u G n x bad I C gn cn P gB L):Wy w u0 (u.setCell ⟨G,8,none⟩ (.bool true)) G n x true I C gn cn P gB L:=by
 have hgB:=(Am h.own).1;have hl:=h.lo;refine{h with gr:=h.gr.bad_,in_:=Bf h.in_ fun e=> ?_,own:=Bf h.own (by omega),fr:=fun b h1 h2=>by rw[bi u ⟨G,8,none⟩ b _ h2];exact h.fr b h1 h2};obtain⟨_,c1,e1⟩:=Am h.in_;have e3:=h.gr.blk;unfold Ak at e3;rw[e,e3]at e1;cases e1
theorem Wy.set(h:Wy w u0 u G n x bad I C gn cn P gB L)(k:Nat){c:Int}(hc:RD c):Wy w u0 (u.setCell ⟨gB,k,none⟩ (iZ c)) G n x bad I C gn cn P gB (L.set k c):=by
 have hgB:=(Am h.own).1;have hl:=h.lo;have hs:=(cT h.own k (iZ c)).1;rw[Kh]at hs;exact{h with gr:=h.gr.other (by omega) (by omega) (by omega) (by omega),in_:=Bf h.in_ (by omega),own:=hs,ll:=by rw[dZ];exact h.ll,lb:=ET h.lb hc,fr:=fun b h1 h2=>by rw[bi u ⟨gB,k,none⟩ b _ (by show b≠gB;omega)];exact h.fr b h1 h2}
theorem Wy.keep{u':World}(h:Wy w u0 u G n x bad I C gn cn P gB L)(hb:Below u.heap.size u u'):Wy w u0 u' G n x bad I C gn cn P gB L:=by
 have hfr:∀b,b<u0.heap.size->b≠G->u'.heap[b]?=u0.heap[b]?:=fun b h1 h2=>by
  obtain⟨h3,_,h4⟩:=Am h.own;have:=(aQ.1 h4).1;rw[hb.block b (by omega)];exact h.fr b h1 h2
 exact{h with gr:=h.gr.keep hb,in_:=Ag h.in_ hb lR,own:=Ag h.own hb lR,fr:=hfr}
theorem Wy.at_(h:Wy w u0 u G n x bad I C gn cn P gB L){k:Nat}(hk:k<n):∃y,L[k]?=some y/\RD y/\u.cell? ⟨gB,k,none⟩=some (iZ y)/\u.frozen? ⟨gB,k,none⟩=false:=by
 have hb':k<L.length:=by rw[h.ll];exact hk
 have:=cD h.own k (by omega);rw[Ew (aA hb')]at this;exact⟨_,aA hb',h.lb _ (bq hb'),this,h.own.frozenAt k⟩
theorem Wy.inAt(h:Wy w u0 u G n x bad I C gn cn P gB L){k:Nat}(hk:k<n):u.cell? ⟨gn,k,none⟩=some (.bool (P k)):=by
 have:=cD h.in_ k (by omega);rw[Hx _ _ _ hk]at this;exact this
end
def NF(u:World)(g n:Nat):Nat:=((List.range n).map fun i=>match u.cell? ⟨g,i,none⟩with|some (.int _ y)=>(4294967296-y).toNat|_=>0).sum
theorem Wy.rest{w u0 u:World}{G n:Nat}{x:GV}{bad:Bool}{I:List Nat}{C:List Int}{gn cn:Nat}{P:Nat->Bool}{gB:Nat}{L:List Int}(h:Wy w u0 u G n x bad I C gn cn P gB L):NF u gB n=CG L:=by
 unfold NF CG;congr 1
 apply cI;intro k;by_cases hk:k<n
 . obtain⟨y,h1,_,h3,_⟩:=h.at_ hk
   rw[bB,bB,h1,eF hk];simp only[dS,h3]
 . rw[aZ (by simp;omega),aZ (by rw[a7,h.ll];omega)]
def G6(a:Value):Nat:=match a with|.bool true=>1|_=>0
theorem Pr(n:Nat):(madeCells (Value.int .i64 0).cells (n*1)).toList=(List.replicate n (0:Int)).flatMap Ac:=by
 rw[Gf n (fun _=>[]) []];simp[A7,List.flatten_replicate_singleton];induction n with
 |zero=>rfl
 |succ n ih=>rw[du,du,bT,<-ih];rfl
end Go.Proofs.YtdipfjmlfbdkdaaGreat
