import Derived.Test.YtdipfjmlfbdkdaaGreatFc38
import Derived.Test.YtdipfjmlfbdkdaaGreatFc36
namespace Go.Proofs.YtdipfjmlfbdkdaaGreat
open Go.ChangeShapes Go.WideShapes Go.ChangeAt Go.RowKit
set_option linter.unusedVariables false
set_option maxRecDepth 100000
theorem Kl(k:Nat)(hk:k<30):∃(s:ByteArray) (c f:Int),(Bj k).toArray=#[.string s,.int .i64 c,.int .i64 f]/\0<=c/\c<=4294967295:=by
 have h:k=0\/k=1\/k=2\/k=3\/k=4\/k=5\/k=6\/k=7\/k=8\/k=9\/k=10\/k=11\/k=12\/k=13\/k=14\/k=15\/k=16\/k=17\/k=18\/k=19\/k=20\/k=21\/k=22\/k=23\/k=24\/k=25\/k=26\/k=27\/k=28\/k=29:=by omega
 clear hk;rcases h with rfl|rfl|rfl|rfl|rfl|rfl|rfl|rfl|rfl|rfl|rfl|rfl|rfl|rfl|rfl|rfl|rfl|rfl|rfl|rfl|rfl|rfl|rfl|rfl|rfl|rfl|rfl|rfl|rfl|rfl<;>exact⟨_,_,_,rfl,by decide,by decide⟩
theorem CY(op:Int):∃(s:ByteArray) (c f:Int),BO op=#[.string s,.int .i64 c,.int .i64 f]/\CW c:=by
 by_cases h:0<=op/\op<=29
 . unfold BO
   rw[a8 h];exact Kl _ (by omega)
 . unfold BO
   rw[bF h];exact⟨_,_,_,rfl,by decide,by decide⟩
theorem GW(s:ByteArray)(c f:Int)(w:World):(Instr.field 63 (.agg #[.string s,.int .i64 c,.int .i64 f]) 1).run Tryz.prog w=.ok (.int .i64 c) w:=by kernel_rfl
theorem Nw{v:Value}{g n c H:Nat}(h:v.ownBlock=some g\/g=H):(Value.slice (some ⟨g,0,none⟩) n c).ownBlock=v.ownBlock\/(Value.slice (some ⟨g,0,none⟩) n c).ownBlock=some H:=by
 rcases h with e|e
 . exact .inl e.symm
 . exact .inr (by rw[e];rfl)
theorem OZ{l:List Int}{n:Nat}(h:∀z∈l,∃b:Nat,z=(b:Int)/\b<n):ints (l.map Int.toNat)=l:=by
 induction l with
 |nil=>rfl
 | cons x r ih=>
   obtain⟨b,e,_⟩:=h x (by simp);have:=ih fun z hz=>h z (by simp[hz])
   unfold ints at this⊢;rw[cZ,cZ,this,e];rfl
theorem QY{w:World}{v:Value}{l:List Int}{n:Nat}(h:Rd w 1 v l.length (l.flatMap Ac))(hb:∀z∈l,∃b:Nat,z=(b:Int)/\b<n):DR w v (l.map Int.toNat):=by
 unfold DR;rw[a7,Ck,OZ hb];exact h
theorem Q4{l:List Int}{n:Nat}(h:∀z∈l,∃b:Nat,z=(b:Int)/\b<n):∀y∈l.map Int.toNat,y<n:=fun y hy=>by
 obtain⟨z,hz,e⟩:=au.1 hy;obtain⟨b,e',hb⟩:=h z hz;omega
theorem QW{u u':World}{B k n:Nat}{e:TypeId}{s:Value}{xs:List Value}(h:u.ownsRow B e k s n xs)(hf:∀b,s.ownBlock=some b->u'.heap[b]?=u.heap[b]?):u'.ownsRow B e k s n xs:=by
 refine⟨h.1,?_⟩;rcases h.2 with h|⟨g,cap,cur,e1,hb1,hgg,hr⟩
 . exact .inl h
 . exact .inr ⟨g,cap,cur,e1,hb1,by rw[hf g (by rw[e1];rfl)];exact hgg,hr⟩
theorem Fj.fr{w u u':World}{V:Value}{n m G:Nat}{ys zs:List (ML×Value×Value)}{x:GV}{bad:Bool}{I:List Nat}{C:List Int}(h:Fj w u V n ys zs)(hg:Gr w u G m x bad I C)(hb:Below w.heap.size w u')(hf:∀b,b<u.heap.size->b≠G->b≠x.gi->b≠x.gc->u'.heap[b]?=u.heap[b]?):Fj w u' V n ys zs:=by
 refine⟨QW h.own fun b hbb=> ?_,h.len,h.sub,hb⟩;have hlt:=(h.own.lt b hbb).2
 have key:∀(B' k' n' c' g':Nat) (xs':List Value),u.ownsRow B' 2 k' (.slice (some ⟨g',0,none⟩) n' c') n' xs'->b≠g':=fun B' k' n' c' g' xs' ho e=>by
  subst e;obtain⟨_,cur,e1⟩:=Am ho;rcases h.own.2 with⟨e0,_⟩|⟨g,cap,cur',e0,_,hgg,_⟩
  . rw[e0]at hbb
    cases hbb
  . rw[e0]at hbb
    simp only[Value.ownBlock,aR]at hbb;subst hbb;rw[e1]at hgg;injection hgg with q
    injection q with _ q
    exact absurd q (by decide)
 refine hf b hlt (fun e=> ?_) (key _ _ _ _ _ _ hg.is_) (key _ _ _ _ _ _ hg.cost);subst e;have e1:=hg.blk;unfold Ak at e1;rcases h.own.2 with⟨e0,_⟩|⟨g,cap,cur',e0,_,hgg,_⟩
 . rw[e0]at hbb
   cases hbb
 . rw[e0]at hbb
   simp only[Value.ownBlock,aR]at hbb;subst hbb;rw[e1]at hgg;injection hgg with q
   injection q with _ q
   exact absurd q (by decide)
theorem Fj.same{w u u':World}{g n c:Nat}{ys zs:List (ML×Value×Value)}(h:Fj w u (.slice (some ⟨g,0,none⟩) n c) n ys zs)(h':Fj w u' (.slice (some ⟨g,0,none⟩) n c) n ys zs)(j:Nat)(hj:j<n*3):u'.cell? ⟨g,j,none⟩=u.cell? ⟨g,j,none⟩:=by
 rw[cD h.own j hj,cD h'.own j hj]
structure FcR(w w1:World)(v:VP)(p:MP)(f:MF)(gc:Value)(FB:Nat)(r:Dm)(z1 z2 z3 z4:Value)(cv:Value)(costs:List Int):Prop where
 pb:Ak w1 w.heap.size #[v.r,v.k,v.f,v.t] 35
 fb:Ak w1 FB #[.int .i64 r.code,.int .i64 r.at_,z1,z2,z3,z4] 52
 rf:Ey w1 z1 z2 z3 z4 r
 rp:Dg w1 v p
 rc:Rd w1 4 gc f.code.length (f.code.flatMap MI.cells)
 cs:Rd w1 1 cv costs.length (costs.flatMap Ac)
 bel:Below w.heap.size w w1
end Go.Proofs.YtdipfjmlfbdkdaaGreat
