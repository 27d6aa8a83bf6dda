import Derived.Test.YtlejplpkomddeaaGreatR19
namespace Go.Proofs.YtlejplpkomddeaaGreat
open Go.ChangeShapes Go.WideShapes Go.ChangeAt Go.RowKit
set_option linter.unusedVariables false
structure BL(w U:World)(v:VP)(vm:VM)(x y:Nat)(V zl:Value)(zs:List MC)(C:List (Value×List MC)):Prop where
 args:En w U v vm
 st:Ap U x #[.int .i64 0,.bool false,.int .i64 0,.int .i64 0,V,.slice none 0 0,.slice (some ⟨y,0,none⟩) 1 1] 39
 fr:Ap U y #[.int .i64 0,.int .i64 0,.int .i64 0,zl] 123
 row:U.ownsRow w.heap.size 36 1 V C.length (C.flatMap CU)
 fam:Df U w.heap.size (C++[(zl,zs)])
 xge:w.heap.size+1+1<x
 yge:w.heap.size+1+1<y
theorem Df.keep{u u':World}{B:Nat}{L:List (Value×List MC)}(h:Df u B L)(hb:Below u.heap.size u u'):Df u' B L:=⟨fun r hr=>Ag (h.own r hr) hb (Nat.le_refl _),h.sep⟩
theorem BL.keep{w u u':World}{v:VP}{vm:VM}{x y:Nat}{V zl:Value}{zs:List MC}{C:List (Value×List MC)}(h:BL w u v vm x y V zl zs C)(hb:Below u.heap.size u u'):BL w u' v vm x y V zl zs C:=
 ⟨h.args.keep hb,h.st.keep hb,h.fr.keep hb,Ag h.row hb (Nat.le_refl _),h.fam.keep hb,h.xge,h.yge⟩
theorem Df.add{u u':World}{B:Nat}{C:List (Value×List MC)}{z:Value×List MC}{b:Value}{cb:List MC}(h:Df u B (C++[z]))(hb:Below u.heap.size u u')(hn:u'.ownsRow u.heap.size 128 2 b cb.length (cb.flatMap MC.cells))(hB:B<=u.heap.size):Df u' B (C++[(b,cb)]++[z]):=by
 have hap:∀r∈C++[z],Es (b,cb) r:=by
  intro r hr g hg e;have h1:=hn.lt g hg;have h2:=(h.own r hr).lt g e;omega
 refine⟨?_,?_⟩
 . intro r hr
   simp only[List.mem_append,List.mem_cons,List.not_mem_nil,or_false]at hr;rcases hr with(hr|rfl)|rfl
   . exact Ag (h.own r (by simp[hr])) hb (Nat.le_refl _)
   . exact Ea hn hB
   . exact Ag (h.own r (by simp)) hb (Nat.le_refl _)
 . have hs:=h.sep
   rw[List.pairwise_append]at hs;rw[List.append_assoc,List.pairwise_append];refine⟨hs.1,?_,?_⟩
   . simp only[List.cons_append,List.nil_append,List.pairwise_cons,List.mem_cons,List.not_mem_nil,or_false,forall_eq]
     exact⟨hap z (by simp),by simp,List.Pairwise.nil⟩
   . intro a ha r hr
     simp only[List.cons_append,List.nil_append,List.mem_cons,List.not_mem_nil,or_false]at hr;rcases hr with rfl|rfl
     . exact(hap a (by simp[ha])).symm
     . exact hs.2.2 a ha _ (by simp)
theorem Df.grown{u u':World}{B B' n:Nat}{L:List (Value×List MC)}{V:Value}{xs:List Value}(h:Df u B L)(hg:u.grownBy u' V.ownBlock)(ho:u.ownsRow B' 36 1 V n xs):Df u' B L:=⟨fun r hr=>Bn (h.own r hr) hg (fun g hg' e=>by
 obtain⟨cur,hc⟩:∃cur,u.heap[g]?=some (Obj.cells cur 128 (0,0)):=by
  rcases(h.own r hr).2 with⟨e1,_⟩|⟨g1,cap,cur,e1,_,hg1,_⟩
  . rw[e1]at hg';cases hg'
  . rw[e1]at hg';simp only[Value.ownBlock,Option.some.injEq]at hg';subst hg';exact⟨cur,hg1⟩
 exact AJ ho hc (by decide) g e.symm rfl),h.sep⟩
theorem Df.nil{u:World}{B:Nat}{C D:List (Value×List MC)}(h:Df u B (C++D)):Df u B (C++[((.slice none 0 0:Value),[])]++D):=by
 refine⟨?_,?_⟩
 . intro r hr
   simp only[List.mem_append,List.mem_cons,List.not_mem_nil,or_false]at hr;rcases hr with(hr|rfl)|hr
   . exact h.own r (by simp[hr])
   . exact World.ownsRow_nil _ _ _ _
   . exact h.own r (by simp[hr])
 . have hs:=h.sep
   rw[List.pairwise_append]at hs;rw[List.append_assoc,List.pairwise_append];refine⟨hs.1,?_,?_⟩
   . simp only[List.cons_append,List.nil_append,List.pairwise_cons]
     exact⟨fun a _ g hg=>(by cases hg),hs.2.1⟩
   . intro a ha r hr
     simp only[List.cons_append,List.nil_append,List.mem_cons]at hr;rcases hr with rfl|hr
     . exact fun g hg e=>by cases e
     . exact hs.2.2 a ha _ hr
theorem En.grown{w u u':World}{v:VP}{vm:VM}{n:Nat}{V:Value}{xs:List Value}(h:En w u v vm)(hg:u.grownBy u' V.ownBlock)(ho:u.ownsRow w.heap.size 36 1 V n xs):En w u' v vm:=
 ⟨h.pb.grown hg ho (by decide),h.mb.grown hg ho (by decide),h.rb.grown hg ho (by decide),h.bel.grown hg h.bel.size (fun j hj=>(ho.lt j hj).1)⟩
theorem BL.next{w u u':World}{v:VP}{vm:VM}{x y n:Nat}{V V' zl b:Value}{zs cb:List MC}{C:List (Value×List MC)}(h:BL w u v vm x y V zl zs C)(hf:Df u w.heap.size (C++[(b,cb)]++[(zl,zs)]))(hg:u.grownBy u' V.ownBlock)(ho:u'.ownsRow w.heap.size 36 1 V' n (C.flatMap CU++[b]))(hn:n=C.length+1):BL w (u'.setCell ⟨x,4,none⟩ V') v vm x y V' zl zs (C++[(b,cb)]):=by
 have st:=h.st.grown hg h.row (by decide);have fr:=h.fr.grown hg h.row (by decide);refine⟨(h.args.grown hg h.row).set h.xge 4 V',st.set 4 V',fr.other (a:=⟨x,4,none⟩) (Nn st fr (by decide)) V',?_,(hf.grown hg h.row).setSt st 4 V',h.xge,h.yge⟩;rw[List.length_append,List.length_singleton,<-hn,List.flatMap_append];exact DA ho st (by decide) 4 V'
theorem BL.of{w u:World}{v:VP}{vm:VM}{zl:Value}{zs:List MC}(h:En w u v vm)(hz:u.ownsRow w.heap.size 128 2 zl zs.length (zs.flatMap MC.cells)):BL w ((u.alloc (.cells #[.int .i64 0,.int .i64 0,.int .i64 0,zl] 123)).alloc (.cells #[.int .i64 0,.bool false,.int .i64 0,.int .i64 0,.slice none 0 0,.slice none 0 0,.slice (some ⟨u.heap.size,0,none⟩) 1 1] 39)) v vm (u.heap.size+1) u.heap.size (.slice none 0 0) zl zs []:=by
 have b1:=Aa u (.cells #[.int .i64 0,.int .i64 0,.int .i64 0,zl] 123);have k1:=Ap.new u #[.int .i64 0,.int .i64 0,.int .i64 0,zl] 123;generalize hU1:u.alloc (.cells #[.int .i64 0,.int .i64 0,.int .i64 0,zl] 123)=U1 at b1 k1⊢;have z1:U1.heap.size=u.heap.size+1:=by rw[<-hU1];simp
 have b2:=Aa U1 (.cells #[.int .i64 0,.bool false,.int .i64 0,.int .i64 0,.slice none 0 0,.slice none 0 0,.slice (some ⟨u.heap.size,0,none⟩) 1 1] 39);have k2:=Ap.new U1 #[.int .i64 0,.bool false,.int .i64 0,.int .i64 0,.slice none 0 0,.slice none 0 0,.slice (some ⟨u.heap.size,0,none⟩) 1 1] 39;rw[z1]at k2;have hl:=h.lt;refine⟨(h.keep b1).keep b2,k2,k1.keep b2,World.ownsRow_nil _ _ _ _,⟨?_,by simp⟩,by omega,hl⟩;intro r hr;simp only[List.nil_append,List.mem_cons,List.not_mem_nil,or_false]at hr;subst hr;exact Ag (Ag hz b1 (Nat.le_refl _)) b2 (Nat.le_refl _)
theorem BL.own{w U:World}{v:VP}{vm:VM}{x y:Nat}{V zl:Value}{zs:List MC}{C:List (Value×List MC)}(h:BL w U v vm x y V zl zs C):Ah U w.heap.size ⟨V,.slice none 0 0,.slice (some ⟨y,0,none⟩) 1 1⟩ C [] [(⟨0,0,0,zs⟩,zl)]:=
 ⟨h.row,⟨rfl,.inr ⟨y,1,_,rfl,by have:=h.yge;omega,h.fr,Nat.le_refl _,by unfold maxLen;omega,rfl,rfl⟩⟩,Df.nil h.fam⟩
theorem Fw(w:World)(B:Nat):Ah w B ⟨.slice none 0 0,.slice none 0 0,.slice none 0 0⟩ [] [] []:=⟨World.ownsRow_nil _ _ _ _,World.ownsRow_nil _ _ _ _,Df.nil (C:=[]) (D:=[]) ⟨fun r hr=>(by cases hr),List.Pairwise.nil⟩⟩
end Go.Proofs.YtlejplpkomddeaaGreat
