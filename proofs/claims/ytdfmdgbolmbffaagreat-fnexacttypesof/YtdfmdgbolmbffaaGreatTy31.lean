import Derived.Test.YtdfmdgbolmbffaaGreatTy29
namespace Go.Proofs.YtdfmdgbolmbffaaGreat
open Go.ChangeShapes Go.WideShapes Go.ChangeAt Go.RowKit
set_option linter.unusedVariables false
theorem Fam.grow{w w':World}{base g:Nat}{A B:List (Value×List Int)}{V V':Value}{l l':List Int}(h:Fam w base (A++(V,l)::B))(ho:w'.ownsRow base 2 1 V' l'.length (l'.flatMap intCell))(hV:V'.ownBlock=some g)(hg:w.grownBy w' V.ownBlock)(hat:V.ownBlock=some g\/w.heap.size<=g):Fam w' base (A++(V',l')::B):=by
  obtain⟨pA,pB,pAB⟩:=List.pairwise_append.1 h.sep
  obtain⟨pv,pB'⟩:=List.pairwise_cons.1 pB
  have hsep:∀x:Value×List Int,x∈A++(V,l)::B->Apart x (V,l)->Apart x (V',l'):=fun x hx ha gg hgg e=>by
    rw[hV]at e
    have e:=Option.some.inj e
    subst e
    rcases hat with h1|h1
    . exact ha _ hgg h1
    . have:=((h.own x hx).lt _ hgg).2
      omega
  refine⟨fun x hx=> ?_,List.pairwise_append.2 ⟨pA,List.pairwise_cons.2 ⟨fun y hy=>(hsep y (by simp[hy]) (pv y hy).symm).symm,pB'⟩,fun a ha b hb=> ?_⟩⟩
  . rcases List.mem_append.1 hx with hx|hx
    . exact own_apart' (h.own x (List.mem_append.2 (.inl hx))) hg (fun g hgx e=>pAB x hx (V,l) (by simp) g hgx e.symm)
    . rcases List.mem_cons.1 hx with rfl|hx
      . exact ho
      . exact own_apart' (h.own x (List.mem_append.2 (.inr (List.mem_cons_of_mem _ hx)))) hg (fun g hgx e=>pv x hx g e.symm hgx)
  . rcases List.mem_cons.1 hb with rfl|hb
    . exact hsep a (by simp[ha]) (pAB a ha (V,l) (by simp))
    . exact pAB a ha b (List.mem_cons_of_mem _ hb)
theorem Fam.keepB{u u':World}{B:Nat}{L:List (Value×List Int)}(h:Fam u B L)(hb:Below u.heap.size u u'):Fam u' B L:=⟨fun r hr=>own_keep (h.own r hr) hb (Nat.le_refl _),h.sep⟩
theorem Fam.join{u u':World}{B:Nat}{L:List (Value×List Int)}{b:Value}{cb:List Int}(h:Fam u B L)(hb:Below u.heap.size u u')(hn:u'.ownsRow u.heap.size 2 1 b cb.length (cb.flatMap intCell))(hB:B<=u.heap.size):Fam u' B (L++[(b,cb)]):=by
  refine⟨fun x hx=> ?_,List.pairwise_append.2 ⟨h.sep,by simp,fun a ha c hc g hg e=> ?_⟩⟩
  . rcases List.mem_append.1 hx with hx|hx
    . exact own_keep (h.own x hx) hb (Nat.le_refl _)
    . simp only[List.mem_cons,List.not_mem_nil,or_false]at hx
      subst hx
      exact own_lower hn hB
  . simp only[List.mem_cons,List.not_mem_nil,or_false]at hc
    subst hc
    have h1:=((h.own a ha).lt g hg).2
    have h2:=(hn.lt g e).1
    omega
theorem Fam.join2{u u':World}{B:Nat}{L:List (Value×List Int)}{b c:Value}{cb cc:List Int}(h:Fam u B L)(hb:Below u.heap.size u u')(hn:u'.ownsRow u.heap.size 2 1 b cb.length (cb.flatMap intCell))(hm:u'.ownsRow u.heap.size 2 1 c cc.length (cc.flatMap intCell))(hne:∀g,b.ownBlock=some g->c.ownBlock≠some g)(hB:B<=u.heap.size):Fam u' B (L++[(b,cb),(c,cc)]):=by
  refine⟨fun x hx=> ?_,List.pairwise_append.2 ⟨h.sep,by simpa[Apart]using hne,fun a ha y hy g hg e=> ?_⟩⟩
  . rcases List.mem_append.1 hx with hx|hx
    . exact own_keep (h.own x hx) hb (Nat.le_refl _)
    . simp only[List.mem_cons,List.not_mem_nil,or_false]at hx
      rcases hx with rfl|rfl
      . exact own_lower hn hB
      . exact own_lower hm hB
  . simp only[List.mem_cons,List.not_mem_nil,or_false]at hy
    have h1:=((h.own a ha).lt g hg).2
    rcases hy with rfl|rfl
    . have h2:=(hn.lt g e).1
      omega
    . have h2:=(hm.lt g e).1
      omega
theorem Fam.other{w:World}{base b:Nat}{L:List (Value×List Int)}{cur:Array Value}{t:TypeId}(h:Fam w base L)(hb:Blk w b cur t)(hne:2≠t)(i:Nat)(x:Value):Fam (w.setCell ⟨b,i,none⟩ x) base L:=h.set hb hne i x
theorem Fam.grown_other{w w':World}{base B k m:Nat}{L:List (Value×List Int)}{v:Value}{e:TypeId}{bs:List Value}(h:Fam w base L)(hg:w.grownBy w' v.ownBlock)(ho:w.ownsRow B e k v m bs)(hne:2≠e):Fam w' base L:=⟨fun x hx=>own_grown (h.own x hx) hg ho hne,h.sep⟩
def lCells(x:ML×Value×Value):List Value:=[.int .i64 x.1.head,x.2.1,x.2.2]
def RdL(w:World)(x:ML×Value×Value):Prop:=Rd w 1 x.2.1 x.1.back.length (x.1.back.flatMap intCell)/\Rd w 1 x.2.2 x.1.blocks.length (x.1.blocks.flatMap intCell)
def RdLs(w:World)(s:Value)(ls:List ML):Prop:=∃ys:List (ML×Value×Value),ys.map Prod.fst=ls/\Rd w 3 s ls.length (ys.flatMap lCells)/\∀y∈ys,RdL w y
theorem RdLs.keep{w w':World}{s:Value}{ls:List ML}(h:RdLs w s ls){B:Nat}(hb:Below B w w')(hB:w.heap.size<=B):RdLs w' s ls:=by
  obtain⟨ys,h1,h2,h3⟩:=h
  exact⟨ys,h1,h2.keep hb hB,fun y hy=>⟨(h3 y hy).1.keep hb hB,(h3 y hy).2.keep hb hB⟩⟩
theorem RdLs.nil(w:World):RdLs w (.slice none 0 0) []:=⟨[],rfl,⟨rfl,.inl ⟨rfl,_,_,rfl⟩⟩,fun y hy=>by cases hy⟩
def lrows(ys:List (ML×Value×Value)):List (Value×List Int):=ys.flatMap fun y=>[(y.2.1,y.1.back),(y.2.2,y.1.blocks)]
def iv(f:Nat->Nat)(n:Nat):List Value:=(List.range n).map fun i=>Value.int .i64 (f i:Int)
theorem iv_length(f:Nat->Nat)(n:Nat):(iv f n).length=n:=by simp[iv]
theorem iv_at(f:Nat->Nat)(n i:Nat)(h:i<n):(iv f n)[i]?=some (.int .i64 (f i:Int)):=by simp[iv,h]
theorem iv_set{f g:Nat->Nat}{n i x:Nat}(h:∀j,j<n->g j=if j=i then x else f j):(iv f n).set i (.int .i64 (x:Int))=iv g n:=by
  apply List.ext_getElem?
  intro j
  by_cases hj:j<n
  . rw[iv_at _ _ _ hj,h j hj]
    by_cases e:j=i
    . subst e
      rw[List.getElem?_set_self (by rw[iv_length];exact hj),if_pos rfl]
    . rw[List.getElem?_set_ne (by omega),iv_at _ _ _ hj,if_neg e]
  . rw[List.getElem?_eq_none (by simp[iv_length];omega),List.getElem?_eq_none (by rw[iv_length];omega)]
theorem iv_zero(n:Nat):(madeCells (Value.int .i64 0).cells (n*1)).toList=iv (fun _=>0) n:=by
  rw[made_int n (fun _=>[]) []]
  simp[flatTo,iv,List.flatten_replicate_singleton]
  apply List.ext_getElem?
  intro j
  by_cases hj:j<n
  . simp[hj]
  . rw[List.getElem?_eq_none (by simp;omega),List.getElem?_eq_none (by simp;omega)]
def plTo(O:List Nat)(k x:Nat):Nat:=if(O.reverse.take k).contains x then plO O x else 0
theorem plTo_zero(O:List Nat):plTo O 0=fun _=>0:=by funext x;simp[plTo]
theorem plTo_all(O:List Nat)(x:Nat)(h:x∈O):plTo O O.length x=plO O x:=by
  unfold plTo
  rw[List.take_of_length_le (by simp),if_pos (by simpa using h)]
theorem plTo_next{O:List Nat}(hd:O.Nodup){k x:Nat}(hx:O.reverse[k]?=some x)(n:Nat):∀j,j<n->plTo O (k+1) j=if j=x then k else plTo O k j:=fun j _=>by
  obtain⟨hlt,e⟩:=List.getElem?_eq_some_iff.1 hx
  have hd':O.reverse.Nodup:=List.pairwise_reverse.2 (hd.imp Ne.symm)
  have hpx:plO O x=k:=by
    have hm:x∈O:=by rw[<-List.mem_reverse,<-e];exact List.getElem_mem hlt
    have h1:=plO_at hm
    obtain⟨l1,e1⟩:=List.getElem?_eq_some_iff.1 h1
    exact(List.getElem_inj hd').1 (e1.trans e.symm)
  unfold plTo
  rw[List.take_succ_eq_append_getElem hlt,e]
  by_cases q:j=x
  . subst q
    rw[if_pos (by simp),if_pos rfl,hpx]
  . rw[if_neg q]
    have:(O.reverse.take k++[x]).contains j=(O.reverse.take k).contains j:=by simp[q]
    rw[this]
theorem infoInt:(Tryz.prog.info? 3).map (fun i=>(i.zero,i.size,i.bytes))=some (some (.int .i64 0),1,8):=by kernel_rfl
structure PC(w u:World)(n X gp:Nat)(Vb Vo:Value)(O:List Nat)(k:Nat):Prop where
  blk:Blk u X #[.int .i64 0,.int .i64 0,Vb,Vo,.slice none 0 0,.slice none 0 0] 67
  place:u.ownsRow w.heap.size 3 1 (.slice (some ⟨gp,0,none⟩) n n) n (iv (plTo O k) n)
  order:OwN u w.heap.size Vo (O.reverse.take k)
  bel:Below w.heap.size w u
  lt:w.heap.size<=X
theorem PC.keep{w u u':World}{n X gp k:Nat}{Vb Vo:Value}{O:List Nat}(h:PC w u n X gp Vb Vo O k)(hb:Below u.heap.size u u'):PC w u' n X gp Vb Vo O k:=⟨h.blk.keep hb,own_keep h.place hb (Nat.le_refl _),h.order.keep hb,below_on h.bel (Nat.le_refl _) hb,h.lt⟩
structure PD(w u:World)(n X gp:Nat)(Vb Vo:Value)(O:List Nat)(k:Nat):Prop where
  blk:Blk u X #[.int .i64 0,.int .i64 0,Vb,Vo,.slice none 0 0,.slice none 0 0] 67
  place:u.ownsRow w.heap.size 3 1 (.slice (some ⟨gp,0,none⟩) n n) n (iv (plTo O (k+1)) n)
  order:OwN u w.heap.size Vo (O.reverse.take k)
  bel:Below w.heap.size w u
  lt:w.heap.size<=X
theorem PD.keep{w u u':World}{n X gp k:Nat}{Vb Vo:Value}{O:List Nat}(h:PD w u n X gp Vb Vo O k)(hb:Below u.heap.size u u'):PD w u' n X gp Vb Vo O k:=⟨h.blk.keep hb,own_keep h.place hb (Nat.le_refl _),h.order.keep hb,below_on h.bel (Nat.le_refl _) hb,h.lt⟩
theorem blk_ne{w:World}{b base k n:Nat}{cur:Array Value}{t e:TypeId}{s:Value}{xs:List Value}(hb:Blk w b cur t)(h:w.ownsRow base e k s n xs)(hne:e≠t):s.ownBlock≠some b:=fun q=>type_apart h hb hne b q rfl
theorem PC.set{w u:World}{n X gp k x:Nat}{Vb Vo:Value}{O:List Nat}(h:PC w u n X gp Vb Vo O k)(hd:O.Nodup)(hx:O.reverse[k]?=some x):PD w (u.setCell ⟨gp,x,none⟩ (.int .i64 (k:Int))) n X gp Vb Vo O k:=by
  refine⟨h.blk.other (fun e=>blk_ne h.blk h.place (by decide) (by rw[e];rfl)) _,?_,own_set_ne h.order h.place (by decide) _ _,h.bel.setCell (own_blk h.place).1 _,h.lt⟩
  have:=(h.place.stored x (.int .i64 (k:Int))).1
  rw[iv_set (plTo_next hd hx n)]at this
  exact this
theorem PD.al{w u:World}{n X gp k:Nat}{Vb Vo:Value}{O:List Nat}(h:PD w u n X gp Vb Vo O k):u.ownsRow w.heap.size 2 1 Vo (O.reverse.take k).length (nv (O.reverse.take k))/\w.heap.size<=u.heap.size:=⟨h.order,h.bel.size⟩
theorem PD.app{w u u':World}{n X gp k x:Nat}{Vb Vo V':Value}{O:List Nat}(h:PD w u n X gp Vb Vo O k)(hx:O.reverse[k]?=some x)(hown:u'.ownsRow w.heap.size 2 1 V' ((O.reverse.take k).length+1) (nv (O.reverse.take k)++[.int .i64 (x:Int)]))(hg:u.grownBy u' Vo.ownBlock):Blk u' X #[.int .i64 0,.int .i64 0,Vb,Vo,.slice none 0 0,.slice none 0 0] 67/\PC w (u'.setCell ⟨X,3,none⟩ V') n X gp Vb V' O (k+1):=by
  have kb:=h.blk.grown hg h.order (by decide)
  have kp:u'.ownsRow w.heap.size 3 1 (.slice (some ⟨gp,0,none⟩) n n) n (iv (plTo O (k+1)) n):=own_grown h.place hg h.order (by decide)
  have hbel:Below w.heap.size w u':=h.bel.grown hg h.bel.size (fun i hi=>(h.order.lt i hi).1)
  refine⟨kb,?_,ownsRow_setCell_other kp (a:=⟨X,3,none⟩) (blk_ne kb kp (by decide)) _,?_,hbel.setCell h.lt _,h.lt⟩
  . have:=kb.set 3 V'
    simpa using this
  . obtain⟨hlt,e⟩:=List.getElem?_eq_some_iff.1 hx
    unfold OwN
    rw[List.take_succ_eq_append_getElem hlt,e,nv_app,List.length_append,List.length_singleton]
    exact ownsRow_setCell_other hown (a:=⟨X,3,none⟩) (blk_ne kb hown (by decide)) _
end Go.Proofs.YtdfmdgbolmbffaaGreat
namespace Go.Proofs.YtdfmdgbolmbffaaGreat
open Go.ChangeShapes Go.WideShapes Go.ChangeAt Go.RowKit
set_option linter.unusedVariables false
structure PF(w6 u:World)(X:Nat)(Vb Vo Vi:Value)(Is:List Int)(Vl:Value)(ys:List (ML×Value×Value)):Prop where
  blk:Blk u X #[.int .i64 0,.int .i64 0,Vb,Vo,Vi,Vl] 67
  fam:Fam u w6.heap.size ((Vi,Is)::lrows ys)
  lps:u.ownsRow w6.heap.size 53 3 Vl ys.length (ys.flatMap lCells)
  fx:∀k,k<w6.heap.size->k≠X->u.heap[k]?=w6.heap[k]?
  size:w6.heap.size<=u.heap.size
  bel:Below X w6 u
  lt:X<w6.heap.size
theorem PF.keep{w6 u u':World}{X:Nat}{Vb Vo Vi Vl:Value}{Is:List Int}{ys:List (ML×Value×Value)}(h:PF w6 u X Vb Vo Vi Is Vl ys)(hb:Below u.heap.size u u'):PF w6 u' X Vb Vo Vi Is Vl ys:=⟨h.blk.keep hb,h.fam.keepB hb,own_keep h.lps hb (Nat.le_refl _),fun k hk hne=>by rw[hb.block k (Nat.lt_of_lt_of_le hk h.size)];exact h.fx k hk hne,Nat.le_trans h.size hb.size,h.bel.trans (hb.mono (by have:=h.lt;have:=h.size;omega)),h.lt⟩
theorem PF.cell{w6 u:World}{X:Nat}{Vb Vo Vi Vl:Value}{Is:List Int}{ys:List (ML×Value×Value)}(h:PF w6 u X Vb Vo Vi Is Vl ys){a:Addr}{x:Value}(hb:w6.cell? a=some x)(hne:a.block≠X):u.cell? a=some x:=by
  have:=h.fx a.block (block_lt_of_cell hb) hne
  unfold World.cell? at*
  rw[this]
  exact hb
theorem PF.idom{w6 u u':World}{X g cap:Nat}{Vb Vo Vi Vl:Value}{Is:List Int}{ys:List (ML×Value×Value)}{z:Int}(h:PF w6 u X Vb Vo Vi Is Vl ys)(hown:u'.ownsRow w6.heap.size 2 1 (.slice (some ⟨g,0,none⟩) (Is.length+1) cap) (Is.length+1) (Is.flatMap intCell++[.int .i64 z]))(hg:u.grownBy u' Vi.ownBlock)(hat:Vi.ownBlock=some g\/g=u.heap.size):Blk u' X #[.int .i64 0,.int .i64 0,Vb,Vo,Vi,Vl] 67/\PF w6 (u'.setCell ⟨X,4,none⟩ (.slice (some ⟨g,0,none⟩) (Is.length+1) cap)) X Vb Vo (.slice (some ⟨g,0,none⟩) (Is.length+1) cap) (Is++[z]) Vl ys:=by
  have oI:=h.fam.own (Vi,Is) (List.mem_cons_self ..)
  have kb:=h.blk.grown hg oI (by decide)
  have kl:u'.ownsRow w6.heap.size 53 3 Vl ys.length (ys.flatMap lCells):=own_grown h.lps hg oI (by decide)
  have kf:Fam u' w6.heap.size ((.slice (some ⟨g,0,none⟩) (Is.length+1) cap,Is++[z])::lrows ys):=by
    have:=Fam.grow (A:=[]) (l':=Is++[z]) (V':=.slice (some ⟨g,0,none⟩) (Is.length+1) cap) (g:=g) h.fam (by
      rw[List.length_append,List.length_singleton,List.flatMap_append]
      exact hown) rfl hg (hat.imp id fun e=>by omega)
    simpa using this
  refine⟨kb,?_,kf.other kb (by decide) 4 _,ownsRow_setCell_other kl (a:=⟨X,4,none⟩) (blk_ne kb kl (by decide)) _,fun k hk hne=> ?_,?_,?_,h.lt⟩
  . have:=kb.set 4 (.slice (some ⟨g,0,none⟩) (Is.length+1) cap)
    simpa using this
  . rw[heap_setCell_other u' _ k _ hne,hg.block k (Nat.lt_of_lt_of_le hk h.size) (fun e=>by have:=(oI.lt k e.symm).1;omega)]
    exact h.fx k hk hne
  . rw[World.size_setCell]
    exact Nat.le_trans h.size hg.size
  . exact(h.bel.grown hg (by have:=h.lt;have:=h.size;omega) (fun i hi=>by have:=(oI.lt i hi).1;have:=h.lt;omega)).setCell (Nat.le_refl _) _
theorem PF.loop{w6 u u1 u':World}{X g cap:Nat}{Vb Vo Vi Vl BV KV:Value}{Is:List Int}{ys:List (ML×Value×Value)}{m:ML}(h:PF w6 u X Vb Vo Vi Is Vl ys)(hb:Below u.heap.size u u1)(h1:u1.ownsRow u.heap.size 2 1 BV m.back.length (m.back.flatMap intCell))(h2:u1.ownsRow u.heap.size 2 1 KV m.blocks.length (m.blocks.flatMap intCell))(hne:∀q,BV.ownBlock=some q->KV.ownBlock≠some q)(hown:u'.ownsRow w6.heap.size 53 3 (.slice (some ⟨g,0,none⟩) (ys.length+1) cap) (ys.length+1) (ys.flatMap lCells++[.int .i64 m.head,BV,KV]))(hg:u1.grownBy u' Vl.ownBlock):Blk u' X #[.int .i64 0,.int .i64 0,Vb,Vo,Vi,Vl] 67/\PF w6 (u'.setCell ⟨X,5,none⟩ (.slice (some ⟨g,0,none⟩) (ys.length+1) cap)) X Vb Vo Vi Is (.slice (some ⟨g,0,none⟩) (ys.length+1) cap) (ys++[(m,BV,KV)]):=by
  have h':=h.keep hb
  have kb:=h'.blk.grown hg h'.lps (by decide)
  have kf0:Fam u1 w6.heap.size ((Vi,Is)::lrows (ys++[(m,BV,KV)])):=by
    have:=h.fam.join2 hb h1 h2 hne h.size
    simpa[lrows]using this
  have kf:Fam u' w6.heap.size ((Vi,Is)::lrows (ys++[(m,BV,KV)])):=kf0.grown_other hg h'.lps (by decide)
  refine⟨kb,?_,kf.other kb (by decide) 5 _,?_,fun k hk hne=> ?_,?_,?_,h.lt⟩
  . have:=kb.set 5 (.slice (some ⟨g,0,none⟩) (ys.length+1) cap)
    simpa using this
  . rw[List.length_append,List.length_singleton,List.flatMap_append]
    exact ownsRow_setCell_other hown (a:=⟨X,5,none⟩) (blk_ne kb hown (by decide)) _
  . rw[heap_setCell_other u' _ k _ hne,hg.block k (Nat.lt_of_lt_of_le hk h'.size) (fun e=>by have:=(h'.lps.lt k e.symm).1;omega)]
    exact h'.fx k hk hne
  . rw[World.size_setCell]
    exact Nat.le_trans h'.size hg.size
  . exact(h'.bel.grown hg (by have:=h.lt;have:=h'.size;omega) (fun i hi=>by have:=(h'.lps.lt i hi).1;have:=h.lt;omega)).setCell (Nat.le_refl _) _
theorem loopsTo_succ(E:Nat->List Nat)(D L:Nat->Nat->Bool)(n b:Nat):loopsTo E D L n (b+1)=loopsTo E D L n b++(if backL E D n b=[]then[]else[⟨(b:Int),ints (backL E D n b),ints ((List.range n).filter (L b))⟩]):=by
  unfold loopsTo
  rw[List.range_succ,List.filterMap_append]
  by_cases h:backL E D n b=[]
  . simp[h]
  . simp[h]
end Go.Proofs.YtdfmdgbolmbffaaGreat
