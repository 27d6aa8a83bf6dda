import Derived.Test.YtdfmdgbolmbffaaGreatTy3
namespace Go.Proofs.YtdfmdgbolmbffaaGreat
open Go.ChangeShapes Go.WideShapes Go.ChangeAt Go.RowKit
set_option linter.unusedVariables false
def Alike(x y:Value):Prop:=x=y\/∃k a b,x=.int k a/\y=.int k b
theorem Alike.trans{x y z:Value}(h:Alike x y)(h':Alike y z):Alike x z:=by
  rcases h with rfl|⟨k,a,b,rfl,rfl⟩
  . exact h'
  . rcases h' with rfl|⟨k',a',b',e,rfl⟩
    . exact .inr ⟨k,a,b,rfl,rfl⟩
    . cases e
      exact .inr ⟨k,a,b',rfl,rfl⟩
theorem Alike.int{k:IntKind}{a:Int}{y:Value}(h:Alike (.int k a) y):∃b,y=.int k b:=by
  rcases h with rfl|⟨k',a',b',e,rfl⟩
  . exact⟨_,rfl⟩
  . cases e
    exact⟨_,rfl⟩
theorem Alike.slice{a:Option Addr}{n c:Nat}{y:Value}(h:Alike (.slice a n c) y):y=.slice a n c:=by
  rcases h with rfl|⟨k',a',b',e,rfl⟩
  . rfl
  . cases e
def AlikeA(xs ys:Array Value):Prop:=xs.size=ys.size/\∀(i:Nat) x y,xs[i]?=some x->ys[i]?=some y->Alike x y
theorem AlikeA.refl(xs:Array Value):AlikeA xs xs:=⟨rfl,fun i x y h1 h2=>by rw[h1]at h2;exact .inl (Option.some.inj h2)⟩
theorem AlikeA.at{xs ys:Array Value}(h:AlikeA xs ys){i:Nat}{x:Value}(hx:xs[i]?=some x):∃y,ys[i]?=some y/\Alike x y:=by
  have hi:i<ys.size:=by rw[<-h.1];exact(Array.getElem?_eq_some_iff.1 hx).1
  exact⟨_,Array.getElem?_eq_getElem hi,h.2 i x _ hx (Array.getElem?_eq_getElem hi)⟩
theorem AlikeA.trans{xs ys zs:Array Value}(h:AlikeA xs ys)(h':AlikeA ys zs):AlikeA xs zs:=by
  refine⟨h.1.trans h'.1,fun i x z hx hz=> ?_⟩
  obtain⟨y,hy,a1⟩:=h.at hx
  exact a1.trans (h'.2 i y z hy hz)
structure Shaped(w w':World):Prop where
  size:w.heap.size<=w'.heap.size
  block:∀(k:Nat) (cur:Array Value) (t:TypeId),w.heap[k]?=some (Obj.cells cur t (0,0))->∃cur',w'.heap[k]?=some (Obj.cells cur' t (0,0))/\AlikeA cur cur'
theorem Shaped.refl(w:World):Shaped w w:=⟨Nat.le_refl _,fun k cur t h=>⟨cur,h,.refl _⟩⟩
theorem Shaped.trans{w u v:World}(h:Shaped w u)(h':Shaped u v):Shaped w v:=by
  refine⟨Nat.le_trans h.size h'.size,fun k cur t hk=> ?_⟩
  obtain⟨c1,h1,a1⟩:=h.block k cur t hk
  obtain⟨c2,h2,a2⟩:=h'.block k c1 t h1
  exact⟨c2,h2,a1.trans a2⟩
theorem Shaped.of_below{w w':World}(h:Below w.heap.size w w'):Shaped w w':=
  ⟨h.size,fun k cur t hk=>⟨cur,by rw[h.block k (Array.getElem?_eq_some_iff.1 hk).1];exact hk,.refl _⟩⟩
structure Marks(lo hi:Nat)(w w':World):Prop where
  os:w'.os=w.os
  tape:w'.tape=w.tape
  output:w'.output=w.output
  size:w'.heap.size=w.heap.size
  out:∀(k:Nat),k<lo\/hi<=k->w'.heap[k]?=w.heap[k]?
  shaped:Shaped w w'
theorem Marks.refl(lo hi:Nat)(w:World):Marks lo hi w w:=⟨rfl,rfl,rfl,rfl,fun _ _=>rfl,.refl _⟩
theorem Marks.trans{lo hi:Nat}{w u v:World}(h:Marks lo hi w u)(h':Marks lo hi u v):Marks lo hi w v:=
  ⟨h'.os.trans h.os,h'.tape.trans h.tape,h'.output.trans h.output,h'.size.trans h.size,fun k hk=>(h'.out k hk).trans (h.out k hk),h.shaped.trans h'.shaped⟩
theorem Marks.set{lo hi:Nat}{w:World}{g i:Nat}{cur:Array Value}{t:TypeId}{v x:Value}(hb:w.heap[g]?=some (Obj.cells cur t (0,0)))(hx:cur[i]?=some x)(ha:Alike x v)(hg:lo<=g)(hh:g<hi):Marks lo hi w (w.setCell ⟨g,i,none⟩ v):=by
  refine⟨rfl,rfl,rfl,by simp,fun k hk=>heap_setCell_other w _ k v (by simp only[];omega),by simp,fun k c' t' hk=> ?_⟩
  by_cases e:k=g
  . subst e
    rw[hb]at hk
    simp only[Option.some.injEq,Obj.cells.injEq,and_true]at hk
    obtain⟨rfl,rfl⟩:=hk
    refine⟨_,heap_setCell_same w k i cur t v hb,by simp,fun j a b h1 h2=> ?_⟩
    by_cases ej:j=i
    . subst ej
      rw[hx]at h1
      obtain rfl:=Option.some.inj h1
      have hlt:=(Array.getElem?_eq_some_iff.1 hx).1
      rw[Array.getElem?_setIfInBounds_self_of_lt hlt]at h2
      obtain rfl:=Option.some.inj h2
      exact ha
    . rw[Array.getElem?_setIfInBounds_ne (Ne.symm ej),h1]at h2
      exact .inl (Option.some.inj h2)
  . exact⟨c',by rw[heap_setCell_other w _ k v e];exact hk,.refl _⟩
theorem shape_at{w wr:World}{base:Nat}{e:TypeId}{k n c g:Nat}{xs:List Value}(h:w.ownsRow base e k (.slice (some ⟨g,0,none⟩) n c) n xs)(hs:Shaped w wr){i:Nat}{x:Value}(hx:xs[i]?=some x):
    ∃y,wr.cell? ⟨g,i,none⟩=some y/\Alike x y/\wr.frozen? ⟨g,i,none⟩=false/\∀lo hi v,lo<=base->w.heap.size<=hi->Alike x v->Marks lo hi wr (wr.setCell ⟨g,i,none⟩ v):=by
  rcases h.2 with⟨h',_⟩|⟨g',cap,cur,e1,hb,hg,hnc,hcm,hcs,ht⟩
  . cases h'
  . cases e1
    obtain⟨cur',h1,ha⟩:=hs.block _ _ _ hg
    have hc:cur[i]?=some x:=by
      rw[<-ht]at hx
      have:=(List.getElem?_eq_some_iff.1 hx).1
      rw[List.getElem?_take_of_lt (by simp at this;omega)]at hx
      simpa using hx
    obtain⟨y,hy,al⟩:=ha.at hc
    refine⟨y,by rw[cell_of_row wr g i cur' e _ h1];exact hy,al,by simp[World.frozen?,h1],fun lo hi v h2 h3 hv=> ?_⟩
    refine Marks.set h1 hy ?_ (Nat.le_trans h2 hb) (Nat.lt_of_lt_of_le (Array.getElem?_eq_some_iff.1 hg).1 h3)
    rcases al with rfl|⟨k',a,b,rfl,rfl⟩
    . exact hv
    . obtain⟨z,rfl⟩:=hv.int
      exact .inr ⟨k',b,z,rfl,rfl⟩
structure MarksG(lo hi:Nat)(w w':World):Prop where
  os:w'.os=w.os
  tape:w'.tape=w.tape
  output:w'.output=w.output
  size:w.heap.size<=w'.heap.size
  out:∀(k:Nat),k<w.heap.size->k<lo\/hi<=k->w'.heap[k]?=w.heap[k]?
  shaped:Shaped w w'
theorem MarksG.of{lo hi B:Nat}{w u w':World}(hb:Below B w u)(hB:w.heap.size<=B)(h:Marks lo hi u w'):MarksG lo hi w w':=
  ⟨h.os.trans hb.os,h.tape.trans hb.tape,h.output.trans hb.output,by rw[h.size];exact hb.size,fun k hk hh=>(h.out k hh).trans (hb.block k (Nat.lt_of_lt_of_le hk hB)),(Shaped.of_below (hb.mono hB)).trans h.shaped⟩
theorem MarksG.below{lo hi:Nat}{w w':World}(h:MarksG lo hi w w')(hl:lo<=w.heap.size):Below lo w w':=⟨h.os,h.tape,h.output,h.size,fun k hk=>h.out k (Nat.lt_of_lt_of_le hk hl) (.inl hk)⟩
theorem MarksG.own{lo hi:Nat}{w w':World}(h:MarksG lo hi w w'){B:Nat}{e:TypeId}{s:Value}{k n:Nat}{xs:List Value}(ho:w.ownsRow B e k s n xs)(hB:hi<=B):w'.ownsRow B e k s n xs:=by
  refine⟨ho.1,?_⟩
  rcases ho.2 with h'|⟨g,cap,cur,e1,hb1,hg,hr⟩
  . exact .inl h'
  . refine .inr ⟨g,cap,cur,e1,hb1,?_,hr⟩
    rw[h.out g (Array.getElem?_eq_some_iff.1 hg).1 (.inr (Nat.le_trans hB hb1))]
    exact hg
end Go.Proofs.YtdfmdgbolmbffaaGreat
namespace Go.Proofs.YtdfmdgbolmbffaaGreat
open Go.ChangeShapes Go.WideShapes Go.ChangeAt Go.RowKit
set_option linter.unusedVariables false
set_option maxHeartbeats 2000000 in
set_option maxRecDepth 100000 in
theorem markInt64S_any(W0:World)(base:Nat)(s:Value)(cs:List Int)(k0:Int)(w:World)(hn:cs.length<=1048576)(h0:0<=k0)(h1:k0<=1152921504606846976)(h:W0.ownsRow base 2 1 s cs.length (cs.flatMap intCell))(hs:Shaped W0 w):
    Calls Tryz.prog 84 #[s,.int .i64 k0] w fun e w'=>e=.returned (.int .i64 (k0+(cs.length:Int)))/\Marks base W0.heap.size w w':=by
  have H:Hid (W0.ownsRow base 2 1 s cs.length (cs.flatMap intCell)/\Shaped W0 w):=⟨h,hs⟩
  rcases own_row h with⟨rfl,hz⟩|⟨g,c,rfl⟩
  . clear h hs
    rw[hz]
    go_enter Tryz.func84,Tryz.ntmps84
    go_wp2
    go_loopw [1,5] (fun q i wr=>q=.int .i64 k0/\i=.int .i64 0/\wr=w) (fun _ _ _=>0)
    case atStart=>exact⟨rfl,rfl,rfl⟩
    case round=>
      obtain⟨rfl,rfl,rfl⟩:=hrel
      go_wp2
      go_ret
      exact⟨by simp,Marks.refl _ _ _⟩
  . clear h hs
    generalize hLL:cs.length=n at hn H⊢
    have HL:Hid (cs.length=n):=hLL
    clear hLL
    go_enter Tryz.func84,Tryz.ntmps84
    go_wp2
    go_loopw [1,5] (fun q i wr=>∃k:Nat,k<=n/\q=.int .i64 (k0+k)/\i=.int .i64 k/\Hid (Marks base W0.heap.size w wr)) (fun _ i _=>n-(intOf i).toNat)
    case atStart=>exact⟨0,by omega,by simp,rfl,Marks.refl _ _ _⟩
    case round=>
      obtain⟨k,hk,rfl,rfl,HM⟩:=hrel
      by_cases hlt:k<n
      . obtain⟨x,hx⟩:∃x,cs[k]?=some x:=⟨_,List.getElem?_eq_getElem (by rw[HL.out];exact hlt)⟩
        have S0:=H.out.2.trans HM.out.shaped
        have f0:=flat_at intCell 1 intCell_length cs k 0 x hx (by omega)
        rw[Nat.mul_one,Nat.add_zero]at f0
        obtain⟨y0,c0,a0,z0,m0⟩:=shape_at H.out.1 (S0) f0
        have M0:=m0 base W0.heap.size (.int .i64 (k0+k)) (Nat.le_refl _) (Nat.le_refl _) (.inr ⟨.i64,x,_,rfl,rfl⟩)
        have HN:Hid (Marks base W0.heap.size w _):=(HM.out).trans M0
        clear a0 m0 M0 f0 hx S0
        go_wp2
        go_roundw
        case rel=>exact⟨k+1,by omega,by go_num,by go_num,HN⟩
        case measure=>simp[intOf];omega
      . have hkn:k=n:=by omega
        subst hkn
        go_wp2
        go_ret
        exact⟨rfl,HM.out⟩
set_option maxHeartbeats 2000000 in
set_option maxRecDepth 100000 in
theorem markConstS_any(W0:World)(base:Nat)(s:Value)(cs:List MC)(k0:Int)(w:World)(hn:cs.length<=1048576)(h0:0<=k0)(h1:k0<=1152921504606846976)(h:W0.ownsRow base 128 2 s cs.length (cs.flatMap MC.cells))(hs:Shaped W0 w):
    Calls Tryz.prog 42 #[s,.int .i64 k0] w fun e w'=>e=.returned (.int .i64 (k0+2*(cs.length:Int)))/\Marks base W0.heap.size w w':=by
  have H:Hid (W0.ownsRow base 128 2 s cs.length (cs.flatMap MC.cells)/\Shaped W0 w):=⟨h,hs⟩
  rcases own_row h with⟨rfl,hz⟩|⟨g,c,rfl⟩
  . clear h hs
    rw[hz]
    go_enter Tryz.func42,Tryz.ntmps42
    go_wp2
    go_loopw [1,5] (fun q i wr=>q=.int .i64 k0/\i=.int .i64 0/\wr=w) (fun _ _ _=>0)
    case atStart=>exact⟨rfl,rfl,rfl⟩
    case round=>
      obtain⟨rfl,rfl,rfl⟩:=hrel
      go_wp2
      go_ret
      exact⟨by simp,Marks.refl _ _ _⟩
  . clear h hs
    generalize hLL:cs.length=n at hn H⊢
    have HL:Hid (cs.length=n):=hLL
    clear hLL
    go_enter Tryz.func42,Tryz.ntmps42
    go_wp2
    go_loopw [1,5] (fun q i wr=>∃k:Nat,k<=n/\q=.int .i64 (k0+2*k)/\i=.int .i64 k/\Hid (Marks base W0.heap.size w wr)) (fun _ i _=>n-(intOf i).toNat)
    case atStart=>exact⟨0,by omega,by simp,rfl,Marks.refl _ _ _⟩
    case round=>
      obtain⟨k,hk,rfl,rfl,HM⟩:=hrel
      by_cases hlt:k<n
      . obtain⟨x,hx⟩:∃x,cs[k]?=some x:=⟨_,List.getElem?_eq_getElem (by rw[HL.out];exact hlt)⟩
        have S0:=H.out.2.trans HM.out.shaped
        have f0:=flat_at MC.cells 2 MC.cells_length cs k 0 x hx (by omega)
        rw[Nat.add_zero]at f0
        obtain⟨y0,c0,a0,z0,m0⟩:=shape_at H.out.1 (S0) f0
        have M0:=m0 base W0.heap.size (.int .i64 (k0+2*k)) (Nat.le_refl _) (Nat.le_refl _) (.inr ⟨.i64,x.type,_,rfl,rfl⟩)
        have f1:=flat_at MC.cells 2 MC.cells_length cs k 1 x hx (by omega)
        obtain⟨y1,c1,a1,z1,m1⟩:=shape_at H.out.1 ((S0).trans M0.shaped) f1
        have M1:=m1 base W0.heap.size (.int .u32 ((k0+2*k+1) % 4294967296)) (Nat.le_refl _) (Nat.le_refl _) (.inr ⟨.u32,x.word,_,rfl,rfl⟩)
        obtain⟨d1,e1,_⟩:=shape_at H.out.1 S0 f1
        have HN:Hid (Marks base W0.heap.size w _):=((HM.out).trans M0).trans M1
        clear a0 m0 M0 f0 a1 m1 M1 f1 hx S0
        go_wp2
        go_roundw
        case rel=>exact⟨k+1,by omega,by go_num,by go_num,HN⟩
        case measure=>simp[intOf];omega
      . have hkn:k=n:=by omega
        subst hkn
        go_wp2
        go_ret
        exact⟨rfl,HM.out⟩
set_option maxHeartbeats 2000000 in
set_option maxRecDepth 100000 in
theorem markInstrS_any(W0:World)(base:Nat)(s:Value)(cs:List MI)(k0:Int)(w:World)(hn:cs.length<=1048576)(h0:0<=k0)(h1:k0<=1152921504606846976)(h:W0.ownsRow base 73 4 s cs.length (cs.flatMap MI.cells))(hs:Shaped W0 w):
    Calls Tryz.prog 85 #[s,.int .i64 k0] w fun e w'=>e=.returned (.int .i64 (k0+4*(cs.length:Int)))/\Marks base W0.heap.size w w':=by
  have H:Hid (W0.ownsRow base 73 4 s cs.length (cs.flatMap MI.cells)/\Shaped W0 w):=⟨h,hs⟩
  rcases own_row h with⟨rfl,hz⟩|⟨g,c,rfl⟩
  . clear h hs
    rw[hz]
    go_enter Tryz.func85,Tryz.ntmps85
    go_wp2
    go_loopw [1,5] (fun q i wr=>q=.int .i64 k0/\i=.int .i64 0/\wr=w) (fun _ _ _=>0)
    case atStart=>exact⟨rfl,rfl,rfl⟩
    case round=>
      obtain⟨rfl,rfl,rfl⟩:=hrel
      go_wp2
      go_ret
      exact⟨by simp,Marks.refl _ _ _⟩
  . clear h hs
    generalize hLL:cs.length=n at hn H⊢
    have HL:Hid (cs.length=n):=hLL
    clear hLL
    go_enter Tryz.func85,Tryz.ntmps85
    go_wp2
    go_loopw [1,5] (fun q i wr=>∃k:Nat,k<=n/\q=.int .i64 (k0+4*k)/\i=.int .i64 k/\Hid (Marks base W0.heap.size w wr)) (fun _ i _=>n-(intOf i).toNat)
    case atStart=>exact⟨0,by omega,by simp,rfl,Marks.refl _ _ _⟩
    case round=>
      obtain⟨k,hk,rfl,rfl,HM⟩:=hrel
      by_cases hlt:k<n
      . obtain⟨x,hx⟩:∃x,cs[k]?=some x:=⟨_,List.getElem?_eq_getElem (by rw[HL.out];exact hlt)⟩
        have S0:=H.out.2.trans HM.out.shaped
        have f0:=flat_at MI.cells 4 MI.cells_length cs k 0 x hx (by omega)
        rw[Nat.add_zero]at f0
        obtain⟨y0,c0,a0,z0,m0⟩:=shape_at H.out.1 (S0) f0
        have M0:=m0 base W0.heap.size (.int .i64 (k0+4*k)) (Nat.le_refl _) (Nat.le_refl _) (.inr ⟨.i64,x.op,_,rfl,rfl⟩)
        have f1:=flat_at MI.cells 4 MI.cells_length cs k 1 x hx (by omega)
        obtain⟨y1,c1,a1,z1,m1⟩:=shape_at H.out.1 ((S0).trans M0.shaped) f1
        have M1:=m1 base W0.heap.size (.int .i64 (k0+4*k+1)) (Nat.le_refl _) (Nat.le_refl _) (.inr ⟨.i64,x.a,_,rfl,rfl⟩)
        obtain⟨d1,e1,_⟩:=shape_at H.out.1 S0 f1
        have f2:=flat_at MI.cells 4 MI.cells_length cs k 2 x hx (by omega)
        obtain⟨y2,c2,a2,z2,m2⟩:=shape_at H.out.1 (((S0).trans M0.shaped).trans M1.shaped) f2
        have M2:=m2 base W0.heap.size (.int .i64 (k0+4*k+1+1)) (Nat.le_refl _) (Nat.le_refl _) (.inr ⟨.i64,x.b,_,rfl,rfl⟩)
        obtain⟨d2,e2,_⟩:=shape_at H.out.1 S0 f2
        have f3:=flat_at MI.cells 4 MI.cells_length cs k 3 x hx (by omega)
        obtain⟨y3,c3,a3,z3,m3⟩:=shape_at H.out.1 ((((S0).trans M0.shaped).trans M1.shaped).trans M2.shaped) f3
        have M3:=m3 base W0.heap.size (.int .i64 (k0+4*k+1+1+1)) (Nat.le_refl _) (Nat.le_refl _) (.inr ⟨.i64,x.c,_,rfl,rfl⟩)
        obtain⟨d3,e3,_⟩:=shape_at H.out.1 S0 f3
        have HN:Hid (Marks base W0.heap.size w _):=((((HM.out).trans M0).trans M1).trans M2).trans M3
        clear a0 m0 M0 f0 a1 m1 M1 f1 a2 m2 M2 f2 a3 m3 M3 f3 hx S0
        go_wp2
        go_roundw
        case rel=>exact⟨k+1,by omega,by go_num,by go_num,HN⟩
        case measure=>simp[intOf];omega
      . have hkn:k=n:=by omega
        subst hkn
        go_wp2
        go_ret
        exact⟨rfl,HM.out⟩
set_option maxHeartbeats 2000000 in
set_option maxRecDepth 100000 in
theorem markCertS_any(W0:World)(base:Nat)(s:Value)(cs:List MT)(k0:Int)(w:World)(hn:cs.length<=1048576)(h0:0<=k0)(h1:k0<=1152921504606846976)(h:W0.ownsRow base 100 4 s cs.length (cs.flatMap MT.cells))(hs:Shaped W0 w):
    Calls Tryz.prog 44 #[s,.int .i64 k0] w fun e w'=>e=.returned (.int .i64 (k0+4*(cs.length:Int)))/\Marks base W0.heap.size w w':=by
  have H:Hid (W0.ownsRow base 100 4 s cs.length (cs.flatMap MT.cells)/\Shaped W0 w):=⟨h,hs⟩
  rcases own_row h with⟨rfl,hz⟩|⟨g,c,rfl⟩
  . clear h hs
    rw[hz]
    go_enter Tryz.func44,Tryz.ntmps44
    go_wp2
    go_loopw [1,5] (fun q i wr=>q=.int .i64 k0/\i=.int .i64 0/\wr=w) (fun _ _ _=>0)
    case atStart=>exact⟨rfl,rfl,rfl⟩
    case round=>
      obtain⟨rfl,rfl,rfl⟩:=hrel
      go_wp2
      go_ret
      exact⟨by simp,Marks.refl _ _ _⟩
  . clear h hs
    generalize hLL:cs.length=n at hn H⊢
    have HL:Hid (cs.length=n):=hLL
    clear hLL
    go_enter Tryz.func44,Tryz.ntmps44
    go_wp2
    go_loopw [1,5] (fun q i wr=>∃k:Nat,k<=n/\q=.int .i64 (k0+4*k)/\i=.int .i64 k/\Hid (Marks base W0.heap.size w wr)) (fun _ i _=>n-(intOf i).toNat)
    case atStart=>exact⟨0,by omega,by simp,rfl,Marks.refl _ _ _⟩
    case round=>
      obtain⟨k,hk,rfl,rfl,HM⟩:=hrel
      by_cases hlt:k<n
      . obtain⟨x,hx⟩:∃x,cs[k]?=some x:=⟨_,List.getElem?_eq_getElem (by rw[HL.out];exact hlt)⟩
        have S0:=H.out.2.trans HM.out.shaped
        have f0:=flat_at MT.cells 4 MT.cells_length cs k 0 x hx (by omega)
        rw[Nat.add_zero]at f0
        obtain⟨y0,c0,a0,z0,m0⟩:=shape_at H.out.1 (S0) f0
        have M0:=m0 base W0.heap.size (.int .i64 (k0+4*k)) (Nat.le_refl _) (Nat.le_refl _) (.inr ⟨.i64,x.func,_,rfl,rfl⟩)
        have f1:=flat_at MT.cells 4 MT.cells_length cs k 1 x hx (by omega)
        obtain⟨y1,c1,a1,z1,m1⟩:=shape_at H.out.1 ((S0).trans M0.shaped) f1
        have M1:=m1 base W0.heap.size (.int .i64 (k0+4*k+1)) (Nat.le_refl _) (Nat.le_refl _) (.inr ⟨.i64,x.head,_,rfl,rfl⟩)
        obtain⟨d1,e1,_⟩:=shape_at H.out.1 S0 f1
        have f2:=flat_at MT.cells 4 MT.cells_length cs k 2 x hx (by omega)
        obtain⟨y2,c2,a2,z2,m2⟩:=shape_at H.out.1 (((S0).trans M0.shaped).trans M1.shaped) f2
        have M2:=m2 base W0.heap.size (.int .i64 (k0+4*k+1+1)) (Nat.le_refl _) (Nat.le_refl _) (.inr ⟨.i64,x.counter,_,rfl,rfl⟩)
        obtain⟨d2,e2,_⟩:=shape_at H.out.1 S0 f2
        have f3:=flat_at MT.cells 4 MT.cells_length cs k 3 x hx (by omega)
        obtain⟨y3,c3,a3,z3,m3⟩:=shape_at H.out.1 ((((S0).trans M0.shaped).trans M1.shaped).trans M2.shaped) f3
        have M3:=m3 base W0.heap.size (.int .u32 ((k0+4*k+1+1+1) % 4294967296)) (Nat.le_refl _) (Nat.le_refl _) (.inr ⟨.u32,x.init,_,rfl,rfl⟩)
        obtain⟨d3,e3,_⟩:=shape_at H.out.1 S0 f3
        have HN:Hid (Marks base W0.heap.size w _):=((((HM.out).trans M0).trans M1).trans M2).trans M3
        clear a0 m0 M0 f0 a1 m1 M1 f1 a2 m2 M2 f2 a3 m3 M3 f3 hx S0
        go_wp2
        go_roundw
        case rel=>exact⟨k+1,by omega,by go_num,by go_num,HN⟩
        case measure=>simp[intOf];omega
      . have hkn:k=n:=by omega
        subst hkn
        go_wp2
        go_ret
        exact⟨rfl,HM.out⟩
end Go.Proofs.YtdfmdgbolmbffaaGreat
namespace Go.Proofs.YtdfmdgbolmbffaaGreat
open Go.ChangeShapes Go.WideShapes Go.ChangeAt Go.RowKit
set_option linter.unusedVariables false
set_option maxHeartbeats 2000000 in
set_option maxRecDepth 100000 in
theorem markInt64SS_any(W0:World)(base:Nat)(s:Value)(rs:List (List Int))(k0:Int)(w:World)(hn:rs.length<=1048576)(hr:∀r∈rs,r.length<=1048576)(h0:0<=k0)(h1:k0<=281474976710656)(h:OwnR W0 base s rs)(hs:Shaped W0 w):
    Calls Tryz.prog 41 #[s,.int .i64 k0] w fun e w'=>(∃k1,e=.returned (.int .i64 k1)/\k0<=k1/\k1<=k0+1048576*(rs.length:Int))/\Marks base W0.heap.size w w':=by
  obtain⟨xs,hxs,hrow,hel⟩:=h
  have hxl:xs.length=rs.length:=by rw[<-hxs];simp
  have H:Hid (W0.ownsRow base 48 1 s rs.length (xs.flatMap rCells)/\Shaped W0 w/\xs.map Prod.fst=rs/\(∀x∈xs,W0.ownsRow base 2 1 x.2 x.1.length (x.1.flatMap intCell))/\(∀r∈rs,r.length<=1048576)/\xs.length=rs.length):=⟨hrow,hs,hxs,hel,hr,hxl⟩
  clear hs hxs hel hr hxl
  rcases own_row hrow with⟨rfl,hz⟩|⟨g,c,rfl⟩
  . clear hrow
    go_enter Tryz.func41,Tryz.ntmps41
    go_wp2
    go_loopw [1,5] (fun q i wr=>q=.int .i64 k0/\i=.int .i64 0/\wr=w) (fun _ _ _=>0)
    case atStart=>exact⟨rfl,rfl,rfl⟩
    case round=>
      obtain⟨rfl,rfl,rfl⟩:=hrel
      go_wp2
      go_ret
      exact⟨⟨k0,rfl,by omega,by omega⟩,Marks.refl _ _ _⟩
  . clear hrow
    generalize hLL:rs.length=n at hn H⊢
    have HL:Hid (rs.length=n):=hLL
    clear hLL
    go_enter Tryz.func41,Tryz.ntmps41
    go_wp2
    go_loopw [1,5] (fun q i wr=>∃(k:Nat) (kk:Int),k<=n/\q=.int .i64 kk/\k0<=kk/\kk<=k0+1048576*k/\i=.int .i64 k/\Hid (Marks base W0.heap.size w wr)) (fun _ i _=>n-(intOf i).toNat)
    case atStart=>exact⟨0,k0,by omega,rfl,by omega,by omega,rfl,Marks.refl _ _ _⟩
    case round=>
      obtain⟨k,kk,hk,rfl,q0,q1,rfl,HM⟩:=hrel
      by_cases hlt:k<n
      . obtain⟨⟨r,v⟩,hx⟩:∃x,xs[k]?=some x:=⟨_,List.getElem?_eq_getElem (by rw[H.out.2.2.2.2.2];exact hlt)⟩
        have e1:=fst_at H.out.2.2.1 hx
        have hrl:=H.out.2.2.2.2.1 _ (List.mem_of_getElem? e1)
        have hrr:=H.out.2.2.2.1 _ (List.mem_of_getElem? hx)
        simp only[]at hrl hrr
        have f0:=flat_at rCells 1 rCells_length xs k 0 _ hx (by omega)
        rw[Nat.mul_one,Nat.add_zero]at f0
        obtain⟨y0,c0,a0,z0,_⟩:=shape_at H.out.1 (H.out.2.1.trans HM.out.shaped) f0
        obtain⟨av,cv,rfl⟩:=own_slice hrr
        obtain rfl:=Alike.slice a0
        have HR:Hid (W0.ownsRow base 2 1 (.slice av r.length cv) r.length (r.flatMap intCell)/\r.length<=1048576):=⟨hrr,hrl⟩
        clear e1 hrr f0 hx a0
        go_wp2_with fail
        refine(markInt64S_any W0 base (.slice av r.length cv) r kk _ HR.out.2 (by omega) (by omega) HR.out.1 (H.out.2.1.trans HM.out.shaped)).mono ?_
        rintro e u ⟨rfl,hm⟩
        have HN:Hid (Marks base W0.heap.size w u):=HM.out.trans hm
        clear hm c0 z0
        go_wp2
        go_roundw
        case rel=>exact⟨k+1,kk+(r.length:Int),by omega,rfl,by omega,by omega,by go_num,HN⟩
        case measure=>simp[intOf];omega
      . have hkn:k=n:=by omega
        subst hkn
        go_wp2
        go_ret
        exact⟨⟨kk,rfl,by omega,by omega⟩,HM.out⟩
set_option maxHeartbeats 4000000 in
set_option maxRecDepth 100000 in
theorem markFuncS_any(W0:World)(base:Nat)(s:Value)(rs:List MF)(k0:Int)(w:World)(hn:rs.length<=1048576)(hr:∀r∈rs,r.small)(h0:0<=k0)(h1:k0<=281474976710656)(h:OwnFs W0 base s rs)(hs:Shaped W0 w):
    Calls Tryz.prog 43 #[s,.int .i64 k0] w fun e w'=>(∃k1,e=.returned (.int .i64 k1)/\k0<=k1/\k1<=k0+6291457*(rs.length:Int))/\Marks base W0.heap.size w w':=by
  obtain⟨xs,hxs,hrow,hel⟩:=h
  have hxl:xs.length=rs.length:=by rw[<-hxs];simp
  have H:Hid (W0.ownsRow base 63 4 s rs.length (xs.flatMap fCells)/\Shaped W0 w/\xs.map Prod.fst=rs/\(∀x∈xs,OwnF W0 base x.2 x.1)/\(∀r∈rs,r.small)/\xs.length=rs.length):=⟨hrow,hs,hxs,hel,hr,hxl⟩
  clear hs hxs hel hr hxl
  rcases own_row hrow with⟨rfl,hz⟩|⟨g,c,rfl⟩
  . clear hrow
    go_enter Tryz.func43,Tryz.ntmps43
    go_wp2
    go_loopw [1,5] (fun q i wr=>q=.int .i64 k0/\i=.int .i64 0/\wr=w) (fun _ _ _=>0)
    case atStart=>exact⟨rfl,rfl,rfl⟩
    case round=>
      obtain⟨rfl,rfl,rfl⟩:=hrel
      go_wp2
      go_ret
      exact⟨⟨k0,rfl,by omega,by omega⟩,Marks.refl _ _ _⟩
  . clear hrow
    generalize hLL:rs.length=n at hn H⊢
    have HL:Hid (rs.length=n):=hLL
    clear hLL
    go_enter Tryz.func43,Tryz.ntmps43
    go_wp2
    go_loopw [1,5] (fun q i wr=>∃(k:Nat) (kk:Int),k<=n/\q=.int .i64 kk/\k0<=kk/\kk<=k0+6291457*k/\i=.int .i64 k/\Hid (Marks base W0.heap.size w wr)) (fun _ i _=>n-(intOf i).toNat)
    case atStart=>exact⟨0,k0,by omega,rfl,by omega,by omega,rfl,Marks.refl _ _ _⟩
    case round=>
      obtain⟨k,kk,hk,rfl,q0,q1,rfl,HM⟩:=hrel
      by_cases hlt:k<n
      . obtain⟨⟨r,⟨vp,vl,vc⟩⟩,hx⟩:∃x,xs[k]?=some x:=⟨_,List.getElem?_eq_getElem (by rw[H.out.2.2.2.2.2];exact hlt)⟩
        have e1:=fst_at H.out.2.2.1 hx
        have hrl:=H.out.2.2.2.2.1 _ (List.mem_of_getElem? e1)
        have hrr:=H.out.2.2.2.1 _ (List.mem_of_getElem? hx)
        simp only[]at hrl
        obtain⟨ap,cp,ep⟩:=own_slice hrr.1
        obtain⟨al,cl,el⟩:=own_slice hrr.2.1
        obtain⟨ac,cc,ec⟩:=own_slice hrr.2.2
        simp only[]at ep el ec
        subst ep el ec
        have f0:=flat_at fCells 4 fCells_length xs k 0 _ hx (by omega)
        have f1:=flat_at fCells 4 fCells_length xs k 1 _ hx (by omega)
        have f2:=flat_at fCells 4 fCells_length xs k 2 _ hx (by omega)
        have f3:=flat_at fCells 4 fCells_length xs k 3 _ hx (by omega)
        rw[Nat.add_zero]at f0
        have HR:Hid (OwnF W0 base ⟨.slice ap r.params.length cp,.slice al r.locals.length cl,.slice ac r.code.length cc⟩ r):=hrr
        have FF:Hid (∀{u:World},Shaped W0 u->u.cell? ⟨g,k*4,none⟩=some (.slice ap r.params.length cp)/\u.cell? ⟨g,k*4+2,none⟩=some (.slice al r.locals.length cl)/\u.cell? ⟨g,k*4+3,none⟩=some (.slice ac r.code.length cc)/\(∃y,u.cell? ⟨g,k*4+1,none⟩=some y)/\u.frozen? ⟨g,k*4+1,none⟩=false/\∀z,Marks base W0.heap.size u (u.setCell ⟨g,k*4+1,none⟩ (.int .i64 z))):=fun hsu=>by
          obtain⟨y0,c0,a0,_,_⟩:=shape_at H.out.1 hsu f0
          obtain⟨y1,c1,a1,z1,m1⟩:=shape_at H.out.1 hsu f1
          obtain⟨y2,c2,a2,_,_⟩:=shape_at H.out.1 hsu f2
          obtain⟨y3,c3,a3,_,_⟩:=shape_at H.out.1 hsu f3
          obtain rfl:=Alike.slice a0
          obtain rfl:=Alike.slice a2
          obtain rfl:=Alike.slice a3
          exact⟨c0,c2,c3,⟨y1,c1⟩,z1,fun z=>m1 base W0.heap.size _ (Nat.le_refl _) (Nat.le_refl _) (.inr ⟨.i64,r.result,z,rfl,rfl⟩)⟩
        obtain⟨s1,s2,s3⟩:=hrl
        clear e1 hrr f0 f1 f2 f3 hx
        have S0:=H.out.2.1.trans HM.out.shaped
        obtain⟨c0,c2,c3,⟨y1,c1⟩,z1,_⟩:=FF.out S0
        clear S0
        go_wp2_with fail
        refine(markInt64S_any W0 base (.slice ap r.params.length cp) r.params kk _ s1 (by omega) (by omega) HR.out.1 (H.out.2.1.trans HM.out.shaped)).mono ?_
        rintro e u1 ⟨rfl,hm⟩
        have HM1:Hid (Marks base W0.heap.size w u1):=HM.out.trans hm
        clear hm c0 c1 c2 c3 z1 y1
        have S0:=H.out.2.1.trans HM1.out.shaped
        obtain⟨c0,c2,c3,⟨y1,c1⟩,z1,m1⟩:=FF.out S0
        have HM2:Hid (Marks base W0.heap.size w (u1.setCell ⟨g,k*4+1,none⟩ (.int .i64 (kk+(r.params.length:Int))))):=HM1.out.trans (m1 _)
        obtain⟨_,t2,_⟩:=FF.out (H.out.2.1.trans HM2.out.shaped)
        clear m1 S0
        go_wp2_with fail
        refine(markInt64S_any W0 base (.slice al r.locals.length cl) r.locals (kk+(r.params.length:Int)+1) _ s2 (by omega) (by omega) HR.out.2.1 (H.out.2.1.trans HM2.out.shaped)).mono ?_
        rintro e u2 ⟨rfl,hm⟩
        have HM3:Hid (Marks base W0.heap.size w u2):=HM2.out.trans hm
        clear hm c0 c1 c2 c3 z1 y1 t2
        have S0:=H.out.2.1.trans HM3.out.shaped
        obtain⟨c0,c2,c3,⟨y1,c1⟩,z1,m1⟩:=FF.out S0
        clear m1 S0
        go_wp2_with fail
        refine(markInstrS_any W0 base (.slice ac r.code.length cc) r.code (kk+(r.params.length:Int)+1+(r.locals.length:Int)) _ s3 (by omega) (by omega) HR.out.2.2 (H.out.2.1.trans HM3.out.shaped)).mono ?_
        rintro e u3 ⟨rfl,hm⟩
        have HN:Hid (Marks base W0.heap.size w u3):=HM3.out.trans hm
        clear hm c0 c1 c2 c3 z1 y1
        go_wp2
        go_roundw
        case rel=>exact⟨k+1,kk+(r.params.length:Int)+1+(r.locals.length:Int)+4*(r.code.length:Int),by omega,rfl,by omega,by omega,by go_num,HN⟩
        case measure=>simp[intOf];omega
      . have hkn:k=n:=by omega
        subst hkn
        go_wp2
        go_ret
        exact⟨⟨kk,rfl,by omega,by omega⟩,HM.out⟩
set_option maxHeartbeats 2000000 in
set_option maxRecDepth 100000 in
theorem markProgram_any(W0:World)(base:Nat)(v:VP)(p:MP)(w:World)(hn:p.small)(h:OwnP W0 base v p)(hb:Below W0.heap.size W0 w):
    Calls Tryz.prog 12 #[.agg #[v.r,v.k,v.f,v.t],.int .i64 1] w fun e w'=>(∃k1:Int,e=.returned (.int .i64 k1)/\0<=k1/\k1<=17592186044416)/\MarksG base W0.heap.size w w':=by
  have H:Hid (p.small/\OwnP W0 base v p):=⟨hn,h⟩
  clear hn h
  have hA:(w.alloc (.cells #[v.r,v.k,v.f,v.t] 36)).ownsRow w.heap.size 36 4 (.slice (some ⟨w.heap.size,0,none⟩) 1 1) 1 [v.r,v.k,v.f,v.t]:=World.ownsRow_lit (base:=w.heap.size) (e:=36) (size:=4) w #[v.r,v.k,v.f,v.t] 1 (Nat.le_refl _) (by unfold maxLen;omega) (by simp)
  have HS:Hid (Shaped W0 (w.alloc (.cells #[v.r,v.k,v.f,v.t] 36))):=(Shaped.of_below hb).trans (Shaped.of_below ((Below.refl _ _).alloc (Nat.le_refl _) _))
  have hWs:=hb.size
  have HB:Hid (Below w.heap.size w (w.alloc (.cells #[v.r,v.k,v.f,v.t] 36))):=(Below.refl _ _).alloc (Nat.le_refl _) _
  go_enter Tryz.func12,Tryz.ntmps12
  go_wp2_with fail
  generalize w.alloc (.cells #[v.r,v.k,v.f,v.t] 36)=W1 at hA HS HB⊢
  refine(markInt64SS_any W0 base v.r p.regions 1 _ H.out.1.regions H.out.1.region (by omega) (by omega) H.out.2.regions HS.out).mono ?_
  rintro e u1 ⟨⟨k1,rfl,k10,k11⟩,m1⟩
  have HM1:Hid (Marks base W0.heap.size W1 u1):=m1
  have hl1:=H.out.1.regions
  have hl2:=H.out.1.consts
  have hl3:=H.out.1.funcs
  have hl4:=H.out.1.certs
  have keep:∀{u:World},Marks base W0.heap.size W1 u->∀(i:Nat) x,W1.cell? ⟨w.heap.size,i,none⟩=some x->u.cell? ⟨w.heap.size,i,none⟩=some x:=fun hm i x hx=>by
    have:=hm.out w.heap.size (.inr hWs)
    unfold World.cell? at*
    rw[this]
    exact hx
  have HK:Hid (∀{u:World},Marks base W0.heap.size W1 u->u.cell? ⟨w.heap.size,0,none⟩=some v.r/\u.cell? ⟨w.heap.size,1,none⟩=some v.k/\u.cell? ⟨w.heap.size,2,none⟩=some v.f/\u.cell? ⟨w.heap.size,3,none⟩=some v.t):=fun hm=>⟨keep hm 0 _ (hA.cellAt 0 (by omega)),keep hm 1 _ (hA.cellAt 1 (by omega)),keep hm 2 _ (hA.cellAt 2 (by omega)),keep hm 3 _ (hA.cellAt 3 (by omega))⟩
  clear m1 keep hA
  obtain⟨p0,p1,p2,p3⟩:=HK.out HM1.out
  go_wp2_with fail
  refine(markConstS_any W0 base v.k p.consts k1 _ hl2 (by omega) (by omega) H.out.2.consts (HS.out.trans HM1.out.shaped)).mono ?_
  rintro e u2 ⟨rfl,m2⟩
  have HM2:Hid (Marks base W0.heap.size W1 u2):=HM1.out.trans m2
  clear m2 p0 p1 p2 p3
  obtain⟨p0,p1,p2,p3⟩:=HK.out HM2.out
  go_wp2_with fail
  refine(markFuncS_any W0 base v.f p.funcs (k1+2*(p.consts.length:Int)) _ hl3 H.out.1.func (by omega) (by omega) H.out.2.funcs (HS.out.trans HM2.out.shaped)).mono ?_
  rintro e u3 ⟨⟨k3,rfl,k30,k31⟩,m3⟩
  have HM3:Hid (Marks base W0.heap.size W1 u3):=HM2.out.trans m3
  clear m3 p0 p1 p2 p3
  obtain⟨p0,p1,p2,p3⟩:=HK.out HM3.out
  go_wp2_with fail
  refine(markCertS_any W0 base v.t p.certs k3 _ hl4 (by omega) (by omega) H.out.2.certs (HS.out.trans HM3.out.shaped)).mono ?_
  rintro e u4 ⟨rfl,m4⟩
  have HM4:Hid (Marks base W0.heap.size W1 u4):=HM3.out.trans m4
  clear m4 p0 p1 p2 p3
  go_wp2
  go_ret
  exact⟨⟨_,rfl,by omega,by omega⟩,MarksG.of HB.out (Nat.le_refl _) HM4.out⟩
end Go.Proofs.YtdfmdgbolmbffaaGreat
