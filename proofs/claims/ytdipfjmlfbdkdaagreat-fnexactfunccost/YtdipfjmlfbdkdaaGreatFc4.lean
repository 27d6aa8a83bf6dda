import Derived.Test.YtdipfjmlfbdkdaaGreatFc3
import Derived.Deep.RegionHeld
import Derived.StillTail
namespace Go.Proofs.YtdipfjmlfbdkdaaGreat
open Go.ChangeShapes Go.WideShapes Go.ChangeAt Go.RowKit
set_option linter.unusedVariables false
set_option maxHeartbeats 2000000
set_option maxRecDepth 100000
theorem Qc{α:Type}{xs ys:List α}{k:Nat}{x y:α}(h1:xs[k]?=some x)(h2:ys[k]?=some y)(h:¬x=y):¬xs=ys:=by
 rintro rfl;rw[h1]at h2;exact h (ae h2)
theorem Oq{α:Type}{xs ys:List α}{k:Nat}{x:α}(h1:xs[k]?=some x)(h2:ys[k]?=some x)(h:∀j,j<k->xs[j]?=ys[j]?):∀j,j<k+1->xs[j]?=ys[j]?:=by
 intro j hj;by_cases e:j=k
 . subst e
   rw[h1,h2]
 . exact h j (by omega)
theorem Pt{α:Type}{xs ys:List α}{n:Nat}(h1:xs.length=n)(h2:ys.length=n)(h:∀j,j<n->xs[j]?=ys[j]?):xs=ys:=by
 apply cI;intro j;by_cases hj:j<n
 . exact h j hj
 . rw[aZ (by omega),aZ (by omega)]
theorem It (s s':Value)(xs ys:List Int)(w:World)(hn:xs.length<=1048576)(hn':ys.length<=1048576)(h:Rd w 1 s xs.length (xs.flatMap Ac))(h':Rd w 1 s' ys.length (ys.flatMap Ac)):
 Calls Tryz.prog 76 #[s,s'] w fun e w'=>Aj e (xs=ys)/\∃m,w'=w.drewN m:=by
 have H1:Hid (Rd w 1 s xs.length (xs.flatMap Ac)):=h;have H2:Hid (Rd w 1 s' ys.length (ys.flatMap Ac)):=h';obtain⟨a1,c1,rfl⟩:=h.is_slice;obtain⟨a2,c2,rfl⟩:=h'.is_slice;clear h h';by_cases hll:xs.length=ys.length
 . rw [<-hll]at H2
   rw[<-hll];clear hn';generalize hLL:xs.length=n at hn H1 H2;have HL:Hid (xs.length=n/\ys.length=n):=⟨hLL,hll▸hLL⟩
   clear hLL hll;go_enter Tryz.func76,Tryz.ntmps76;go_wp2
   go_loopw [5] (fun i wr=>∃k:Nat,k<=n/\i=.int .i64 k/\Hid (∀j,j<k->xs[j]?=ys[j]?)/\∃m,wr=w.drewN m) (fun i _=>n-(intOf i).toNat)
   case atStart=>exact⟨0,by omega,rfl,fun j hj=>by omega,0,rfl⟩
   case round=>
    obtain⟨k,hk,rfl,HT,m,rfl⟩:=hrel;by_cases hlt:k<n
    . obtain⟨x,hx⟩:∃x,xs[k]?=some x:=⟨_,aA (by rw[HL.o.1];exact hlt)⟩
      obtain⟨y,hy⟩:∃y,ys[k]?=some y:=⟨_,aA (by rw[HL.o.2];exact hlt)⟩;rcases H1.o.2 with⟨e0,_⟩|⟨g,o,c,e1,hc1⟩
      . omega
      . rcases H2.o.2 with⟨e0,_⟩|⟨g',o',c',e2,hc2⟩
        . omega
        . simp only[aF,aw]at e1 e2
          obtain⟨rfl,rfl⟩:=e1;obtain⟨rfl,rfl⟩:=e2;have i0:=Rd.elem Ap hc1 k x hx 0 _ rfl;have j0:=Rd.elem Ap hc2 k y hy 0 _ rfl;rw[bf,aS]at i0 j0;have HX:Hid (xs[k]?=some x/\ys[k]?=some y):=⟨hx,hy⟩
          clear hc1 hc2 hx hy;by_cases hxy:x=y
          . subst hxy
            go_wp2
            go_quiet (fail)
            go_wp2
            go_roundw
            case rel=>exact⟨k+1,by omega,by go_num,Oq HX.o.1 HX.o.2 HT.o,_,rfl⟩
            case measure=>simp[intOf];omega
          . go_wp2
            go_quiet (fail)
            go_wp2
            go_ret
            exact⟨.no (Qc HX.o.1 HX.o.2 hxy),m+nq,World.drewN_drewN _ _ _⟩
    . have hkn:k=n:=by omega
      subst hkn;go_wp2
      go_ret
      exact⟨.yes (Pt HL.o.1 HL.o.2 HT.o),_,rfl⟩
 . have hne:¬xs=ys:=fun e=>hll (by rw[e])
   clear H1 H2;generalize xs.length=n at*;generalize ys.length=n' at*;have HN:Hid (¬xs=ys):=hne;clear hne;have hi:¬(n:Int)=(n':Int):=by omega
   go_enter Tryz.func76,Tryz.ntmps76;go_wp2
   go_ret
   exact⟨.no HN.o,0,rfl⟩
structure Ai(w:World) where
 u:World
 h:Below w.heap.size w u
theorem Ai.some(w:World):Nonempty (Ai w):=⟨⟨w,aX _ _⟩⟩
theorem At{P:Program}{id:Nat}{Q:Exit->Act->World->Prop}{a:Act}{w:World}{l:List Oper}(hm:P.follows .mixedOrders=true)(hB:Region.lexB .any l.toArray=true)
 (h:wpQuiet P l.toArray (fun w'=>∃n:Ai w,w'=n.u) (fun a'=>∀w',(∃n:Ai w,w'=n.u)->Q .normal a' w') l a):(Code.region id l.toArray true).wp P Q a w:=
 wp_region_quiet (C:=fun w'=>∃n:Ai w,w'=n.u) hm hB ⟨⟨_,Ae w⟩,rfl⟩ (by simpa using h)
theorem Aj.true{e:Ending}{q:Prop}(h:Aj e q)(hq:q):e=.returned (.bool true):=by
 obtain⟨b,rfl,hb⟩:=h;rw[hb.2 hq]
theorem Aj.false{e:Ending}{q:Prop}(h:Aj e q)(hq:¬q):e=.returned (.bool false):=by
 obtain⟨b,rfl,hb⟩:=h;cases b
 . rfl
 . exact absurd (hb.1 rfl) hq
theorem Ai.cell{w:World}{a:Addr}{x:Value}(h:w.cell? a=Option.some x)(n:Ai w):n.u.cell? a=Option.some x:=by rw[n.h.cell (aC h)];exact h
def Ak(w:World)(b:Nat)(cur:Array Value)(t:TypeId):Prop:=w.heap[b]?=some (.cells cur t (0,0))
theorem Ak.new(w:World)(cur:Array Value)(t:TypeId):Ak (w.alloc (.cells cur t)) w.heap.size cur t:=Array.getElem?_push_size
theorem Ak.lt{w:World}{b:Nat}{cur:Array Value}{t:TypeId}(h:Ak w b cur t):b<w.heap.size:=(aQ.1 h).1
theorem Ak.keep{w w':World}{b:Nat}{cur:Array Value}{t:TypeId}(h:Ak w b cur t)(hb:Below w.heap.size w w'):Ak w' b cur t:=by
 unfold Ak at*;rw[hb.block b (aQ.1 h).1];exact h
theorem Ak.cell{w:World}{b:Nat}{cur:Array Value}{t:TypeId}(h:Ak w b cur t)(i:Nat):w.cell? ⟨b,i,none⟩=cur[i]?:=eL w b i cur t _ h
theorem Ak.frozen{w:World}{b:Nat}{cur:Array Value}{t:TypeId}(h:Ak w b cur t)(i:Nat):w.frozen? ⟨b,i,none⟩=false:=frozen_of_row w b i cur t h
theorem Ak.set{w:World}{b:Nat}{cur:Array Value}{t:TypeId}(h:Ak w b cur t)(i:Nat)(x:Value):Ak (w.setCell ⟨b,i,none⟩ x) b (cur.setIfInBounds i x) t:=heap_setCell_same w b i cur t x h
theorem Ak.other{w:World}{b:Nat}{cur:Array Value}{t:TypeId}(h:Ak w b cur t){a:Addr}(ha:b≠a.block)(x:Value):Ak (w.setCell a x) b cur t:=by
 unfold Ak at*;rw[bi w a b x ha];exact h
theorem Ak.grown{w w':World}{b:Nat}{cur:Array Value}{t e:TypeId}(h:Ak w b cur t){B k m:Nat}{v:Value}{bs:List Value}(hg:w.grownBy w' v.ownBlock)(ho:w.ownsRow B e k v m bs)(hne:t≠e):Ak w' b cur t:=by
 unfold Ak at*;rw[hg.block b (aQ.1 h).1 ?_]
 . exact h
 . intro hv
   rcases ho.2 with⟨rfl,_⟩|⟨g',cap',cur',rfl,_,hg',_⟩
   . cases hv
   . simp only[Value.ownBlock,aR]at hv
     subst hv;rw[h]at hg';simp only[aR,dD]at hg';exact hne hg'.2.1
def AN(f:MF)(k:Int):Int:=if k<0 then 0 else(f.params++f.locals).getD k.toNat 0
theorem ES{f:MF}{k:Int}(h:k<0):AN f k=0:=a8 h
theorem G5{f:MF}{k:Nat}{x:Int}(h:f.params[k]?=some x):AN f k=x:=by
 obtain⟨hlt,rfl⟩:=aD.1 h;unfold AN;rw[bF (by omega),aJ,aG,bG hlt,aA hlt];rfl
theorem GZ{f:MF}{k:Nat}{x:Int}(h:f.locals[k]?=some x):AN f ((f.params.length:Int)+k)=x:=by
 obtain⟨hlt,rfl⟩:=aD.1 h;unfold AN;have e:((f.params.length:Int)+k).toNat=f.params.length+k:=by omega
 rw[bF (by omega),aJ,e,aW (by omega),bg,aA hlt];rfl
theorem G4{f:MF}{k:Int}(h:(f.params.length:Int)+f.locals.length<=k):AN f k=0:=by
 unfold AN;rw[bF (by omega),aJ,aZ (by rw[aH];omega)];rfl
theorem EO(v:VF)(f:MF)(k:Int)(w:World)(hs:f.small)(hk:CD k)(h:C9 w v f):
 Calls Tryz.prog 69 #[.agg #[v.p,.int .i64 f.result,v.l,v.c],.int .i64 k] w fun e w'=>e=.returned (.int .i64 (AN f k))/\Below w.heap.size w w':=by
 have hk':-9223372036854775808<=k/\k<=9223372036854775807:=by simpa[CD,Lit.wf,IntKind.min,IntKind.max,IntKind.signed,IntKind.bits]using hk
 obtain⟨k0,k1⟩:=hk';obtain⟨s1,s2,s3⟩:=hs;have H1:Hid (C9 w v f):=h;obtain⟨a1,c1,e1⟩:=h.1.is_slice;obtain⟨a2,c2,e2⟩:=h.2.1.is_slice;obtain⟨vp,vl,vc⟩:=v;simp only[]at e1 e2;subst e1;subst e2;clear h hk s3;have F0:=Qj.of w 48 #[.slice a1 f.params.length c1,.int .i64 f.result,.slice a2 f.locals.length c2,vc] rfl;have HB:Hid _:=F0.bel;clear F0;generalize hn1:f.params.length=n1 at*;generalize hn2:f.locals.length=n2 at*;have HN:Hid (f.params.length=n1/\f.locals.length=n2):=⟨hn1,hn2⟩
 clear hn1 hn2;by_cases q0:k<0
 . rw[ES q0]
   go_enter Tryz.func69,Tryz.ntmps69;go_wp2
   go_ret
   exact⟨rfl,HB.o⟩
 . obtain⟨j,rfl⟩:=aT (show 0<=k by omega)
   by_cases q1:j<n1
   . obtain⟨x,hx⟩:∃x,f.params[j]?=some x:=⟨_,aA (by rw[HN.o.1];exact q1)⟩
     rw[G5 hx];rcases H1.o.1.2 with⟨e0,_⟩|⟨g,o,c,e1,hc1⟩
     . rw[HN.o.1]at e0
       omega
     . simp only[aF]at e1
       obtain⟨rfl,hh,rfl⟩:=e1;clear hh;have i0:=Rd.elem Ap hc1 j x hx 0 _ rfl;rw[bf,aS]at i0;have i1:=(HB.o.cell (aC i0)).trans i0;clear hc1 hx i0;go_enter Tryz.func69,Tryz.ntmps69;go_wp2
       go_ret
       exact⟨rfl,HB.o⟩
   . by_cases q2:j<n1+n2
     . obtain⟨x,hx⟩:∃x,f.locals[j-n1]?=some x:=⟨_,aA (by rw[HN.o.2];omega)⟩
       have hl:=GZ hx;rw[HN.o.1]at hl;have ej:((n1:Int)+((j-n1:Nat):Int))=(j:Int):=by omega
       rw[ej]at hl;rw[hl];rcases H1.o.2.1.2 with⟨e0,_⟩|⟨g,o,c,e1,hc1⟩
       . rw[HN.o.2]at e0
         omega
       . simp only[aF]at e1
         obtain⟨rfl,hh,rfl⟩:=e1;clear hh;have i0:=Rd.elem Ap hc1 (j-n1) x hx 0 _ rfl;rw[bf,aS]at i0;have i1:=(HB.o.cell (aC i0)).trans i0;clear hc1 hx i0 hl ej;go_enter Tryz.func69,Tryz.ntmps69;go_wp2
         go_ret
         exact⟨rfl,HB.o⟩
     . rw[G4 (by rw[HN.o.1,HN.o.2];omega)]
       go_enter Tryz.func69,Tryz.ntmps69;go_wp2
       go_ret
       exact⟨rfl,HB.o⟩
section
variable {P:Program} {ops:Array Oper} {Q:Exit->Act->World->Prop} {md:Region.Mode} {S:World->Prop} {n:Nat}
def Cm(P:Program)(md:Region.Mode)(ops:Array Oper)(Q:Exit->Act->World->Prop)(S:World->Prop)(n:Nat):Nat->Array Bool->Act->World->Prop
 |0,d,a,w=>Region.ready md ops d=[]/\Q .normal a w
 |f+1,d,a,w=>(Region.ready md ops d=[]->Q .normal a w)/\∀i∈Region.ready md ops d,wpOp P ops Q i (fun a' w'=>(i<n->S w')/\Cm P md ops Q S n f (d.setIfInBounds i true) a' w') a w
theorem IV:∀(f:Nat) (d:Array Bool) (a:Act) (w:World),Cm P md ops Q S n f d a w->wpAny P md ops Q f d a w
 |0,_,_,_,h=>h
 |f+1,_,_,_,h=>⟨h.1,fun i hi=>wpOp_mono (fun a' w' h'=>IV f _ a' w' h'.2) (h.2 i hi)⟩
theorem KG{i:Nat}{oi:Oper}{v:Value}(hi:ops[i]?=some oi)(hsel:∀(j:Nat) (o:Oper) cs b,ops[j]?=some o->o.op≠ .select cs b)
 (hQ:∀c a w,Q (.panic c) (a.put oi.dst v) w->Q (.panic c) a w) (hs:Region.sinkB md ops n=true) (hc:Region.chainB md ops n=true) (hn:n<ops.size) (hin:i<n):
 ∀ (f:Nat) (d:Array Bool) (a:Act) (w:World),HeadInv md ops n d->
   (∀j oj,ops[j]?=some oj->j≠i->d.getD j true=false->(∀e∈oj.after,Region.binds md e=true->e.on≠i)->oi.apart ops oj=true)->
   i∈Region.ready md ops d->YieldsIf P ops S oi v a->S w->
   Cm P md ops Q S n f (d.setIfInBounds i true) (a.put oi.dst v) w->Cm P md ops Q S n (f+1) d a w:=by
 intro f;induction f with
 | zero=>
   intro d a w _ _ hr hy hS H;refine⟨fun h=>(by rw[h]at hr;cases hr),fun j hj=> ?_⟩;by_cases hji:j=i
   . subst hji;exact hy.wpOp hi hS ⟨fun _=>hS,H⟩
   . have:=ready_mono hj hji
     rw[H.1]at this;cases this
 | succ f ih=>
   intro d a w inv hfree hr hy hS H;refine⟨fun h=>(by rw[h]at hr;cases hr),fun j hj=> ?_⟩;by_cases hji:j=i
   . subst hji;exact hy.wpOp hi hS ⟨fun _=>hS,H⟩
   . have hjn:j<n:=Nat.lt_of_not_le fun h=>tail_waits hs hc hn inv _ i rfl hin (mem_ready.1 hr).1 j h hj
     have h1:=H.2 j (ready_mono hj hji);obtain⟨hjun,oj,hoj,hall⟩:=mem_ready.1 hj
     have hnot:∀e∈oj.after,Region.binds md e=true->e.on≠i:=fun e he hb heq=>by
      have h1:=hall e he hb;rw[heq,getD_both (mem_ready.1 hr).1]at h1;cases h1
     have h2:=wpOp_putIf hoj (hfree j oj hoj hji hjun hnot) (fun cs b=>hsel i oi cs b hi) (fun cs b=>hsel j oj cs b hoj) hQ hy h1
     have hfree':∀k ok,ops[k]?=some ok->k≠i->(d.setIfInBounds j true).getD k true=false->
      (∀e∈ok.after,Region.binds md e=true->e.on≠i)->oi.apart ops ok=true:=fun k ok hk hki hun hno=>by
      refine hfree k ok hk hki ?_ hno;by_cases hjk:j=k
      . subst hjk;exact hjun
      . rw[getD_set_ne true hjk]at hun;exact hun
     refine wpOp_mono (fun a' w' h3=>⟨h3.2.1,ih (d.setIfInBounds j true) a' w' (inv.set hj hjn) hfree' (ready_mono hr (Ne.symm hji)) h3.1 (h3.2.1 hjn) ?_⟩) h2;rw[Array.setIfInBounds_comm _ _ hji];exact h3.2.2
def Nx(md:Region.Mode)(ops:Array Oper)(n:Nat)(d:Array Bool):Bool:=
 d.size==ops.size&&(List.range ops.size).all (fun j=> !d.getD j false||((ops[j]?).map (·.after.all fun e=> !Region.binds md e||d.getD e.on false)).getD true)&&(List.range ops.size).all (fun t=>decide (t<n)|| !d.getD t true)&&Region.sinkB md ops n&&Region.chainB md ops n&&decide (n<ops.size)
theorem Mv{d:Array Bool}(h:Nx md ops n d=true):HeadInv md ops n d/\Region.sinkB md ops n=true/\Region.chainB md ops n=true/\n<ops.size:=by
 simp only[Nx,dw,cG,beq_iff_eq]at h;obtain⟨⟨⟨⟨⟨h1,h2⟩,h3⟩,h4⟩,h5⟩,h6⟩:=h;refine⟨⟨h1,fun j oj hj hl e he hb=> ?_,fun t ht ht'=> ?_⟩,h4,h5,h6⟩
 . have:=eU.1 h2 j (br.2 (aQ.1 hj).1)
   rw[hl,hj]at this;simp only[Bool.not_true,Bool.false_or,dS,eT]at this;have:=Array.all_eq_true'.1 this e he;rw[hb]at this;simpa using this
 . have:=eU.1 h3 t (br.2 ht')
   rw[bI (by omega)]at this;simpa using this
theorem LZ{i:Nat}{oi:Oper}{v:Value}{f:Nat}{d:Array Bool}{a:Act}{w:World}(hi:ops[i]?=some oi)
 (hsl:Region.noSelect ops=true) (hf:Region.free md ops d i=true) (hr:(Region.ready md ops d).contains i=true) (hb:Nx md ops n d=true) (hin:i<n)
 (hQ:∀c a w,Q (.panic c) (a.put oi.dst v) w->Q (.panic c) a w) (hy:YieldsIf P ops S oi v a) (hS:S w)
 (h:Cm P md ops Q S n f (d.setIfInBounds i true) (a.put oi.dst v) w):Cm P md ops Q S n (f+1) d a w:=
 have hh:=Mv hb
 KG hi (Region.noSelect_spec hsl) hQ hh.2.1 hh.2.2.1 hh.2.2.2 hin f d a w hh.1 (Region.free_spec hi hf) (by simpa using hr) hy hS h
def Ct(P:Program)(md:Region.Mode)(ops:Array Oper)(Q:Exit->Act->World->Prop)(S:World->Prop)(n f:Nat)(d:Array Bool)(a:Act)(w:World)(rs:List Nat):Prop:=
 ∀i∈rs,wpOp P ops Q i (fun a' w'=>(i<n->S w')/\Cm P md ops Q S n f (d.setIfInBounds i true) a' w') a w
theorem Ct.nil{f:Nat}{d:Array Bool}{a:Act}{w:World}:Ct P md ops Q S n f d a w []:=fun _ h=>by cases h
theorem Ct.cons{f:Nat}{d:Array Bool}{a:Act}{w:World}{i:Nat}{o:Oper}{rs:List Nat}(ho:ops[i]?=some o)
 (h:∀K':Act->World->Prop,Shut (∀a w,(i<n->S w)->((i<n->S w)->Cm P md ops Q S n f (d.setIfInBounds i true) a w)->K' a w)->if Region.wanted o (yielded ops a.tmps)=true then Oper.wp P o a w K' Q else K' (a.put o.dst undef) w)
 (hs:Ct P md ops Q S n f d a w rs):Ct P md ops Q S n f d a w (i::rs):=fun j hj=>by
 rcases aa.1 hj with rfl|hj
 . have:=h (fun a' w'=>(j<n->S w')/\Cm P md ops Q S n f (d.setIfInBounds j true) a' w') (show Shut _ from fun a w h1 h2=>⟨h1,h2 h1⟩)
   unfold wpOp;simp only[ho];split
   . rename_i hw;simp only[hw,if_true]at this;exact .inl this
   . rename_i hw;simp only[hw]at this;exact this
 . exact hs j hj
theorem KH{rs:List Nat}{f:Nat}{d:Array Bool}{a:Act}{w:World}(hr:Region.ready md ops d=rs)(hne:rs≠[])
 (h:Ct P md ops Q S n f d a w rs):Cm P md ops Q S n (f+1) d a w:=⟨fun h0=>absurd (hr▸h0) hne,hr▸h⟩
theorem Fa{d:Array Bool}{a:Act}{w:World}(hr:Region.ready md ops d=[])(h:Q .normal a w):∀f,Cm P md ops Q S n f d a w
 |0=>⟨hr,h⟩
 |_+1=>⟨fun _=>h,by rw[hr];simp⟩
theorem CR(n:Nat){id:Nat}{a:Act}{w:World}(hm:P.follows .mixedOrders=true)(hS:S w.drew)
 (h:S w.drew->Cm P .any ops Q S n ops.size (Array.replicate ops.size false) a w.drew):(Code.region id ops true).wp P Q a w:=
 wp_region_any hm (IV _ _ _ _ (h hS))
end
theorem Mu{w wr:World}{g:Nat}(h:w.grownBy wr (some g))(i:Nat)(x:Value):w.grownBy (wr.setCell ⟨g,i,none⟩ x) (some g):=
 ⟨h.os,h.tape,h.output,by rw[cM];exact h.size,fun k hk hne=>(bi wr _ k x (fun e=>hne (by rw[e]))).trans (h.block k hk hne)⟩
theorem Cs{w w':World}{base:Nat}{e:TypeId}{s:Value}{k n:Nat}{xs:List Value}{row:Option Nat}(h:w.ownsRow base e k s n xs)(hg:w.grownBy w' row)(hne:∀g,s.ownBlock=some g->some g≠row):w'.ownsRow base e k s n xs:=by
 refine⟨h.1,?_⟩;rcases h.2 with h|⟨g,cap,cur,rfl,hb1,hgg,hr⟩
 . exact .inl h
 . refine .inr ⟨g,cap,cur,rfl,hb1,?_,hr⟩
   rw[hg.block g (aQ.1 hgg).1 (hne g rfl)];exact hgg
def FN(x y:Value×List Int):Prop:=∀g,x.1.ownBlock=some g->y.1.ownBlock≠some g
theorem FN.symm{x y:Value×List Int}(h:FN x y):FN y x:=fun g hg e=>h g e hg
structure Cc(w:World)(base:Nat)(L:List (Value×List Int)):Prop where
 own:∀x∈L,w.ownsRow base 2 1 x.1 x.2.length (x.2.flatMap Ac)
 sep:L.Pairwise FN
structure Wv(base:Nat)(w w':World):Prop where
 bel:Below base w w'
 blk:∀(k:Nat) (cur:Array Value) (t:TypeId),w.heap[k]?=some (Obj.cells cur t (0,0))->t≠2->w'.heap[k]?=some (Obj.cells cur t (0,0))
theorem Wv.refl(base:Nat)(w:World):Wv base w w:=⟨aX _ _,fun _ _ _ h _=>h⟩
theorem Wv.trans{base:Nat}{u v w:World}(h:Wv base u v)(h':Wv base v w):Wv base u w:=⟨h.bel.trans h'.bel,fun k cur t hk h1=>h'.blk k cur t (h.blk k cur t hk h1) h1⟩
theorem Wv.own{base b:Nat}{w w':World}(h:Wv base w w'){e:TypeId}{s:Value}{k n:Nat}{xs:List Value}(ho:w.ownsRow b e k s n xs)(h1:e≠2):w'.ownsRow b e k s n xs:=by
 refine⟨ho.1,?_⟩;rcases ho.2 with h'|⟨g,cap,cur,e1,hb1,hg,hr⟩
 . exact .inl h'
 . exact .inr ⟨g,cap,cur,e1,hb1,h.blk g cur e hg h1,hr⟩
theorem Cc.put{w w':World}{base:Nat}{A B:List (Value×List Int)}{v:Value}{c c':List Int}(h:Cc w base (A++(v,c)::B))(hl:c'.length=c.length)(ho:w'.ownsRow base 2 1 v c.length (c'.flatMap Ac))(hg:w.grownBy w' v.ownBlock):Cc w' base (A++(v,c')::B):=by
 obtain⟨pA,pB,pAB⟩:=dB.1 h.sep;obtain⟨pv,pB'⟩:=bS.1 pB;refine⟨fun x hx=> ?_,dB.2 ⟨pA,bS.2 ⟨fun y hy=>pv y hy,pB'⟩,fun a ha b hb=> ?_⟩⟩
 . rcases aU.1 hx with hx|hx
   . exact Cs (h.own x (aU.2 (.inl hx))) hg (fun g hgx e=>pAB x hx (v,c) (by simp) g hgx e.symm)
   . rcases aa.1 hx with rfl|hx
     . simp only[]
       rw[hl];exact ho
     . exact Cs (h.own x (aU.2 (.inr (bK _ hx)))) hg (fun g hgx e=>pv x hx g e.symm hgx)
 . rcases aa.1 hb with rfl|hb
   . exact fun g hga=>pAB a ha (v,c) (by simp) g hga
   . exact pAB a ha b (bK _ hb)
structure Et(R:Nat->Prop)(u u':World):Prop where
 os:u'.os=u.os
 tape:u'.tape=u.tape
 output:u'.output=u.output
 size:u.heap.size<=u'.heap.size
 block:∀k,k<u.heap.size->¬R k->u'.heap[k]?=u.heap[k]?
theorem Et.of{R:Nat->Prop}{u u':World}(h:Below u.heap.size u u'):Et R u u':=⟨h.os,h.tape,h.output,h.size,fun k hk _=>h.block k hk⟩
theorem Et.refl(R:Nat->Prop)(u:World):Et R u u:=⟨rfl,rfl,rfl,Nat.le_refl _,fun _ _ _=>rfl⟩
theorem Et.trans{R R':Nat->Prop}{a b c:World}(h:Et R a b)(h':Et R' b c)(hR:∀k,k<a.heap.size->R' k->R k):Et R a c:=⟨h'.os.trans h.os,h'.tape.trans h.tape,h'.output.trans h.output,aY h.size h'.size,fun k hk hn=>(h'.block k (bY hk h.size) (fun e=>hn (hR k hk e))).trans (h.block k hk hn)⟩
theorem Et.below{R:Nat->Prop}{a b:World}(h:Et R a b){B:Nat}(hB:B<=a.heap.size)(hR:∀k,k<B->¬R k):Below B a b:=⟨h.os,h.tape,h.output,h.size,fun k hk=>h.block k (by omega) (hR k hk)⟩
theorem Et.blk{R:Nat->Prop}{a b:World}(h:Et R a b){g:Nat}{cur:Array Value}{ty:TypeId}(hg:Ak a g cur ty)(hn:¬R g):Ak b g cur ty:=by
 unfold Ak at*;rw[h.block g (aQ.1 hg).1 hn];exact hg
theorem Et.setCell{R:Nat->Prop}{a b:World}(h:Et R a b){ad:Addr}(ha:R ad.block\/a.heap.size<=ad.block)(x:Value):Et R a (b.setCell ad x):=by
 refine⟨h.os,h.tape,h.output,by rw[cM];exact h.size,fun k hk hn=> ?_⟩
 have hne:k≠ad.block:=fun e=>by
  rcases ha with ha|ha
  . exact hn (e▸ha)
  . omega
 rw[Below.heap_setCell _ _ _ _ hne];exact h.block k hk hn
theorem Et.mono{R R':Nat->Prop}{a b:World}(h:Et R a b)(hR:∀k,k<a.heap.size->R k->R' k):Et R' a b:=⟨h.os,h.tape,h.output,h.size,fun k hk hn=>h.block k hk (fun e=>hn (hR k hk e))⟩
theorem Et.grown{R:Nat->Prop}{a b c:World}(h:Et R a b){r:Option Nat}(hg:b.grownBy c r)(hr:∀k,k<a.heap.size->some k=r->R k):Et R a c:=⟨hg.os.trans h.os,hg.tape.trans h.tape,hg.output.trans h.output,aY h.size hg.size,fun k hk hn=>(hg.block k (bY hk h.size) (fun e=>hn (hr k hk e))).trans (h.block k hk hn)⟩
theorem Et.own{R:Nat->Prop}{u u':World}(hc:Et R u u'){B:Nat}{e:TypeId}{k n:Nat}{s:Value}{xs:List Value}(h:u.ownsRow B e k s n xs)(hn:∀b,s.ownBlock=some b->¬R b):u'.ownsRow B e k s n xs:=by
 refine⟨h.1,?_⟩;rcases h.2 with h2|⟨g,cap,cur,e1,hb1,hg,hr⟩
 . exact .inl h2
 . refine .inr ⟨g,cap,cur,e1,hb1,?_,hr⟩
   rw[hc.block g (aQ.1 hg).1 (hn g (by rw[e1];rfl))];exact hg
theorem Et.on{R:Nat->Prop}{a b c:World}(h:Et R a b)(h':Below b.heap.size b c):Et R a c:=h.trans (Et.of (R:=R) h') (fun _ _ e=>e)
theorem Nv{w:World}{s:Value}{fs:List MF}{q:Nat}{f:MF}(h:Hq w s fs)(hq:fs[q]?=some f):∃gk ok ck,s=.slice (some ⟨gk,ok,none⟩) fs.length ck/\∃g:VF,C9 w g f/\w.cell? ⟨gk,ok+q*4,none⟩=some g.p/\w.cell? ⟨gk,ok+q*4+1,none⟩=some (.int .i64 f.result)/\w.cell? ⟨gk,ok+q*4+2,none⟩=some g.l/\w.cell? ⟨gk,ok+q*4+3,none⟩=some g.c:=by
 obtain⟨xs,h1,h2,h3⟩:=h;have hlt:=(aD.1 hq).1;rcases h2.2 with⟨e,_⟩|⟨gk,ok,ck,e,hc⟩
 . omega
 . obtain⟨x,hx,hx1⟩:∃x,xs[q]?=some x/\x.1=f:=by
    rw[<-h1,bB]at hq;cases hx:xs[q]? with
    |none=>rw[hx]at hq;cases hq
    |some x=>rw[hx]at hq;exact⟨x,rfl,ae hq⟩
   subst hx1;exact⟨gk,ok,ck,e,x.2,h3 x (aE hx),Rd.elem Ah hc q x hx 0 _ rfl,Rd.elem Ah hc q x hx 1 _ rfl,Rd.elem Ah hc q x hx 2 _ rfl,Rd.elem Ah hc q x hx 3 _ rfl⟩
theorem Qq{w:World}{s:Value}{is:List MI}{q:Nat}{x:MI}(h:Rd w 4 s is.length (is.flatMap MI.cells))(hq:is[q]?=some x):∃gk ok ck,s=.slice (some ⟨gk,ok,none⟩) is.length ck/\w.cell? ⟨gk,ok+q*4,none⟩=some (.int .i64 x.op)/\w.cell? ⟨gk,ok+q*4+1,none⟩=some (.int .i64 x.a)/\w.cell? ⟨gk,ok+q*4+2,none⟩=some (.int .i64 x.b)/\w.cell? ⟨gk,ok+q*4+3,none⟩=some (.int .i64 x.c):=by
 have hlt:=(aD.1 hq).1;rcases h.2 with⟨e,_⟩|⟨gk,ok,ck,e,hc⟩
 . omega
 . exact⟨gk,ok,ck,e,Rd.elem MI.cells_length hc q x hq 0 _ rfl,Rd.elem MI.cells_length hc q x hq 1 _ rfl,Rd.elem MI.cells_length hc q x hq 2 _ rfl,Rd.elem MI.cells_length hc q x hq 3 _ rfl⟩
def A3(p:MP)(r c:Int):Int:=if r<0\/2<r\/c<0 then 0 else(p.regions.getD r.toNat []).getD c.toNat 0
theorem Dv{p:MP}{r c:Int}(h:r<0\/2<r\/c<0):A3 p r c=0:=a8 h
theorem Gw{p:MP}{r c:Nat}(h:r<=2){l:List Int}(hl:p.regions[r]?=some l):A3 p r c=l.getD c 0:=by
 unfold A3;have e:p.regions.getD r []=l:=by rw[aJ,hl];rfl
 rw[bF (by omega),aG,aG,e]
theorem FI(v:VP)(p:MP)(r c:Int)(w:World)(hs:p.small)(h3:p.regions.length=3)(hr:CD r)(hc:CD c)(h:Dg w v p):
 Calls Tryz.prog 70 #[.agg #[v.r,v.k,v.f,v.t],.int .i64 r,.int .i64 c] w fun e w'=>e=.returned (.int .i64 (A3 p r c))/\Below w.heap.size w w':=by
 have hr':-9223372036854775808<=r/\r<=9223372036854775807:=by simpa[CD,Lit.wf,IntKind.min,IntKind.max,IntKind.signed,IntKind.bits]using hr
 have hc':-9223372036854775808<=c/\c<=9223372036854775807:=by simpa[CD,Lit.wf,IntKind.min,IntKind.max,IntKind.signed,IntKind.bits]using hc
 obtain⟨r0,r1⟩:=hr';obtain⟨c0,c1⟩:=hc';clear hr hc;obtain⟨vr,vk,vf,vt⟩:=v;obtain⟨xs,hxs,hrd,hel⟩:=h.regions;simp only[]at hrd;rw[h3]at hrd;have hxl:xs.length=3:=by rw[<-h3,<-hxs];simp
 have H1:Hid (Rd w 1 vr 3 (xs.flatMap Bl)/\xs.map Prod.fst=p.regions/\(∀x∈xs,Rd w 1 x.2 x.1.length (x.1.flatMap Ac))/\(∀l∈p.regions,l.length<=1048576)/\xs.length=3):=⟨hrd,hxs,hel,hs.region,hxl⟩
 clear hrd hxs hel hxl hs h h3;have HB:Hid _:=(Qj.of w 35 #[vr,vk,vf,vt] rfl).bel;by_cases q0:r<0
 . rw[Dv (.inl q0)]
   go_enter Tryz.func70,Tryz.ntmps70;go_wp2
   go_ret
   exact⟨rfl,HB.o⟩
 by_cases q1:2<r
 . rw[Dv (.inr (.inl q1))]
   go_enter Tryz.func70,Tryz.ntmps70;go_wp2
   go_ret
   exact⟨rfl,HB.o⟩
 by_cases q2:c<0
 . rw[Dv (.inr (.inr q2))]
   go_enter Tryz.func70,Tryz.ntmps70;go_wp2
   go_ret
   exact⟨rfl,HB.o⟩
 obtain⟨i,rfl⟩:=aT (show 0<=r by omega);obtain⟨j,rfl⟩:=aT (show 0<=c by omega);obtain⟨⟨l,y⟩,hx⟩:∃x,xs[i]?=some x:=⟨_,aA (by rw[H1.o.2.2.2.2];omega)⟩;have e1:=BM H1.o.2.1 hx;have hy:=H1.o.2.2.1 _ (aE hx);have hll:=H1.o.2.2.2.1 _ (aE e1);simp only[]at e1 hy hll;rw[Gw (by omega) e1];rcases H1.o.1.2 with⟨e0,_⟩|⟨g,o,cc,e2,hc1⟩
 . omega
 subst e2;have a0:=Rd.elem AW hc1 i _ hx 0 _ rfl;rw[bf,aS]at a0;simp only[]at a0;clear hc1 hx e1;obtain⟨ay,cy,rfl⟩:=hy.is_slice;have a1:=(HB.o.cell (aC a0)).trans a0;by_cases q3:j<l.length
 . obtain⟨z,hz⟩:∃z,l[j]?=some z:=⟨_,aA q3⟩
   have ez:l.getD j 0=z:=by rw[aJ,hz];rfl
   rw[ez];rcases hy.2 with⟨e0,_⟩|⟨g2,o2,c2,e3,hc2⟩
   . omega
   simp only[aF,aw]at e3;obtain⟨rfl,rfl⟩:=e3;have b0:=Rd.elem Ap hc2 j z hz 0 _ rfl;rw[bf,aS]at b0;have b1:=(HB.o.cell (aC b0)).trans b0;clear hc2 hz b0 a0 ez;have HY:Hid _:=hy;clear hy;generalize l.length=n at*;go_enter Tryz.func70,Tryz.ntmps70;go_wp2
   go_ret
   exact⟨rfl,HB.o⟩
 . have ez:l.getD j 0=0:=by rw[aJ,aZ (by omega)];rfl
   rw[ez];clear ez a0 hy;generalize l.length=n at*;go_enter Tryz.func70,Tryz.ntmps70;go_wp2
   go_ret
   exact⟨rfl,HB.o⟩
end Go.Proofs.YtdipfjmlfbdkdaaGreat
