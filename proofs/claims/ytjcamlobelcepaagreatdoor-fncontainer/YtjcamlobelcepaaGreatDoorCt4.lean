import Derived.Deep.RegionHeld
import Derived.StillTail
import Derived.Test.YtjcamlobelcepaaGreatDoorCt3
import Derived.Laws.StructEq
namespace Go.Proofs.YtjcamlobelcepaaGreatDoor
open Go.ChangeShapes Go.WideShapes Go.ChangeAt Go.RowKit
set_option linter.unusedVariables false
set_option maxHeartbeats 2000000
set_option maxRecDepth 100000
section
variable {P:Program} {ops:Array Oper} {Q:Exit->Act->World->Prop} {md:Region.Mode} {S:World->Prop} {n:Nat}
def C4(P:Program)(md:Region.Mode)(ops:Array Oper)(Q:Exit->Act->World->Prop)(S:World->Prop)(n:Nat):Nat->Array Bool->Act->World->Prop
 |0,d,a,w=>Region.ready md ops d=[]/\Q .normal a w
 |f+1,d,a,w=>(Region.ready md ops d=[]->Q .normal a w)/\∀i∈Region.ready md ops d,wpOp P ops Q i (fun a' w'=>(i<n->S w')/\C4 P md ops Q S n f (d.setIfInBounds i true) a' w') a w
theorem Kc:∀(f:Nat) (d:Array Bool) (a:Act) (w:World),C4 P md ops Q S n f d a w->wpAny P md ops Q f d a w
 |0,_,_,_,h=>h
 |f+1,_,_,_,h=>⟨h.1,fun i hi=>wpOp_mono (fun a' w' h'=>Kc f _ a' w' h'.2) (h.2 i hi)⟩
theorem L5{i:Nat}{oi:Oper}{v:Value}(hi:ops[i]?=some oi)(hsel:∀(j:Nat) (o:Oper) cs b,ops[j]?=some o->o.op≠ .select cs b)
 (hQ:∀c a w,Q (.panic c) (a.put oi.dst v) w->Q (.panic c) a w) (hs:Region.sinkB md ops n=true) (hc:Region.chainB md ops n=true) (hn:n<ops.size) (hin:i<n):
 ∀ (f:Nat) (d:Array Bool) (a:Act) (w:World),HeadInv md ops n d->
   (∀j oj,ops[j]?=some oj->j≠i->d.getD j true=false->(∀e∈oj.after,Region.binds md e=true->e.on≠i)->oi.apart ops oj=true)->
   i∈Region.ready md ops d->YieldsIf P ops S oi v a->S w->
   C4 P md ops Q S n f (d.setIfInBounds i true) (a.put oi.dst v) w->C4 P md ops Q S n (f+1) d a w:=by
 intro f;induction f with
 | zero=>
   intro d a w _ _ hr hy hS H;refine⟨fun h=>(by rw[h]at hr;cases hr),fun j hj=> ?_⟩;by_cases hji:j=i
   . subst hji;exact hy.wpOp hi hS ⟨fun _=>hS,H⟩
   . have:=ready_mono hj hji
     rw[H.1]at this;cases this
 | succ f ih=>
   intro d a w inv hfree hr hy hS H;refine⟨fun h=>(by rw[h]at hr;cases hr),fun j hj=> ?_⟩;by_cases hji:j=i
   . subst hji;exact hy.wpOp hi hS ⟨fun _=>hS,H⟩
   . have hjn:j<n:=Nat.lt_of_not_le fun h=>tail_waits hs hc hn inv _ i rfl hin (mem_ready.1 hr).1 j h hj
     have h1:=H.2 j (ready_mono hj hji);obtain⟨hjun,oj,hoj,hall⟩:=mem_ready.1 hj
     have hnot:∀e∈oj.after,Region.binds md e=true->e.on≠i:=fun e he hb heq=>by
      have h1:=hall e he hb;rw[heq,getD_both (mem_ready.1 hr).1]at h1;cases h1
     have h2:=wpOp_putIf hoj (hfree j oj hoj hji hjun hnot) (fun cs b=>hsel i oi cs b hi) (fun cs b=>hsel j oj cs b hoj) hQ hy h1
     have hfree':∀k ok,ops[k]?=some ok->k≠i->(d.setIfInBounds j true).getD k true=false->
      (∀e∈ok.after,Region.binds md e=true->e.on≠i)->oi.apart ops ok=true:=fun k ok hk hki hun hno=>by
      refine hfree k ok hk hki ?_ hno;by_cases hjk:j=k
      . subst hjk;exact hjun
      . rw[getD_set_ne true hjk]at hun;exact hun
     refine wpOp_mono (fun a' w' h3=>⟨h3.2.1,ih (d.setIfInBounds j true) a' w' (inv.set hj hjn) hfree' (ready_mono hr (Ne.symm hji)) h3.1 (h3.2.1 hjn) ?_⟩) h2;rw[Array.setIfInBounds_comm _ _ hji];exact h3.2.2
def OO(md:Region.Mode)(ops:Array Oper)(n:Nat)(d:Array Bool):Bool:=
 d.size==ops.size&&(List.range ops.size).all (fun j=> !d.getD j false||((ops[j]?).map (·.after.all fun e=> !Region.binds md e||d.getD e.on false)).getD true)&&(List.range ops.size).all (fun t=>decide (t<n)|| !d.getD t true)&&Region.sinkB md ops n&&Region.chainB md ops n&&decide (n<ops.size)
theorem NY{d:Array Bool}(h:OO md ops n d=true):HeadInv md ops n d/\Region.sinkB md ops n=true/\Region.chainB md ops n=true/\n<ops.size:=by
 simp only[OO,eG,dE,beq_iff_eq]at h;obtain⟨⟨⟨⟨⟨h1,h2⟩,h3⟩,h4⟩,h5⟩,h6⟩:=h;refine⟨⟨h1,fun j oj hj hl e he hb=> ?_,fun t ht ht'=> ?_⟩,h4,h5,h6⟩
 . have:=dp.1 h2 j (cX.2 (an.1 hj).1)
   rw[hl,hj]at this;simp only[Bool.not_true,Bool.false_or,eM,eH]at this;have:=Array.all_eq_true'.1 this e he;rw[hb]at this;simpa using this
 . have:=dp.1 h3 t (cX.2 ht')
   rw[cI (by omega)]at this;simpa using this
theorem Nx{i:Nat}{oi:Oper}{v:Value}{f:Nat}{d:Array Bool}{a:Act}{w:World}(hi:ops[i]?=some oi)
 (hsl:Region.noSelect ops=true) (hf:Region.free md ops d i=true) (hr:(Region.ready md ops d).contains i=true) (hb:OO md ops n d=true) (hin:i<n)
 (hQ:∀c a w,Q (.panic c) (a.put oi.dst v) w->Q (.panic c) a w) (hy:YieldsIf P ops S oi v a) (hS:S w)
 (h:C4 P md ops Q S n f (d.setIfInBounds i true) (a.put oi.dst v) w):C4 P md ops Q S n (f+1) d a w:=
 have hh:=NY hb
 L5 hi (Region.noSelect_spec hsl) hQ hh.2.1 hh.2.2.1 hh.2.2.2 hin f d a w hh.1 (Region.free_spec hi hf) (by simpa using hr) hy hS h
def Dg(P:Program)(md:Region.Mode)(ops:Array Oper)(Q:Exit->Act->World->Prop)(S:World->Prop)(n f:Nat)(d:Array Bool)(a:Act)(w:World)(rs:List Nat):Prop:=
 ∀i∈rs,wpOp P ops Q i (fun a' w'=>(i<n->S w')/\C4 P md ops Q S n f (d.setIfInBounds i true) a' w') a w
theorem Dg.nil{f:Nat}{d:Array Bool}{a:Act}{w:World}:Dg P md ops Q S n f d a w []:=fun _ h=>by cases h
theorem Dg.cons{f:Nat}{d:Array Bool}{a:Act}{w:World}{i:Nat}{o:Oper}{rs:List Nat}(ho:ops[i]?=some o)
 (h:∀K':Act->World->Prop,Shut (∀a w,(i<n->S w)->((i<n->S w)->C4 P md ops Q S n f (d.setIfInBounds i true) a w)->K' a w)->if Region.wanted o (yielded ops a.tmps)=true then Oper.wp P o a w K' Q else K' (a.put o.dst undef) w)
 (hs:Dg P md ops Q S n f d a w rs):Dg P md ops Q S n f d a w (i::rs):=fun j hj=>by
 rcases bG.1 hj with rfl|hj
 . have:=h (fun a' w'=>(j<n->S w')/\C4 P md ops Q S n f (d.setIfInBounds j true) a' w') (show Shut _ from fun a w h1 h2=>⟨h1,h2 h1⟩)
   unfold wpOp;simp only[ho];split
   . rename_i hw;simp only[hw,if_true]at this;exact .inl this
   . rename_i hw;simp only[hw]at this;exact this
 . exact hs j hj
theorem L7{rs:List Nat}{f:Nat}{d:Array Bool}{a:Act}{w:World}(hr:Region.ready md ops d=rs)(hne:rs≠[])
 (h:Dg P md ops Q S n f d a w rs):C4 P md ops Q S n (f+1) d a w:=⟨fun h0=>absurd (hr▸h0) hne,hr▸h⟩
theorem Cj{d:Array Bool}{a:Act}{w:World}(hr:Region.ready md ops d=[])(h:Q .normal a w):∀f,C4 P md ops Q S n f d a w
 |0=>⟨hr,h⟩
 |_+1=>⟨fun _=>h,by rw[hr];simp⟩
theorem Bh(n:Nat){id:Nat}{a:Act}{w:World}(hm:P.follows .mixedOrders=true)(hS:S w.drew)
 (h:S w.drew->C4 P .any ops Q S n ops.size (Array.replicate ops.size false) a w.drew):(Code.region id ops true).wp P Q a w:=
 wp_region_any hm (Kc _ _ _ _ (h hS))
end
theorem FC{w wr:World}{g:Nat}(h:w.grownBy wr (some g))(i:Nat)(x:Value):w.grownBy (wr.setCell ⟨g,i,none⟩ x) (some g):=
 ⟨h.os,h.tape,h.output,by rw[bf];exact h.size,fun k hk hne=>(bI wr _ k x (fun e=>hne (by rw[e]))).trans (h.block k hk hne)⟩
theorem BM{w w':World}{base:Nat}{e:TypeId}{s:Value}{k n:Nat}{xs:List Value}{row:Option Nat}(h:w.ownsRow base e k s n xs)(hg:w.grownBy w' row)(hne:∀g,s.ownBlock=some g->some g≠row):w'.ownsRow base e k s n xs:=by
 refine⟨h.1,?_⟩;rcases h.2 with h|⟨g,cap,cur,rfl,hb1,hgg,hr⟩
 . exact .inl h
 . refine .inr ⟨g,cap,cur,rfl,hb1,?_,hr⟩
   rw[hg.block g (an.1 hgg).1 (hne g rfl)];exact hgg
def Jr(x y:Value×List Int):Prop:=∀g,x.1.ownBlock=some g->y.1.ownBlock≠some g
theorem Jr.symm{x y:Value×List Int}(h:Jr x y):Jr y x:=fun g hg e=>h g e hg
structure IK(w:World)(base:Nat)(L:List (Value×List Int)):Prop where
 own:∀x∈L,w.ownsRow base 2 1 x.1 x.2.length (x.2.flatMap Ac)
 sep:L.Pairwise Jr
structure Wv(base:Nat)(w w':World):Prop where
 bel:Below base w w'
 blk:∀(k:Nat) (cur:Array Value) (t:TypeId),w.heap[k]?=some (Obj.cells cur t (0,0))->t≠2->w'.heap[k]?=some (Obj.cells cur t (0,0))
theorem Wv.refl(base:Nat)(w:World):Wv base w w:=⟨aq _ _,fun _ _ _ h _=>h⟩
theorem Wv.trans{base:Nat}{u v w:World}(h:Wv base u v)(h':Wv base v w):Wv base u w:=⟨h.bel.trans h'.bel,fun k cur t hk h1=>h'.blk k cur t (h.blk k cur t hk h1) h1⟩
theorem Wv.own{base b:Nat}{w w':World}(h:Wv base w w'){e:TypeId}{s:Value}{k n:Nat}{xs:List Value}(ho:w.ownsRow b e k s n xs)(h1:e≠2):w'.ownsRow b e k s n xs:=by
 refine⟨ho.1,?_⟩;rcases ho.2 with h'|⟨g,cap,cur,e1,hb1,hg,hr⟩
 . exact .inl h'
 . exact .inr ⟨g,cap,cur,e1,hb1,h.blk g cur e hg h1,hr⟩
theorem IK.put{w w':World}{base:Nat}{A B:List (Value×List Int)}{v:Value}{c c':List Int}(h:IK w base (A++(v,c)::B))(hl:c'.length=c.length)(ho:w'.ownsRow base 2 1 v c.length (c'.flatMap Ac))(hg:w.grownBy w' v.ownBlock):IK w' base (A++(v,c')::B):=by
 obtain⟨pA,pB,pAB⟩:=cA.1 h.sep;obtain⟨pv,pB'⟩:=cW.1 pB;refine⟨fun x hx=> ?_,cA.2 ⟨pA,cW.2 ⟨fun y hy=>pv y hy,pB'⟩,fun a ha b hb=> ?_⟩⟩
 . rcases ah.1 hx with hx|hx
   . exact BM (h.own x (ah.2 (.inl hx))) hg (fun g hgx e=>pAB x hx (v,c) (by simp) g hgx e.symm)
   . rcases bG.1 hx with rfl|hx
     . simp only[]
       rw[hl];exact ho
     . exact BM (h.own x (ah.2 (.inr (bP _ hx)))) hg (fun g hgx e=>pv x hx g e.symm hgx)
 . rcases bG.1 hb with rfl|hb
   . exact fun g hga=>pAB a ha (v,c) (by simp) g hga
   . exact pAB a ha b (bP _ hb)
theorem GA(w:World)(cs:Array Value)(t:TypeId):(w.alloc (.cells cs t)).heap[w.heap.size]?=some (.cells cs t (0,0)):=d6
theorem Cw(s:ByteArray)(c f:Int)(w:World):(Instr.field 179 (.agg #[.string s,.int .i64 c,.int .i64 f]) 2).run Tryz.prog w=.ok (.int .i64 f) w:=by kernel_rfl
theorem KZ{w:World}{s:Value}{fs:List MF}{q:Nat}{f:MF}(h:Jd w s fs)(hq:fs[q]?=some f):∃gk ok ck,s=.slice (some ⟨gk,ok,none⟩) fs.length ck/\∃g:VF,EI w g f/\w.cell? ⟨gk,ok+q*4,none⟩=some g.p/\w.cell? ⟨gk,ok+q*4+1,none⟩=some (.int .i64 f.result)/\w.cell? ⟨gk,ok+q*4+2,none⟩=some g.l/\w.cell? ⟨gk,ok+q*4+3,none⟩=some g.c:=by
 obtain⟨xs,h1,h2,h3⟩:=h;have hlt:=(aE.1 hq).1;rcases h2.2 with⟨e,_⟩|⟨gk,ok,ck,e,hc⟩
 . omega
 . obtain⟨x,hx,hx1⟩:∃x,xs[q]?=some x/\x.1=f:=by
    rw[<-h1,bQ]at hq;cases hx:xs[q]? with
    |none=>rw[hx]at hq;cases hq
    |some x=>rw[hx]at hq;exact⟨x,rfl,aZ hq⟩
   subst hx1;exact⟨gk,ok,ck,e,x.2,h3 x (aF hx),Rd.elem Ag hc q x hx 0 _ rfl,Rd.elem Ag hc q x hx 1 _ rfl,Rd.elem Ag hc q x hx 2 _ rfl,Rd.elem Ag hc q x hx 3 _ rfl⟩
theorem QH{w:World}{s:Value}{is:List MI}{q:Nat}{x:MI}(h:Rd w 4 s is.length (is.flatMap MI.cells))(hq:is[q]?=some x):∃gk ok ck,s=.slice (some ⟨gk,ok,none⟩) is.length ck/\w.cell? ⟨gk,ok+q*4,none⟩=some (.int .i64 x.op)/\w.cell? ⟨gk,ok+q*4+1,none⟩=some (.int .i64 x.a)/\w.cell? ⟨gk,ok+q*4+2,none⟩=some (.int .i64 x.b)/\w.cell? ⟨gk,ok+q*4+3,none⟩=some (.int .i64 x.c):=by
 have hlt:=(aE.1 hq).1;rcases h.2 with⟨e,_⟩|⟨gk,ok,ck,e,hc⟩
 . omega
 . exact⟨gk,ok,ck,e,Rd.elem MI.cells_length hc q x hq 0 _ rfl,Rd.elem MI.cells_length hc q x hq 1 _ rfl,Rd.elem MI.cells_length hc q x hq 2 _ rfl,Rd.elem MI.cells_length hc q x hq 3 _ rfl⟩
structure DX(R:Nat->Prop)(u u':World):Prop where
 os:u'.os=u.os
 tape:u'.tape=u.tape
 output:u'.output=u.output
 size:u.heap.size<=u'.heap.size
 block:∀k,k<u.heap.size->¬R k->u'.heap[k]?=u.heap[k]?
theorem DX.of{R:Nat->Prop}{u u':World}(h:Below u.heap.size u u'):DX R u u':=⟨h.os,h.tape,h.output,h.size,fun k hk _=>h.block k hk⟩
theorem DX.refl(R:Nat->Prop)(u:World):DX R u u:=⟨rfl,rfl,rfl,Nat.le_refl _,fun _ _ _=>rfl⟩
theorem DX.trans{R R':Nat->Prop}{a b c:World}(h:DX R a b)(h':DX R' b c)(hR:∀k,k<a.heap.size->R' k->R k):DX R a c:=⟨h'.os.trans h.os,h'.tape.trans h.tape,h'.output.trans h.output,aR h.size h'.size,fun k hk hn=>(h'.block k (bZ hk h.size) (fun e=>hn (hR k hk e))).trans (h.block k hk hn)⟩
theorem DX.below{R:Nat->Prop}{a b:World}(h:DX R a b){B:Nat}(hB:B<=a.heap.size)(hR:∀k,k<B->¬R k):Below B a b:=⟨h.os,h.tape,h.output,h.size,fun k hk=>h.block k (by omega) (hR k hk)⟩
theorem DX.blk{R:Nat->Prop}{a b:World}(h:DX R a b){g:Nat}{cur:Array Value}{ty:TypeId}(hg:Ap a g cur ty)(hn:¬R g):Ap b g cur ty:=by
 unfold Ap at*;rw[h.block g (an.1 hg).1 hn];exact hg
theorem DX.setCell{R:Nat->Prop}{a b:World}(h:DX R a b){ad:Addr}(ha:R ad.block\/a.heap.size<=ad.block)(x:Value):DX R a (b.setCell ad x):=by
 refine⟨h.os,h.tape,h.output,by rw[bf];exact h.size,fun k hk hn=> ?_⟩
 have hne:k≠ad.block:=fun e=>by
  rcases ha with ha|ha
  . exact hn (e▸ha)
  . omega
 rw[Below.heap_setCell _ _ _ _ hne];exact h.block k hk hn
theorem DX.mono{R R':Nat->Prop}{a b:World}(h:DX R a b)(hR:∀k,k<a.heap.size->R k->R' k):DX R' a b:=⟨h.os,h.tape,h.output,h.size,fun k hk hn=>h.block k hk (fun e=>hn (hR k hk e))⟩
theorem DX.grown{R:Nat->Prop}{a b c:World}(h:DX R a b){r:Option Nat}(hg:b.grownBy c r)(hr:∀k,k<a.heap.size->some k=r->R k):DX R a c:=⟨hg.os.trans h.os,hg.tape.trans h.tape,hg.output.trans h.output,aR h.size hg.size,fun k hk hn=>(hg.block k (bZ hk h.size) (fun e=>hn (hr k hk e))).trans (h.block k hk hn)⟩
theorem DX.own{R:Nat->Prop}{u u':World}(hc:DX R u u'){B:Nat}{e:TypeId}{k n:Nat}{s:Value}{xs:List Value}(h:u.ownsRow B e k s n xs)(hn:∀b,s.ownBlock=some b->¬R b):u'.ownsRow B e k s n xs:=by
 refine⟨h.1,?_⟩;rcases h.2 with h2|⟨g,cap,cur,e1,hb1,hg,hr⟩
 . exact .inl h2
 . refine .inr ⟨g,cap,cur,e1,hb1,?_,hr⟩
   rw[hc.block g (an.1 hg).1 (hn g (by rw[e1];rfl))];exact hg
theorem DX.on{R:Nat->Prop}{a b c:World}(h:DX R a b)(h':Below b.heap.size b c):DX R a c:=h.trans (DX.of (R:=R) h') (fun _ _ e=>e)
structure Bw(B:Nat)(w:World)(out:Value)(u:World)(v:Value)(bs:List Value):Prop where
 own:u.ownsRow B 5 1 v bs.length bs
 grown:w.grownBy u out.ownBlock
 place:v.ownBlock=out.ownBlock\/∃k,v.ownBlock=some k/\w.heap.size<=k
theorem Bw.refl{B:Nat}{w:World}{out:Value}{bs:List Value}(h:w.ownsRow B 5 1 out bs.length bs):Bw B w out w out bs:=⟨h,World.grownBy.refl _ _,.inl rfl⟩
theorem Bw.call{B:Nat}{w:World}{out:Value}{u u':World}{v:Value}{bs:List Value}(h:Bw B w out u v bs)(hb:Below u.heap.size u u'):Bw B w out u' v bs:=
 ⟨Ah h.own hb lR,h.grown.trans (grown_of_below' hb h.grown.size),h.place⟩
 where grown_of_below' {w u u':World} {row:Option Nat} (hb:Below u.heap.size u u') (_:w.heap.size<=u.heap.size):u.grownBy u' row:=Jg hb row
theorem Bw.more{B:Nat}{w:World}{out:Value}{u u':World}{v v':Value}{bs news:List Value}(h:Bw B w out u v bs)(hB:B<=w.heap.size)(n:Nat)(hn:n=bs.length)(m:Nat)(hm:m=news.length)
 (ho:u'.ownsRow B 5 1 v' (n+m) (bs++news)) (hg:u.grownBy u' v.ownBlock) (hp:v'.ownBlock=v.ownBlock\/v'.ownBlock=some u.heap.size):Bw B w out u' v' (bs++news):=by
 refine⟨by rw[aH];subst hn hm;exact ho,⟨hg.os.trans h.grown.os,hg.tape.trans h.grown.tape,hg.output.trans h.grown.output,aR h.grown.size hg.size,fun k hk hne=> ?_⟩,?_⟩
 . rw[hg.block k (bZ hk h.grown.size) ?_,h.grown.block k hk hne]
   rcases h.place with e|⟨j,e,hj⟩
   . rw[e];exact hne
   . rw[e]
     intro hh;simp only[aM]at hh;omega
 . rcases hp with e|e
   . rw[e];exact h.place
   . exact .inr ⟨_,e,h.grown.size⟩
theorem Lh{w:World}{base:Nat}{e:TypeId}{ad:Addr}{n c:Nat}{xs:List Value}(h:w.ownsRow base e 1 (.slice (some ad) n c) n xs):∀j u,xs[j]?=some u->w.cell? (ad.add j)=some u:=by
 intro j u hj;rcases(Rd.of_own h).2 with⟨rfl,_⟩|⟨g,o,c',e,hc⟩
 . have:=(aE.1 hj).1
   rw[h.1]at this;omega
 . simp only[aI,aM,ao]at e
   obtain⟨rfl,rfl⟩:=e;rw[Addr.add_lit];exact hc j u hj
def Bt(p:MP)(r c:Int):Int:=if r<0\/2<r\/c<0 then 0 else(p.regions.getD r.toNat []).getD c.toNat 0
theorem Ev{p:MP}{r c:Int}(h:r<0\/2<r\/c<0):Bt p r c=0:=bj h
theorem Iy{p:MP}{r c:Nat}(h:r<=2){l:List Int}(hl:p.regions[r]?=some l):Bt p r c=l.getD c 0:=by
 unfold Bt;have e:p.regions.getD r []=l:=by rw[aU,hl];rfl
 rw[bX (by omega),aX,aX,e]
theorem Hl(v:VP)(p:MP)(r c:Int)(w:World)(hs:p.small)(h3:p.regions.length=3)(hr:Ec r)(hc:Ec c)(h:Ej w v p):
 Calls Tryz.prog 123 #[.agg #[v.r,v.k,v.f,v.t],.int .i64 r,.int .i64 c] w fun e w'=>e=.returned (.int .i64 (Bt p r c))/\Below w.heap.size w w':=by
 have hr':-9223372036854775808<=r/\r<=9223372036854775807:=by simpa[Ec,Lit.wf,IntKind.min,IntKind.max,IntKind.signed,IntKind.bits]using hr
 have hc':-9223372036854775808<=c/\c<=9223372036854775807:=by simpa[Ec,Lit.wf,IntKind.min,IntKind.max,IntKind.signed,IntKind.bits]using hc
 obtain⟨r0,r1⟩:=hr';obtain⟨c0,c1⟩:=hc';clear hr hc;obtain⟨vr,vk,vf,vt⟩:=v;obtain⟨xs,hxs,hrd,hel⟩:=h.regions;simp only[]at hrd;rw[h3]at hrd;have hxl:xs.length=3:=by rw[<-h3,<-hxs];simp
 have H1:Hid (Rd w 1 vr 3 (xs.flatMap BE)/\xs.map Prod.fst=p.regions/\(∀x∈xs,Rd w 1 x.2 x.1.length (x.1.flatMap Ac))/\(∀l∈p.regions,l.length<=1048576)/\xs.length=3):=⟨hrd,hxs,hel,hs.region,hxl⟩
 clear hrd hxs hel hxl hs h h3;have HB:Hid _:=(SH.of w 28 #[vr,vk,vf,vt] rfl).bel;by_cases q0:r<0
 . rw[Ev (.inl q0)]
   go_enter Tryz.func123,Tryz.ntmps123;go_wp2
   go_ret
   exact⟨rfl,HB.o⟩
 by_cases q1:2<r
 . rw[Ev (.inr (.inl q1))]
   go_enter Tryz.func123,Tryz.ntmps123;go_wp2
   go_ret
   exact⟨rfl,HB.o⟩
 by_cases q2:c<0
 . rw[Ev (.inr (.inr q2))]
   go_enter Tryz.func123,Tryz.ntmps123;go_wp2
   go_ret
   exact⟨rfl,HB.o⟩
 obtain⟨i,rfl⟩:=aS (show 0<=r by omega);obtain⟨j,rfl⟩:=aS (show 0<=c by omega);obtain⟨⟨l,y⟩,hx⟩:∃x,xs[i]?=some x:=⟨_,aA (by rw[H1.o.2.2.2.2];omega)⟩;have e1:=BG H1.o.2.1 hx;have hy:=H1.o.2.2.1 _ (aF hx);have hll:=H1.o.2.2.2.1 _ (aF e1);simp only[]at e1 hy hll;rw[Iy (by omega) e1];rcases H1.o.1.2 with⟨e0,_⟩|⟨g,o,cc,e2,hc1⟩
 . omega
 subst e2;have a0:=Rd.elem AK hc1 i _ hx 0 _ rfl;rw[bR,aT]at a0;simp only[]at a0;clear hc1 hx e1;obtain⟨ay,cy,rfl⟩:=hy.is_slice;have a1:=(HB.o.cell (aD a0)).trans a0;by_cases q3:j<l.length
 . obtain⟨z,hz⟩:∃z,l[j]?=some z:=⟨_,aA q3⟩
   have ez:l.getD j 0=z:=by rw[aU,hz];rfl
   rw[ez];rcases hy.2 with⟨e0,_⟩|⟨g2,o2,c2,e3,hc2⟩
   . omega
   simp only[aI,ao]at e3;obtain⟨rfl,rfl⟩:=e3;have b0:=Rd.elem Al hc2 j z hz 0 _ rfl;rw[bR,aT]at b0;have b1:=(HB.o.cell (aD b0)).trans b0;clear hc2 hz b0 a0 ez;have HY:Hid _:=hy;clear hy;generalize l.length=n at*;go_enter Tryz.func123,Tryz.ntmps123;go_wp2
   go_ret
   exact⟨rfl,HB.o⟩
 . have ez:l.getD j 0=0:=by rw[aU,ae (by omega)];rfl
   rw[ez];clear ez a0 hy;generalize l.length=n at*;go_enter Tryz.func123,Tryz.ntmps123;go_wp2
   go_ret
   exact⟨rfl,HB.o⟩
theorem MI.neq(x y:MI)(w:World):∃b:Bool,(b=true↔¬x=y)/\(binOp .neq 97 (.agg x.cells.toArray) (.agg y.cells.toArray)).run Tryz.prog w=.ok (.bool b) w:=by
 have u64:=Tryz.underlying2;have a64:=Tryz.isAgg2;have z64:=Tryz.sizeOf2;have u32:=Tryz.underlying51;have a32:=Tryz.isAgg51;have z32:=Tryz.sizeOf51;have hS:Tryz.prog.underlying 97=some (.struct (Tryz.prog.fieldsOf 97)):=by kernel_rfl
 have hp:Tryz.prog.stoodInHeld 97=false:=by kernel_rfl
 rcases x with⟨op,a,b,c⟩
 rcases y with⟨op',a',b',c'⟩
 simp only[MI.cells];rw[run_neq_struct,show(10000:Nat)=9999+1 from rfl,run_equalIn_agg w 9999 97 _ _ hS hp];simp only[Program.fieldsOf,Tryz.underlying97];go_simp;by_cases h1:op=op'
 . by_cases h2:a=a'
   . by_cases h3:b=b'
     . by_cases h4:c=c'<;>simp[*]
     . simp[*]
   . simp[*]
 . simp[*]
theorem MT.neq(x y:MT)(w:World):∃b:Bool,(b=true↔¬x=y)/\(binOp .neq 62 (.agg x.cells.toArray) (.agg y.cells.toArray)).run Tryz.prog w=.ok (.bool b) w:=by
 have u64:=Tryz.underlying2;have a64:=Tryz.isAgg2;have z64:=Tryz.sizeOf2;have u32:=Tryz.underlying51;have a32:=Tryz.isAgg51;have z32:=Tryz.sizeOf51;have hS:Tryz.prog.underlying 62=some (.struct (Tryz.prog.fieldsOf 62)):=by kernel_rfl
 have hp:Tryz.prog.stoodInHeld 62=false:=by kernel_rfl
 rcases x with⟨op,a,b,c⟩
 rcases y with⟨op',a',b',c'⟩
 simp only[MT.cells];rw[run_neq_struct,show(10000:Nat)=9999+1 from rfl,run_equalIn_agg w 9999 62 _ _ hS hp];simp only[Program.fieldsOf,Tryz.underlying62];go_simp;by_cases h1:op=op'
 . by_cases h2:a=a'
   . by_cases h3:b=b'
     . by_cases h4:c=c'<;>simp[*]
     . simp[*]
   . simp[*]
 . simp[*]
theorem MC.neq(x y:MC)(w:World):∃b:Bool,(b=true↔¬x=y)/\(binOp .neq 53 (.agg x.cells.toArray) (.agg y.cells.toArray)).run Tryz.prog w=.ok (.bool b) w:=by
 have u64:=Tryz.underlying2;have a64:=Tryz.isAgg2;have z64:=Tryz.sizeOf2;have u32:=Tryz.underlying51;have a32:=Tryz.isAgg51;have z32:=Tryz.sizeOf51;have hS:Tryz.prog.underlying 53=some (.struct (Tryz.prog.fieldsOf 53)):=by kernel_rfl
 have hp:Tryz.prog.stoodInHeld 53=false:=by kernel_rfl
 rcases x with⟨a,b⟩
 rcases y with⟨a',b'⟩
 simp only[MC.cells];rw[run_neq_struct,show(10000:Nat)=9999+1 from rfl,run_equalIn_agg w 9999 53 _ _ hS hp];simp only[Program.fieldsOf,Tryz.underlying53];go_simp;by_cases h1:a=a'
 . by_cases h2:b=b'<;>simp[*]
 . simp[*]
theorem DX.onD{R:Nat->Prop}{a b c:World}(h:DX R a b)(h':DX R b c):DX R a c:=h.trans h' (fun _ _ e=>e)
theorem DX.cell{R:Nat->Prop}{u u':World}(h:DX R u u'){ad:Addr}{v:Value}(hc:u.cell? ad=some v)(hn:¬R ad.block):u'.cell? ad=some v:=by
 rw[ce (h.block _ (aD hc) hn)];exact hc
structure Ht(w:World)(v0:VP)(p:MP)(base:Nat)(u:World)(v:Value)(bs:List Value):Prop where
 own:u.ownsRow w.heap.size 5 1 v bs.length bs
 arg:Ap u w.heap.size #[v0.r,v0.k,v0.f,v0.t] 28
 prog:Dc u base v0 p
 bel:Below w.heap.size w u
theorem Ht.call{w:World}{v0:VP}{p:MP}{base:Nat}{u u':World}{v:Value}{bs:List Value}(h:Ht w v0 p base u v bs)(hb:Below u.heap.size u u'):Ht w v0 p base u' v bs:=
 ⟨Ah h.own hb lR,h.arg.keep hb,h.prog.keep hb lR,Ab h.bel lR hb⟩
theorem Ht.more{w:World}{v0:VP}{p:MP}{base:Nat}{u u':World}{v v':Value}{bs bs':List Value}(h:Ht w v0 p base u v bs)(ho:u'.ownsRow w.heap.size 5 1 v' bs'.length bs')(hg:u.grownBy u' v.ownBlock):Ht w v0 p base u' v' bs':=
 ⟨ho,h.arg.grown hg h.own (by decide),h.prog.grown hg h.own,h.bel.grown hg h.bel.size (fun k hk=>(h.own.lt k hk).1)⟩
theorem Ht.put{w:World}{v0:VP}{p:MP}{base:Nat}{u u':World}{v v':Value}{bs news:List Value}(h:Ht w v0 p base u v bs)(hb:Bw w.heap.size u v u' v' (bs++news)):Ht w v0 p base u' v' (bs++news):=h.more hb.own hb.grown
def BC(r:List Int):List Value:=At r.length 2++Eb 1 r
def AY(c:MC):List Value:=At c.type 1++At c.word 4
def Bf(x:MI):List Value:=Eb 1 [x.op,x.a]++At x.b 2++At x.c 4
def A7(f:MF):List Value:=At f.params.length 1++Eb 1 f.params++Eb 1 [f.result,f.locals.length]++Eb 1 f.locals++At f.code.length 2++f.code.flatMap Bf
def Bo(c:MT):List Value:=Eb 2 [c.func,c.head]++At c.counter 1++At c.init 4
def BL:List Value:=[.int .u8 80,.int .u8 76,.int .u8 67,.int .u8 49]
def BP(p:MP):List Value:=BL++At 1 2++p.regions.flatMap BC++At p.consts.length 2++p.consts.flatMap AY++At p.funcs.length 2++p.funcs.flatMap A7++At p.certs.length 2++p.certs.flatMap Bo
theorem Iz(r:List Int):(BC r).length=2+r.length:=by simp[BC,Av,Ef]
theorem Jf(c:MC):(AY c).length=5:=by simp[AY,Av]
theorem FS(x:MI):(Bf x).length=8:=by simp[Bf,Av,Ef]
theorem JE(c:MT):(Bo c).length=9:=by simp[Bo,Av,Ef]
theorem Gg(f:MF):(A7 f).length=5+f.params.length+f.locals.length+f.code.length*8:=by
 unfold A7;rw[aH,Aq Bf 8 FS];simp[Av,Ef];omega
structure As where
 e:TypeId
 k:Nat
 v:Value
 n:Nat
 xs:List Value
def As.own(w:World)(base:Nat)(r:As):Prop:=w.ownsRow base r.e r.k r.v r.n r.xs
def Tz(a b:As):Prop:=∀g,a.v.ownBlock=some g->b.v.ownBlock≠some g
structure CI(w:World)(base:Nat)(L:List As):Prop where
 own:∀r∈L,r.own w base
 sep:L.Pairwise Tz
theorem CI.nil(w:World)(base:Nat):CI w base []:=⟨fun r hr=>(by cases hr),List.Pairwise.nil⟩
theorem CI.keep{w w':World}{base:Nat}{L:List As}(h:CI w base L)(hb:Below w.heap.size w w'):CI w' base L:=⟨fun r hr=>Ah (h.own r hr) hb lR,h.sep⟩
theorem CI.base{w:World}{base base':Nat}{L:List As}(h:CI w base L)(hb:base'<=base):CI w base' L:=⟨fun r hr=>Bv (h.own r hr) hb,h.sep⟩
theorem CI.put{w w':World}{base:Nat}{A B:List As}{r:As}(h:CI w base (A++r::B))(ys:List Value)(ho:w'.ownsRow base r.e r.k r.v r.n ys)(hg:w.grownBy w' r.v.ownBlock):CI w' base (A++{r with xs:=ys}::B):=by
 obtain⟨pA,pB,pAB⟩:=cA.1 h.sep;obtain⟨pv,pB'⟩:=cW.1 pB;refine⟨fun x hx=> ?_,cA.2 ⟨pA,cW.2 ⟨fun y hy=>pv y hy,pB'⟩,fun a ha b hb=> ?_⟩⟩
 . rcases ah.1 hx with hx|hx
   . exact BM (h.own x (ah.2 (.inl hx))) hg (fun g hgx e=>pAB x hx r (by simp) g hgx e.symm)
   . rcases bG.1 hx with rfl|hx
     . exact ho
     . exact BM (h.own x (ah.2 (.inr (bP _ hx)))) hg (fun g hgx e=>pv x hx g e.symm hgx)
 . rcases bG.1 hb with rfl|hb
   . exact fun g hga=>pAB a ha r (by simp) g hga
   . exact pAB a ha b (bP _ hb)
theorem CI.grow{w w':World}{base:Nat}{A B:List As}{r:As}(h:CI w base (A++r::B))(r':As)(ho:r'.own w' base)(hg:w.grownBy w' r.v.ownBlock)(hat:r'.v.ownBlock=r.v.ownBlock\/∀g,r'.v.ownBlock=some g->w.heap.size<=g):CI w' base (A++r'::B):=by
 obtain⟨pA,pB,pAB⟩:=cA.1 h.sep;obtain⟨pv,pB'⟩:=cW.1 pB;have lt:∀x∈A++r::B,∀g,x.v.ownBlock=some g->g<w.heap.size:=fun x hx g hg=>((h.own x hx).lt g hg).2
 refine⟨fun x hx=> ?_,cA.2 ⟨pA,cW.2 ⟨fun y hy=> ?_,pB'⟩,fun a ha b hb=> ?_⟩⟩
 . rcases ah.1 hx with hx|hx
   . exact BM (h.own x (ah.2 (.inl hx))) hg (fun g hgx e=>pAB x hx r (by simp) g hgx e.symm)
   . rcases bG.1 hx with rfl|hx
     . exact ho
     . exact BM (h.own x (ah.2 (.inr (bP _ hx)))) hg (fun g hgx e=>pv x hx g e.symm hgx)
 . intro g hg1 hg2
   rcases hat with e|e
   . exact pv y hy g (e▸hg1) hg2
   . have:=lt y (ah.2 (.inr (bP _ hy))) g hg2
     have:=e g hg1;omega
 . rcases bG.1 hb with rfl|hb
   . intro g hg1 hg2
     rcases hat with e|e
     . exact pAB a ha r (by simp) g hg1 (e▸hg2)
     . have:=lt a (ah.2 (.inl ha)) g hg1
       have:=e g hg2;omega
   . exact pAB a ha b (bP _ hb)
theorem CI.snoc{w:World}{base N:Nat}{L:List As}{r:As}(h:CI w base L)(hlt:∀x∈L,∀g,x.v.ownBlock=some g->g<N)(ho:w.ownsRow N r.e r.k r.v r.n r.xs)(hN:base<=N):CI w base (L++[r]):=by
 refine⟨fun x hx=> ?_,cA.2 ⟨h.sep,cW.2 ⟨fun y hy=>(by cases hy),List.Pairwise.nil⟩,fun a ha b hb=> ?_⟩⟩
 . rcases ah.1 hx with hx|hx
   . exact h.own x hx
   . rw[bO.1 hx]
     exact Bv ho hN
 . intro g hg1 hg2
   rw[bO.1 hb]at hg2;have:=hlt a ha g hg1;have:=(ho.lt g hg2).1;omega
theorem CI.lt{w:World}{base:Nat}{L:List As}(h:CI w base L):∀x∈L,∀g,x.v.ownBlock=some g->base<=g/\g<w.heap.size:=fun x hx g hg=>(h.own x hx).lt g hg
theorem CI.app{w:World}{base N:Nat}{L M:List As}(h:CI w base L)(h':CI w N M)(hlt:∀x∈L,∀g,x.v.ownBlock=some g->g<N)(hN:base<=N):CI w base (L++M):=by
 refine⟨fun x hx=> ?_,cA.2 ⟨h.sep,h'.sep,fun a ha b hb=> ?_⟩⟩
 . rcases ah.1 hx with hx|hx
   . exact h.own x hx
   . exact Bv (h'.own x hx) hN
 . intro g hg1 hg2
   have:=hlt a ha g hg1;have:=(h'.lt b hb g hg2).1;omega
theorem Tz.symm{a b:As}(h:Tz a b):Tz b a:=fun g h1 h2=>h g h2 h1
theorem CI.perm{w:World}{base:Nat}{L M:List As}(h:CI w base L)(hp:L.Perm M):CI w base M:=⟨fun r hr=>h.own r (hp.mem_iff.2 hr),hp.pairwise h.sep Tz.symm⟩
def A8(v:Value)(cs:List Int):As:=⟨2,1,v,cs.length,cs.flatMap Ac⟩
def Ca(v:Value)(cs:List MI):As:=⟨97,4,v,cs.length,cs.flatMap MI.cells⟩
def BS(F:List (List Int×Value)):List As:=F.map fun x=>A8 x.2 x.1
def Co(y:MF×VF):List As:=[A8 y.2.p y.1.params,A8 y.2.l y.1.locals,Ca y.2.c y.1.code]
def BQ(G:List (MF×VF)):List As:=G.flatMap Co
def Ct(s:Value)(F:List (List Int×Value)):As:=⟨47,1,s,F.length,F.flatMap BE⟩
def BT(s:Value)(G:List (MF×VF)):As:=⟨58,4,s,G.length,G.flatMap AW⟩
def DY(v:Value)(cs:List MC):As:=⟨53,2,v,cs.length,cs.flatMap MC.cells⟩
def CZ(v:Value)(cs:List MT):As:=⟨62,4,v,cs.length,cs.flatMap MT.cells⟩
theorem A9{w:World}{base:Nat}{e:TypeId}{s:Value}{k n:Nat}{xs:List Value}(h:w.ownsRow base e k s n xs):∃a c,s=.slice a n c:=(Rd.of_own h).is_slice
def Ai(v:VP)(F:List (List Int×Value))(cs:List MC)(G:List (MF×VF))(ts:List MT)(B:List As):List As:=Ct v.r F::BS F++(DY v.k cs::(BT v.f G::BQ G++(CZ v.t ts::B)))
def Bb(b:Nat)(t:TypeId)(k:Nat)(xs:List Value):As:=⟨t,k,.slice (some ⟨b,0,none⟩) 1 1,1,xs⟩
theorem Bb.new(w:World)(t:TypeId)(k:Nat)(xs:List Value)(hk:xs.length=k):(Bb w.heap.size t k xs).own (w.alloc (.cells xs.toArray t)) w.heap.size:=by
 have:=cF (base:=w.heap.size) (e:=t) (size:=k) w xs.toArray 1 lR (by unfold maxLen;omega) (by simpa using hk);simpa[Bb,As.own]using this
theorem Bb.cell{w:World}{base b:Nat}{t:TypeId}{k:Nat}{xs:List Value}(h:(Bb b t k xs).own w base)(i:Nat)(hi:i<k):w.cell? ⟨b,i,none⟩=xs[i]?:=bF (show w.ownsRow base t k (.slice (some ⟨b,0,none⟩) 1 1) 1 xs from h) i (by omega)
theorem CI.box{w:World}{base:Nat}{L:List As}(h:CI w base L)(hB:base<=w.heap.size)(t:TypeId)(k:Nat)(xs:List Value)(hk:xs.length=k):CI (w.alloc (.cells xs.toArray t)) base (L++[Bb w.heap.size t k xs]):=
 (h.keep (Aa _ _)).snoc (fun x hx g hg=>(h.lt x hx g hg).2) (Bb.new w t k xs hk) hB
theorem CI.sub{w:World}{base:Nat}{L M:List As}(h:CI w base L)(hs:M.Sublist L):CI w base M:=⟨fun r hr=>h.own r (hs.subset hr),h.sep.sublist hs⟩
theorem Bb.set{w:World}{base X:Nat}{t:TypeId}{k:Nat}{xs:List Value}(h:(Bb X t k xs).own w base)(i:Nat)(hi:i<k)(x:Value):(Bb X t k (xs.set i x)).own (w.setCell ⟨X,i,none⟩ x) base:=by
 have h':w.ownsRow base t k (.slice (some ⟨X,0,none⟩) 1 1) 1 xs:=h;have:=h'.stored i x;exact this.1
theorem CI.setBox{w:World}{base X:Nat}{A B:List As}{t:TypeId}{k:Nat}{xs:List Value}(h:CI w base (A++Bb X t k xs::B))(i:Nat)(hi:i<k)(x:Value):CI (w.setCell ⟨X,i,none⟩ x) base (A++Bb X t k (xs.set i x)::B):=
 h.put (xs.set i x) (Bb.set (h.own _ (by simp)) i hi x) (FC (⟨rfl,rfl,rfl,Nat.le_refl _,fun _ _ _=>rfl⟩:w.grownBy w (some X)) i x)
abbrev gb(X:Nat)(v:VP):As:=Bb X 28 4 [v.r,v.k,v.f,v.t]
theorem Ot(v:VP)(F:List (List Int×Value))(cs:List MC)(G:List (MF×VF))(ts:List MT)(B C:List As):Ai v F cs G ts (B++C)=Ai v F cs G ts B++C:=by simp[Ai,List.append_assoc]
theorem FK(v:VP)(F:List (List Int×Value))(cs:List MC)(G:List (MF×VF))(ts:List MT)(B:List As):Ai v F cs G ts B=Ai v F cs G ts []++B:=by simp[Ai,List.append_assoc]
theorem IQ(G:List (MF×VF))(y:MF×VF):BQ (G++[y])=BQ G++Co y:=by simp[BQ]
theorem DO{o:Option Nat}{g H n c:Nat}(h:o=some g\/g=H):(Value.slice (some ⟨g,0,none⟩) n c).ownBlock=o\/(Value.slice (some ⟨g,0,none⟩) n c).ownBlock=some H:=h.elim (fun e=>.inl e.symm) (fun e=>.inr (by rw[e];rfl))
end Go.Proofs.YtjcamlobelcepaaGreatDoor
