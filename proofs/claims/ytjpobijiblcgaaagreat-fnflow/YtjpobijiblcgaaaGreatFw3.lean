import Derived.Test.YtjpobijiblcgaaaGreatFw0
import Derived.Deep.RegionHeld
import Derived.StillTail
import Derived.Test.YtjpobijiblcgaaaGreatFw2
import Derived.Test.YtjpobijiblcgaaaGreatFw1
import Derived.OneCell
import Derived.Maps.AppendAt
namespace Go.Proofs.YtjpobijiblcgaaaGreat
open Go.ChangeShapes Go.WideShapes Go.ChangeAt Go.RowKit
set_option linter.unusedVariables false
set_option maxHeartbeats 2000000
set_option maxRecDepth 100000
section
variable {P:Program} {ops:Array Oper} {Q:Exit->Act->World->Prop} {md:Region.Mode} {S:World->Prop} {n:Nat}
def CV(P:Program)(md:Region.Mode)(ops:Array Oper)(Q:Exit->Act->World->Prop)(S:World->Prop)(n:Nat):Nat->Array Bool->Act->World->Prop
 |0,d,a,w=>Region.ready md ops d=[]/\Q .normal a w
 |f+1,d,a,w=>(Region.ready md ops d=[]->Q .normal a w)/\∀i∈Region.ready md ops d,wpOp P ops Q i (fun a' w'=>(i<n->S w')/\CV P md ops Q S n f (d.setIfInBounds i true) a' w') a w
theorem I4:∀(f:Nat) (d:Array Bool) (a:Act) (w:World),CV P md ops Q S n f d a w->wpAny P md ops Q f d a w
 |0,_,_,_,h=>h
 |f+1,_,_,_,h=>⟨h.1,fun i hi=>wpOp_mono (fun a' w' h'=>I4 f _ a' w' h'.2) (h.2 i hi)⟩
theorem Ki{i:Nat}{oi:Oper}{v:Value}(hi:ops[i]?=some oi)(hsel:∀(j:Nat) (o:Oper) cs b,ops[j]?=some o->o.op≠ .select cs b)
 (hQ:∀c a w,Q (.panic c) (a.put oi.dst v) w->Q (.panic c) a w) (hs:Region.sinkB md ops n=true) (hc:Region.chainB md ops n=true) (hn:n<ops.size) (hin:i<n):
 ∀ (f:Nat) (d:Array Bool) (a:Act) (w:World),HeadInv md ops n d->
   (∀j oj,ops[j]?=some oj->j≠i->d.getD j true=false->(∀e∈oj.after,Region.binds md e=true->e.on≠i)->oi.apart ops oj=true)->
   i∈Region.ready md ops d->YieldsIf P ops S oi v a->S w->
   CV P md ops Q S n f (d.setIfInBounds i true) (a.put oi.dst v) w->CV P md ops Q S n (f+1) d a w:=by
 intro f;induction f with
 | zero=>
   intro d a w _ _ hr hy hS H;refine⟨fun h=>(by rw[h]at hr;cases hr),fun j hj=> ?_⟩;by_cases hji:j=i
   . subst hji;exact hy.wpOp hi hS ⟨fun _=>hS,H⟩
   . have:=ready_mono hj hji
     rw[H.1]at this;cases this
 | succ f ih=>
   intro d a w inv hfree hr hy hS H;refine⟨fun h=>(by rw[h]at hr;cases hr),fun j hj=> ?_⟩;by_cases hji:j=i
   . subst hji;exact hy.wpOp hi hS ⟨fun _=>hS,H⟩
   . have hjn:j<n:=Nat.lt_of_not_le fun h=>tail_waits hs hc hn inv _ i rfl hin (mem_ready.1 hr).1 j h hj
     have h1:=H.2 j (ready_mono hj hji);obtain⟨hjun,oj,hoj,hall⟩:=mem_ready.1 hj
     have hnot:∀e∈oj.after,Region.binds md e=true->e.on≠i:=fun e he hb heq=>by
      have h1:=hall e he hb;rw[heq,getD_both (mem_ready.1 hr).1]at h1;cases h1
     have h2:=wpOp_putIf hoj (hfree j oj hoj hji hjun hnot) (fun cs b=>hsel i oi cs b hi) (fun cs b=>hsel j oj cs b hoj) hQ hy h1
     have hfree':∀k ok,ops[k]?=some ok->k≠i->(d.setIfInBounds j true).getD k true=false->
      (∀e∈ok.after,Region.binds md e=true->e.on≠i)->oi.apart ops ok=true:=fun k ok hk hki hun hno=>by
      refine hfree k ok hk hki ?_ hno;by_cases hjk:j=k
      . subst hjk;exact hjun
      . rw[getD_set_ne true hjk]at hun;exact hun
     refine wpOp_mono (fun a' w' h3=>⟨h3.2.1,ih (d.setIfInBounds j true) a' w' (inv.set hj hjn) hfree' (ready_mono hr (Ne.symm hji)) h3.1 (h3.2.1 hjn) ?_⟩) h2;rw[Array.setIfInBounds_comm _ _ hji];exact h3.2.2
def M0(md:Region.Mode)(ops:Array Oper)(n:Nat)(d:Array Bool):Bool:=
 d.size==ops.size&&(List.range ops.size).all (fun j=> !d.getD j false||((ops[j]?).map (·.after.all fun e=> !Region.binds md e||d.getD e.on false)).getD true)&&(List.range ops.size).all (fun t=>decide (t<n)|| !d.getD t true)&&Region.sinkB md ops n&&Region.chainB md ops n&&decide (n<ops.size)
theorem Ma{d:Array Bool}(h:M0 md ops n d=true):HeadInv md ops n d/\Region.sinkB md ops n=true/\Region.chainB md ops n=true/\n<ops.size:=by
 simp only[M0,du,dI,beq_iff_eq]at h;obtain⟨⟨⟨⟨⟨h1,h2⟩,h3⟩,h4⟩,h5⟩,h6⟩:=h;refine⟨⟨h1,fun j oj hj hl e he hb=> ?_,fun t ht ht'=> ?_⟩,h4,h5,h6⟩
 . have:=fE.1 h2 j (c6.2 (an.1 hj).1)
   rw[hl,hj]at this;simp only[Bool.not_true,Bool.false_or,dZ,eE]at this;have:=Array.all_eq_true'.1 this e he;rw[hb]at this;simpa using this
 . have:=fE.1 h3 t (c6.2 ht')
   rw[eo (by omega)]at this;simpa using this
theorem LG{i:Nat}{oi:Oper}{v:Value}{f:Nat}{d:Array Bool}{a:Act}{w:World}(hi:ops[i]?=some oi)
 (hsl:Region.noSelect ops=true) (hf:Region.free md ops d i=true) (hr:(Region.ready md ops d).contains i=true) (hb:M0 md ops n d=true) (hin:i<n)
 (hQ:∀c a w,Q (.panic c) (a.put oi.dst v) w->Q (.panic c) a w) (hy:YieldsIf P ops S oi v a) (hS:S w)
 (h:CV P md ops Q S n f (d.setIfInBounds i true) (a.put oi.dst v) w):CV P md ops Q S n (f+1) d a w:=
 have hh:=Ma hb
 Ki hi (Region.noSelect_spec hsl) hQ hh.2.1 hh.2.2.1 hh.2.2.2 hin f d a w hh.1 (Region.free_spec hi hf) (by simpa using hr) hy hS h
def BO(P:Program)(md:Region.Mode)(ops:Array Oper)(Q:Exit->Act->World->Prop)(S:World->Prop)(n f:Nat)(d:Array Bool)(a:Act)(w:World)(rs:List Nat):Prop:=
 ∀i∈rs,wpOp P ops Q i (fun a' w'=>(i<n->S w')/\CV P md ops Q S n f (d.setIfInBounds i true) a' w') a w
theorem BO.nil{f:Nat}{d:Array Bool}{a:Act}{w:World}:BO P md ops Q S n f d a w []:=fun _ h=>by cases h
theorem BO.cons{f:Nat}{d:Array Bool}{a:Act}{w:World}{i:Nat}{o:Oper}{rs:List Nat}(ho:ops[i]?=some o)
 (h:∀K':Act->World->Prop,Shut (∀a w,(i<n->S w)->((i<n->S w)->CV P md ops Q S n f (d.setIfInBounds i true) a w)->K' a w)->if Region.wanted o (yielded ops a.tmps)=true then Oper.wp P o a w K' Q else K' (a.put o.dst undef) w)
 (hs:BO P md ops Q S n f d a w rs):BO P md ops Q S n f d a w (i::rs):=fun j hj=>by
 rcases aX.1 hj with rfl|hj
 . have:=h (fun a' w'=>(j<n->S w')/\CV P md ops Q S n f (d.setIfInBounds j true) a' w') (show Shut _ from fun a w h1 h2=>⟨h1,h2 h1⟩)
   unfold wpOp;simp only[ho];split
   . rename_i hw;simp only[hw,if_true]at this;exact .inl this
   . rename_i hw;simp only[hw]at this;exact this
 . exact hs j hj
theorem Fm{rs:List Nat}{f:Nat}{d:Array Bool}{a:Act}{w:World}(hr:Region.ready md ops d=rs)(hne:rs≠[])
 (h:BO P md ops Q S n f d a w rs):CV P md ops Q S n (f+1) d a w:=⟨fun h0=>absurd (hr▸h0) hne,hr▸h⟩
theorem Bt{d:Array Bool}{a:Act}{w:World}(hr:Region.ready md ops d=[])(h:Q .normal a w):∀f,CV P md ops Q S n f d a w
 |0=>⟨hr,h⟩
 |_+1=>⟨fun _=>h,by rw[hr];simp⟩
theorem AZ(n:Nat){id:Nat}{a:Act}{w:World}(hm:P.follows .mixedOrders=true)(hS:S w.drew)
 (h:S w.drew->CV P .any ops Q S n ops.size (Array.replicate ops.size false) a w.drew):(Code.region id ops true).wp P Q a w:=
 wp_region_any hm (I4 _ _ _ _ (h hS))
end
theorem D2{w wr:World}{g:Nat}(h:w.grownBy wr (some g))(i:Nat)(x:Value):w.grownBy (wr.setCell ⟨g,i,none⟩ x) (some g):=
 ⟨h.os,h.tape,h.output,by rw[bX];exact h.size,fun k hk hne=>(bO wr _ k x (fun e=>hne (by rw[e]))).trans (h.block k hk hne)⟩
theorem AW{w w':World}{base:Nat}{e:TypeId}{s:Value}{k n:Nat}{xs:List Value}{row:Option Nat}(h:w.ownsRow base e k s n xs)(hg:w.grownBy w' row)(hne:∀g,s.ownBlock=some g->some g≠row):w'.ownsRow base e k s n xs:=by
 refine⟨h.1,?_⟩;rcases h.2 with h|⟨g,cap,cur,rfl,hb1,hgg,hr⟩
 . exact .inl h
 . refine .inr ⟨g,cap,cur,rfl,hb1,?_,hr⟩
   rw[hg.block g (an.1 hgg).1 (hne g rfl)];exact hgg
def Gx(x y:Value×List Int):Prop:=∀g,x.1.ownBlock=some g->y.1.ownBlock≠some g
theorem Gx.symm{x y:Value×List Int}(h:Gx x y):Gx y x:=fun g hg e=>h g e hg
structure CJ(w:World)(base:Nat)(L:List (Value×List Int)):Prop where
 own:∀x∈L,w.ownsRow base 2 1 x.1 x.2.length (x.2.flatMap Ab)
 sep:L.Pairwise Gx
theorem CJ.put{w w':World}{base:Nat}{A B:List (Value×List Int)}{v:Value}{c c':List Int}(h:CJ w base (A++(v,c)::B))(hl:c'.length=c.length)(ho:w'.ownsRow base 2 1 v c.length (c'.flatMap Ab))(hg:w.grownBy w' v.ownBlock):CJ w' base (A++(v,c')::B):=by
 obtain⟨pA,pB,pAB⟩:=cG.1 h.sep;obtain⟨pv,pB'⟩:=bi.1 pB;refine⟨fun x hx=> ?_,cG.2 ⟨pA,bi.2 ⟨fun y hy=>pv y hy,pB'⟩,fun a ha b hb=> ?_⟩⟩
 . rcases aS.1 hx with hx|hx
   . exact AW (h.own x (aS.2 (.inl hx))) hg (fun g hgx e=>pAB x hx (v,c) (by simp) g hgx e.symm)
   . rcases aX.1 hx with rfl|hx
     . simp only[]
       rw[hl];exact ho
     . exact AW (h.own x (aS.2 (.inr (bR _ hx)))) hg (fun g hgx e=>pv x hx g e.symm hgx)
 . rcases aX.1 hb with rfl|hb
   . exact fun g hga=>pAB a ha (v,c) (by simp) g hga
   . exact pAB a ha b (bR _ hb)
theorem FQ(w:World)(cs:Array Value)(t:TypeId):(w.alloc (.cells cs t)).heap[w.heap.size]?=some (.cells cs t (0,0)):=fD
theorem Cz(s:ByteArray)(c f:Int)(w:World):(Instr.field 168 (.agg #[.string s,.int .i64 c,.int .i64 f]) 2).run Tryz.prog w=.ok (.int .i64 f) w:=by kernel_rfl
theorem fn_at{w:World}{s:Value}{fs:List MF}{q:Nat}{f:MF}(h:LT w s fs)(hq:fs[q]?=some f):∃gk ok ck,s=.slice (some ⟨gk,ok,none⟩) fs.length ck/\∃g:VF,Hq w g f/\w.cell? ⟨gk,ok+q*4,none⟩=some g.p/\w.cell? ⟨gk,ok+q*4+1,none⟩=some (.int .i64 f.result)/\w.cell? ⟨gk,ok+q*4+2,none⟩=some g.l/\w.cell? ⟨gk,ok+q*4+3,none⟩=some g.c:=by
  obtain⟨xs,h1,h2,h3⟩:=h;have hlt:=(aD.1 hq).1;rcases h2.2 with⟨e,_⟩|⟨gk,ok,ck,e,hc⟩
  . omega
  . obtain⟨x,hx,hx1⟩:∃x,xs[q]?=some x/\x.1=f:=by
      rw[<-h1,a7]at hq;cases hx:xs[q]? with
      |none=>rw[hx]at hq;cases hq
      |some x=>rw[hx]at hq;exact⟨x,rfl,bC hq⟩
    subst hx1;exact⟨gk,ok,ck,e,x.2,h3 x (aE hx),Rd.elem Ao hc q x hx 0 _ rfl,Rd.elem Ao hc q x hx 1 _ rfl,Rd.elem Ao hc q x hx 2 _ rfl,Rd.elem Ao hc q x hx 3 _ rfl⟩
theorem Oz{w:World}{s:Value}{is:List MI}{q:Nat}{x:MI}(h:Rd w 4 s is.length (is.flatMap MI.cells))(hq:is[q]?=some x):∃gk ok ck,s=.slice (some ⟨gk,ok,none⟩) is.length ck/\w.cell? ⟨gk,ok+q*4,none⟩=some (.int .i64 x.op)/\w.cell? ⟨gk,ok+q*4+1,none⟩=some (.int .i64 x.a)/\w.cell? ⟨gk,ok+q*4+2,none⟩=some (.int .i64 x.b)/\w.cell? ⟨gk,ok+q*4+3,none⟩=some (.int .i64 x.c):=by
  have hlt:=(aD.1 hq).1;rcases h.2 with⟨e,_⟩|⟨gk,ok,ck,e,hc⟩
  . omega
  . exact⟨gk,ok,ck,e,Rd.elem MI.cells_length hc q x hq 0 _ rfl,Rd.elem MI.cells_length hc q x hq 1 _ rfl,Rd.elem MI.cells_length hc q x hq 2 _ rfl,Rd.elem MI.cells_length hc q x hq 3 _ rfl⟩
def Cn(p:MP)(r c:Int):Int:=if r<0\/2<r\/c<0 then 0 else(p.regions.getD r.toNat []).getD c.toNat 0
theorem Fc{p:MP}{r c:Int}(h:r<0\/2<r\/c<0):Cn p r c=0:=cD h
theorem Jm{p:MP}{r c:Nat}(h:r<=2){l:List Int}(hl:p.regions[r]?=some l):Cn p r c=l.getD c 0:=by
 unfold Cn;have e:p.regions.getD r []=l:=by rw[bQ,hl];rfl
 rw[bu (by omega),ao,ao,e]
theorem Gs(v:VP)(p:MP)(r c:Int)(w:World)(hs:p.small)(h3:p.regions.length=3)(hr:BN r)(hc:BN c)(h:Fr w v p):
 Calls Tryz.prog 107 #[.agg #[v.r,v.k,v.f,v.t],.int .i64 r,.int .i64 c] w fun e w'=>e=.returned (.int .i64 (Cn p r c))/\Below w.heap.size w w':=by
 have hr':-9223372036854775808<=r/\r<=9223372036854775807:=by simpa[BN,Lit.wf,IntKind.min,IntKind.max,IntKind.signed,IntKind.bits]using hr
 have hc':-9223372036854775808<=c/\c<=9223372036854775807:=by simpa[BN,Lit.wf,IntKind.min,IntKind.max,IntKind.signed,IntKind.bits]using hc
 obtain⟨r0,r1⟩:=hr';obtain⟨c0,c1⟩:=hc';clear hr hc;obtain⟨vr,vk,vf,vt⟩:=v;obtain⟨xs,hxs,hrd,hel⟩:=h.regions;simp only[]at hrd;rw[h3]at hrd;have hxl:xs.length=3:=by rw[<-h3,<-hxs];simp
 have H1:Hid (Rd w 1 vr 3 (xs.flatMap BL)/\xs.map Prod.fst=p.regions/\(∀x∈xs,Rd w 1 x.2 x.1.length (x.1.flatMap Ab))/\(∀l∈p.regions,l.length<=1048576)/\xs.length=3):=⟨hrd,hxs,hel,hs.region,hxl⟩
 clear hrd hxs hel hxl hs h h3;have HB:Hid _:=(Rv.of w 65 #[vr,vk,vf,vt] rfl).bel;by_cases q0:r<0
 . rw[Fc (.inl q0)]
   go_enter Tryz.func107,Tryz.ntmps107;go_wp2
   go_ret
   exact⟨rfl,HB.o⟩
 by_cases q1:2<r
 . rw[Fc (.inr (.inl q1))]
   go_enter Tryz.func107,Tryz.ntmps107;go_wp2
   go_ret
   exact⟨rfl,HB.o⟩
 by_cases q2:c<0
 . rw[Fc (.inr (.inr q2))]
   go_enter Tryz.func107,Tryz.ntmps107;go_wp2
   go_ret
   exact⟨rfl,HB.o⟩
 obtain⟨i,rfl⟩:=aq (show 0<=r by omega);obtain⟨j,rfl⟩:=aq (show 0<=c by omega);obtain⟨⟨l,y⟩,hx⟩:∃x,xs[i]?=some x:=⟨_,aA (by rw[H1.o.2.2.2.2];omega)⟩;have e1:=D1 H1.o.2.1 hx;have hy:=H1.o.2.2.1 _ (aE hx);have hll:=H1.o.2.2.2.1 _ (aE e1);simp only[]at e1 hy hll;rw[Jm (by omega) e1];rcases H1.o.1.2 with⟨e0,_⟩|⟨g,o,cc,e2,hc1⟩
 . omega
 subst e2;have a0:=Rd.elem BT hc1 i _ hx 0 _ rfl;rw[cZ,aw]at a0;simp only[]at a0;clear hc1 hx e1;obtain⟨ay,cy,rfl⟩:=hy.is_slice;have a1:=(HB.o.cell (aF a0)).trans a0;by_cases q3:j<l.length
 . obtain⟨z,hz⟩:∃z,l[j]?=some z:=⟨_,aA q3⟩
   have ez:l.getD j 0=z:=by rw[bQ,hz];rfl
   rw[ez];rcases hy.2 with⟨e0,_⟩|⟨g2,o2,c2,e3,hc2⟩
   . omega
   simp only[aI,bU]at e3;obtain⟨rfl,rfl⟩:=e3;have b0:=Rd.elem Aq hc2 j z hz 0 _ rfl;rw[cZ,aw]at b0;have b1:=(HB.o.cell (aF b0)).trans b0;clear hc2 hz b0 a0 ez;have HY:Hid _:=hy;clear hy;generalize l.length=n at*;go_enter Tryz.func107,Tryz.ntmps107;go_wp2
   go_ret
   exact⟨rfl,HB.o⟩
 . have ez:l.getD j 0=0:=by rw[bQ,ae (by omega)];rfl
   rw[ez];clear ez a0 hy;generalize l.length=n at*;go_enter Tryz.func107,Tryz.ntmps107;go_wp2
   go_ret
   exact⟨rfl,HB.o⟩
structure MB where
 first:Int
 last:Int
 next:List Int
def Cg(x:MB×Value):List Value:=[.int .i64 x.1.first,.int .i64 x.1.last,x.2]
theorem AQ(x:MB×Value):(Cg x).length=3:=rfl
theorem Qh:(Tryz.prog.info? 32).map (fun i=>(i.zero,i.size,i.bytes))=some (some (.agg #[.int .i64 0,.int .i64 0,.slice none 0 0]),3,40):=by kernel_rfl
def Dm(F:List (MB×Value)):List (Value×List Int):=F.map fun x=>(x.2,x.1.next)
theorem A7{w:World}{base g k n:Nat}{e t:TypeId}{s:Value}{xs:List Value}{cur:Array Value}{fr:Nat×Nat}(h:w.ownsRow base e k s n xs)(hg:w.heap[g]?=some (Obj.cells cur t fr))(hne:e≠t):∀j,s.ownBlock=some j->j≠g:=by
 intro j hj e1;subst e1;rcases h.2 with⟨rfl,_⟩|⟨g',cap',cur',rfl,_,hg',_⟩
 . cases hj
 . simp only[Value.ownBlock,aJ]at hj
   subst hj;rw[hg]at hg';simp only[aJ,dC]at hg';exact hne hg'.2.1.symm
theorem CJ.set{w:World}{base g:Nat}{L:List (Value×List Int)}(h:CJ w base L){cur:Array Value}{t:TypeId}{fr:Nat×Nat}(hg:w.heap[g]?=some (Obj.cells cur t fr))(hne:2≠t)(i:Nat)(x:Value):CJ (w.setCell ⟨g,i,none⟩ x) base L:=
 ⟨fun y hy=>aR (h.own y hy) (a:=⟨g,i,none⟩) (fun e=>A7 (h.own y hy) hg hne g e rfl) x,h.sep⟩
theorem At{w:World}{base g k n c:Nat}{e:TypeId}{xs:List Value}(h:w.ownsRow base e k (.slice (some ⟨g,0,none⟩) n c) n xs):base<=g/\∃cur,w.heap[g]?=some (Obj.cells cur e (0,0)):=by
 rcases h.2 with⟨h',_⟩|⟨g',cap',cur,h',hb,hg,_⟩
 . cases h'
 . cases h'
   exact⟨hb,cur,hg⟩
structure Av where
 e:TypeId
 k:Nat
 v:Value
 n:Nat
 xs:List Value
def Av.own(w:World)(base:Nat)(r:Av):Prop:=w.ownsRow base r.e r.k r.v r.n r.xs
def Q4(a b:Av):Prop:=∀g,a.v.ownBlock=some g->b.v.ownBlock≠some g
structure Eb(w:World)(base:Nat)(L:List Av):Prop where
 own:∀r∈L,r.own w base
 sep:L.Pairwise Q4
theorem Eb.nil(w:World)(base:Nat):Eb w base []:=⟨fun r hr=>(by cases hr),List.Pairwise.nil⟩
theorem Eb.keep{w w':World}{base:Nat}{L:List Av}(h:Eb w base L)(hb:Below w.heap.size w w'):Eb w' base L:=⟨fun r hr=>Aj (h.own r hr) hb lR,h.sep⟩
theorem Eb.put{w w':World}{base:Nat}{A B:List Av}{r:Av}(h:Eb w base (A++r::B))(ys:List Value)(ho:w'.ownsRow base r.e r.k r.v r.n ys)(hg:w.grownBy w' r.v.ownBlock):Eb w' base (A++{r with xs:=ys}::B):=by
 obtain⟨pA,pB,pAB⟩:=cG.1 h.sep;obtain⟨pv,pB'⟩:=bi.1 pB;refine⟨fun x hx=> ?_,cG.2 ⟨pA,bi.2 ⟨fun y hy=>pv y hy,pB'⟩,fun a ha b hb=> ?_⟩⟩
 . rcases aS.1 hx with hx|hx
   . exact AW (h.own x (aS.2 (.inl hx))) hg (fun g hgx e=>pAB x hx r (by simp) g hgx e.symm)
   . rcases aX.1 hx with rfl|hx
     . exact ho
     . exact AW (h.own x (aS.2 (.inr (bR _ hx)))) hg (fun g hgx e=>pv x hx g e.symm hgx)
 . rcases aX.1 hb with rfl|hb
   . exact fun g hga=>pAB a ha r (by simp) g hga
   . exact pAB a ha b (bR _ hb)
theorem Eb.grow{w w':World}{base:Nat}{A B:List Av}{r:Av}(h:Eb w base (A++r::B))(r':Av)(ho:r'.own w' base)(hg:w.grownBy w' r.v.ownBlock)(hat:r'.v.ownBlock=r.v.ownBlock\/∀g,r'.v.ownBlock=some g->w.heap.size<=g):Eb w' base (A++r'::B):=by
 obtain⟨pA,pB,pAB⟩:=cG.1 h.sep;obtain⟨pv,pB'⟩:=bi.1 pB;have lt:∀x∈A++r::B,∀g,x.v.ownBlock=some g->g<w.heap.size:=fun x hx g hg=>((h.own x hx).lt g hg).2
 refine⟨fun x hx=> ?_,cG.2 ⟨pA,bi.2 ⟨fun y hy=> ?_,pB'⟩,fun a ha b hb=> ?_⟩⟩
 . rcases aS.1 hx with hx|hx
   . exact AW (h.own x (aS.2 (.inl hx))) hg (fun g hgx e=>pAB x hx r (by simp) g hgx e.symm)
   . rcases aX.1 hx with rfl|hx
     . exact ho
     . exact AW (h.own x (aS.2 (.inr (bR _ hx)))) hg (fun g hgx e=>pv x hx g e.symm hgx)
 . intro g hg1 hg2
   rcases hat with e|e
   . exact pv y hy g (e▸hg1) hg2
   . have:=lt y (aS.2 (.inr (bR _ hy))) g hg2
     have:=e g hg1;omega
 . rcases aX.1 hb with rfl|hb
   . intro g hg1 hg2
     rcases hat with e|e
     . exact pAB a ha r (by simp) g hg1 (e▸hg2)
     . have:=lt a (aS.2 (.inl ha)) g hg1
       have:=e g hg2;omega
   . exact pAB a ha b (bR _ hb)
theorem Eb.snoc{w:World}{base N:Nat}{L:List Av}{r:Av}(h:Eb w base L)(hlt:∀x∈L,∀g,x.v.ownBlock=some g->g<N)(ho:w.ownsRow N r.e r.k r.v r.n r.xs)(hN:base<=N):Eb w base (L++[r]):=by
 refine⟨fun x hx=> ?_,cG.2 ⟨h.sep,bi.2 ⟨fun y hy=>(by cases hy),List.Pairwise.nil⟩,fun a ha b hb=> ?_⟩⟩
 . rcases aS.1 hx with hx|hx
   . exact h.own x hx
   . rw[am.1 hx]
     exact Dn ho hN
 . intro g hg1 hg2
   rw[am.1 hb]at hg2;have:=hlt a ha g hg1;have:=(ho.lt g hg2).1;omega
theorem Eb.lt{w:World}{base:Nat}{L:List Av}(h:Eb w base L):∀x∈L,∀g,x.v.ownBlock=some g->base<=g/\g<w.heap.size:=fun x hx g hg=>(h.own x hx).lt g hg
theorem Eb.app{w:World}{base N:Nat}{L M:List Av}(h:Eb w base L)(h':Eb w N M)(hlt:∀x∈L,∀g,x.v.ownBlock=some g->g<N)(hN:base<=N):Eb w base (L++M):=by
 refine⟨fun x hx=> ?_,cG.2 ⟨h.sep,h'.sep,fun a ha b hb=> ?_⟩⟩
 . rcases aS.1 hx with hx|hx
   . exact h.own x hx
   . exact Dn (h'.own x hx) hN
 . intro g hg1 hg2
   have:=hlt a ha g hg1;have:=(h'.lt b hb g hg2).1;omega
theorem Q4.symm{a b:Av}(h:Q4 a b):Q4 b a:=fun g h1 h2=>h g h2 h1
theorem Eb.perm{w:World}{base:Nat}{L M:List Av}(h:Eb w base L)(hp:L.Perm M):Eb w base M:=⟨fun r hr=>h.own r (hp.mem_iff.2 hr),hp.pairwise h.sep Q4.symm⟩
def AH(v:Value)(cs:List Int):Av:=⟨2,1,v,cs.length,cs.flatMap Ab⟩
def AK(v:Value)(cs:List MI):Av:=⟨43,4,v,cs.length,cs.flatMap MI.cells⟩
def Bv(F:List (List Int×Value)):List Av:=F.map fun x=>AH x.2 x.1
def BQ(y:MF×VF):List Av:=[AH y.2.p y.1.params,AH y.2.l y.1.locals,AK y.2.c y.1.code]
def A6(G:List (MF×VF)):List Av:=G.flatMap BQ
def BR(s:Value)(F:List (List Int×Value)):Av:=⟨26,1,s,F.length,F.flatMap BL⟩
def A4(s:Value)(G:List (MF×VF)):Av:=⟨68,4,s,G.length,G.flatMap AN⟩
def CQ(v:Value)(cs:List MC):Av:=⟨102,2,v,cs.length,cs.flatMap MC.cells⟩
def Cu(v:Value)(cs:List MT):Av:=⟨118,4,v,cs.length,cs.flatMap MT.cells⟩
theorem BJ{w:World}{base:Nat}{e:TypeId}{s:Value}{k n:Nat}{xs:List Value}(h:w.ownsRow base e k s n xs):∃a c,s=.slice a n c:=(Rd.of_own h).is_slice
def Ae(v:VP)(F:List (List Int×Value))(cs:List MC)(G:List (MF×VF))(ts:List MT)(B:List Av):List Av:=BR v.r F::Bv F++(CQ v.k cs::(A4 v.f G::A6 G++(Cu v.t ts::B)))
def BG(b:Nat)(t:TypeId)(k:Nat)(xs:List Value):Av:=⟨t,k,.slice (some ⟨b,0,none⟩) 1 1,1,xs⟩
theorem BG.new(w:World)(t:TypeId)(k:Nat)(xs:List Value)(hk:xs.length=k):(BG w.heap.size t k xs).own (w.alloc (.cells xs.toArray t)) w.heap.size:=by
 have:=ce (base:=w.heap.size) (e:=t) (size:=k) w xs.toArray 1 lR (by unfold maxLen;omega) (by simpa using hk);simpa[BG,Av.own]using this
theorem BG.cell{w:World}{base b:Nat}{t:TypeId}{k:Nat}{xs:List Value}(h:(BG b t k xs).own w base)(i:Nat)(hi:i<k):w.cell? ⟨b,i,none⟩=xs[i]?:=au (show w.ownsRow base t k (.slice (some ⟨b,0,none⟩) 1 1) 1 xs from h) i (by omega)
theorem Eb.box{w:World}{base:Nat}{L:List Av}(h:Eb w base L)(hB:base<=w.heap.size)(t:TypeId)(k:Nat)(xs:List Value)(hk:xs.length=k):Eb (w.alloc (.cells xs.toArray t)) base (L++[BG w.heap.size t k xs]):=
 (h.keep (Aa _ _)).snoc (fun x hx g hg=>(h.lt x hx g hg).2) (BG.new w t k xs hk) hB
theorem Eb.sub{w:World}{base:Nat}{L M:List Av}(h:Eb w base L)(hs:M.Sublist L):Eb w base M:=⟨fun r hr=>h.own r (hs.subset hr),h.sep.sublist hs⟩
theorem BG.set{w:World}{base X:Nat}{t:TypeId}{k:Nat}{xs:List Value}(h:(BG X t k xs).own w base)(i:Nat)(hi:i<k)(x:Value):(BG X t k (xs.set i x)).own (w.setCell ⟨X,i,none⟩ x) base:=by
 have h':w.ownsRow base t k (.slice (some ⟨X,0,none⟩) 1 1) 1 xs:=h;have:=h'.stored i x;exact this.1
theorem Eb.setBox{w:World}{base X:Nat}{A B:List Av}{t:TypeId}{k:Nat}{xs:List Value}(h:Eb w base (A++BG X t k xs::B))(i:Nat)(hi:i<k)(x:Value):Eb (w.setCell ⟨X,i,none⟩ x) base (A++BG X t k (xs.set i x)::B):=
 h.put (xs.set i x) (BG.set (h.own _ (by simp)) i hi x) (D2 (⟨rfl,rfl,rfl,Nat.le_refl _,fun _ _ _=>rfl⟩:w.grownBy w (some X)) i x)
abbrev gb(X:Nat)(v:VP):Av:=BG X 65 4 [v.r,v.k,v.f,v.t]
theorem Fj(v:VP)(F:List (List Int×Value))(cs:List MC)(G:List (MF×VF))(ts:List MT)(B C:List Av):Ae v F cs G ts (B++C)=Ae v F cs G ts B++C:=by simp[Ae,List.append_assoc]
theorem CP(v:VP)(F:List (List Int×Value))(cs:List MC)(G:List (MF×VF))(ts:List MT)(B:List Av):Ae v F cs G ts B=Ae v F cs G ts []++B:=by simp[Ae,List.append_assoc]
theorem KJ(G:List (MF×VF))(y:MF×VF):A6 (G++[y])=A6 G++BQ y:=by simp[A6]
theorem BH{o:Option Nat}{g H n c:Nat}(h:o=some g\/g=H):(Value.slice (some ⟨g,0,none⟩) n c).ownBlock=o\/(Value.slice (some ⟨g,0,none⟩) n c).ownBlock=some H:=h.elim (fun e=>.inl e.symm) (fun e=>.inr (by rw[e];rfl))
end Go.Proofs.YtjpobijiblcgaaaGreat
