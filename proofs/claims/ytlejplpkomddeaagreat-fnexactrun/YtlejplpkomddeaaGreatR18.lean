import Derived.Test.YtlejplpkomddeaaGreatR16
import Derived.Test.YtlejplpkomddeaaGreatR12
import Derived.Test.YtlejplpkomddeaaGreatR0
import Derived.Test.YtlejplpkomddeaaGreatR17
import Derived.Test.YtlejplpkomddeaaGreatR6
import Derived.Lib.AppendZerosOnto
import Derived.Lib.AppendZeros
import Derived.Laws.Append
namespace Go.Proofs.YtlejplpkomddeaaGreat
open Go.ChangeShapes Go.WideShapes Go.ChangeAt Go.RowKit
set_option linter.unusedVariables false
set_option maxHeartbeats 4000000
set_option maxRecDepth 100000
theorem PC{z:Int}(h0:0<=z)(h1:z<=4294967295):Ka z:=by simp[Ka,Lit.wf,IntKind.min,IntKind.max,IntKind.signed,IntKind.bits];omega
theorem Ob{z:Int}(h:Ka z):0<=z/\z<=4294967295:=by simpa[Ka,Lit.wf,IntKind.min,IntKind.max,IntKind.signed,IntKind.bits]using h
theorem N0{t:Int}(h:CE t=true):1<=t/\t<=3:=by simpa[CE]using h
def Gv(v:MC):Prop:=Cc v/\v.wf
theorem Gv.of{t z:Int}(h:CE t=true)(h0:0<=z)(h1:z<=4294967295)(h2:t=1->z<=1):Gv ⟨t,z⟩:=⟨⟨h,h2⟩,Dt (by have:=N0 h;simp only[];omega) (by have:=N0 h;simp only[];omega),PC h0 h1⟩
theorem Gv.word{v:MC}(h:Gv v):0<=v.word/\v.word<=4294967295:=Ob h.2.2
theorem FJ(b:Bool):0<=word b/\word b<=1:=by cases b<;>decide
theorem u32_in(z:Int):0<=IntKind.u32.wrap z/\IntKind.u32.wrap z<=4294967295:=by
 have:IntKind.u32.wrap z=z % 4294967296:=rfl;rw[this];omega
theorem NJ(x y:Int):0<=bits .and .u32 x y/\bits .and .u32 x y<=4294967295:=by
 have h2:bits .and .u32 x y=((BitVec.ofInt 32 x &&& BitVec.ofInt 32 y).toNat:Int) % 4294967296:=rfl;rw[h2];omega
theorem Pm(x y:Int):0<=bits .or .u32 x y/\bits .or .u32 x y<=4294967295:=by
 have h2:bits .or .u32 x y=((BitVec.ofInt 32 x ||| BitVec.ofInt 32 y).toNat:Int) % 4294967296:=rfl;rw[h2];omega
theorem LA(x y:Int):0<=bits .xor .u32 x y/\bits .xor .u32 x y<=4294967295:=by
 have h2:bits .xor .u32 x y=((BitVec.ofInt 32 x ^^^ BitVec.ofInt 32 y).toNat:Int) % 4294967296:=rfl;rw[h2];omega
theorem Ic{x y:Int}(hx:0<=x/\x<=1)(hy:0<=y/\y<=1):bits .and .u32 x y<=1/\bits .or .u32 x y<=1/\bits .xor .u32 x y<=1:=by
 have h1:x=0\/x=1:=by omega
 have h2:y=0\/y=1:=by omega
 rcases h1 with rfl|rfl<;>rcases h2 with rfl|rfl<;>decide
theorem Hq{op t x y:Int}(hx:0<=x/\x<=4294967295)(hy:0<=y/\y<=4294967295)(h1:t=1->x<=1/\y<=1)(ho:t=1->op≠17/\op≠18/\op≠19):0<=AD op t x y/\AD op t x y<=4294967295/\(t=1\/op=20\/op=21->AD op t x y<=1):=by
 have z:(0:Int)<=0/\(0:Int)<=4294967295/\(t=1\/op=20\/op=21->(0:Int)<=1):=⟨by omega,by omega,fun _=>by omega⟩
 have c5:Ci 5 t=true->t≠1:=fun h e=>by subst e;exact absurd h (by decide)
 unfold AD;by_cases e:op=8
 . rw[if_pos e];split
   . rename_i hc;have:=c5 hc;unfold MA;exact⟨by omega,by omega,fun h=>by omega⟩
   . exact z
 rw[if_neg e];clear e;by_cases e:op=9
 . rw[if_pos e];split
   . rename_i hc;have:=c5 hc;unfold MQ;exact⟨by omega,by omega,fun h=>by omega⟩
   . exact z
 rw[if_neg e];clear e;by_cases e:op=10
 . rw[if_pos e];split
   . rename_i hc;have:=c5 hc;unfold MU;exact⟨by omega,by omega,fun h=>by omega⟩
   . exact z
 rw[if_neg e];clear e;by_cases e:op=11
 . rw[if_pos e];split
   . rename_i hc;have:=c5 hc;unfold Gq
     refine⟨?_,?_,fun h=>by omega⟩<;>split<;>first|exact(u32_in _).1|exact(u32_in _).2|(unfold K5;split<;>first|omega|exact(u32_in _).1|exact(u32_in _).2)
   . exact z
 rw[if_neg e];clear e;by_cases e:op=12
 . rw [if_pos e];split
   . rename_i hc;have:=c5 hc
     have hr:0<=KB x y/\KB x y<=4294967295:=by
      unfold KB;split
      . omega
      . rename_i hn
        have hy0:y≠0:=by simpa using hn
        rw[Int.tmod_eq_emod_of_nonneg hx.1];exact⟨Int.emod_nonneg _ hy0,by have:=Int.emod_lt_of_pos x (show 0<y by omega);omega⟩
     unfold Gn;refine⟨?_,?_,fun h=>by omega⟩<;>split<;>first|exact(u32_in _).1|exact(u32_in _).2|exact hr.1|exact hr.2
   . exact z
 rw[if_neg e];clear e;by_cases e:op=13
 . rw[if_pos e];split
   . exact⟨(NJ _ _).1,(NJ _ _).2,fun h=>(Ic ⟨hx.1,(h1 (by omega)).1⟩ ⟨hy.1,(h1 (by omega)).2⟩).1⟩
   . exact z
 rw[if_neg e];clear e;by_cases e:op=14
 . rw[if_pos e];split
   . exact⟨(Pm _ _).1,(Pm _ _).2,fun h=>(Ic ⟨hx.1,(h1 (by omega)).1⟩ ⟨hy.1,(h1 (by omega)).2⟩).2.1⟩
   . exact z
 rw[if_neg e];clear e;by_cases e:op=15
 . rw[if_pos e];split
   . exact⟨(LA _ _).1,(LA _ _).2,fun h=>(Ic ⟨hx.1,(h1 (by omega)).1⟩ ⟨hy.1,(h1 (by omega)).2⟩).2.2⟩
   . exact z
 rw[if_neg e];clear e;by_cases e:op=16
 . rw[if_pos e];split
   . unfold IQ
     by_cases e1:t=1
     . rw[if_pos (by simpa using e1)];have:=FJ (x==0);exact⟨by omega,by omega,fun _=>by omega⟩
     . rw[if_neg (by simpa using e1)];have:=LA IntKind.u32.max x;exact⟨this.1,this.2,fun h=>by omega⟩
   . exact z
 rw[if_neg e];clear e;by_cases e:op=17
 . rw[if_pos e];split
   . unfold N3;exact⟨by omega,by omega,fun h=>by have:=ho (by omega);omega⟩
   . exact z
 rw[if_neg e];clear e;by_cases e:op=18
 . rw[if_pos e];split
   . unfold Nw
     have hp:(0:Int)<2 ^ (bits .and .u32 y 31).toNat:=Int.pow_pos (by omega);have h2:x / 2 ^ (bits .and .u32 y 31).toNat<=x:=Int.ediv_le_self _ hx.1;exact⟨Int.ediv_nonneg hx.1 (by omega),by omega,fun h=>by have:=ho (by omega);omega⟩
   . exact z
 rw[if_neg e];clear e;by_cases e:op=19
 . rw[if_pos e];split
   . unfold NE;exact⟨by omega,by omega,fun h=>by have:=ho (by omega);omega⟩
   . exact z
 rw[if_neg e];clear e;by_cases e:op=20
 . rw[if_pos e];split
   . unfold Qd;have:=FJ (x==y);exact⟨by omega,by omega,fun _=>by omega⟩
   . exact z
 rw[if_neg e];clear e;by_cases e:op=21
 . rw[if_pos e];split
   . unfold FQ
     split
     . have:=FJ (decide (wrap32 x<wrap32 y));exact⟨by omega,by omega,fun _=>by omega⟩
     . have:=FJ (decide (x<y));exact⟨by omega,by omega,fun _=>by omega⟩
   . exact z
 rw[if_neg e];exact z
theorem Pp{a b z:Int}(h:0<=z/\z<=4294967295):0<=Eo a b z/\Eo a b z<=4294967295/\(b=1->Eo a b z<=1):=by
 unfold Eo;split
 . split
   . have:=FJ (z != 0);exact⟨by omega,by omega,fun _=>by omega⟩
   . rename_i e;exact⟨h.1,h.2,fun hb=>absurd (by simpa using hb) e⟩
 . exact⟨by omega,by omega,fun _=>by omega⟩
theorem M4{b:Int}{D:List MG}{g g':MG}(h:Cj b (D++[g]))(e:g'.base=g.base):Cj b (D++[g']):=by
 induction D generalizing b with
 |nil=>exact⟨by rw[e];exact h.1,trivial⟩
 |cons a r ih=>exact⟨h.1,ih h.2⟩
theorem Mw{b:Int}{D:List MG}{g:MG}(h:Cj b (D++[g])):Cj b D:=by
 induction D generalizing b with
 |nil=>trivial
 |cons a r ih=>exact⟨h.1,ih h.2⟩
theorem M6{b:Int}{D:List MG}{g q:MG}(h:Cj b (D++[g]))(e:g.base<=q.base):Cj b (D++[g]++[q]):=by
 induction D generalizing b with
 |nil=>exact⟨h.1,e,trivial⟩
 |cons a r ih=>exact⟨h.1,ih h.2⟩
theorem Kd{b:Int}{fs:List MG}(h:Cj b fs):∀g∈fs,b<=g.base:=by
 induction fs generalizing b with
 |nil=>intro g hg;cases hg
 | cons x r ih=>
   intro g hg;rcases List.mem_cons.1 hg with rfl|hg
   . exact h.1
   . exact Int.le_trans h.1 (ih h.2 g hg)
theorem NF{b:Int}{D:List MG}{g:MG}(h:Cj b (D++[g])):∀q∈D,q.base<=g.base:=by
 induction D generalizing b with
 |nil=>intro q hq;cases hq
 | cons a r ih=>
   intro q hq;rcases List.mem_cons.1 hq with rfl|hq
   . exact Kd h.2 g (by simp)
   . exact ih h.2 q hq
theorem L7{D:List MG}{g:MG}(h:MG->MG):CV (D++[g]) h=D++[h g]:=by
 unfold CV;apply List.ext_getElem?;intro i;rw[List.getElem?_modify];simp only[List.length_append,List.length_singleton,Nat.add_sub_cancel];by_cases e:i<D.length
 . rw[List.getElem?_append_left e,List.getElem?_append_left e]
   cases D[i]? with
   |none=>rfl
   |some a=>simp[show¬D.length=i by omega]
 . rw[List.getElem?_append_right (by omega),List.getElem?_append_right (by omega)]
   by_cases e2:i=D.length
   . subst e2;simp
   . rw[List.getElem?_eq_none (by simp;omega),List.getElem?_eq_none (by simp;omega)];rfl
theorem NQ{vs:List MC}{ts:List Int}(h:Bc vs ts=true)(h0:∀t∈ts,t≠0):vs.map MC.type=ts:=by
 induction vs generalizing ts with
 |nil=>cases ts with|nil=>rfl|cons _ _=>simp[Bc]at h
 | cons v r ih=>
   cases ts with
   |nil=>simp[Bc]at h
   | cons t q=>
     simp only[Bc,Bool.and_eq_true,Bool.or_eq_true,beq_iff_eq]at h;have h1:=h0 t (by simp);rw[List.map_cons,ih h.2 (fun z hz=>h0 z (by simp[hz]))];rcases h.1 with e|e
     . exact absurd e h1
     . rw[e]
theorem Fu{vs:List MC}{t:Int}(h:Bc vs [t]=true):∃v,vs=[v]/\(t≠0->v.type=t):=by
 match vs,h with
 |[v],h=>exact⟨v,rfl,fun e=>by simp[Bc]at h;rcases h with h|h;exact absurd h e;exact h⟩
 |[],h=>simp[Bc]at h
 |_::_::_,h=>simp[Bc]at h
theorem Kg{vs:List MC}{t t':Int}(h:Bc vs [t,t']=true):∃v v',vs=[v,v']/\(t≠0->v.type=t)/\(t'≠0->v'.type=t'):=by
 match vs,h with
 | [v,v'],h=>
   refine⟨v,v',rfl,fun e=> ?_,fun e=> ?_⟩
   . simp[Bc]at h;rcases h.1 with h|h;exact absurd h e;exact h
   . simp[Bc]at h;rcases h.2 with h|h;exact absurd h e;exact h
 |[],h=>simp[Bc]at h
 |[_],h=>simp[Bc]at h
 |_::_::_::_,h=>simp[Bc]at h
theorem Qi{p:MP}{s:MS}{D:List MG}{g:MG}{f:MF}(h:FA p s)(hw:s.wf)(hfr:s.frames=D++[g])(hf:p.funcs[g.func.toNat]?=some f)(C:List (List MC))(K:List MC)(g':MG)(hc:C.length=s.cells.length)(hcv:∀(i:Nat) c r,C[i]?=some c->p.regions[i]?=some r->CQ c r)(hcw:∀c∈C,∀v∈c,v.wf)(hK:K.length<=64)(hv:∀v∈K,Gv v)(hbl:g.base<=(K.length:Int))(hgb:g'.base=g.base)(hgf:g'.func=g.func)(hgl:CQ g'.locals (f.params++f.locals))(hgw:g'.wf):
 FA p ⟨s.trap,s.done,s.cost,s.steps,C,K,D++[g']⟩/\(⟨s.trap,s.done,s.cost,s.steps,C,K,D++[g']⟩:MS).wf:=by
 have hbs:=h.bases;rw[hfr]at hbs;have hgm:g∈s.frames:=by rw[hfr];simp
 have hdp:=h.deep;rw[hfr]at hdp;simp only[List.length_append,List.length_singleton]at hdp;refine⟨⟨h.prog,h.cost,h.steps,by simp only[];rw[hc];exact h.three,hcv,hK,fun v hx=>(hv v hx).1,by simp,by simp;omega,?_,M4 hbs hgb⟩,⟨hw.trap,hw.cost,hw.steps,hcw,fun v hx=>(hv v hx).2,?_⟩⟩
 . intro q hq
   simp only[List.mem_append,List.mem_singleton]at hq;rcases hq with hq|rfl
   . have h1:=h.frames q (by rw[hfr];simp[hq])
     exact⟨h1.lo,h1.locals,by have:=NF hbs q hq;simp only[];omega⟩
   . have h1:=h.frames g hgm
     exact⟨by rw[hgf];exact h1.lo,⟨f,by rw[hgf];exact hf,hgl⟩,by rw[hgb];exact hbl⟩
 . intro q hq
   simp only[List.mem_append,List.mem_singleton]at hq;rcases hq with hq|rfl
   . exact hw.frames q (by rw[hfr];simp[hq])
   . exact hgw
theorem J8{vs:List MC}{ts:List Int}{i:Nat}{t:Int}(h:CQ vs ts)(ht:ts[i]?=some t):∃v,vs[i]?=some v/\v.type=t:=by
 have h1:(vs.map MC.type)[i]?=some t:=by rw[h.1];exact ht
 rw[List.getElem?_map]at h1;cases hv:vs[i]? with
 |none=>rw[hv]at h1;cases h1
 |some v=>rw[hv]at h1;exact⟨v,rfl,Option.some.inj h1⟩
theorem JN{l:List MC}{i:Nat}{v:MC}(h:l[i]?=some v):Cn l i=v:=by unfold Cn;rw[h];rfl
theorem H7{vs:List MC}{ts:List Int}{i:Nat}{v:MC}(h:CQ vs ts)(hv:Cc v)(ht:ts[i]?=some v.type):CQ (vs.set i v) ts:=by
 refine⟨?_,fun q hq=> ?_⟩
 . rw[List.map_set,h.1]
   apply List.ext_getElem?;intro j;rw[List.getElem?_set];split
   . rename_i e;subst e
     split
     . exact ht.symm
     . rename_i hn;rw[List.getElem?_eq_none (by omega)]
   . rfl
 . rcases List.mem_or_eq_of_mem_set hq with hq|rfl
   . exact h.2 q hq
   . exact hv
theorem Jl{p:MP}{s:MS}(h:FA p s)(hw:s.wf){a b:Nat}{r:List Int}{v:MC}(hr:p.regions[a]?=some r)(hv:Gv v)(ht:r[b]?=some v.type):
 (∀(i:Nat) c q,(Dy s.cells a b v)[i]?=some c->p.regions[i]?=some q->CQ c q)/\(∀c∈Dy s.cells a b v,∀z∈c,z.wf):=by
 unfold Dy;refine⟨fun i c q hc hq=> ?_,fun c hc z hz=> ?_⟩
 . rw [List.getElem?_modify]at hc
   cases e:s.cells[i]? with
   |none=>rw[e]at hc;cases hc
   | some c0=>
     rw[e]at hc;have h1:=h.cells i c0 q e hq;simp only[Option.map_eq_map,Option.map_some,Option.some.injEq]at hc;split at hc
     . rename_i ea;subst ea
       rw[hr]at hq;obtain rfl:=Option.some.inj hq;rw[<-hc];exact H7 h1 hv.1 ht
     . rw[<-hc];exact h1
 . obtain⟨j,hj⟩:=List.mem_iff_getElem?.1 hc
   rw[List.getElem?_modify]at hj;cases e:s.cells[j]? with
   |none=>rw[e]at hj;cases hj
   | some c0=>
     rw[e]at hj;simp only[Option.map_eq_map,Option.map_some,Option.some.injEq]at hj;have h0:=hw.cells c0 (mG e);split at hj
     . rw[<-hj]at hz
       rcases List.mem_or_eq_of_mem_set hz with hz|rfl
       . exact h0 z hz
       . exact hv.2
     . rw[<-hj]at hz;exact h0 z hz
theorem Mk{p:MP}{s:MS}(h:FA p s)(hw:s.wf){a b:Nat}{r:List Int}{t:Int}(hr:p.regions[a]?=some r)(ht:r[b]?=some t):∃v,cellAt s a b=v/\Gv v/\v.type=t:=by
 have hl:a<s.cells.length:=by rw[h.three];exact(gI.1 hr).1
 have hc:=gE hl;have h1:=h.cells a _ r hc hr;obtain⟨v,hv,htv⟩:=J8 h1 ht;refine⟨v,?_,⟨h1.2 v (mG hv),hw.cells _ (mG hc) v (mG hv)⟩,htv⟩;unfold cellAt;rw[hc];exact JN hv
theorem masked{p:MP}{a b c:Nat}{r:List Int}{t:Int}(hr:p.regions[a]?=some r)(h2:a<=2)(ht:r[b]?=some t)(hm:DP p a b c)(j:Nat):r[b+(j &&& c)]?=some t:=by
 have h1:=hm.one (j &&& c) (by have:= @Nat.and_le_right j c;omega);have e1:Bl p a b=t:=by rw[Dj h2 hr,List.getD_eq_getElem?_getD,ht];rfl
 have e2:Bl p a ((b:Int)+((j &&& c:Nat):Int))=r.getD (b+(j &&& c)) 0:=by
  rw[show(b:Int)+((j &&& c:Nat):Int)=((b+(j &&& c):Nat):Int)by omega];exact Dj h2 hr
 rw[e2,e1,List.getD_eq_getElem?_getD]at h1;have h0:=hm.there;rw[e1]at h0;cases e:r[b+(j &&& c)]? with
 |none=>rw[e]at h1;exact absurd h1.symm h0
 |some z=>rw[e]at h1;exact congrArg some h1
theorem L5{p:MP}{f:MF}{g:MG}{s:MS}{x:MI}(h:Ds p f g s x=0)(hb0:0<=g.base)(hbK:g.base<=(s.stack.length:Int))(h29:x.op≠29):
 (Ak p f x).length+g.base.toNat<=s.stack.length/\Bc (s.stack.drop (s.stack.length-(Ak p f x).length)) (Ak p f x)=true/\(x.op=27->Av f x.a=3)/\(x.op=28->s.frames.length<32)/\(x.op≠28->s.stack.length-(Ak p f x).length+Dd x<=64):=by
 unfold Ds at h;simp only[]at h;rw[if_neg h29]at h;split at h
 . cases h
 rename_i hl;rw[List.length_drop]at hl;split at h
 . cases h
 rename_i hf
 have e1:(s.stack.drop g.base.toNat).drop ((s.stack.drop g.base.toNat).length-(Ak p f x).length)=s.stack.drop (s.stack.length-(Ak p f x).length):=by
  rw[List.drop_drop,List.length_drop];congr 1;omega
 rw[e1]at hf;refine⟨by omega,by cases e:Bc (s.stack.drop (s.stack.length-(Ak p f x).length)) (Ak p f x);exact absurd (.inl e) hf;rfl,fun e=>Classical.byContradiction fun e2=>hf (.inr ⟨e,e2⟩),fun e=> ?_,fun e=> ?_⟩
 . rw[if_pos e]at h;split at h
   . assumption
   . cases h
 . rw[if_neg e]at h;split at h
   . cases h
   . omega
theorem G6{cs:List (List MC)}{a b:Nat}{v:MC}:(Dy cs a b v).length=cs.length:=by unfold Dy;rw[List.length_modify]
theorem Pl:AC 8=5/\AC 9=5/\AC 10=5/\AC 11=5/\AC 12=5/\AC 13=6/\AC 14=6/\AC 15=6/\AC 16=6/\AC 20=7/\AC 21=5/\AC 22=8:=by decide+kernel
theorem AN.type{p:MP}{f:MF}{x:MI}(h:AN p f x)(e:(8<=x.op/\x.op<=16)\/x.op=20\/x.op=21):CE x.a=true:=by
  obtain⟨_,_,h⟩:=h
  have hf:AC x.op=5\/AC x.op=6\/AC x.op=7:=by
    have h3:x.op=8\/x.op=9\/x.op=10\/x.op=11\/x.op=12\/x.op=13\/x.op=14\/x.op=15\/x.op=16\/x.op=20\/x.op=21:=by omega
    obtain⟨k0,k1,k2,k3,k4,k5,k6,k7,k8,k9,kA,kB⟩:=Pl;rcases h3 with e|e|e|e|e|e|e|e|e|e|e<;>rw[e]<;>omega
  unfold AP AQ at h;rcases h with h|h|h|h|h|h|h|h|h|h<;>first|(exfalso;omega)|(rcases h.1 with h|h|h<;>first|exact h.2|(rcases h.2 with e|e<;>rw[e]<;>rfl))
theorem AN.conv{p:MP}{f:MF}{x:MI}(h:AN p f x)(e:x.op=22):CE x.a=true/\CE x.b=true:=by
  obtain⟨_,_,h⟩:=h;have hf:AC x.op=8:=by rw[e];exact Pl.2.2.2.2.2.2.2.2.2.2.2
  unfold AP AQ at h;rcases h with h|h|h|h|h|h|h|h|h|h<;>first|(exfalso;omega)|exact⟨h.2.1,h.2.2.1⟩
set_option maxHeartbeats 4000000 in
theorem OL{p:MP}{s:MS}{g:MG}{f:MF}{x:MI}(hpw:p.wf)(h:FA p s)(hw:s.wf)(hla:s.frames.getLast?=some g)(hf:p.funcs[g.func.toNat]?=some f)(hat:0<=g.at_)(hx:f.code[g.at_.toNat]?=some x)(htr:Ds p f g s x=0)(hd:(CF p f g s x).done=false):
    FA p (CF p f g s x)/\(CF p f g s x).wf:=by
  obtain⟨D,hD⟩:∃D,s.frames=D++[g]:=by
    rw[List.getLast?_eq_some_iff]at hla;exact hla
  have hgm:g∈s.frames:=by rw[hD];simp
  have hg:=h.frames g hgm;have hgw:=hw.frames g hgm;have hok:AN p f x:=h.prog.instr hf hx;have hxw:x.wf:=(hpw.funcs f (mG hf)).code x (mG hx);have hb0:0<=g.base:=Kd h.bases g hgm;have hbs:=h.bases;rw[hD]at hbs
  have hloc:CQ g.locals (f.params++f.locals):=by
    obtain⟨f',hf',hl⟩:=hg.locals;rw[hf]at hf';obtain rfl:=Option.some.inj hf';exact hl
  have hfo:BO f:=h.prog.parts.2.2.1.2.2.1 _ (gI.1 hf).1 f hf;have hcl:=(gI.1 hx).1;have hc1:=hfo.code1;have h3:p.regions.length=3:=h.prog.parts.1.1;have hlv:∀v∈g.locals,Gv v:=fun v hv=>⟨hloc.2 v hv,hgw.locals v hv⟩
  by_cases h29:x.op=29
  . have e:CF p f g s x={s with frames:=s.frames.dropLast,done:=decide (s.frames.length=1)}:=by
      unfold CF;simp only[];repeat rw[if_neg (by omega)]
    rw[e]at hd⊢;simp only[decide_eq_false_iff_not]at hd;have e2:s.frames.dropLast=D:=by rw[hD];simp
    rw[e2];have hdp:=h.deep;rw[hD]at hd hdp;simp only[List.length_append,List.length_singleton]at hd hdp;refine⟨⟨h.prog,h.cost,h.steps,h.three,h.cells,h.high,h.stack,fun e3=> ?_,by simp only[];omega,fun q hq=>h.frames q (by rw[hD];simp only[]at hq;simp[hq]),Mw hbs⟩,⟨hw.trap,hw.cost,hw.steps,hw.cells,hw.stack,fun q hq=>hw.frames q (by rw[hD];simp only[]at hq;simp[hq])⟩⟩;simp only[]at e3;rw[e3]at hd;exact hd rfl
  obtain⟨hn,hfit,h27,h28,hgv⟩:=L5 htr hb0 hg.base h29;have hKs:∀v∈s.stack,Gv v:=fun v hv=>⟨h.stack v hv,hw.stack v hv⟩
  have hK64:=h.high;have hkeep:=Qi h hw hD hf;unfold CF at hd⊢;simp only[]at hd⊢;rw[hD]at hd⊢;simp only[L7]at hd⊢;have hstl:(s.stack.take (s.stack.length-(Ak p f x).length)).length=s.stack.length-(Ak p f x).length:=by rw[List.length_take];omega
  have hstv:∀v∈s.stack.take (s.stack.length-(Ak p f x).length),Gv v:=fun v hv=>hKs v (List.mem_of_mem_take hv)
  have harv:∀v∈s.stack.drop (s.stack.length-(Ak p f x).length),Gv v:=fun v hv=>hKs v (List.mem_of_mem_drop hv)
  generalize s.stack.take (s.stack.length-(Ak p f x).length)=st at hstl hstv hd⊢;generalize s.stack.drop (s.stack.length-(Ak p f x).length)=ar at hfit harv hd⊢;have hbst:g.base<=(st.length:Int):=by omega
  have hw1:({g with at_:=g.at_+1}:MG).wf:=⟨hgw.func,Dt (by simp only[];omega) (by simp only[];omega),hgw.base,hgw.locals⟩;have hwj:0<=x.c->({ {g with at_:=g.at_+1}with at_:=x.c}:MG).wf:=fun _=>⟨hgw.func,hxw.2.2.2,hgw.base,hgw.locals⟩
  have T0:st.length<=64:=by omega
  have push:∀vs:List MC,(∀v∈vs,Gv v)->st.length+vs.length<=64->FA p ⟨s.trap,s.done,s.cost,s.steps,s.cells,st++vs,D++[{g with at_:=g.at_+1}]⟩/\(⟨s.trap,s.done,s.cost,s.steps,s.cells,st++vs,D++[{g with at_:=g.at_+1}]⟩:MS).wf:=fun vs hv hl=>hkeep s.cells (st++vs) _ rfl h.cells hw.cells (by simp;omega) (fun v hm=>(List.mem_append.1 hm).elim (hstv v) (hv v)) (by simp only[List.length_append];omega) rfl rfl hloc hw1
  have frame:∀g':MG,g'.base=g.base->g'.func=g.func->CQ g'.locals (f.params++f.locals)->g'.wf->FA p ⟨s.trap,s.done,s.cost,s.steps,s.cells,st,D++[g']⟩/\(⟨s.trap,s.done,s.cost,s.steps,s.cells,st,D++[g']⟩:MS).wf:=fun g' e1 e2 e3 e4=>hkeep s.cells st g' rfl h.cells hw.cells T0 hstv hbst e1 e2 e3 e4
  have jumps:0<=x.c->FA p ⟨s.trap,s.done,s.cost,s.steps,s.cells,st,D++[{ {g with at_:=g.at_+1}with at_:=x.c}]⟩/\(⟨s.trap,s.done,s.cost,s.steps,s.cells,st,D++[{ {g with at_:=g.at_+1}with at_:=x.c}]⟩:MS).wf:=fun e=>frame _ rfl rfl hloc (hwj e)
  have stay:=frame {g with at_:=g.at_+1} rfl rfl hloc hw1;have one:∀v:MC,Gv v->Dd x=1->x.op≠28->FA p ⟨s.trap,s.done,s.cost,s.steps,s.cells,st++[v],D++[{g with at_:=g.at_+1}]⟩/\(⟨s.trap,s.done,s.cost,s.steps,s.cells,st++[v],D++[{g with at_:=g.at_+1}]⟩:MS).wf:=fun v hv hg1 hn28=>push [v] (fun z hz=>by simp only[List.mem_singleton]at hz;rw[hz];exact hv) (by have:=hgv hn28;simp only[List.length_singleton];omega)
  have gN:(x.op=1\/x.op=2\/x.op=4\/x.op=6\/(8<=x.op/\x.op<=22))->Dd x=1:=fun e=>by unfold Dd;rw[if_pos e]
  by_cases c0:x.op=0\/x.op=24
  . rw[if_pos c0];exact stay
  rw[if_neg c0]at hd⊢;by_cases c1:x.op=1
  . rw[if_pos c1]
    obtain⟨q,z,e1,e2⟩:=hok.const c1;have e3:Cn p.consts x.a.toNat=z:=by rw[e1];exact JN e2
    rw[e3];exact one z ⟨h.prog.parts.2.1.2 q (gI.1 e2).1 z e2,hpw.consts z (mG e2)⟩ (gN (by omega)) (by omega)
  rw[if_neg c1]at hd⊢;by_cases c2:x.op=2
  . rw[if_pos c2]
    obtain⟨q,e1,e2⟩:=hok.local (.inl c2);obtain⟨v,hv,_⟩:=J8 hloc e2;have e3:Cn g.locals x.a.toNat=v:=by rw[e1];exact JN hv
    rw[e3];exact one v (hlv v (mG hv)) (gN (by omega)) (by omega)
  rw[if_neg c2]at hd⊢;by_cases c3:x.op=3
  . rw[if_pos c3]
    obtain⟨q,e1,e2⟩:=hok.local (.inr (.inl c3));have et:Ak p f x=[Av f x.a]:=by unfold Ak;rw[if_pos c3]
    rw[et]at hfit;obtain⟨v,rfl,hv⟩:=Fu hfit;have hvo:=harv v (by simp)
    have hl0:Av f x.a≠0:=fun e=>by
      have h5:=hok.2.2;have hf2:AC x.op=2:=by rw[c3];exact Fi.2.2.1
      unfold AP AQ at h5;rcases h5 with h|h|h|h|h|h|h|h|h|h<;>first|(exfalso;omega)|exact h.2.1 e
    have e3:Cn [v] 0=v:=rfl;rw[e3];refine frame _ rfl rfl ?_ ⟨hw1.func,hw1.at_,hw1.base,fun z hz=> ?_⟩
    . simp only[e1,Int.toNat_natCast]
      exact H7 hloc hvo.1 (by rw[hv hl0];exact e2)
    . rcases List.mem_or_eq_of_mem_set hz with hz|rfl
      . exact hgw.locals z hz
      . exact hvo.2
  rw[if_neg c3]at hd⊢;by_cases c4:x.op=4
  . rw[if_pos c4]
    obtain⟨q,z,r,e1,e2,e3,e4⟩:=hok.cell h3 (.inl c4);obtain⟨v,e5,hv,_⟩:=Mk h hw e3 e4;rw[e1,e2,Int.toNat_natCast,Int.toNat_natCast,e5];exact one v hv (gN (by omega)) (by omega)
  rw[if_neg c4]at hd⊢;by_cases c5:x.op=5
  . rw[if_pos c5]
    obtain⟨q,z,r,e1,e2,e3,e4⟩:=hok.cell h3 (.inr (.inl c5));have et:Ak p f x=[Cf p x]:=by unfold Ak;rw[if_neg (by omega),if_pos c5]
    rw[et]at hfit;obtain⟨v,rfl,hv⟩:=Fu hfit
    have ht:CE (Cf p x)=true:=by
      have:=(h.prog.parts.1.2 q (gI.1 e3).1 r e3).2;exact List.all_eq_true.1 this _ (mG e4)
    have hvo:=harv v (by simp);have e6:Cn [v] 0=v:=rfl;rw[e6,e1,e2,Int.toNat_natCast,Int.toNat_natCast];obtain⟨k1,k2⟩:=Jl h hw e3 hvo (by rw[hv (Ey ht)];exact e4);exact hkeep _ st _ G6 k1 k2 T0 hstv hbst rfl rfl hloc hw1
  rw[if_neg c5]at hd⊢
  have msk:∀j:Nat,x.op=6\/x.op=7->∃(q:Nat) (r:List Int),x.a=q/\p.regions[q]?=some r/\r[x.b.toNat+(j &&& x.c.toNat)]?=some (Cf p x)/\CE (Cf p x)=true:=fun j e=>by
    obtain⟨q,z,r,e1,e2,e3,e4⟩:=hok.cell h3 (by omega);have hm:=hok.mask e;obtain⟨c,hc⟩:=Int.eq_ofNat_of_zero_le hm.low;rw[e1,e2,hc]at hm;refine⟨q,r,e1,e3,?_,?_⟩
    . rw[e2,hc,Int.toNat_natCast,Int.toNat_natCast]
      exact masked e3 (by have:=(gI.1 e3).1;omega) e4 hm j
    . have:=(h.prog.parts.1.2 q (gI.1 e3).1 r e3).2
      exact List.all_eq_true.1 this _ (mG e4)
  by_cases c6:x.op=6
  . rw[if_pos c6]
    obtain⟨q,r,e1,e3,e4,_⟩:=msk (Cn ar 0).word.toNat (.inl c6);obtain⟨v,e5,hv,_⟩:=Mk h hw e3 e4;rw[e1,Int.toNat_natCast,e5];exact one v hv (gN (by omega)) (by omega)
  rw[if_neg c6]at hd⊢;by_cases c7:x.op=7
  . rw[if_pos c7]
    obtain⟨q,r,e1,e3,e4,ht⟩:=msk (Cn ar 0).word.toNat (.inr c7);have et:Ak p f x=[3,Cf p x]:=by unfold Ak;rw[if_neg (by omega),if_neg (by omega),if_neg (by omega),if_pos c7]
    rw[et]at hfit;obtain⟨v0,v,rfl,_,hv⟩:=Kg hfit;have hvo:=harv v (by simp);have e6:Cn [v0,v] 1=v:=rfl;rw[e6,e1,Int.toNat_natCast];obtain⟨k1,k2⟩:=Jl h hw e3 hvo (by rw[hv (Ey ht)];exact e4);exact hkeep _ st _ G6 k1 k2 T0 hstv hbst rfl rfl hloc hw1
  rw[if_neg c7]at hd⊢;by_cases c8:x.op=16\/x.op=19
  . rw[if_pos c8]
    have et:∃t,Ak p f x=[t]/\CE t=true/\(x.op=19->t≠1):=by
      rcases c8 with e|e
      . exact⟨x.a,by unfold Ak;rw[if_neg (by omega),if_neg (by omega),if_neg (by omega),if_neg (by omega),if_neg (by omega),if_pos (by omega)],hok.type (by omega),fun e2=>by omega⟩
      . exact⟨2,by unfold Ak;rw[if_neg (by omega),if_neg (by omega),if_neg (by omega),if_neg (by omega),if_neg (by omega),if_neg (by omega),if_neg (by omega),if_pos e],rfl,fun _=>by omega⟩
    obtain⟨t,e1,ht,h19⟩:=et;rw[e1]at hfit;obtain⟨v,rfl,hv⟩:=Fu hfit;have hvo:=harv v (by simp);have e6:Cn [v] 0=v:=rfl;rw[e6];have hvt:=hv (Ey ht);obtain⟨i1,i2,i3⟩:=Hq (op:=x.op) (t:=v.type) hvo.word (show(0:Int)<=0/\(0:Int)<=4294967295 by omega) (fun e=>⟨hvo.1.2 e,by omega⟩) (fun e=>by omega)
    exact one _ (Gv.of hvo.1.1 i1 i2 (fun e=>i3 (.inl e))) (gN (by omega)) (by omega)
  rw[if_neg c8]at hd⊢
  have et2:Hid ((8<=x.op/\x.op<=18)\/x.op=20\/x.op=21->∃v v',ar=[v,v']/\v.type=v'.type/\Gv v/\Gv v'/\((x.op=17\/x.op=18)->v.type≠1)):=fun e=>by
    have:∃t,Ak p f x=[t,t]/\CE t=true/\((x.op=17\/x.op=18)->t≠1):=by
      by_cases e2:x.op=17\/x.op=18
      . exact⟨3,by unfold Ak;rw[if_neg (by omega),if_neg (by omega),if_neg (by omega),if_neg (by omega),if_neg (by omega),if_neg (by omega),if_pos e2],rfl,fun _=>by omega⟩
      . exact⟨x.a,by unfold Ak;rw[if_neg (by omega),if_neg (by omega),if_neg (by omega),if_neg (by omega),if_pos (by omega)],hok.type (by omega),fun e3=>absurd e3 e2⟩
    obtain⟨t,e1,ht,h17⟩:=this;rw[e1]at hfit;obtain⟨v,v',rfl,hv,hv'⟩:=Kg hfit;exact⟨v,v',rfl,by rw[hv (Ey ht),hv' (Ey ht)],harv v (by simp),harv v' (by simp),fun e3=>by rw[hv (Ey ht)];exact h17 e3⟩
  by_cases c9:x.op=20\/x.op=21
  . rw[if_pos c9]
    obtain⟨v,v',rfl,hvv,hvo,hvo',_⟩:=et2.out (by omega);have e6:Cn [v,v'] 0=v:=rfl;have e7:Cn [v,v'] 1=v':=rfl;rw[e6,e7];obtain⟨i1,i2,i3⟩:=Hq (op:=x.op) (t:=v.type) hvo.word hvo'.word (fun e=>⟨hvo.1.2 e,hvo'.1.2 (by rw[<-hvv];exact e)⟩) (fun e=>by omega);exact one _ (Gv.of rfl i1 i2 (fun _=>i3 (.inr c9))) (gN (by omega)) (by omega)
  rw[if_neg c9]at hd⊢;by_cases cA:8<=x.op/\x.op<=18
  . rw[if_pos cA]
    obtain⟨v,v',rfl,hvv,hvo,hvo',h17⟩:=et2.out (by omega);have e6:Cn [v,v'] 0=v:=rfl;have e7:Cn [v,v'] 1=v':=rfl;rw[e6,e7];obtain⟨i1,i2,i3⟩:=Hq (op:=x.op) (t:=v.type) hvo.word hvo'.word (fun e=>⟨hvo.1.2 e,hvo'.1.2 (by rw[<-hvv];exact e)⟩) (fun e=>⟨fun e2=>h17 (.inl e2) e,fun e2=>h17 (.inr e2) e,by omega⟩);exact one _ (Gv.of hvo.1.1 i1 i2 (fun e=>i3 (.inl e))) (gN (by omega)) (by omega)
  rw[if_neg cA]at hd⊢;by_cases cB:x.op=22
  . rw[if_pos cB]
    have e1:Ak p f x=[x.a]:=by unfold Ak;rw[if_neg (by omega),if_neg (by omega),if_neg (by omega),if_neg (by omega),if_neg (by omega),if_pos (by omega)]
    rw[e1]at hfit;obtain⟨v,rfl,hv⟩:=Fu hfit;have hvo:=harv v (by simp);have e6:Cn [v] 0=v:=rfl;rw[e6];obtain⟨i1,i2,i3⟩:=Pp (a:=x.a) (b:=x.b) hvo.word;exact one _ (Gv.of (hok.conv cB).2 i1 i2 i3) (gN (by omega)) (by omega)
  rw[if_neg cB]at hd⊢;by_cases cC:x.op=23
  . rw[if_pos cC]
    have e1:Ak p f x=[0]:=by unfold Ak;rw[if_neg (by omega),if_neg (by omega),if_neg (by omega),if_neg (by omega),if_neg (by omega),if_neg (by omega),if_neg (by omega),if_neg (by omega),if_pos (by omega)]
    have hg2:=hgv (by omega);rw[show Dd x=2 by unfold Dd;rw[if_neg (by omega),if_pos cC]]at hg2;rw[e1]at hfit;obtain⟨v,rfl,_⟩:=Fu hfit;have hvo:=harv v (by simp);have e6:Cn [v] 0=v:=rfl;rw[e6];exact push [v,v] (fun z hz=>by simp only[List.mem_cons,List.not_mem_nil,or_false,or_self]at hz;rw[hz];exact hvo) (by simp only[List.length_cons,List.length_nil];omega)
  rw[if_neg cC]at hd⊢;by_cases cD:x.op=25
  . rw[if_pos cD];exact jumps (hok.target (by omega)).1
  rw[if_neg cD]at hd⊢;by_cases cE:x.op=26
  . rw[if_pos cE]
    split
    . exact jumps (hok.target (by omega)).1
    . exact stay
  rw[if_neg cE]at hd⊢;by_cases cF:x.op=27
  . rw [if_pos cF]
    obtain⟨q,e1,e2⟩:=hok.local (.inr (.inr cF));obtain⟨v,hv,hvt⟩:=J8 hloc e2;have e3:Cn g.locals x.a.toNat=v:=by rw[e1];exact JN hv
    rw[e3];split
    . exact jumps (hok.target (by omega)).1
    . rename_i hne
      have hvo:=hlv v (mG hv);have hvw:=hvo.word
      have e5:g.locals.modify q (fun v=>{v with word:=v.word-1})=g.locals.set q {v with word:=v.word-1}:=by
        apply List.ext_getElem?;intro j;rw[List.getElem?_modify,List.getElem?_set];split
        . rename_i ej;subst ej
          have hj:=(gI.1 hv).1;rw[hv,if_pos hj];simp
        . cases g.locals[j]?<;>rfl
      have hv2:Gv {v with word:=v.word-1}:=Gv.of hvo.1.1 (by omega) (by omega) (fun e=>by rw[hvt,h27 cF]at e;omega);refine frame _ rfl rfl ?_ ⟨hw1.func,hw1.at_,hw1.base,fun z hz=> ?_⟩
      . simp only[e1,Int.toNat_natCast]
        rw[e5];exact H7 hloc hv2.1 (by simp only[];rw[hvt];exact e2)
      . simp only[e1,Int.toNat_natCast]at hz
        rw[e5]at hz;rcases List.mem_or_eq_of_mem_set hz with hz|rfl
        . exact hgw.locals z hz
        . exact hv2.2
  rw[if_neg cF]at hd⊢;have cG:x.op=28:=by have:=hok.1;have:=hok.2.1;omega
  rw[if_pos cG];obtain⟨q,fq,e1,e2⟩:=hok.callee cG;have e3:p.funcs[x.a.toNat]?=some fq:=by rw[e1];exact e2
  have hfq:BO fq:=h.prog.parts.2.2.1.2.2.1 _ (gI.1 e2).1 fq e2
  have et:Ak p f x=fq.params:=by
    unfold Ak;repeat rw[if_neg (by omega)]
    rw[if_pos cG,e3]
  rw[et]at hfit;have hpar:=NQ hfit (fun t ht=>Ey (List.all_eq_true.1 hfq.pt t ht));have hlt:=h28 cG;rw[hD]at hlt;simp only[List.length_append,List.length_singleton]at hlt;rw[e3];simp only[]
  have hz:∀v∈fq.locals.map fun ty=>(⟨ty,0⟩:MC),Gv v:=fun v hv=>by
    obtain⟨t,ht,rfl⟩:=List.mem_map.1 hv;exact Gv.of (List.all_eq_true.1 hfq.lt t ht) (by omega) (by omega) (fun _=>by omega)
  obtain⟨s1,s2⟩:=stay;have hlok:∀v∈ar++fq.locals.map fun ty=>(⟨ty,0⟩:MC),Gv v:=fun v hv=>(List.mem_append.1 hv).elim (harv v) (hz v)
  refine⟨⟨s1.prog,s1.cost,s1.steps,s1.three,s1.cells,s1.high,s1.stack,by simp,by simp;omega,fun y hy=> ?_,M6 s1.bases (by simp only[];exact hbst)⟩,⟨s2.trap,s2.cost,s2.steps,s2.cells,s2.stack,fun y hy=> ?_⟩⟩
  . rcases List.mem_append.1 hy with hy|hy
    . exact s1.frames y hy
    . simp only[List.mem_singleton]at hy
      subst hy;refine⟨by simp only[];omega,⟨fq,e3,?_,fun v hv=>(hlok v hv).1⟩,Int.le_refl _⟩;simp only[List.map_append,hpar,List.map_map];congr 1;exact List.map_id' _
  . rcases List.mem_append.1 hy with hy|hy
    . exact s2.frames y hy
    . simp only[List.mem_singleton]at hy
      subst hy;exact⟨hxw.2.1,Dt (by simp only[];omega) (by simp only[];omega),Dt (by simp only[];omega) (by simp only[];omega),fun v hv=>(hlok v hv).2⟩
theorem IV(v:VP)(p:MP)(w:World)(hs:p.small)(hw:p.wf)(hp:AB p.regions)(hfo:AY p.funcs)(h:Cx w v p)(hcap:EH w v.r p.regions):
  Calls Tryz.prog 130 #[.agg #[v.r,v.k,v.f,v.t]] w fun e w'=>Ar e (Ct p)/\Below w.heap.size w w':=by
 obtain⟨xs,ys,hP⟩:=Pg.of hs hw h;obtain⟨vr,vk,vf,vt⟩:=v;simp only[]at hP;obtain⟨r3,c3,e3⟩:=hP.fr.is_slice;have hm:=hs.funcs;subst e3;have HH:Hid (AB p.regions/\AY p.funcs/\EH w vr p.regions):=⟨hp,hfo,hcap⟩
 clear hs hw h hp hfo hcap;obtain⟨rr1,cc1,evr⟩:=hP.rr.is_slice;obtain⟨rr2,cc2,evk⟩:∃a c,vk=.slice a p.consts.length c:=hP.rd.consts.is_slice;obtain⟨rr4,cc4,evt⟩:∃a c,vt=.slice a p.certs.length c:=hP.rd.certs.is_slice;subst evr evk evt;have HP:Hid _:=hP;clear hP;have HI:Hid _:=GD.of w (.slice rr1 p.regions.length cc1) (.slice rr2 p.consts.length cc2) (.slice r3 p.funcs.length c3) (.slice rr4 p.certs.length cc4) 45;generalize hM:p.funcs.length=m at*;have HL:Hid (p.funcs.length=m):=hM;clear hM;have HP:Hid (Pg w (.slice rr1 p.regions.length cc1) (.slice rr2 p.consts.length cc2) (.slice r3 m c3) (.slice rr4 p.certs.length cc4) p xs ys):=HP;go_enter Tryz.func130,Tryz.ntmps130;go_wp2
 go_loopw [11] (fun i wr=>∃k:Nat,k<=m/\i=.int .i64 k/\Hid (∀j,j<k->∀f,p.funcs[j]?=some f->Ek p f)/\Hid (GD w wr (.slice rr1 p.regions.length cc1) (.slice rr2 p.consts.length cc2) (.slice r3 m c3) (.slice rr4 p.certs.length cc4))) (fun i _=>m-(intOf i).toNat)
 case atStart=>exact⟨0,by omega,rfl,fun j hj=>by omega,HI⟩
 case round=>
  clear HI;obtain⟨k,hk,rfl,HT,HI⟩:=hrel;by_cases hlt:k<m
  ·obtain⟨⟨f,v⟩,hx⟩:∃x,ys[k]?=some x:=⟨_,gE (by rw[HP.out.fl,HL.out];exact hlt)⟩
   have e1:=Bh HP.out.fm hx;have HX:Hid (CP w v f/\f.small/\p.funcs[k]?=some f/\f.wf/\BO f):=⟨HP.out.fe _ (mG hx),HP.out.small.func _ (mG e1),e1,HP.out.wf.funcs _ (mG e1),HH.out.2.1.2.2.1 k (by rw[HL.out];exact hlt) _ e1⟩
   clear e1;rcases HP.out.fr.2 with⟨e0,_⟩|⟨b,o,c,e1,hc1⟩
   ·rw[HL.out]at e0
    omega
   rw[HL.out]at e1;simp only[sJ,true_and]at e1;obtain⟨rfl,rfl⟩:=e1;have i0:=Rd.elem Ai hc1 k _ hx 0 _ rfl;have i1:=Rd.elem Ai hc1 k _ hx 1 _ rfl;have i2:=Rd.elem Ai hc1 k _ hx 2 _ rfl;have i3:=Rd.elem Ai hc1 k _ hx 3 _ rfl;rw[<-HI.out.bel.cell (bL i0),Nat.add_zero]at i0;rw[<-HI.out.bel.cell (bL i1)]at i1;rw[<-HI.out.bel.cell (bL i2)]at i2;rw[<-HI.out.bel.cell (bL i3)]at i3;clear hc1 hx;simp only[]at i0 i1 i2 i3;obtain⟨ap,cp,ep⟩:=HX.out.1.1.is_slice;obtain⟨al,cl,el⟩:=HX.out.1.2.1.is_slice;obtain⟨ac,cc,ec⟩:=HX.out.1.2.2.is_slice;obtain⟨vp,vl,vc⟩:=v;simp only[]at ep el ec i0 i1 i2 i3;subst ep el ec;obtain⟨p0,p1,p2,p3⟩:=HI.out.prog;have nb:¬b=wr.heap.size:=Nat.ne_of_lt (bL i0);have mb:b<wr.heap.size:=bL i0;have np:¬w.heap.size=wr.heap.size:=Nat.ne_of_lt HI.out.prog.lt;have mp:w.heap.size<wr.heap.size:=HI.out.prog.lt;have hz:=HX.out.2.1.2.2
   have HS:Hid (GD w ((wr.alloc (.cells #[.slice ap f.params.length cp,.int .i64 f.result,.slice al f.locals.length cl,.slice ac f.code.length cc] 131)).alloc (.cells #[(.slice rr1 p.regions.length cc1),(.slice rr2 p.consts.length cc2),.slice (some ⟨b,o,none⟩) m c3,(.slice rr4 p.certs.length cc4),.slice ap f.params.length cp,.int .i64 f.result,.slice al f.locals.length cl,.slice ac f.code.length cc] 164)) (.slice rr1 p.regions.length cc1) (.slice rr2 p.consts.length cc2) (.slice (some ⟨b,o,none⟩) m c3) (.slice rr4 p.certs.length cc4)/\Ji ((wr.alloc (.cells #[.slice ap f.params.length cp,.int .i64 f.result,.slice al f.locals.length cl,.slice ac f.code.length cc] 131)).alloc (.cells #[(.slice rr1 p.regions.length cc1),(.slice rr2 p.consts.length cc2),.slice (some ⟨b,o,none⟩) m c3,(.slice rr4 p.certs.length cc4),.slice ap f.params.length cp,.int .i64 f.result,.slice al f.locals.length cl,.slice ac f.code.length cc] 164)) (wr.heap.size+1) (.slice rr1 p.regions.length cc1) (.slice rr2 p.consts.length cc2) (.slice (some ⟨b,o,none⟩) m c3) (.slice rr4 p.certs.length cc4) (.slice ap f.params.length cp) (.int .i64 f.result) (.slice al f.locals.length cl) (.slice ac f.code.length cc)):=by
    refine⟨HI.out.keep (Ab (Aa _ _) lR (Aa _ _)),?_⟩;have:=Ji.new (wr.alloc (.cells #[.slice ap f.params.length cp,.int .i64 f.result,.slice al f.locals.length cl,.slice ac f.code.length cc] 131)) (.slice rr1 p.regions.length cc1) (.slice rr2 p.consts.length cc2) (.slice (some ⟨b,o,none⟩) m c3) (.slice rr4 p.certs.length cc4) (.slice ap f.params.length cp) (.int .i64 f.result) (.slice al f.locals.length cl) (.slice ac f.code.length cc) 164;simpa using this
   go_wp2
   clear p0 p1 p2 p3 i0 i1 i2 i3 nb mb np mp;generalize hZ:f.code.length=z at*;have HZ:Hid (f.code.length=z):=hZ;clear hZ;generalize wr.heap.size+1=SB at HS⊢;go_loopw [21] (fun i wr2=>∃q:Nat,q<=z/\i=.int .i64 q/\Hid (∀j,j<q->∀x,f.code[j]?=some x->AN p f x)/\Hid (GD w wr2 (.slice rr1 p.regions.length cc1) (.slice rr2 p.consts.length cc2) (.slice (some ⟨b,o,none⟩) m c3) (.slice rr4 p.certs.length cc4)/\Ji wr2 SB (.slice rr1 p.regions.length cc1) (.slice rr2 p.consts.length cc2) (.slice (some ⟨b,o,none⟩) m c3) (.slice rr4 p.certs.length cc4) (.slice ap f.params.length cp) (.int .i64 f.result) (.slice al f.locals.length cl) (.slice ac z cc))) (fun i _=>z-(intOf i).toNat)
   case atStart=>exact⟨0,by omega,rfl,fun j hj=>by omega,HS⟩
   case round=>
    clear HS;obtain⟨q,hq,rfl,HTT,HS⟩:=hrel;by_cases hlq:q<z
    ·obtain⟨x,hx⟩:∃x,f.code[q]?=some x:=⟨_,gE (by rw[HZ.out];exact hlq)⟩
     have hxw:=HX.out.2.2.2.1.code x (mG hx);rcases HX.out.1.2.2.2 with⟨e0,_⟩|⟨b',o',c',e1,hc2⟩
     ·rw[HZ.out]at e0
      omega
     rw[HZ.out]at e1;simp only[sJ,true_and]at e1;obtain⟨rfl,rfl⟩:=e1;have j0:=Rd.elem MI.cells_length hc2 q x hx 0 _ rfl;have j1:=Rd.elem MI.cells_length hc2 q x hx 1 _ rfl;have j2:=Rd.elem MI.cells_length hc2 q x hx 2 _ rfl;have j3:=Rd.elem MI.cells_length hc2 q x hx 3 _ rfl;rw[<-HS.out.1.bel.cell (bL j0),Nat.add_zero]at j0;rw[<-HS.out.1.bel.cell (bL j1)]at j1;rw[<-HS.out.1.bel.cell (bL j2)]at j2;rw[<-HS.out.1.bel.cell (bL j3)]at j3;have HXX:Hid (f.code[q]?=some x/\x.wf):=⟨hx,hxw⟩
     clear hc2 hx hxw;obtain⟨xo,xa,xb,xc⟩:=x;simp only[]at j0 j1 j2 j3;obtain⟨s0,s1,s2,s3,s4,s5,s6,s7⟩:=HS.out.2;have nb:¬b'=wr.heap.size:=Nat.ne_of_lt (bL j0);have mb:b'<wr.heap.size:=bL j0;have np:¬SB=wr.heap.size:=Nat.ne_of_lt HS.out.2.lt;have mp:SB<wr.heap.size:=HS.out.2.lt;go_wp2_with fail
     have bA:=Aa wr (.cells #[.int .i64 xo,.int .i64 xa,.int .i64 xb,.int .i64 xc] 134);have bW:=Ab HS.out.1.bel lR bA;refine(Mv ⟨(.slice rr1 p.regions.length cc1),(.slice rr2 p.consts.length cc2),.slice (some ⟨b,o,none⟩) m c3,(.slice rr4 p.certs.length cc4)⟩ p ⟨.slice ap f.params.length cp,.slice al f.locals.length cl,.slice (some ⟨b',o',none⟩) z cc⟩ f xo xa xb xc _ HP.out.small HH.out.1 HX.out.2.2.2.2 HX.out.2.1 HXX.out.2.2.1 HXX.out.2.2.2.1 HXX.out.2.2.2.2 (HP.out.rd.keep bW lR) (HH.out.2.2.keep bW lR) (HX.out.1.keep bW lR)).mono ?_;rintro e u4 ⟨⟨b4,rfl,hb4⟩,bl4⟩;have bU:=Ab bA lR bl4;have HS2:Hid (GD w u4 (.slice rr1 p.regions.length cc1) (.slice rr2 p.consts.length cc2) (.slice (some ⟨b,o,none⟩) m c3) (.slice rr4 p.certs.length cc4)/\Ji u4 SB (.slice rr1 p.regions.length cc1) (.slice rr2 p.consts.length cc2) (.slice (some ⟨b,o,none⟩) m c3) (.slice rr4 p.certs.length cc4) (.slice ap f.params.length cp) (.int .i64 f.result) (.slice al f.locals.length cl) (.slice (some ⟨b',o',none⟩) z cc)):=⟨HS.out.1.keep bU,HS.out.2.keep bU⟩
     clear bA bW bl4 bU HS j0 j1 j2 j3 s0 s1 s2 s3 s4 s5 s6 s7 nb mb np mp;cases b4
     ·have HN:Hid (¬Ct p):=fun e=>by
       have:=e k (by rw[HL.out];exact hlt) f HX.out.2.2.1 q (by rw[HZ.out];exact hlq) _ HXX.out.1;simp[this]at hb4
      clear hb4;go_wp2
      go_ret
      exact⟨.no HN.out,HS2.out.1.bel⟩
     ·have HOK:Hid (AN p f ⟨xo,xa,xb,xc⟩):=hb4.1 rfl
      clear hb4;go_wp2
      go_roundw
      case rel=>exact⟨q+1,by omega,by go_num,Cz HXX.out.1 HOK.out HTT.out,HS2⟩
      case measure=>simp[intOf];omega
    ·have hqz:z=q:=by omega
     subst hqz;have HFC:Hid (Ek p f):=fun j hj x hx=>HTT.out j (by rw[<-HZ.out];exact hj) x hx
     go_wp2
     go_roundw
     case rel=>exact⟨k+1,by omega,by go_num,Cz HX.out.2.2.1 HFC.out HT.out,HS.out.1⟩
     case measure=>simp[intOf];omega
  ·have hkn:m=k:=by omega
   subst hkn;have HCo:Hid (Ct p):=fun j hj f hf=>HT.out j (by rw[<-HL.out];exact hj) f hf
   go_wp2
   go_ret
   exact⟨.yes HCo.out,HI.out.bel⟩
def Cb(v:Value):Prop:=v=.slice none 0 0\/∃ad n c,v=.slice (some ad) n c
theorem I9(x y:MT)(w:World):
 Calls Tryz.prog 189 #[.agg #[.int .i64 x.func,.int .i64 x.head,.int .i64 x.counter,.int .u32 x.init],.agg #[.int .i64 y.func,.int .i64 y.head,.int .i64 y.counter,.int .u32 y.init]] w fun e w'=>Ar e (Ga x y)/\Below w.heap.size w w':=by
 have HB:Hid (Below w.heap.size w ((w.alloc (.cells #[.int .i64 x.func,.int .i64 x.head,.int .i64 x.counter,.int .u32 x.init] 148)).alloc (.cells #[.int .i64 y.func,.int .i64 y.head,.int .i64 y.counter,.int .u32 y.init] 148))):=Ab (Aa _ _) lR (Aa _ _);go_enter Tryz.func189,Tryz.ntmps189;go_wp2
 all_goals(go_ret;refine⟨Ar.of ?_,by first|exact HB.out|(rw[‹x.func=y.func›]at HB;exact HB.out)⟩;go_light;unfold Ga;simp_all<;>omega)
def DQ(w:World)(s:Value)(fs:List MF):Prop:=∃ys:List (MF×VF),ys.map Prod.fst=fs/\Rd w 4 s fs.length (ys.flatMap BK)/\∀x∈ys,CP w x.2 x.1/\Cb x.2.p/\Cb x.2.l
theorem DQ.keep{w w':World}{s:Value}{fs:List MF}(h:DQ w s fs){B:Nat}(hb:Below B w w')(hB:w.heap.size<=B):DQ w' s fs:=by
 obtain⟨ys,h1,h2,h3⟩:=h;exact⟨ys,h1,h2.keep hb hB,fun x hx=>⟨(h3 x hx).1.keep hb hB,(h3 x hx).2⟩⟩
theorem LD{p:MP}{fn:Nat}{f:MF}(hf:p.funcs[fn]?=some f)(hd co ini:Int):DO p ⟨fn,hd,co,ini⟩↔(0<=hd/\hd<(f.code.length:Int))/\(0<=co/\co<((f.params.length+f.locals.length:Nat):Int))/\(f.params++f.locals)[co.toNat]?=some 3:=by
 constructor
 ·rintro⟨g,h1,h2,h3,h4,h5⟩
  simp only[Int.toNat_natCast]at h1 h3 h4 h5;rw[hf]at h1;obtain rfl:=Option.some.inj h1;unfold Av at h5;split at h5
  ·simp at h5
  ·rename_i hc
   rw[List.getD_eq_getElem?_getD]at h5;by_cases q:co.toNat<(f.params++f.locals).length
   ·rw[gE q]at h5⊢
    refine⟨⟨h3,h4⟩,⟨by omega,by rw[List.length_append]at q;omega⟩,?_⟩;simpa using h5
   ·rw[List.getElem?_eq_none (by omega)]at h5
    simp at h5
 ·rintro⟨⟨h3,h4⟩,⟨h5,h6⟩,h7⟩
  refine⟨f,by simp only[Int.toNat_natCast];exact hf,by simp only[];omega,h3,h4,?_⟩;unfold Av;rw[if_neg (by simp only[];omega),List.getD_eq_getElem?_getD,h7];rfl
theorem DE(v:VP)(p:MP)(fu hd co ini:Int)(w:World)(hs:p.small)(h:Cx w v p)(hfp:DQ w v.f p.funcs):
 Calls Tryz.prog 188 #[.agg #[v.r,v.k,v.f,v.t],.agg #[.int .i64 fu,.int .i64 hd,.int .i64 co,.int .u32 ini]] w fun e w'=>Ar e (DO p ⟨fu,hd,co,ini⟩)/\Below w.heap.size w w':=by
 obtain⟨vr,vk,vf,vt⟩:=v;obtain⟨ys,hys,hrd,hel⟩:=hfp;simp only[]at hrd
 obtain⟨rr1,cc1,er1⟩:∃a c,vr=.slice a p.regions.length c:=by
  obtain⟨_,_,hq,_⟩:=h.regions;exact hq.is_slice
 obtain⟨rr2,cc2,er2⟩:∃a c,vk=.slice a p.consts.length c:=h.consts.is_slice;obtain⟨rr4,cc4,er4⟩:∃a c,vt=.slice a p.certs.length c:=h.certs.is_slice;subst er1 er2 er4;have hyl:ys.length=p.funcs.length:=by rw[<-hys];simp
 obtain⟨a2,c2,e2⟩:=hrd.is_slice;subst e2;have H2:Hid (Rd w 4 (.slice a2 p.funcs.length c2) p.funcs.length (ys.flatMap BK)/\ys.map Prod.fst=p.funcs/\(∀x∈ys,CP w x.2 x.1/\Cb x.2.p/\Cb x.2.l)/\(∀f∈p.funcs,f.small)/\ys.length=p.funcs.length):=⟨hrd,hys,hel,hs.func,hyl⟩
 have hm:=hs.funcs;clear hrd hys hel hyl hs h;generalize p.regions.length=n1 at*;generalize p.consts.length=n2 at*;generalize p.certs.length=n4 at*;generalize hM:p.funcs.length=m at*;have HL:Hid (p.funcs.length=m):=hM;clear hM
 have HI:Hid (Below w.heap.size w ((w.alloc (.cells #[.slice rr1 n1 cc1,.slice rr2 n2 cc2,.slice a2 m c2,.slice rr4 n4 cc4] 45)).alloc (.cells #[.int .i64 fu,.int .i64 hd,.int .i64 co,.int .u32 ini] 148))/\CY ((w.alloc (.cells #[.slice rr1 n1 cc1,.slice rr2 n2 cc2,.slice a2 m c2,.slice rr4 n4 cc4] 45)).alloc (.cells #[.int .i64 fu,.int .i64 hd,.int .i64 co,.int .u32 ini] 148)) (w.heap.size+1) (.int .i64 fu) (.int .i64 hd) (.int .i64 co) (.int .u32 ini)):=by
  refine⟨Ab (Aa _ _) lR (Aa _ _),?_⟩;have:=CY.new (w.alloc (.cells #[.slice rr1 n1 cc1,.slice rr2 n2 cc2,.slice a2 m c2,.slice rr4 n4 cc4] 45)) (.int .i64 fu) (.int .i64 hd) (.int .i64 co) (.int .u32 ini) 148;simpa using this
 by_cases q0:0<=fu/\fu<(m:Int)
 ·have hit:decide (0<=fu/\fu<(m:Int))=true:=decide_eq_true q0
  obtain⟨fn,rfl⟩:=Int.eq_ofNat_of_zero_le q0.1;have hfn:fn<m:=by omega
  clear q0;obtain⟨⟨f,v⟩,hy⟩:∃y,ys[fn]?=some y:=⟨_,gE (by rw[H2.out.2.2.2.2];omega)⟩;have e1:=Bh H2.out.2.1 hy;have hfe:=H2.out.2.2.1 _ (mG hy);have HF:Hid (CP w v f/\Cb v.p/\Cb v.l/\f.small/\p.funcs[fn]?=some f):=⟨hfe.1,hfe.2.1,hfe.2.2,H2.out.2.2.2.1 _ (mG e1),e1⟩
  clear e1 hfe;rcases H2.out.1.2 with⟨e0,_⟩|⟨b',o',c',e1,hc2⟩
  ·omega
  simp only[sJ,true_and]at e1;obtain⟨rfl,rfl⟩:=e1;have j0:=Rd.elem Ai hc2 fn _ hy 0 _ rfl;have j1:=Rd.elem Ai hc2 fn _ hy 1 _ rfl;have j2:=Rd.elem Ai hc2 fn _ hy 2 _ rfl;have j3:=Rd.elem Ai hc2 fn _ hy 3 _ rfl;rw[Nat.add_zero]at j0;clear hc2 hy;simp only[]at j0 j1 j2 j3;obtain⟨ap,cp,ep⟩:=HF.out.1.1.is_slice;obtain⟨al,cl,el⟩:=HF.out.1.2.1.is_slice;obtain⟨ac,cc,ec⟩:=HF.out.1.2.2.is_slice;obtain⟨vp,vl,vc⟩:=v;simp only[]at ep el ec j0 j1 j2 j3;subst ep el ec;have k0:=(HI.out.1.cell (bL j0)).trans j0;have k1:=(HI.out.1.cell (bL j1)).trans j1;have k2:=(HI.out.1.cell (bL j2)).trans j2;have k3:=(HI.out.1.cell (bL j3)).trans j3;have nb:¬b'=w.heap.size:=Nat.ne_of_lt (bL j0);have nb2:¬b'=w.heap.size+1:=by have:=bL j0;simp only[]at this;omega
  have nb3:¬b'=w.heap.size+1+1:=by have:=bL j0;simp only[]at this;omega
  have mb:b'<w.heap.size:=bL j0;go_enter Tryz.func188,Tryz.ntmps188;go_wp2_with fail
  refine(AM (fn:Int) (m:Int) _).mono ?_;rintro e u ⟨rfl,rfl⟩;rw[hit];go_wp2_with fail
  have hfm:(fn:Int)<(m:Int):=by omega
  have BX:Below w.heap.size w (((w.alloc (.cells #[.slice rr1 n1 cc1,.slice rr2 n2 cc2,.slice (some ⟨b',o',none⟩) m c2,.slice rr4 n4 cc4] 45)).alloc (.cells #[.int .i64 (fn:Int),.int .i64 hd,.int .i64 co,.int .u32 ini] 148)).alloc (.cells #[.slice none 0 0,.slice none 0 0,.slice none 0 0,.slice none 0 0,.slice none 0 0,.int .i64 0,.slice none 0 0,.slice none 0 0] 164)).drew:=Ab (Ab HI.out.1 lR (Aa _ _)) lR (Ad _);have x0:=(BX.cell (bL j0)).trans j0;have x1:=(BX.cell (bL j1)).trans j1;have x2:=(BX.cell (bL j2)).trans j2;have x3:=(BX.cell (bL j3)).trans j3;clear BX;go_region
  have B1:Hid (Below w.heap.size w ((((w.alloc (.cells #[.slice rr1 n1 cc1,.slice rr2 n2 cc2,.slice (some ⟨b',o',none⟩) m c2,.slice rr4 n4 cc4] 45)).alloc (.cells #[.int .i64 (fn:Int),.int .i64 hd,.int .i64 co,.int .u32 ini] 148)).alloc (.cells #[.slice rr1 n1 cc1,.slice rr2 n2 cc2,.slice (some ⟨b',o',none⟩) m c2,.slice rr4 n4 cc4,.slice ap f.params.length cp,.int .i64 f.result,.slice al f.locals.length cl,.slice ac f.code.length cc] 164)).drew)):=Ab (Ab HI.out.1 lR (Aa _ _)) lR (Ad _);have A1:Hid (CY ((((w.alloc (.cells #[.slice rr1 n1 cc1,.slice rr2 n2 cc2,.slice (some ⟨b',o',none⟩) m c2,.slice rr4 n4 cc4] 45)).alloc (.cells #[.int .i64 (fn:Int),.int .i64 hd,.int .i64 co,.int .u32 ini] 148)).alloc (.cells #[.slice rr1 n1 cc1,.slice rr2 n2 cc2,.slice (some ⟨b',o',none⟩) m c2,.slice rr4 n4 cc4,.slice ap f.params.length cp,.int .i64 f.result,.slice al f.locals.length cl,.slice ac f.code.length cc] 164)).drew) (w.heap.size+1) (.int .i64 (fn:Int)) (.int .i64 hd) (.int .i64 co) (.int .u32 ini)):=(HI.out.2.alloc _).keep (Ad _)
  have A2:Hid (Ji ((((w.alloc (.cells #[.slice rr1 n1 cc1,.slice rr2 n2 cc2,.slice (some ⟨b',o',none⟩) m c2,.slice rr4 n4 cc4] 45)).alloc (.cells #[.int .i64 (fn:Int),.int .i64 hd,.int .i64 co,.int .u32 ini] 148)).alloc (.cells #[.slice rr1 n1 cc1,.slice rr2 n2 cc2,.slice (some ⟨b',o',none⟩) m c2,.slice rr4 n4 cc4,.slice ap f.params.length cp,.int .i64 f.result,.slice al f.locals.length cl,.slice ac f.code.length cc] 164)).drew) (w.heap.size+1+1) (.slice rr1 n1 cc1) (.slice rr2 n2 cc2) (.slice (some ⟨b',o',none⟩) m c2) (.slice rr4 n4 cc4) (.slice ap f.params.length cp) (.int .i64 f.result) (.slice al f.locals.length cl) (.slice ac f.code.length cc)):=by
   have:=(Ji.new ((w.alloc (.cells #[.slice rr1 n1 cc1,.slice rr2 n2 cc2,.slice (some ⟨b',o',none⟩) m c2,.slice rr4 n4 cc4] 45)).alloc (.cells #[.int .i64 (fn:Int),.int .i64 hd,.int .i64 co,.int .u32 ini] 148)) (.slice rr1 n1 cc1) (.slice rr2 n2 cc2) (.slice (some ⟨b',o',none⟩) m c2) (.slice rr4 n4 cc4) (.slice ap f.params.length cp) (.int .i64 f.result) (.slice al f.locals.length cl) (.slice ac f.code.length cc) 164).keep (Ad _);have hsz:((w.alloc (.cells #[.slice rr1 n1 cc1,.slice rr2 n2 cc2,.slice (some ⟨b',o',none⟩) m c2,.slice rr4 n4 cc4] 45)).alloc (.cells #[.int .i64 (fn:Int),.int .i64 hd,.int .i64 co,.int .u32 ini] 148)).heap.size=w.heap.size+1+1:=by simp
   rw[hsz]at this;exact this
  generalize (((w.alloc (.cells #[.slice rr1 n1 cc1,.slice rr2 n2 cc2,.slice (some ⟨b',o',none⟩) m c2,.slice rr4 n4 cc4] 45)).alloc (.cells #[.int .i64 (fn:Int),.int .i64 hd,.int .i64 co,.int .u32 ini] 148)).alloc (.cells #[.slice rr1 n1 cc1,.slice rr2 n2 cc2,.slice (some ⟨b',o',none⟩) m c2,.slice rr4 n4 cc4,.slice ap f.params.length cp,.int .i64 f.result,.slice al f.locals.length cl,.slice ac f.code.length cc] 164)).drew=W1 at B1 A1 A2⊢;have HK:Hid (Below w.heap.size w W1/\CY W1 (w.heap.size+1) (.int .i64 (fn:Int)) (.int .i64 hd) (.int .i64 co) (.int .u32 ini)/\Ji W1 (w.heap.size+1+1) (.slice rr1 n1 cc1) (.slice rr2 n2 cc2) (.slice (some ⟨b',o',none⟩) m c2) (.slice rr4 n4 cc4) (.slice ap f.params.length cp) (.int .i64 f.result) (.slice al f.locals.length cl) (.slice ac f.code.length cc)):=⟨B1.out,A1.out,A2.out⟩
  clear B1 A1 A2 HI H2 j0 j1 j2 j3 k0 k1 k2 k3 nb nb2 nb3 mb hit x0 x1 x2 x3 hfm;have HC:Hid (DO p ⟨fn,hd,co,ini⟩↔(0<=hd/\hd<(f.code.length:Int))/\(0<=co/\co<((f.params.length+f.locals.length:Nat):Int))/\(f.params++f.locals)[co.toNat]?=some 3):=LD HF.out.2.2.2.2 hd co ini
  obtain⟨i0,i1,i2,i3⟩:=HK.out.2.1;obtain⟨g0,g1,g2,g3,g4,g5,g6,g7⟩:=HK.out.2.2;have hz3:=HF.out.2.2.2.1.2.2;go_wp2_with fail
  refine(AM hd (f.code.length:Int) _).mono ?_;rintro e u ⟨rfl,rfl⟩;by_cases qA:0<=hd/\hd<(f.code.length:Int)
  ·have hA:decide (0<=hd/\hd<(f.code.length:Int))=true:=decide_eq_true qA
   rw[hA];go_wp2_with fail
   refine(EU (.slice rr1 n1 cc1) (.slice rr2 n2 cc2) (.slice (some ⟨b',o',none⟩) m c2) (.slice rr4 n4 cc4) ⟨.slice ap f.params.length cp,.slice al f.locals.length cl,.slice ac f.code.length cc⟩ f co _ HF.out.2.2.2.1 (HF.out.1.keep HK.out.1 lR)).mono ?_;rintro e u ⟨⟨bh,rfl,hbh⟩,bl⟩;have HQ:Hid (Below w.heap.size w u/\CY u (w.heap.size+1) (.int .i64 (fn:Int)) (.int .i64 hd) (.int .i64 co) (.int .u32 ini)/\Ji u (w.heap.size+1+1) (.slice rr1 n1 cc1) (.slice rr2 n2 cc2) (.slice (some ⟨b',o',none⟩) m c2) (.slice rr4 n4 cc4) (.slice ap f.params.length cp) (.int .i64 f.result) (.slice al f.locals.length cl) (.slice ac f.code.length cc)):=⟨Ab HK.out.1 lR bl,HK.out.2.1.keep bl,HK.out.2.2.keep bl⟩
   clear bl HK i0 i1 i2 i3 g0 g1 g2 g3 g4 g5 g6 g7;cases bh
   ·have HN:Hid (¬DO p ⟨fn,hd,co,ini⟩):=fun e=>absurd (hbh.2 ⟨(HC.out.1 e).2.1.1,by have:=(HC.out.1 e).2.1.2;omega⟩) Bool.false_ne_true
    clear hbh qA hA;go_wp2
    go_ret
    exact⟨.no HN.out,HQ.out.1⟩
   ·have hl:Gy f co:=hbh.1 rfl
    obtain⟨k,rfl⟩:=Int.eq_ofNat_of_zero_le hl.1;have hk:k<(f.params++f.locals).length:=by have:=hl.2;rw[List.length_append];omega
    obtain⟨x,hx⟩:∃x,(f.params++f.locals)[k]?=some x:=⟨_,gE hk⟩
    have HY:Hid ((x==3)=true↔DO p ⟨fn,hd,k,ini⟩):=by
     show _↔_;have h2:=hl.2;rw[HC.out,Int.toNat_natCast,hx];simp[qA];intro _;omega
    have HX:Hid ((f.params++f.locals)[k]?=some x):=hx;clear hbh qA hA hl hk hx HC;obtain⟨i0,i1,i2,i3⟩:=HQ.out.2.1;obtain⟨g0,g1,g2,g3,g4,g5,g6,g7⟩:=HQ.out.2.2;go_wp2_with fail
    refine(FY (.slice rr1 n1 cc1) (.slice rr2 n2 cc2) (.slice (some ⟨b',o',none⟩) m c2) (.slice rr4 n4 cc4) ⟨.slice ap f.params.length cp,.slice al f.locals.length cl,.slice ac f.code.length cc⟩ f k x _ HF.out.2.2.2.1 (HF.out.1.keep HQ.out.1 lR) HX.out).mono ?_;rintro e u' ⟨rfl,bl⟩;have HE:Hid (Below w.heap.size w u'):=Ab HQ.out.1 lR bl;clear bl i0 i1 i2 i3 g0 g1 g2 g3 g4 g5 g6 g7;go_wp2
    go_ret
    exact⟨.of HY.out,HE.out⟩
  ·have hA:decide (0<=hd/\hd<(f.code.length:Int))=false:=decide_eq_false qA
   have HN:Hid (¬DO p ⟨fn,hd,co,ini⟩):=fun e=>qA (HC.out.1 e).1
   rw[hA];clear qA;go_wp2
   go_ret
   exact⟨.no HN.out,HK.out.1⟩
 ·have HN:Hid (¬DO p ⟨fu,hd,co,ini⟩):=fun⟨f,h1,h2,_⟩=>q0 ⟨h2,by have:=(gI.1 h1).1;simp only[]at this h2;rw[HL.out]at this;omega⟩
  have hit:decide (0<=fu/\fu<(m:Int))=false:=decide_eq_false q0
  clear H2;go_enter Tryz.func188,Tryz.ntmps188;go_wp2_with fail
  refine(AM fu (m:Int) _).mono ?_;rintro e u ⟨rfl,rfl⟩;rw[hit];go_wp2
  go_ret
  exact⟨.no HN.out,HI.out.1⟩
theorem Nc(w:World)(cur:Array Value)(e:TypeId)(G:Nat)(h:cur.size=G)(hG:G<=maxLen):(w.alloc (.cells cur e)).drew.ownsRow w.heap.size e 1 (.slice (some ⟨w.heap.size,0,none⟩) 0 G) 0 []:=
 ⟨rfl,.inr ⟨w.heap.size,G,cur,rfl,Nat.le_refl _,Array.getElem?_push_size,Nat.zero_le _,hG,by omega,by simp⟩⟩
theorem NM(n:Nat)(w:World)(hn:n<=4194304):
 Calls Tryz.prog 195 #[.slice none 0 0,.int .i64 n] w fun e w'=>∃v,e=.returned v/\w'.ownsRow w.heap.size 2 1 v 0 []/\Below w.heap.size w w':=by
 obtain⟨i0,hi,hz0,hz1,hz2⟩:=info_parts Jw;by_cases q0:n=0
 ·subst q0
  go_enter Tryz.func195,Tryz.ntmps195;go_wp2
  go_ret
  exact⟨_,rfl,World.ownsRow_nil _ _ _ _,Below.refl _ _⟩
 ·have q1:(0:Int)<(n:Int):=by omega
  have hold:(Builtin.firstCells i0.size 0 (.slice none 0 0)).run Tryz.prog w.drew=.ok (([]:List Value).toArray) w.drew:=run_firstCells_none w.drew i0.size 0 0 0
  have hrz:∀ty,(Builtin.append_ #[113,3] ty #[.slice none 0 0,.int .i64 n]).run Tryz.prog w=.ok (.slice (some ⟨w.heap.size,0,none⟩) (0+n) (grownCap w (0+n) 0 2)) (w.drew.alloc (.cells (([]:List Value).toArray++Builtin.zeroCells (Value.int .i64 0).cells n++Builtin.zeroCells (Value.int .i64 0).cells (grownCap w (0+n) 0 2-(0+n))) 2)):=fun ty=>
   Lib.run_append_grow_zeros w 113 3 ty 2 i0 (.int .i64 0) .i64 .i64 Tryz.underlying113 Tryz.underlying3 hi hz0 none 0 0 [] hold n (by omega) (by rw[hz1];omega) (by omega) (by omega) (by rw[hz2];omega) (growslice_fits (by omega) (by rw[hz2];omega))
  have hG1:=grownCap_ge w (0+n) 0 2;have hG2:=grownCap_le_maxLen w (0+n) 0 2 (by unfold maxLen;omega);generalize grownCap w (0+n) 0 2=G at hrz hG1 hG2;have HG:Hid (G<=maxLen):=hG2;unfold maxLen at hG2;go_enter Tryz.func195,Tryz.ntmps195;go_wp2_with (at_builtin;refine Lib.wpList_append_run _ rfl _ _ _ _ rfl _ _ rfl rfl _ _ (hrz _) ?_)
  all_goals
   go_ret
   exact⟨_,rfl,Nc w _ _ G (by simp[Builtin.zeroCells];omega) HG.out,Ab (Aa _ _) lR (Ad _)⟩
end Go.Proofs.YtlejplpkomddeaaGreat
