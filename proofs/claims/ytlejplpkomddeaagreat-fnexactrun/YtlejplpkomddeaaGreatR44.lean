import Derived.Test.YtlejplpkomddeaaGreatR0
import Derived.Test.YtlejplpkomddeaaGreatR4
import Derived.Test.YtlejplpkomddeaaGreatR11
import Derived.Test.YtlejplpkomddeaaGreatR43
import Derived.Test.YtlejplpkomddeaaGreatR15
import Derived.Test.YtlejplpkomddeaaGreatR8
import Derived.Test.YtlejplpkomddeaaGreatR5
import Derived.Test.YtlejplpkomddeaaGreatR35
import Derived.Test.YtlejplpkomddeaaGreatR34
namespace Go.Proofs.YtlejplpkomddeaaGreat
open Go.ChangeShapes Go.WideShapes Go.ChangeAt Go.RowKit
set_option linter.unusedVariables false
set_option maxHeartbeats 4000000
set_option maxRecDepth 100000
theorem FN{α:Type}{l:List α}{i:Nat}{h:α->α}{g:α}(hg:g∈l.modify i h):∃a∈l,g=a\/g=h a:=by
 obtain⟨j,hj⟩:=List.mem_iff_getElem?.1 hg;rw[List.getElem?_modify]at hj;cases ha:l[j]? with
 |none=>rw[ha]at hj;cases hj
 |some a=>
  rw[ha]at hj;simp only[Option.map_eq_map,Option.map_some,Option.some.injEq]at hj;refine⟨a,mG ha,?_⟩;split at hj
  ·exact .inr hj.symm
  ·exact .inl hj.symm
theorem GZ{fs:List MG}{h:MG->MG}(H:∀g∈fs,g.small)(hh:∀g,(h g).locals.length=g.locals.length):∀g∈CV fs h,g.small:=fun g hg=>by
 obtain⟨a,ha,e|e⟩:=FN hg
 ·rw[e];exact H a ha
 ·unfold MG.small
  rw[e,hh];exact H a ha
theorem Jg{fs:List MG}{h:MG->MG}:(CV fs h).length=fs.length:=by unfold CV;rw[List.length_modify]
theorem JO{cs:List (List MC)}{a b:Nat}{v:MC}(H:∀r∈cs,r.length<=1048576):∀r∈Dy cs a b v,r.length<=1048576:=fun r hr=>by
 obtain⟨q,hq,e|e⟩:=FN hr
 ·rw[e];exact H q hq
 ·rw[e,List.length_set];exact H q hq
theorem LX{cs:List (List MC)}{a b:Nat}{v:MC}:(Dy cs a b v).length=cs.length:=by unfold Dy;rw[List.length_modify]
theorem Mt{p:MP}{f:MF}{g:MG}{s:MS}{x:MI}(hp:A4 p 0)(hs:s.small)(hK:s.stack.length<=64)(hF:s.frames.length<=32):(CF p f g s x).small:=by
 have hgo:∀q∈CV s.frames (fun h=>{h with at_:=g.at_+1}),q.small:=GZ hs.frame (fun _=>rfl);have hgl:(CV s.frames (fun h=>{h with at_:=g.at_+1})).length<=32:=by rw[Jg];exact hF
 have hst:(s.stack.take (s.stack.length-(Ak p f x).length)).length<=64:=by rw[List.length_take];omega
 have har:(s.stack.drop (s.stack.length-(Ak p f x).length)).length<=64:=by rw[List.length_drop];omega
 have hz:∀c:MF,p.funcs[x.a.toNat]?=some c->c.locals.length<=32:=fun c hc=>by
  have h4:BO c:=hp.parts.2.2.1.2.2.1 _ (gI.1 hc).1 c hc;have:=h4.loc;omega
 have mk:∀(t:Int) (d:Bool) (c n:Int) (cs:List (List MC)) (stk:List MC) (fr:List MG),cs.length<=1048576->(∀r∈cs,r.length<=1048576)->stk.length<=66->fr.length<=33->(∀q∈fr,q.small)->(⟨t,d,c,n,cs,stk,fr⟩:MS).small:=fun t d c n cs stk fr h1 h2 h3 h4 h5=>⟨h1,h2,by simp only[];omega,by simp only[];omega,h5⟩
 unfold CF;simp only[];generalize s.stack.take (s.stack.length-(Ak p f x).length)=st at hst⊢;generalize s.stack.drop (s.stack.length-(Ak p f x).length)=ar at har⊢;generalize CV s.frames (fun h=>{h with at_:=g.at_+1})=go at hgo hgl⊢;have h1:∀v:MC,(st++[v]).length<=66:=fun v=>by simp;omega
 have h2:∀v v':MC,(st++[v,v']).length<=66:=fun v v'=>by simp;omega
 have ot:∀h:MG->MG,(∀q,(h q).locals.length=q.locals.length)->(CV go h).length<=33/\∀q∈CV go h,q.small:=fun h hh=>⟨by rw[Jg];omega,GZ hgo hh⟩
 have p1:∀v:MC,(⟨s.trap,s.done,s.cost,s.steps,s.cells,st++[v],go⟩:MS).small:=fun v=>mk _ _ _ _ _ _ _ hs.cells hs.cell (h1 v) (by omega) hgo
 have p0:(⟨s.trap,s.done,s.cost,s.steps,s.cells,st,go⟩:MS).small:=mk _ _ _ _ _ _ _ hs.cells hs.cell (by omega) (by omega) hgo;have pt:∀h:MG->MG,(∀q,(h q).locals.length=q.locals.length)->(⟨s.trap,s.done,s.cost,s.steps,s.cells,st,CV go h⟩:MS).small:=fun h hh=>mk _ _ _ _ _ _ _ hs.cells hs.cell (by omega) (ot h hh).1 (ot h hh).2
 have pc:∀a b v,(⟨s.trap,s.done,s.cost,s.steps,Dy s.cells a b v,st,go⟩:MS).small:=fun a b v=>mk _ _ _ _ _ _ _ (by rw[LX];exact hs.cells) (JO hs.cell) (by omega) (by omega) hgo
 by_cases c0:x.op=0\/x.op=24
 ·rw[if_pos c0];exact p0
 rw[if_neg c0];by_cases c1:x.op=1
 ·rw[if_pos c1];exact p1 _
 rw[if_neg c1];by_cases c2:x.op=2
 ·rw[if_pos c2];exact p1 _
 rw[if_neg c2];by_cases c3:x.op=3
 ·rw[if_pos c3];exact pt _ (fun q=>by simp)
 rw[if_neg c3];by_cases c4:x.op=4
 ·rw[if_pos c4];exact p1 _
 rw[if_neg c4];by_cases c5:x.op=5
 ·rw[if_pos c5];exact pc _ _ _
 rw[if_neg c5];by_cases c6:x.op=6
 ·rw[if_pos c6];exact p1 _
 rw[if_neg c6];by_cases c7:x.op=7
 ·rw[if_pos c7];exact pc _ _ _
 rw[if_neg c7];by_cases c8:x.op=16\/x.op=19
 ·rw[if_pos c8];exact p1 _
 rw[if_neg c8];by_cases c9:x.op=20\/x.op=21
 ·rw[if_pos c9];exact p1 _
 rw[if_neg c9];by_cases cA:8<=x.op/\x.op<=18
 ·rw[if_pos cA];exact p1 _
 rw[if_neg cA];by_cases cB:x.op=22
 ·rw[if_pos cB];exact p1 _
 rw[if_neg cB];by_cases cC:x.op=23
 ·rw[if_pos cC];exact mk _ _ _ _ _ _ _ hs.cells hs.cell (h2 _ _) (by omega) hgo
 rw[if_neg cC];by_cases cD:x.op=25
 ·rw[if_pos cD];exact pt _ (fun q=>rfl)
 rw[if_neg cD];by_cases cE:x.op=26
 ·rw[if_pos cE]
  split
  ·exact pt _ (fun q=>rfl)
  ·exact p0
 rw[if_neg cE];by_cases cF:x.op=27
 ·rw[if_pos cF]
  split
  ·exact pt _ (fun q=>rfl)
  ·exact pt _ (fun q=>by simp)
 rw[if_neg cF];by_cases cG:x.op=28
 ·rw[if_pos cG]
  refine mk _ _ _ _ _ _ _ hs.cells hs.cell (by omega) (by simp;omega) (fun q hq=> ?_);simp only[List.mem_append,List.mem_singleton]at hq;rcases hq with hq|rfl
  ·exact hgo q hq
  ·unfold MG.small
   simp only[List.length_append];split
   ·rename_i c hc
    have:=hz c hc;rw[List.length_map];omega
   ·simp only[List.length_nil]
    omega
 ·rw[if_neg cG]
  exact mk _ _ _ _ _ _ _ hs.cells hs.cell (by omega) (by simp;omega) (fun q hq=>hs.frame q ((List.dropLast_sublist _).subset hq))
theorem MS.smallSE{t:Int}{d:Bool}{c n:Int}{C:List (Value×List MC)}{K:List MC}{F:List (MG×Value)}(h:(Ao t d c n C K F).small):DC C K F:=by
 refine⟨by have:=h.cells;simpa[Ao]using this,fun x hx=>h.cell x.2 (List.mem_map_of_mem (f:=Prod.snd) hx),h.stack,by have:=h.frames;simpa[Ao]using this,fun x hx=>h.frame x.1 (List.mem_map_of_mem (f:=Prod.fst) hx)⟩
structure C9(R:Nat->Prop)(u u':World):Prop where
 os:u'.os=u.os
 tape:u'.tape=u.tape
 output:u'.output=u.output
 size:u.heap.size<=u'.heap.size
 block:∀k,k<u.heap.size->¬R k->u'.heap[k]?=u.heap[k]?
theorem C9.of{R:Nat->Prop}{u u':World}(h:Below u.heap.size u u'):C9 R u u':=⟨h.os,h.tape,h.output,h.size,fun k hk _=>h.block k hk⟩
theorem C9.refl(R:Nat->Prop)(u:World):C9 R u u:=⟨rfl,rfl,rfl,Nat.le_refl _,fun _ _ _=>rfl⟩
theorem C9.trans{R R':Nat->Prop}{a b c:World}(h:C9 R a b)(h':C9 R' b c)(hR:∀k,k<a.heap.size->R' k->R k):C9 R a c:=⟨h'.os.trans h.os,h'.tape.trans h.tape,h'.output.trans h.output,Nat.le_trans h.size h'.size,fun k hk hn=>(h'.block k (Nat.lt_of_lt_of_le hk h.size) (fun e=>hn (hR k hk e))).trans (h.block k hk hn)⟩
theorem C9.below{R:Nat->Prop}{a b:World}(h:C9 R a b){B:Nat}(hB:B<=a.heap.size)(hR:∀k,k<B->¬R k):Below B a b:=⟨h.os,h.tape,h.output,h.size,fun k hk=>h.block k (by omega) (hR k hk)⟩
theorem C9.blk{R:Nat->Prop}{a b:World}(h:C9 R a b){g:Nat}{cur:Array Value}{ty:TypeId}(hg:Ap a g cur ty)(hn:¬R g):Ap b g cur ty:=by
 unfold Ap at*;rw[h.block g (Array.getElem?_eq_some_iff.1 hg).1 hn];exact hg
theorem C9.setCell{R:Nat->Prop}{a b:World}(h:C9 R a b){ad:Addr}(ha:R ad.block\/a.heap.size<=ad.block)(x:Value):C9 R a (b.setCell ad x):=by
 refine⟨h.os,h.tape,h.output,by rw[World.size_setCell];exact h.size,fun k hk hn=> ?_⟩
 have hne:k≠ad.block:=fun e=>by
  rcases ha with ha|ha
  ·exact hn (e▸ha)
  ·omega
 rw[Below.heap_setCell _ _ _ _ hne];exact h.block k hk hn
theorem C9.grown{R:Nat->Prop}{a b c:World}(h:C9 R a b){r:Option Nat}(hg:b.grownBy c r)(hr:∀k,k<a.heap.size->some k=r->R k):C9 R a c:=⟨hg.os.trans h.os,hg.tape.trans h.tape,hg.output.trans h.output,Nat.le_trans h.size hg.size,fun k hk hn=>(hg.block k (Nat.lt_of_lt_of_le hk h.size) (fun e=>hn (hr k hk e))).trans (h.block k hk hn)⟩
def C8(X:VS)(C:List (Value×List MC))(F:List (MG×Value))(b:Nat):Prop:=X.c.ownBlock=some b\/X.k.ownBlock=some b\/X.f.ownBlock=some b\/(∃r∈C,r.1.ownBlock=some b)\/∃r∈AL F,r.1.ownBlock=some b
theorem Ah.ltOf{u:World}{B:Nat}{X:VS}{C:List (Value×List MC)}{K:List MC}{F:List (MG×Value)}(h:Ah u B X C K F){b:Nat}(hb:C8 X C F b):B<=b/\b<u.heap.size:=by
 rcases hb with hb|hb|hb|⟨r,hr,hb⟩|⟨r,hr,hb⟩
 ·exact h.cells.lt b hb
 ·exact(h.fam.own (X.k,K) (by simp)).lt b hb
 ·exact h.frames.lt b hb
 ·exact(h.fam.own r (by simp only[List.mem_append];exact .inl (.inl hr))).lt b hb
 ·exact(h.fam.own r (by simp only[List.mem_append];exact .inr hr)).lt b hb
theorem C9.own{R:Nat->Prop}{u u':World}(hc:C9 R u u'){B:Nat}{e:TypeId}{k n:Nat}{s:Value}{xs:List Value}(h:u.ownsRow B e k s n xs)(hn:∀b,s.ownBlock=some b->¬R b):u'.ownsRow B e k s n xs:=by
 refine⟨h.1,?_⟩;rcases h.2 with h2|⟨g,cap,cur,e1,hb1,hg,hr⟩
 ·exact .inl h2
 ·refine .inr ⟨g,cap,cur,e1,hb1,?_,hr⟩
  rw[hc.block g (Array.getElem?_eq_some_iff.1 hg).1 (hn g (by rw[e1];rfl))];exact hg
theorem Ah.chg{R:Nat->Prop}{u u':World}{B:Nat}{X:VS}{C:List (Value×List MC)}{K:List MC}{F:List (MG×Value)}(h:Ah u B X C K F)(hc:C9 R u u')(hn:∀b,C8 X C F b->¬R b):Ah u' B X C K F:=by
 refine⟨hc.own h.cells (fun b hb=>hn b (.inl hb)),hc.own h.frames (fun b hb=>hn b (.inr (.inr (.inl hb)))),⟨fun r hr=>hc.own (h.fam.own r hr) (fun b hb=>hn b ?_),h.fam.sep⟩⟩;simp only[List.mem_append,List.mem_singleton]at hr;rcases hr with(hr|rfl)|hr
 ·exact .inr (.inr (.inr (.inl ⟨r,hr,hb⟩)))
 ·exact .inr (.inl hb)
 ·exact .inr (.inr (.inr (.inr ⟨r,hr,hb⟩)))
theorem Ah.setFar{u:World}{B:Nat}{X:VS}{C:List (Value×List MC)}{K:List MC}{F:List (MG×Value)}(h:Ah u B X C K F){a:Addr}(hn:¬C8 X C F a.block)(x:Value):Ah (u.setCell a x) B X C K F:=h.chg (R:=fun j=>j=a.block) (C9.setCell (R:=fun j=>j=a.block) (C9.refl _ u) (.inl rfl) x) (fun b hb e=>hn (e▸hb))
def GS(k:Nat):Nat:=(#[150,151,152,153,154,155,156,157,158,158,158,158,158,158,158,158,159,158,158,159,160,160,161,162,163,164,165,166,167,168]:Array Nat).getD k 0
def P5(M k:Nat):Value:=.func (.func (GS k)) #[.pointer (some ⟨M,0,none⟩)] #[]
structure MCs(cur:Array Value)(M:Nat)(t:Int)(d:Bool)(c n:Int)(X:VS)(hv:Value):Prop where
 c0:cur[0]?=some (.int .i64 t)
 c1:cur[1]?=some (.bool d)
 c2:cur[2]?=some (.int .i64 c)
 c3:cur[3]?=some (.int .i64 n)
 c4:cur[4]?=some X.c
 c5:cur[5]?=some X.k
 c6:cur[6]?=some X.f
 c7:cur[7]?=some hv
 rows:∀k v,BF[k]?=some v->cur[8+k]?=some v
 acts:∀k,k<30->cur[128+k]?=some (P5 M k)
 size:cur.size=158
structure MB(u:World)(M:Nat)(t:Int)(d:Bool)(c n:Int)(X:VS)(hv:Value):Prop where
 blk:∃cur,Ap u M cur 94/\MCs cur M t d c n X hv
theorem MB.lt{u:World}{M:Nat}{t:Int}{d:Bool}{c n:Int}{X:VS}{hv:Value}(h:MB u M t d c n X hv):M<u.heap.size:=by
 obtain⟨cur,h1,_⟩:=h.blk;exact h1.lt
theorem MB.keep{u u':World}{M:Nat}{t:Int}{d:Bool}{c n:Int}{X:VS}{hv:Value}(h:MB u M t d c n X hv)(hb:Below u.heap.size u u'):MB u' M t d c n X hv:=by
 obtain⟨cur,h1,h2⟩:=h.blk;exact⟨cur,h1.keep hb,h2⟩
theorem MB.chg{R:Nat->Prop}{u u':World}{M:Nat}{t:Int}{d:Bool}{c n:Int}{X:VS}{hv:Value}(h:MB u M t d c n X hv)(hc:C9 R u u')(hn:¬R M):MB u' M t d c n X hv:=by
 obtain⟨cur,h1,h2⟩:=h.blk;exact⟨cur,hc.blk h1 hn,h2⟩
theorem MB.other{u:World}{M:Nat}{t:Int}{d:Bool}{c n:Int}{X:VS}{hv:Value}(h:MB u M t d c n X hv){a:Addr}(ha:M≠a.block)(x:Value):MB (u.setCell a x) M t d c n X hv:=by
 obtain⟨cur,h1,h2⟩:=h.blk;exact⟨cur,h1.other ha x,h2⟩
theorem MB.at{u:World}{M:Nat}{t:Int}{d:Bool}{c n:Int}{X:VS}{hv:Value}(h:MB u M t d c n X hv):u.cell? ⟨M,0,none⟩=some (.int .i64 t)/\u.cell? ⟨M,1,none⟩=some (.bool d)/\u.cell? ⟨M,2,none⟩=some (.int .i64 c)/\u.cell? ⟨M,3,none⟩=some (.int .i64 n)/\u.cell? ⟨M,4,none⟩=some X.c/\u.cell? ⟨M,5,none⟩=some X.k/\u.cell? ⟨M,6,none⟩=some X.f/\u.cell? ⟨M,7,none⟩=some hv:=by
 obtain⟨cur,h1,h2⟩:=h.blk;exact⟨(h1.cell 0).trans h2.c0,(h1.cell 1).trans h2.c1,(h1.cell 2).trans h2.c2,(h1.cell 3).trans h2.c3,(h1.cell 4).trans h2.c4,(h1.cell 5).trans h2.c5,(h1.cell 6).trans h2.c6,(h1.cell 7).trans h2.c7⟩
theorem MB.row{u:World}{M:Nat}{t:Int}{d:Bool}{c n:Int}{X:VS}{hv:Value}(h:MB u M t d c n X hv)(k:Nat)(v:Value)(hk:BF[k]?=some v):u.cell? ⟨M,8+k,none⟩=some v:=by
 obtain⟨cur,h1,h2⟩:=h.blk;exact(h1.cell _).trans (h2.rows k v hk)
theorem MB.act{u:World}{M:Nat}{t:Int}{d:Bool}{c n:Int}{X:VS}{hv:Value}(h:MB u M t d c n X hv)(k:Nat)(hk:k<30):u.cell? ⟨M,128+k,none⟩=some (P5 M k):=by
 obtain⟨cur,h1,h2⟩:=h.blk;exact(h1.cell _).trans (h2.acts k hk)
theorem MB.frozen{u:World}{M:Nat}{t:Int}{d:Bool}{c n:Int}{X:VS}{hv:Value}(h:MB u M t d c n X hv)(i:Nat):u.frozen? ⟨M,i,none⟩=false:=by
 obtain⟨cur,h1,h2⟩:=h.blk;exact h1.frozen i
theorem AE{cur:Array Value}{i j:Nat}{x v:Value}(hne:i≠j)(h:cur[j]?=some v):(cur.setIfInBounds i x)[j]?=some v:=by
 rw[Array.getElem?_setIfInBounds_ne hne];exact h
theorem ES{cur:Array Value}{i:Nat}{x:Value}(h:i<cur.size):(cur.setIfInBounds i x)[i]?=some x:=by
 simp[h]
theorem MB.setT{u:World}{M:Nat}{t:Int}{d:Bool}{c n:Int}{X:VS}{hv:Value}(h:MB u M t d c n X hv)(z:Int):MB (u.setCell ⟨M,0,none⟩ (.int .i64 z)) M z d c n X hv:=by
 obtain⟨cur,h1,h2⟩:=h.blk;have hs:=h2.size;exact⟨_,h1.set 0 _,ES (by omega),AE (by omega) h2.c1,AE (by omega) h2.c2,AE (by omega) h2.c3,AE (by omega) h2.c4,AE (by omega) h2.c5,AE (by omega) h2.c6,AE (by omega) h2.c7,fun k v hk=>AE (by omega) (h2.rows k v hk),fun k hk=>AE (by omega) (h2.acts k hk),by simp[hs]⟩
theorem MB.setD{u:World}{M:Nat}{t:Int}{d:Bool}{c n:Int}{X:VS}{hv:Value}(h:MB u M t d c n X hv)(z:Bool):MB (u.setCell ⟨M,1,none⟩ (.bool z)) M t z c n X hv:=by
 obtain⟨cur,h1,h2⟩:=h.blk;have hs:=h2.size;exact⟨_,h1.set 1 _,AE (by omega) h2.c0,ES (by omega),AE (by omega) h2.c2,AE (by omega) h2.c3,AE (by omega) h2.c4,AE (by omega) h2.c5,AE (by omega) h2.c6,AE (by omega) h2.c7,fun k v hk=>AE (by omega) (h2.rows k v hk),fun k hk=>AE (by omega) (h2.acts k hk),by simp[hs]⟩
theorem MB.setCo{u:World}{M:Nat}{t:Int}{d:Bool}{c n:Int}{X:VS}{hv:Value}(h:MB u M t d c n X hv)(z:Int):MB (u.setCell ⟨M,2,none⟩ (.int .i64 z)) M t d z n X hv:=by
 obtain⟨cur,h1,h2⟩:=h.blk;have hs:=h2.size;exact⟨_,h1.set 2 _,AE (by omega) h2.c0,AE (by omega) h2.c1,ES (by omega),AE (by omega) h2.c3,AE (by omega) h2.c4,AE (by omega) h2.c5,AE (by omega) h2.c6,AE (by omega) h2.c7,fun k v hk=>AE (by omega) (h2.rows k v hk),fun k hk=>AE (by omega) (h2.acts k hk),by simp[hs]⟩
theorem MB.setN{u:World}{M:Nat}{t:Int}{d:Bool}{c n:Int}{X:VS}{hv:Value}(h:MB u M t d c n X hv)(z:Int):MB (u.setCell ⟨M,3,none⟩ (.int .i64 z)) M t d c z X hv:=by
 obtain⟨cur,h1,h2⟩:=h.blk;have hs:=h2.size;exact⟨_,h1.set 3 _,AE (by omega) h2.c0,AE (by omega) h2.c1,AE (by omega) h2.c2,ES (by omega),AE (by omega) h2.c4,AE (by omega) h2.c5,AE (by omega) h2.c6,AE (by omega) h2.c7,fun k v hk=>AE (by omega) (h2.rows k v hk),fun k hk=>AE (by omega) (h2.acts k hk),by simp[hs]⟩
theorem MB.setK{u:World}{M:Nat}{t:Int}{d:Bool}{c n:Int}{X:VS}{hv:Value}(h:MB u M t d c n X hv)(z:Value):MB (u.setCell ⟨M,5,none⟩ (z)) M t d c n {X with k:=z} hv:=by
 obtain⟨cur,h1,h2⟩:=h.blk;have hs:=h2.size;exact⟨_,h1.set 5 _,AE (by omega) h2.c0,AE (by omega) h2.c1,AE (by omega) h2.c2,AE (by omega) h2.c3,AE (by omega) h2.c4,ES (by omega),AE (by omega) h2.c6,AE (by omega) h2.c7,fun k v hk=>AE (by omega) (h2.rows k v hk),fun k hk=>AE (by omega) (h2.acts k hk),by simp[hs]⟩
theorem MB.setF{u:World}{M:Nat}{t:Int}{d:Bool}{c n:Int}{X:VS}{hv:Value}(h:MB u M t d c n X hv)(z:Value):MB (u.setCell ⟨M,6,none⟩ (z)) M t d c n {X with f:=z} hv:=by
 obtain⟨cur,h1,h2⟩:=h.blk;have hs:=h2.size;exact⟨_,h1.set 6 _,AE (by omega) h2.c0,AE (by omega) h2.c1,AE (by omega) h2.c2,AE (by omega) h2.c3,AE (by omega) h2.c4,AE (by omega) h2.c5,ES (by omega),AE (by omega) h2.c7,fun k v hk=>AE (by omega) (h2.rows k v hk),fun k hk=>AE (by omega) (h2.acts k hk),by simp[hs]⟩
theorem Fc{u:World}{B M:Nat}{t:Int}{d:Bool}{c n:Int}{X X':VS}{C:List (Value×List MC)}{K:List MC}{F:List (MG×Value)}{hv x:Value}{i:Nat}(h:Ah u B X C K F)(hm:MB u M t d c n X' hv):Ah (u.setCell ⟨M,i,none⟩ x) B X C K F:=by
 obtain⟨cur,hb,_⟩:=hm.blk;exact h.other hb (by decide) (by decide) (by decide) i x
theorem C8.stack{x1 s s' x3:Value}{C:List (Value×List MC)}{F:List (MG×Value)}{b:Nat}(h:C8 ⟨x1,s,x3⟩ C F b)(e:s.ownBlock=s'.ownBlock):C8 ⟨x1,s',x3⟩ C F b:=by
 rcases h with h|h|h|h|h
 ·exact .inl h
 ·exact .inr (.inl (e▸h))
 ·exact .inr (.inr (.inl h))
 ·exact .inr (.inr (.inr (.inl h)))
 ·exact .inr (.inr (.inr (.inr h)))
theorem Ap.low{B b:Nat}{u u':World}{cur:Array Value}{t:TypeId}(h:Ap u b cur t)(hb:Below B u u')(hl:b<B):Ap u' b cur t:=by
  unfold Ap at*;rw[hb.block b hl];exact h
theorem Bk.small{p:MP}{s s':MS}(h:Bk p s s')(hin:FA p s)(hs:s.small):s'.small:=by
  cases h with
  |jump=>exact⟨hs.cells,hs.cell,hs.stack,hs.frames,hs.frame⟩
  |trap=>exact⟨hs.cells,hs.cell,hs.stack,hs.frames,hs.frame⟩
  |does=>exact Mt hin.prog ⟨hs.cells,hs.cell,hs.stack,hs.frames,hs.frame⟩ hin.high hin.deep
structure C7(p:MP)(m:MM)(k:Nat)(s:MS):Prop where
  steps:∃s0,Er p m s0/\Fh p k s0 s
  going:s.trap=0->s.done=false->Kj p k s
  small:s.small
theorem C7.next{p:MP}{m:MM}{k:Nat}{s s':MS}(h:C7 p m k s)(hpw:p.wf)(hk:k<=1048576)(ht:s.trap=0)(hd:s.done=false)(hs:Bk p s s'):C7 p m (k+1) s':=by
  obtain⟨s0,h1,h2⟩:=h.steps;have hg:=h.going ht hd;exact⟨⟨s0,h1,.next h2 ht hd hs⟩,fun e1 e2=>hg.next hpw hk ht hs e1 e2,hs.small hg.sh h.small⟩
theorem Er.sml{p:MP}{m:MM}{s:MS}(h:Er p m s)(hp:p.small):s.small:=by
  rcases h with⟨hv,r0,r1,r2,f,fs,e1,e2,rfl⟩|⟨hv,rfl⟩
  . have hl:∀(r ws:List Int),r∈p.regions->(Aw r ws).length<=1048576:=fun r ws hr=>by
      have:=hp.region r hr;simp only[Aw,List.length_zipWith];omega
    rw[e1]at hl;refine⟨by simp[BD],?_,by simp[BD],by simp[BD],?_⟩
    . intro r hr
      simp only[BD,List.mem_cons,List.not_mem_nil,or_false]at hr;rcases hr with rfl|rfl|rfl<;>exact hl _ _ (by simp)
    . intro g hg
      simp only[BD,List.mem_cons,List.not_mem_nil,or_false]at hg;subst hg;show(Aq f.locals).length<=1048576;rw[BW];exact(hp.func f (by rw[e2];simp)).2.1
  . exact⟨by simp[GV],by simp[GV],by simp[GV],by simp[GV],by simp[GV]⟩
theorem C7.of{p:MP}{m:MM}{s:MS}(h:Er p m s)(hp:p.small)(mw:m.wf):C7 p m 0 s:=by
  refine⟨⟨s,h,.zero⟩,fun e1 e2=> ?_,h.sml hp⟩;rcases h.going mw with⟨_,_,h1⟩|⟨h1,_⟩
  . exact h1
  . exact absurd e1 h1
def DN(p:MP)(m:MM)(n:Nat)(s':MS):Prop:=∃s,Er p m s/\Mo p n s s'
theorem DN.one{p:MP}{m:MM}{n:Nat}{a b:MS}(h:DN p m n a)(h':DN p m n b):a=b:=by
  obtain⟨s,h1,h2⟩:=h;obtain⟨s',g1,g2⟩:=h';obtain rfl:=h1.one g1;exact h2.one g2
theorem C7.ends{p:MP}{m:MM}{k n:Nat}{s:MS}(h:C7 p m k s)(hk:k<=n)(he:k=n\/s.trap≠0\/s.done=true):DN p m n s:=by
  obtain⟨s0,h1,h2⟩:=h.steps;refine⟨s0,h1,k,h2,?_⟩;by_cases e:k=n
  . exact .inl e
  . exact .inr ⟨by omega,he.resolve_left e⟩
def JW(w:World)(p:MP)(m:MM)(nn:Nat)(e:Ending)(w':World):Prop:=∃(t:Int) (d:Bool) (c n:Int) (X:VS) (C:List (Value×List MC)) (K:List MC) (F:List (MG×Value)),e=.returned (.agg #[.int .i64 t,.bool d,.int .i64 c,.int .i64 n,X.c,X.k,X.f])/\Ah w' w.heap.size X C K F/\DN p m nn (Ao t d c n C K F)/\(Ao t d c n C K F).small/\Below w.heap.size w w'
structure Fx(w u:World)(v:VP)(vm:VM)(B N:Nat)(t:Int)(d:Bool)(c n:Int)(X:VS)(C:List (Value×List MC))(K:List MC)(F:List (MG×Value)):Prop where
  at_:En w u v vm
  sb:Ap u N #[.int .i64 t,.bool d,.int .i64 c,.int .i64 n,X.c,X.k,X.f] 39
  own:Ah u B X C K F
  hB:B<=u.heap.size
  low:w.heap.size+1+1<B
  hN:B<=N
theorem En.low{B:Nat}{w u u':World}{v:VP}{vm:VM}(h:En w u v vm)(hb:Below B u u')(hl:w.heap.size+1+1<B):En w u' v vm:=⟨h.pb.low hb (by omega),h.mb.low hb (by omega),h.rb.low hb hl,h.bel.trans (hb.mono (by omega))⟩
theorem Fx.next{w u u2:World}{v:VP}{vm:VM}{B N:Nat}{t c n t' c' n':Int}{d d':Bool}{X X':VS}{C C':List (Value×List MC)}{K K':List MC}{F F':List (MG×Value)}(h:Fx w u v vm B N t d c n X C K F)(ho:Ah u2 B X' C' K' F')(hb:Co B u u2):Fx w (((((((u2.setCell ⟨N,0,none⟩ (.int .i64 t')).setCell ⟨N,1,none⟩ (.bool d')).setCell ⟨N,2,none⟩ (.int .i64 c')).setCell ⟨N,3,none⟩ (.int .i64 n')).setCell ⟨N,4,none⟩ X'.c).setCell ⟨N,5,none⟩ X'.k).setCell ⟨N,6,none⟩ X'.f) v vm B N t' d' c' n' X' C' K' F':=by
  have s2:=hb.st _ _ h.sb;have hx:w.heap.size+1+1<N:=Nat.lt_of_lt_of_le h.low h.hN;refine⟨((((((((h.at_.low hb.low h.low).set hx 0 _).set hx 1 _).set hx 2 _).set hx 3 _).set hx 4 _).set hx 5 _).set hx 6 _),s2.w7 _ _ _ _ _ _ _,ho.o7 s2 _ _ _ _ _ _ _,?_,h.low,h.hN⟩;simp only[World.size_setCell];exact Nat.le_trans h.hB hb.low.size
theorem KZ{p:MP}{m:MM}{k:Nat}{w u u2:World}{v:VP}{vm:VM}{B N:Nat}{c n t' c' n':Int}{d':Bool}{X:VS}{x1 x2 x3:Value}{C C':List (Value×List MC)}{K K':List MC}{F F':List (MG×Value)}(h:Fx w u v vm B N 0 false c n X C K F/\C7 p m k (Ao 0 false c n C K F))(hpw:p.wf)(hk:k<=1048576)(ho:Ah u2 B ⟨x1,x2,x3⟩ C' K' F')(hs:Bk p (Ao 0 false c n C K F) (Ao t' d' c' n' C' K' F'))(hb:Co B u u2):Hid (Fx w (((((((u2.setCell ⟨N,0,none⟩ (.int .i64 t')).setCell ⟨N,1,none⟩ (.bool d')).setCell ⟨N,2,none⟩ (.int .i64 c')).setCell ⟨N,3,none⟩ (.int .i64 n')).setCell ⟨N,4,none⟩ x1).setCell ⟨N,5,none⟩ x2).setCell ⟨N,6,none⟩ x3) v vm B N t' d' c' n' ⟨x1,x2,x3⟩ C' K' F'/\C7 p m (k+1) (Ao t' d' c' n' C' K' F')):=by
  have a1:=h.1.next (t':=t') (d':=d') (c':=c') (n':=n') ho hb;have a2:=h.2.next hpw hk rfl rfl hs;exact⟨a1,a2⟩
theorem Fx.keep{w u u':World}{v:VP}{vm:VM}{B N:Nat}{t c n:Int}{d:Bool}{X:VS}{C:List (Value×List MC)}{K:List MC}{F:List (MG×Value)}(h:Fx w u v vm B N t d c n X C K F)(hb:Below u.heap.size u u'):Fx w u' v vm B N t d c n X C K F:=⟨h.at_.keep hb,h.sb.keep hb,h.own.grow hb,Nat.le_trans h.hB hb.size,h.low,h.hN⟩
def PH(w:World)(B M:Nat)(t:Int)(d:Bool)(c n:Int)(X:VS)(C:List (Value×List MC))(K:List MC)(F:List (MG×Value))(hv:Value)(z:MC)(e:Ending)(w':World):Prop:=e=.returned (.agg #[.int .i64 z.type,.int .u32 z.word])/\∃k',MB w' M t d c n ⟨X.c,k',X.f⟩ hv/\Ah w' B ⟨X.c,k',X.f⟩ C K F/\C9 (fun j=>j=M) w w'/\k'.ownBlock=X.k.ownBlock
theorem CC(B M:Nat)(t:Int)(d:Bool)(c n:Int)(X:VS)(C:List (Value×List MC))(K:List MC)(F:List (MG×Value))(hv:Value)(z:MC)(w:World)(hB:B<=w.heap.size)(h:Ah w B X C (K++[z]) F)(hm:MB w M t d c n X hv)(hK:K.length<=1048576):
 Calls Tryz.prog 197 #[.pointer (some ⟨M,0,none⟩)] w (PH w B M t d c n X C K F hv z):=by
 obtain⟨x1,x2,x3⟩:=X;have hk:=h.fam.own (x2,K++[z]) (by simp);simp only[]at hk;rcases At hk with⟨_,e⟩|⟨gk,ck,e⟩
 ·simp at e
 subst e;have hcap:=CR hk;rw[List.length_append]at hcap hk;simp only[List.length_cons,List.length_nil,Nat.zero_add]at hcap hk;have HZ:Hid (∀u,Ah u B ⟨x1,.slice (some ⟨gk,0,none⟩) (K.length+1) ck,x3⟩ C (K++[z]) F->u.cell? ⟨gk,K.length*2,none⟩=some (.int .i64 z.type)/\u.cell? ⟨gk,K.length*2+1,none⟩=some (.int .u32 z.word)):=fun u hu=>hu.rowc (r:=(.slice (some ⟨gk,0,none⟩) (K.length+1) ck,K++[z])) (by simp) rfl (by simp)
 have hlen:(K++[z]).length=K.length+1:=by simp
 rw[hlen]at hm h⊢;have H:Hid (Ah w B ⟨x1,.slice (some ⟨gk,0,none⟩) (K.length+1) ck,x3⟩ C (K++[z]) F):=h;have HM:Hid (MB w M t d c n ⟨x1,.slice (some ⟨gk,0,none⟩) (K.length+1) ck,x3⟩ hv):=hm;have hlM:=hm.lt;clear h hm hk hlen;generalize hkl:K.length=kl at*;have HKL:Hid (K.length=kl):=hkl;clear hkl;have hkI:(kl:Int)<=(ck:Int):=by omega
 have E0:Hid (MB (w.alloc (.cells #[.int .i64 0,.int .u32 0] 128)) M t d c n ⟨x1,.slice (some ⟨gk,0,none⟩) (kl+1) ck,x3⟩ hv/\Ah (w.alloc (.cells #[.int .i64 0,.int .u32 0] 128)) B ⟨x1,.slice (some ⟨gk,0,none⟩) (kl+1) ck,x3⟩ C (K++[z]) F/\Ap (w.alloc (.cells #[.int .i64 0,.int .u32 0] 128)) w.heap.size #[.int .i64 0,.int .u32 0] 128/\Below w.heap.size w (w.alloc (.cells #[.int .i64 0,.int .u32 0] 128))):=⟨HM.out.keep (Aa _ _),H.out.grow (Aa _ _),Ap.new _ _ _,Aa _ _⟩
 go_enter Tryz.func197,Tryz.ntmps197;go_upto_region 1 with fail
 refine Af (fun u=>Hid (MB u M t d c n ⟨x1,.slice (some ⟨gk,0,none⟩) (kl+1) ck,x3⟩ hv/\Ah u B ⟨x1,.slice (some ⟨gk,0,none⟩) (kl+1) ck,x3⟩ C (K++[z]) F/\Ap u w.heap.size #[.int .i64 0,.int .u32 0] 128/\Below w.heap.size w u)) E0 ?_
 rintro U0 E1;clear E0;have m5:=E1.out.1.at.2.2.2.2.2.1;obtain⟨z0,z1⟩:=HZ.out U0 E1.out.2.1;simp only[]at m5;have E2:Hid ((MB (U0.alloc (.cells #[.int .i64 z.type,.int .u32 z.word] 128)) M t d c n ⟨x1,.slice (some ⟨gk,0,none⟩) (kl+1) ck,x3⟩ hv/\Ah (U0.alloc (.cells #[.int .i64 z.type,.int .u32 z.word] 128)) B ⟨x1,.slice (some ⟨gk,0,none⟩) (kl+1) ck,x3⟩ C (K++[z]) F/\Ap (U0.alloc (.cells #[.int .i64 z.type,.int .u32 z.word] 128)) w.heap.size #[.int .i64 0,.int .u32 0] 128/\Below w.heap.size w (U0.alloc (.cells #[.int .i64 z.type,.int .u32 z.word] 128)))/\Ap (U0.alloc (.cells #[.int .i64 z.type,.int .u32 z.word] 128)) U0.heap.size #[.int .i64 z.type,.int .u32 z.word] 128):=⟨⟨E1.out.1.keep (Aa _ _),E1.out.2.1.grow (Aa _ _),E1.out.2.2.1.keep (Aa _ _),Ab E1.out.2.2.2 lR (Aa _ _)⟩,Ap.new _ _ _⟩
 have hY:w.heap.size<U0.heap.size:=E1.out.2.2.1.lt;go_upto_region 3 with fail
 clear m5 z0 z1 E1;generalize U0.heap.size=Y at E2 hY⊢;refine Af (fun u=>Hid ((MB u M t d c n ⟨x1,.slice (some ⟨gk,0,none⟩) (kl+1) ck,x3⟩ hv/\Ah u B ⟨x1,.slice (some ⟨gk,0,none⟩) (kl+1) ck,x3⟩ C (K++[z]) F/\Ap u w.heap.size #[.int .i64 0,.int .u32 0] 128/\Below w.heap.size w u)/\Ap u Y #[.int .i64 z.type,.int .u32 z.word] 128)) E2 ?_
 rintro U1 E1;clear E2;clear U0;have m5:=E1.out.1.1.at.2.2.2.2.2.1;have mz:=E1.out.1.1.frozen 5;simp only[]at m5
 have E2:Hid (MB (U1.setCell ⟨M,5,none⟩ (.slice (some ⟨gk,0,none⟩) kl ck)) M t d c n ⟨x1,.slice (some ⟨gk,0,none⟩) kl ck,x3⟩ hv/\Ah (U1.setCell ⟨M,5,none⟩ (.slice (some ⟨gk,0,none⟩) kl ck)) B ⟨x1,.slice (some ⟨gk,0,none⟩) kl ck,x3⟩ C K F/\Ap (U1.setCell ⟨M,5,none⟩ (.slice (some ⟨gk,0,none⟩) kl ck)) w.heap.size #[.int .i64 0,.int .u32 0] 128/\Ap (U1.setCell ⟨M,5,none⟩ (.slice (some ⟨gk,0,none⟩) kl ck)) Y #[.int .i64 z.type,.int .u32 z.word] 128/\C9 (fun j=>j=M) w (U1.setCell ⟨M,5,none⟩ (.slice (some ⟨gk,0,none⟩) kl ck))):=by
  have h1:=E1.out.1.2.1.popK (Nat.le_trans hB E1.out.1.2.2.2.size) (m:=kl) rfl (by rw[List.length_append,HKL.out];exact Nat.le_add_right _ _);have h2:(K++[z]).take kl=K:=by rw[<-HKL.out];exact List.take_left
  rw[h2]at h1;obtain⟨cur,hb,_⟩:=E1.out.1.1.blk;exact⟨E1.out.1.1.setK _,h1.other hb (by decide) (by decide) (by decide) 5 _,E1.out.1.2.2.1.other (by simp only[];omega) _,E1.out.2.other (by simp only[];omega) _,C9.setCell (R:=fun j=>j=M) (C9.of E1.out.1.2.2.2) (.inl rfl) _⟩
 go_upto_region 4 with fail
 clear m5 mz E1;refine Af (fun u=>Hid (MB u M t d c n ⟨x1,.slice (some ⟨gk,0,none⟩) kl ck,x3⟩ hv/\Ah u B ⟨x1,.slice (some ⟨gk,0,none⟩) kl ck,x3⟩ C K F/\Ap u w.heap.size #[.int .i64 0,.int .u32 0] 128/\Ap u Y #[.int .i64 z.type,.int .u32 z.word] 128/\C9 (fun j=>j=M) w u)) E2 ?_
 rintro U2 E3;clear E2;clear U1;obtain⟨v0,v1⟩:=E3.out.2.2.2.1.c2;obtain⟨r0,r1⟩:=E3.out.2.2.1.c2;obtain⟨rz0,rz1⟩:=E3.out.2.2.1.z2;try dsimp only at v0 v1 r0 r1
 go_wp2_with fail
 have R0:=E3.out.2.2.1.set 0 (.int .i64 z.type);have R1:=R0.set 1 (.int .u32 z.word);obtain⟨q0,q1⟩:=R1.c2;try simp only[sA,List.set_cons_zero,List.set_cons_succ,gA,gZ,gS]at q0 q1
 refine bodyPost_ret (v:=.agg #[.int .i64 z.type,.int .u32 z.word]) (by simp[results,Tryz.results197,go_sem,q0,q1]) rfl ⟨rfl,.slice (some ⟨gk,0,none⟩) kl ck,(E3.out.1.other (by simp only[];omega) _).other (by simp only[];omega) _,?_,(E3.out.2.2.2.2.setCell (.inr (by simp only[];omega)) _).setCell (.inr (by simp only[];omega)) _,rfl⟩
 have hno:¬C8 ⟨x1,.slice (some ⟨gk,0,none⟩) kl ck,x3⟩ C F w.heap.size:=fun e=>by
  have:=(H.out.ltOf (e.stack (s':=.slice (some ⟨gk,0,none⟩) (kl+1) ck) rfl)).2;omega
 exact(E3.out.2.1.setFar hno _).setFar hno _
end Go.Proofs.YtlejplpkomddeaaGreat
