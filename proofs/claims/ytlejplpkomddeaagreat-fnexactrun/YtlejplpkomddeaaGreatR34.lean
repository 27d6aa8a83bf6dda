import Derived.Test.YtlejplpkomddeaaGreatR0
import Derived.Test.YtlejplpkomddeaaGreatR4
import Derived.Test.YtlejplpkomddeaaGreatR28
import Derived.Test.YtlejplpkomddeaaGreatR8
import Derived.Test.YtlejplpkomddeaaGreatR6
import Derived.Test.YtlejplpkomddeaaGreatR19
import Derived.Test.YtlejplpkomddeaaGreatR33
import Derived.Test.YtlejplpkomddeaaGreatR16
import Derived.Test.YtlejplpkomddeaaGreatR11
import Derived.Test.YtlejplpkomddeaaGreatR9
import Derived.Deep.RegionHeldLaw
import Derived.Deep.RegionLaw
import Derived.Deep.AppendLies
import Derived.Test.YtlejplpkomddeaaGreatR18
namespace Go.Proofs.YtlejplpkomddeaaGreat
open Go.ChangeShapes Go.WideShapes Go.ChangeAt Go.RowKit
set_option linter.unusedVariables false
set_option maxHeartbeats 8000000
set_option maxRecDepth 100000
theorem NY{z:MC}(h:z.wf):0<=z.word:=by
 have h1:=h.2;have h2:0<=z.word/\z.word<=4294967295:=by simpa[Ka,Lit.wf,IntKind.min,IntKind.max,IntKind.signed,IntKind.bits]using h1
 exact h2.1
structure Cd(w u:World)(v:VP)(c n:Int)(X:VS):Prop where
 pb:Ap u w.heap.size #[v.r,v.k,v.f,v.t] 45
 sb:Ap u (w.heap.size+1) #[.int .i64 0,.bool false,.int .i64 c,.int .i64 n,X.c,X.k,X.f] 39
 rb:Ap u (w.heap.size+1+1) #[.int .i64 0,.bool false,.int .i64 0,.int .i64 0,.slice none 0 0,.slice none 0 0,.slice none 0 0] 39
 bel:Below w.heap.size w u
theorem Cd.keep{w u u':World}{v:VP}{c n:Int}{X:VS}(h:Cd w u v c n X)(hb:Below u.heap.size u u'):Cd w u' v c n X:=⟨h.pb.keep hb,h.sb.keep hb,h.rb.keep hb,Ab h.bel lR hb⟩
theorem Cd.of(w:World)(v:VP)(c n:Int)(X:VS):Cd w (((w.alloc (.cells #[v.r,v.k,v.f,v.t] 45)).alloc (.cells #[.int .i64 0,.bool false,.int .i64 c,.int .i64 n,X.c,X.k,X.f] 39)).alloc (.cells #[.int .i64 0,.bool false,.int .i64 0,.int .i64 0,.slice none 0 0,.slice none 0 0,.slice none 0 0] 39)) v c n X:=by
 have b1:=Aa w (.cells #[v.r,v.k,v.f,v.t] 45);have k1:=Ap.new w #[v.r,v.k,v.f,v.t] 45;generalize hU1:w.alloc (.cells #[v.r,v.k,v.f,v.t] 45)=U1 at b1 k1⊢;have z1:U1.heap.size=w.heap.size+1:=by rw[<-hU1];simp
 have b2:=Aa U1 (.cells #[.int .i64 0,.bool false,.int .i64 c,.int .i64 n,X.c,X.k,X.f] 39);have k2:=Ap.new U1 #[.int .i64 0,.bool false,.int .i64 c,.int .i64 n,X.c,X.k,X.f] 39;rw[z1]at k2;generalize hU2:U1.alloc (.cells #[.int .i64 0,.bool false,.int .i64 c,.int .i64 n,X.c,X.k,X.f] 39)=U2 at b2 k2⊢;have z2:U2.heap.size=w.heap.size+1+1:=by rw[<-hU2];simp[z1]
 have b3:=Aa U2 (.cells #[.int .i64 0,.bool false,.int .i64 0,.int .i64 0,.slice none 0 0,.slice none 0 0,.slice none 0 0] 39);have k3:=Ap.new U2 #[.int .i64 0,.bool false,.int .i64 0,.int .i64 0,.slice none 0 0,.slice none 0 0,.slice none 0 0] 39;rw[z2]at k3;exact⟨(k1.keep b2).keep b3,k2.keep b3,k3,Ab (Ab b1 lR b2) lR b3⟩
theorem Cd.steps{w u:World}{v:VP}{c n:Int}{X:VS}(h:Cd w u v c n X)(m:Int):Cd w (u.setCell ⟨w.heap.size+1,3,none⟩ (.int .i64 m)) v c m X:=⟨h.pb.other (by simp only[];omega) _,h.sb.set 3 _,h.rb.other (by simp only[];omega) _,h.bel.setCell (by simp only[];omega) _⟩
theorem Cd.cost{w u:World}{v:VP}{c n:Int}{X:VS}(h:Cd w u v c n X)(m:Int):Cd w (u.setCell ⟨w.heap.size+1,2,none⟩ (.int .i64 m)) v m n X:=⟨h.pb.other (by simp only[];omega) _,h.sb.set 2 _,h.rb.other (by simp only[];omega) _,h.bel.setCell (by simp only[];omega) _⟩
def Ph(w:World)(B:Nat)(p:MP)(s:MS)(e:Ending)(w':World):Prop:=∃(t:Int) (d:Bool) (c n:Int) (X:VS) (C:List (Value×List MC)) (K:List MC) (F:List (MG×Value)),e=.returned (.agg #[.int .i64 t,.bool d,.int .i64 c,.int .i64 n,X.c,X.k,X.f])/\Ah w' B X C K F/\Bk p s (Ao t d c n C K F)/\Co B w w'
theorem Jc{b:Int}{fs:List MG}(h:Cj b fs):∀g∈fs,b<=g.base:=by
 induction fs generalizing b with
 |nil=>intro g hg;cases hg
 |cons x r ih=>
  intro g hg;rcases List.mem_cons.1 hg with rfl|hg
  ·exact h.1
  ·exact Int.le_trans h.1 (ih h.2 g hg)
theorem LB(k:Nat)(hk:k<30):0<=BC k/\BC k<=8:=by
 have h:∀k:Fin 30,0<=BC (k.val:Int)/\BC (k.val:Int)<=8:=by decide+kernel
 exact h ⟨k,hk⟩
theorem GG{op:Int}(h0:0<=op)(h1:op<=29):0<=BC op/\BC op<=8:=by
 obtain⟨k,hk⟩:=Int.eq_ofNat_of_zero_le h0;subst hk;exact LB k (by omega)
theorem KY(op:Int):∃(s:ByteArray) (f:Int),Bt op=#[.string s,.int .i64 (BC op),.int .i64 f]:=by
 obtain⟨s,c,f,h⟩:=GQ op;refine⟨s,f,?_⟩;rw[h];have:BC op=c:=by unfold BC;rw[h];rfl
 rw[this]
theorem Mm{F:List (MG×Value)}{top:Nat}{y:MG×Value}(hF:F.length=top+1)(hy:F[top]?=some y):(F.map Prod.fst).getLast?=some y.1:=by
 rw[List.getLast?_eq_getElem?,List.length_map,hF,Nat.add_sub_cancel,List.getElem?_map,hy];rfl
theorem NS{w:World}{s:Value}{fs:List MF}{q:Nat}{f:MF}(h:Gc w s fs)(hq:fs[q]?=some f):∃gk ok ck,s=.slice (some ⟨gk,ok,none⟩) fs.length ck/\∃g:VF,CP w g f/\w.cell? ⟨gk,ok+q*4,none⟩=some g.p/\w.cell? ⟨gk,ok+q*4+1,none⟩=some (.int .i64 f.result)/\w.cell? ⟨gk,ok+q*4+2,none⟩=some g.l/\w.cell? ⟨gk,ok+q*4+3,none⟩=some g.c:=by
 obtain⟨xs,h1,h2,h3⟩:=h;have hlt:=(gI.1 hq).1;rcases h2.2 with⟨e,_⟩|⟨gk,ok,ck,e,hc⟩
 ·omega
 ·obtain⟨x,hx,hx1⟩:∃x,xs[q]?=some x/\x.1=f:=by
   rw[<-h1,List.getElem?_map]at hq;cases hx:xs[q]? with
   |none=>rw[hx]at hq;cases hq
   |some x=>rw[hx]at hq;exact⟨x,rfl,Option.some.inj hq⟩
  subst hx1;exact⟨gk,ok,ck,e,x.2,h3 x (mG hx),Rd.elem Ai hc q x hx 0 _ rfl,Rd.elem Ai hc q x hx 1 _ rfl,Rd.elem Ai hc q x hx 2 _ rfl,Rd.elem Ai hc q x hx 3 _ rfl⟩
theorem Pk{w:World}{s:Value}{is:List MI}{q:Nat}{x:MI}(h:Rd w 4 s is.length (is.flatMap MI.cells))(hq:is[q]?=some x):∃gk ok ck,s=.slice (some ⟨gk,ok,none⟩) is.length ck/\w.cell? ⟨gk,ok+q*4,none⟩=some (.int .i64 x.op)/\w.cell? ⟨gk,ok+q*4+1,none⟩=some (.int .i64 x.a)/\w.cell? ⟨gk,ok+q*4+2,none⟩=some (.int .i64 x.b)/\w.cell? ⟨gk,ok+q*4+3,none⟩=some (.int .i64 x.c):=by
 have hlt:=(gI.1 hq).1;rcases h.2 with⟨e,_⟩|⟨gk,ok,ck,e,hc⟩
 ·omega
 ·exact⟨gk,ok,ck,e,Rd.elem MI.cells_length hc q x hq 0 _ rfl,Rd.elem MI.cells_length hc q x hq 1 _ rfl,Rd.elem MI.cells_length hc q x hq 2 _ rfl,Rd.elem MI.cells_length hc q x hq 3 _ rfl⟩
theorem Li(s:ByteArray)(co F:Int)(w:World):(Instr.field 85 (.agg #[.string s,.int .i64 co,.int .i64 F]) 1).run Tryz.prog w=.ok (.int .i64 co) w:=by kernel_rfl
theorem BZ{F:List (MG×Value)}{top:Nat}{y:MG×Value}(hF:F.length=top+1)(hy:F[top]?=some y)(h:MG->MG):CV (F.map Prod.fst) h=(F.set top (h y.1,y.2)).map Prod.fst:=by
 unfold CV;rw[List.length_map,hF,Nat.add_sub_cancel,List.map_set];apply List.ext_getElem?;intro j;rw[List.getElem?_modify,List.getElem?_set];by_cases hj:top=j
 ·subst hj
  obtain⟨_,rfl⟩:=gI.1 hy;simp[hF]
 ·cases (List.map Prod.fst F)[j]?<;>simp[hj]
theorem Gw{p:MP}{f:MF}{x:MI}(h:A4 p 0):(Ak p f x).length<=8:=by
 unfold Ak;repeat' split
 all_goals first|(rename_i g hg;exact(h.parts.2.2.1.2.2.1 _ (gI.1 hg).1 g hg).par)|simp
theorem Gt{s:Value}{cs:List MC}{m:Nat}(w:World)(hm:cs.length=m)(hn:m<=1048576)(h:Rd w 2 s m (cs.flatMap MC.cells)):Calls Tryz.prog 71 #[s] w fun e w'=>∃a c,e=.returned (.slice a m c)/\w'.ownsRow w.heap.size 128 2 (.slice a m c) m (cs.flatMap MC.cells)/\Below w.heap.size w w':=by
 subst hm;exact Cs s cs w hn h
theorem OZ{w:World}{a:Option Addr}{c:Nat}{cs:List MC}(h:cs.length=0):Rd w 2 (.slice a 0 c) 0 (cs.flatMap MC.cells):=by
 obtain rfl:=List.eq_nil_of_length_eq_zero h;exact⟨rfl,.inl ⟨rfl,_,_,rfl⟩⟩
theorem Cp{w:World}{a:Option Addr}{c m:Nat}{cs:List MC}(hm:m=0)(h:cs.length=m):Rd w 2 (.slice a m c) m (cs.flatMap MC.cells):=by
 subst hm;exact OZ h
theorem Jy{w:World}{g n c c' kl m:Nat}{K:List MC}(h:Rd w 2 (.slice (some ⟨g,0,none⟩) n c) n (K.flatMap MC.cells))(hn:K.length=n)(hm:n=kl+m):Rd w 2 (.slice (some ⟨g,kl*2,none⟩) m c') m ((K.drop kl).flatMap MC.cells):=by
 refine⟨by rw[Az MC.cells 2 MC.cells_length,List.length_drop];congr 1;omega,?_⟩;rcases h.2 with⟨e,_⟩|⟨g',o',c'',e,hc⟩
 ·exact .inl ⟨by omega,_,_,by rw[show m=0 by omega]⟩
 ·simp only[sJ,Option.some.injEq,Addr.mk.injEq,true_and,and_true]at e
  obtain⟨⟨rfl,rfl⟩,_⟩:=e;refine .inr ⟨g,kl*2,c',rfl,fun j u hj=> ?_⟩
  have:(K.flatMap MC.cells)[kl*2+j]?=some u:=by
   rw[<-hj]
   have e2:(K.drop kl).flatMap MC.cells=(K.flatMap MC.cells).drop (kl*2):=by
    have h1:K.flatMap MC.cells=(K.take kl).flatMap MC.cells++(K.drop kl).flatMap MC.cells:=by rw[<-List.flatMap_append,List.take_append_drop]
    rw[h1];have h2:((K.take kl).flatMap MC.cells).length=kl*2:=by rw[Az MC.cells 2 MC.cells_length,List.length_take,Nat.min_eq_left (by omega)]
    rw[<-h2,List.drop_left]
   rw[e2,List.getElem?_drop]
  have h3:=hc _ _ this;rw[Nat.zero_add]at h3;exact h3
theorem Jm{F:List (MG×Value)}{top:Nat}{fg:MG}{vl:Value}(h:F[top]?=some (fg,vl))(z:Int):AL (F.set top ({fg with at_:=z},vl))=AL F:=by
 rw[EQ];have e:=Bb h;exact Kn _ _ _ e
theorem NL(v:VP)(p:MP)(t c n:Int)(x:VS)(C:List (Value×List MC))(K:List MC)(F:List (MG×Value))(B q:Nat)(fq:MF)(aa:Option Addr)(ca:Nat)(ar:List MC)(m:Nat)(hm:ar.length=m)(y:MG×Value)(w:World)(hB:B<=w.heap.size)(h:Ah w B x C K F)(hP:∀u,Below B w u->Gc u v.f p.funcs)(hps:p.funcs.length<=1048576)(hq:p.funcs[q]?=some fq)(hqs:fq.small)(ha:ar.length<=K.length)(hK:K.length<=1048576)(hF:F.length<=1048576)(hy:F[F.length-1]?=some y)(hat:0<=y.1.at_/\y.1.at_<=1048576)(har:w.ownsRow B 128 2 (.slice aa m ca) m (ar.flatMap MC.cells)):
  Calls Tryz.prog 78 #[.agg #[v.r,v.k,v.f,v.t],.agg #[.int .i64 t,.bool false,.int .i64 c,.int .i64 n,x.c,x.k,x.f],.int .i64 q,.slice aa m ca] w (Mr w B t c n x C F q y (K.take (K.length-ar.length)) ((K.length-ar.length:Nat):Int) (ar++Aq fq.locals)):=by
 subst hm;exact LL v p t c n x C K F B q fq aa ca ar y w hB h hP hps hq hqs ha hK hF hy hat har
theorem Eg{p:MP}{C:List (Value×List MC)}{K:List MC}{F:List (MG×Value)}{c n co k:Int}{fg:MG}{f:MF}{x:MI}{ia:Nat}(h1:(Ao 0 false c n C K F).frames.getLast?=some fg)(h2:p.funcs[fg.func.toNat]?=some f)(hat:fg.at_=(ia:Int))(hx:f.code[ia]?=some x)(hco:BC x.op=co)(ht:Ds p f fg (Ao 0 false c n C K F) x=k)(hk:k≠0):Bk p (Ao 0 false c n C K F) (Ao k false (c+co) (n+1) C K F):=by
 subst hco;exact Bk.trap h1 h2 (by omega) (by rw[hat,Int.toNat_natCast];exact hx) ht hk
theorem Gu{p:MP}{C:List (Value×List MC)}{K:List MC}{F:List (MG×Value)}{c n co:Int}{fg:MG}{f:MF}{x:MI}{ia:Nat}{s:MS}(h1:(Ao 0 false c n C K F).frames.getLast?=some fg)(h2:p.funcs[fg.func.toNat]?=some f)(hat:fg.at_=(ia:Int))(hx:f.code[ia]?=some x)(hco:BC x.op=co)(ht:Ds p f fg (Ao 0 false c n C K F) x=0)(hs:s=CF p f fg (Ao 0 false (c+co) (n+1) C K F) x):Bk p (Ao 0 false c n C K F) s:=by
 subst hco hs;exact Bk.does h1 h2 (by omega) (by rw[hat,Int.toNat_natCast];exact hx) ht
theorem I7{p:MP}{C:List (Value×List MC)}{K:List MC}{F:List (MG×Value)}{c n:Int}{fg:MG}{f:MF}{x:MI}{b:Nat}(h29:x.op=29)(hb:fg.base=(b:Int)):Ds p f fg (Ao 0 false c n C K F) x=if(K.drop b).map MC.type=AR f then 0 else 6:=by
 unfold Ds;simp only[h29,hb,Int.toNat_natCast,if_true,Ao]
theorem Nt{K:List MC}{b m:Nat}(hb:b<=K.length)(hm:m<=K.length-b):(K.drop b).drop ((K.drop b).length-m)=K.drop (K.length-m):=by
 rw[List.drop_drop,List.length_drop];congr 1
 omega
theorem Hz{p:MP}{C:List (Value×List MC)}{K:List MC}{F:List (MG×Value)}{c n:Int}{fg:MG}{f:MF}{x:MI}{b:Nat}{ts:List Int}(h29:x.op≠29)(hb:fg.base=(b:Int))(hbK:b<=K.length)(hts:Ak p f x=ts):Ds p f fg (Ao 0 false c n C K F) x=if K.length-b<ts.length then 1 else if Bc (K.drop (K.length-ts.length)) ts=false\/(x.op=27/\Av f x.a≠3)then 2 else if x.op=28 then(if F.length<32 then 0 else 5)else if 64<K.length-ts.length+Dd x then 3 else 0:=by
 subst hts;unfold Ds;simp only[hb,Int.toNat_natCast,Ao,if_neg h29,List.length_map];rw[List.length_drop];by_cases hfew:K.length-b<(Ak p f x).length
 ·rw[if_pos hfew,if_pos hfew]
 ·rw[if_neg hfew,if_neg hfew]
  have:=Nt (m:=(Ak p f x).length) hbK (by omega);rw[List.length_drop]at this;rw[this];rfl
theorem Gf{ar:List MC}{ts:List Int}{q:Nat}{v:MC}{t:Int}(hv:ar[q]?=some v)(ht:ts[q]?=some t):Bc (ar.drop q) (ts.drop q)=((t==0||v.type==t)&&Bc (ar.drop (q+1)) (ts.drop (q+1))):=by
 obtain⟨h1,rfl⟩:=gI.1 hv;obtain⟨h2,rfl⟩:=gI.1 ht;rw[List.drop_eq_getElem_cons h1,List.drop_eq_getElem_cons h2];rfl
theorem Mz{ar:List MC}{ts:List Int}{q:Nat}(h1:ar.length<=q)(h2:ts.length<=q):Bc (ar.drop q) (ts.drop q)=true:=by
 rw[List.drop_eq_nil_of_le h1,List.drop_eq_nil_of_le h2];rfl
theorem Mp{p:MP}{f:MF}{g:MG}{C:List (Value×List MC)}{K:List MC}{F:List (MG×Value)}{c n:Int}{x:MI}(h29:x.op=29):Ao 0 (decide (F.length=1)) c n C K (F.take (F.length-1))=CF p f g (Ao 0 false c n C K F) x:=by
 simp[CF,h29,Ao];rw[List.dropLast_eq_take,List.length_map]
theorem K3{p:MP}{f fq:MF}{g:MG}{C:List (Value×List MC)}{K ar:List MC}{F:List (MG×Value)}{vl vv:Value}{c n:Int}{x:MI}{q top:Nat}(h28:x.op=28)(hq:x.a=(q:Int))(hf:p.funcs[q]?=some fq)(hn:ar.length=(Ak p f x).length)(har:K.drop (K.length-ar.length)=ar)(hF:F.length=top+1)(hy:F[top]?=some (g,vl)):Ao 0 false c n C (K.take (K.length-ar.length)) (F.set top ({g with at_:=g.at_+1},vl)++[(⟨q,0,((K.length-ar.length:Nat):Int),ar++Aq fq.locals⟩,vv)])=CF p f g (Ao 0 false c n C K F) x:=by
 have e1:(Ao 0 false c n C K F).stack.drop ((Ao 0 false c n C K F).stack.length-(Ak p f x).length)=ar:=by rw[<-hn];exact har
 have e2:(Ao 0 false c n C K F).stack.take ((Ao 0 false c n C K F).stack.length-(Ak p f x).length)=K.take (K.length-ar.length):=by rw[<-hn];rfl
 have e3:CV (Ao 0 false c n C K F).frames (fun h=>{h with at_:=g.at_+1})=(F.set top ({g with at_:=g.at_+1},vl)).map Prod.fst:=BZ hF hy _;simp only[CF,e1,e2,e3,h28];simp[Ao,hq,hf,Aq]
structure A7(w u:World)(B:Nat)(v:VP)(t c n:Int)(x:VS)(i:MI)(C:List (Value×List MC))(K:List MC)(F:List (MG×Value)):Prop where
 pb:Ap u w.heap.size #[v.r,v.k,v.f,v.t] 45
 sb:Ap u (w.heap.size+1) #[.int .i64 t,.bool false,.int .i64 c,.int .i64 n,x.c,x.k,x.f] 39
 ib:Ap u (w.heap.size+1+1) #[.int .i64 i.op,.int .i64 i.a,.int .i64 i.b,.int .i64 i.c] 134
 rb:Ap u (w.heap.size+1+1+1) #[.int .i64 0,.bool false,.int .i64 0,.int .i64 0,.slice none 0 0,.slice none 0 0,.slice none 0 0] 39
 own:Ah u B x C K F
 bel:Co B w u
 le:w.heap.size<=u.heap.size
 hB:B<=w.heap.size
theorem A7.keep{w u u':World}{B:Nat}{v:VP}{t c n:Int}{x:VS}{i:MI}{C:List (Value×List MC)}{K:List MC}{F:List (MG×Value)}(h:A7 w u B v t c n x i C K F)(hb:Below u.heap.size u u'):A7 w u' B v t c n x i C K F:=⟨h.pb.keep hb,h.sb.keep hb,h.ib.keep hb,h.rb.keep hb,h.own.grow hb,h.bel.on hb,Nat.le_trans h.le hb.size,h.hB⟩
theorem A7.of{w:World}{B:Nat}(v:VP)(t c n:Int){x:VS}(i:MI){C:List (Value×List MC)}{K:List MC}{F:List (MG×Value)}(h:Ah w B x C K F)(hB:B<=w.heap.size):A7 w ((((w.alloc (.cells #[v.r,v.k,v.f,v.t] 45)).alloc (.cells #[.int .i64 t,.bool false,.int .i64 c,.int .i64 n,x.c,x.k,x.f] 39)).alloc (.cells #[.int .i64 i.op,.int .i64 i.a,.int .i64 i.b,.int .i64 i.c] 134)).alloc (.cells #[.int .i64 0,.bool false,.int .i64 0,.int .i64 0,.slice none 0 0,.slice none 0 0,.slice none 0 0] 39)) B v t c n x i C K F/\Below w.heap.size w ((((w.alloc (.cells #[v.r,v.k,v.f,v.t] 45)).alloc (.cells #[.int .i64 t,.bool false,.int .i64 c,.int .i64 n,x.c,x.k,x.f] 39)).alloc (.cells #[.int .i64 i.op,.int .i64 i.a,.int .i64 i.b,.int .i64 i.c] 134)).alloc (.cells #[.int .i64 0,.bool false,.int .i64 0,.int .i64 0,.slice none 0 0,.slice none 0 0,.slice none 0 0] 39)):=by
 have b1:=Aa w (.cells #[v.r,v.k,v.f,v.t] 45);have k1:=Ap.new w #[v.r,v.k,v.f,v.t] 45;generalize hU1:w.alloc (.cells #[v.r,v.k,v.f,v.t] 45)=U1 at b1 k1⊢;have z1:U1.heap.size=w.heap.size+1:=by rw[<-hU1];simp
 have b2:=Aa U1 (.cells #[.int .i64 t,.bool false,.int .i64 c,.int .i64 n,x.c,x.k,x.f] 39);have k2:=Ap.new U1 #[.int .i64 t,.bool false,.int .i64 c,.int .i64 n,x.c,x.k,x.f] 39;rw[z1]at k2;generalize hU2:U1.alloc (.cells #[.int .i64 t,.bool false,.int .i64 c,.int .i64 n,x.c,x.k,x.f] 39)=U2 at b2 k2⊢;have z2:U2.heap.size=w.heap.size+1+1:=by rw[<-hU2];simp[z1]
 have b3:=Aa U2 (.cells #[.int .i64 i.op,.int .i64 i.a,.int .i64 i.b,.int .i64 i.c] 134);have k3:=Ap.new U2 #[.int .i64 i.op,.int .i64 i.a,.int .i64 i.b,.int .i64 i.c] 134;rw[z2]at k3;generalize hU3:U2.alloc (.cells #[.int .i64 i.op,.int .i64 i.a,.int .i64 i.b,.int .i64 i.c] 134)=U3 at b3 k3⊢;have z3:U3.heap.size=w.heap.size+1+1+1:=by rw[<-hU3];simp[z2]
 have b4:=Aa U3 (.cells #[.int .i64 0,.bool false,.int .i64 0,.int .i64 0,.slice none 0 0,.slice none 0 0,.slice none 0 0] 39);have k4:=Ap.new U3 #[.int .i64 0,.bool false,.int .i64 0,.int .i64 0,.slice none 0 0,.slice none 0 0,.slice none 0 0] 39;rw[z3]at k4;have bb:=Ab (Ab (Ab b1 lR b2) lR b3) lR b4;exact⟨⟨((k1.keep b2).keep b3).keep b4,(k2.keep b3).keep b4,k3.keep b4,k4,h.grow bb,.of bb hB,bb.size,hB⟩,bb⟩
theorem A7.push{w u u6 u8:World}{B:Nat}{v:VP}{t c n:Int}{x:VS}{i:MI}{C:List (Value×List MC)}{K:List MC}{F:List (MG×Value)}(h:A7 w u B v t c n x i C K F)(hb:Below u.heap.size u u6){K':List MC}{g m cap:Nat}(hg:u6.grownBy u8 x.k.ownBlock)(hown:u8.ownsRow B 128 2 (.slice (some ⟨g,0,none⟩) m cap) m (K'.flatMap MC.cells))(hm:m=K'.length)(hat:x.k.ownBlock=some g\/g=u6.heap.size):A7 w (u8.setCell ⟨w.heap.size+1,5,none⟩ (.slice (some ⟨g,0,none⟩) m cap)) B v t c n {x with k:=.slice (some ⟨g,0,none⟩) m cap} i C K' F:=by
 have h7:=h.keep hb;have hB6:B<=u6.heap.size:=Nat.le_trans h.hB h7.le;subst hm
 have h8:=h7.own.stack hB6 hg hown (by
  rcases hat with hat|hat
  ·exact .inl (by rw[hat];rfl)
  ·exact .inr (fun g' hg'=>by simp only[Value.ownBlock,Option.some.injEq]at hg';omega))
 have hk:=h7.own.fam.own (x.k,K) (by simp);have p8:=h7.pb.grown hg hk (by decide);have s8:=h7.sb.grown hg hk (by decide);have i8:=h7.ib.grown hg hk (by decide);have r8:=h7.rb.grown hg hk (by decide);have hB:=h.hB;refine⟨p8.other (by simp only[];omega) _,s8.set 5 _,i8.other (by simp only[];omega) _,r8.other (by simp only[];omega) _,h8.other s8 (by decide) (by decide) (by decide) 5 _,?_,?_,h.hB⟩
 ·exact(h7.bel.grown hg hk (by decide)).setCell (by simp only[];omega) _
 ·rw[World.size_setCell]
  exact Nat.le_trans h7.le hg.size
theorem A7.rows{w u u':World}{B:Nat}{v:VP}{t c n:Int}{x:VS}{i:MI}{C:List (Value×List MC)}{K:List MC}{F:List (MG×Value)}{g:Nat}{cur:Array Value}{ty:TypeId}{C':List (Value×List MC)}{K':List MC}{F':List (MG×Value)}(h:A7 w u B v t c n x i C K F)(hg:u.grownBy u' (some g))(hk:Ap u g cur ty)(h1:45≠ty)(h2:39≠ty)(h3:134≠ty)(hBg:B<=g)(ho:Ah u' B x C' K' F'):A7 w u' B v t c n x i C' K' F':=by
 have ne:∀{b:Nat} {cu:Array Value} {ty':TypeId},Ap u b cu ty'->ty'≠ty->Ap u' b cu ty':=fun hb hne=>by
  unfold Ap at*;rw[hg.block _ (Array.getElem?_eq_some_iff.1 hb).1 ?_]
  ·exact hb
  ·intro e
   simp only[Option.some.injEq]at e;subst e;rw[hb]at hk;simp only[Option.some.injEq,Obj.cells.injEq]at hk;exact hne hk.2.1
 exact⟨ne h.pb h1,ne h.sb h2,ne h.ib h3,ne h.rb h2,ho,h.bel.rows hg hk h2 hBg,Nat.le_trans h.le hg.size,h.hB⟩
def Dl(w:World)(B:Nat)(t c n:Int)(C:List (Value×List MC))(K:List MC)(F:List (MG×Value))(e:Ending)(w':World):Prop:=∃x:VS,e=.returned (.agg #[.int .i64 t,.bool false,.int .i64 c,.int .i64 n,x.c,x.k,x.f])/\Ah w' B x C K F/\Co B w w'
theorem PF(v:VP)(t c n:Int)(x:VS)(ia ib ic:Int)(C:List (Value×List MC))(K:List MC)(F:List (MG×Value))(B top:Nat)(y:MG×Value)(aa:Option Addr)(ca:Nat)(ar:List MC)(w:World)(hB:B<=w.heap.size)(h:Ah w B x C K F)(hF:F.length=top+1)(hF1:top<=1048576)(hy:F[top]?=some y):
 Calls Tryz.prog 79 #[.agg #[v.r,v.k,v.f,v.t],.agg #[.int .i64 t,.bool false,.int .i64 c,.int .i64 n,x.c,x.k,x.f],.agg #[.int .i64 0,.int .i64 ia,.int .i64 ib,.int .i64 ic],.slice aa ar.length ca] w (Dl w B t c n C K F):=by
 have H:Hid (Ah w B x C K F/\F.length=top+1/\F[top]?=some y):=⟨h,hF,hy⟩
 obtain⟨a1,c1,e1⟩:=Al h.cells;obtain⟨a2,c2,e2⟩:=Al (h.fam.own (x.k,K) (by simp));rcases At h.frames with⟨_,e⟩|⟨gf,c3,e3⟩
 ·omega
 have E0:=A7.of v t c n ⟨0,ia,ib,ic⟩ h hB;obtain⟨vc,vk',vf'⟩:=x;simp only[]at e1 e2 e3;rw[hF]at e3;subst e1 e2 e3;have E1:Hid _:=E0.1;have E1':Hid _:=E0.2;clear E0 h hy;generalize ar.length=na at*;go_enter Tryz.func79,Tryz.ntmps79;go_upto_region 1 with fail
 refine Af (fun u=>Hid (A7 w u B v t c n _ _ C K F/\Below w.heap.size w u)) ⟨E1.out,E1'.out⟩ ?_
 rintro U EE;clear E1 E1';have E1:Hid _:=EE.out.1;have E1':Hid _:=EE.out.2;clear EE;have sb6:=E1.out.sb.cell 6;have ib0:=E1.out.ib.cell 0;simp only[gA,gZ,gS]at sb6 ib0;obtain⟨m0,m1,m2,m3,m4,m5,m6⟩:=E1.out.sb.c7;try dsimp only at m0 m1 m2 m3 m4 m5 m6
 obtain⟨r0,r1,r2,r3,r4,r5,r6⟩:=E1.out.rb.c7;obtain⟨rz0,rz1,rz2,rz3,rz4,rz5,rz6⟩:=E1.out.rb.z7;try dsimp only at r0 r1 r2 r3 r4 r5 r6
 go_wp2_with fail
 have hBw:=E1.out.hB;exact bodyPost_ret (results_cell_row Tryz.results79 _ _ _ 39 _ (0,0) _ rfl (E1.out.rb.w7 _ _ _ _ _ _ _) Tryz.underlying39 rfl (by kernel_rfl)) rfl ⟨⟨.slice a1 C.length c1,.slice a2 K.length c2,.slice (some ⟨gf,0,none⟩) (top+1) c3⟩,rfl,E1.out.own.o7 E1.out.rb _ _ _ _ _ _ _,E1.out.bel.s7 (by omega) _ _ _ _ _ _ _⟩
theorem OG(v:VP)(t c n:Int)(x:VS)(ia ib ic:Int)(C:List (Value×List MC))(K:List MC)(F:List (MG×Value))(B top:Nat)(y:MG×Value)(aa:Option Addr)(ca:Nat)(ar:List MC)(w:World)(hB:B<=w.heap.size)(h:Ah w B x C K F)(hF:F.length=top+1)(hF1:top<=1048576)(hy:F[top]?=some y):
 Calls Tryz.prog 79 #[.agg #[v.r,v.k,v.f,v.t],.agg #[.int .i64 t,.bool false,.int .i64 c,.int .i64 n,x.c,x.k,x.f],.agg #[.int .i64 24,.int .i64 ia,.int .i64 ib,.int .i64 ic],.slice aa ar.length ca] w (Dl w B t c n C K F):=by
 have H:Hid (Ah w B x C K F/\F.length=top+1/\F[top]?=some y):=⟨h,hF,hy⟩
 obtain⟨a1,c1,e1⟩:=Al h.cells;obtain⟨a2,c2,e2⟩:=Al (h.fam.own (x.k,K) (by simp));rcases At h.frames with⟨_,e⟩|⟨gf,c3,e3⟩
 ·omega
 have E0:=A7.of v t c n ⟨24,ia,ib,ic⟩ h hB;obtain⟨vc,vk',vf'⟩:=x;simp only[]at e1 e2 e3;rw[hF]at e3;subst e1 e2 e3;have E1:Hid _:=E0.1;have E1':Hid _:=E0.2;clear E0 h hy;generalize ar.length=na at*;go_enter Tryz.func79,Tryz.ntmps79;go_upto_region 1 with fail
 refine Af (fun u=>Hid (A7 w u B v t c n _ _ C K F/\Below w.heap.size w u)) ⟨E1.out,E1'.out⟩ ?_
 rintro U EE;clear E1 E1';have E1:Hid _:=EE.out.1;have E1':Hid _:=EE.out.2;clear EE;have sb6:=E1.out.sb.cell 6;have ib0:=E1.out.ib.cell 0;simp only[gA,gZ,gS]at sb6 ib0;obtain⟨m0,m1,m2,m3,m4,m5,m6⟩:=E1.out.sb.c7;try dsimp only at m0 m1 m2 m3 m4 m5 m6
 obtain⟨r0,r1,r2,r3,r4,r5,r6⟩:=E1.out.rb.c7;obtain⟨rz0,rz1,rz2,rz3,rz4,rz5,rz6⟩:=E1.out.rb.z7;try dsimp only at r0 r1 r2 r3 r4 r5 r6
 go_wp2_with fail
 have hBw:=E1.out.hB;exact bodyPost_ret (results_cell_row Tryz.results79 _ _ _ 39 _ (0,0) _ rfl (E1.out.rb.w7 _ _ _ _ _ _ _) Tryz.underlying39 rfl (by kernel_rfl)) rfl ⟨⟨.slice a1 C.length c1,.slice a2 K.length c2,.slice (some ⟨gf,0,none⟩) (top+1) c3⟩,rfl,E1.out.own.o7 E1.out.rb _ _ _ _ _ _ _,E1.out.bel.s7 (by omega) _ _ _ _ _ _ _⟩
theorem Ou(v:VP)(t c n:Int)(x:VS)(ia ib ic:Int)(C:List (Value×List MC))(K:List MC)(F:List (MG×Value))(B top:Nat)(y:MG×Value)(aa:Option Addr)(ca:Nat)(ar:List MC)(w:World)(hB:B<=w.heap.size)(h:Ah w B x C K F)(hF:F.length=top+1)(hF1:top<=1048576)(hy:F[top]?=some y):
 Calls Tryz.prog 79 #[.agg #[v.r,v.k,v.f,v.t],.agg #[.int .i64 t,.bool false,.int .i64 c,.int .i64 n,x.c,x.k,x.f],.agg #[.int .i64 25,.int .i64 ia,.int .i64 ib,.int .i64 ic],.slice aa ar.length ca] w (Dl w B t c n C K (F.set top ({y.1 with at_:=ic},y.2))):=by
 have H:Hid (Ah w B x C K F/\F.length=top+1/\F[top]?=some y):=⟨h,hF,hy⟩
 obtain⟨a1,c1,e1⟩:=Al h.cells;obtain⟨a2,c2,e2⟩:=Al (h.fam.own (x.k,K) (by simp));rcases At h.frames with⟨_,e⟩|⟨gf,c3,e3⟩
 ·omega
 have E0:=A7.of v t c n ⟨25,ia,ib,ic⟩ h hB;obtain⟨vc,vk',vf'⟩:=x;simp only[]at e1 e2 e3;rw[hF]at e3;subst e1 e2 e3;have E1:Hid _:=E0.1;have E1':Hid _:=E0.2;clear E0 h hy;generalize ar.length=na at*;go_enter Tryz.func79,Tryz.ntmps79;go_upto_region 1 with fail
 refine Af (fun u=>Hid (A7 w u B v t c n ⟨.slice a1 C.length c1,.slice a2 K.length c2,.slice (some ⟨gf,0,none⟩) (top+1) c3⟩ ⟨25,ia,ib,ic⟩ C K F/\Below w.heap.size w u)) ⟨E1.out,E1'.out⟩ ?_
 rintro U EE;clear E1 E1';have E1:Hid _:=EE.out.1;have E1':Hid _:=EE.out.2;clear EE;have sb6:=E1.out.sb.cell 6;have ib0:=E1.out.ib.cell 0;simp only[gA,gZ,gS]at sb6 ib0;have ib3:=E1.out.ib.cell 3;simp only[gA,gZ,gS]at ib3;have ho:=E1.out.own.frames;simp only[]at ho;rw[hF]at ho;have fc:=ho.cellAt (top*4+1) (by omega);have ff:=ho.frozenAt (top*4+1);rw[AF AA 4 Au F top 1 y H.out.2.2 (by omega)]at fc;obtain⟨hBg,curf,hgf⟩:=Bq ho;have HGF:Hid (B<=gf/\∃cur,Ap U gf cur 123):=⟨hBg,_,hgf⟩
 clear ho hgf hBg;go_upto_region 40 with fail
 refine Af (fun u=>Hid (A7 w u B v t c n ⟨.slice a1 C.length c1,.slice a2 K.length c2,.slice (some ⟨gf,0,none⟩) (top+1) c3⟩ ⟨25,ia,ib,ic⟩ C K (F.set top ({y.1 with at_:=ic},y.2)))) ?_ ?_
 ·obtain⟨o1,g1⟩:=E1.out.own.setAt rfl H.out.2.2 ic
  obtain⟨hBg,cur,hgf⟩:=HGF.out;exact E1.out.rows g1 hgf (by decide) (by decide) (by decide) hBg o1
 rintro U2 E2;clear fc ff ib3 ib0 sb6;obtain⟨m0,m1,m2,m3,m4,m5,m6⟩:=E2.out.sb.c7;try dsimp only at m0 m1 m2 m3 m4 m5 m6
 obtain⟨r0,r1,r2,r3,r4,r5,r6⟩:=E2.out.rb.c7;obtain⟨rz0,rz1,rz2,rz3,rz4,rz5,rz6⟩:=E2.out.rb.z7;try dsimp only at r0 r1 r2 r3 r4 r5 r6
 go_wp2_with fail
 have hBw:=E2.out.hB;exact bodyPost_ret (results_cell_row Tryz.results79 _ _ _ 39 _ (0,0) _ rfl (E2.out.rb.w7 _ _ _ _ _ _ _) Tryz.underlying39 rfl (by kernel_rfl)) rfl ⟨⟨.slice a1 C.length c1,.slice a2 K.length c2,.slice (some ⟨gf,0,none⟩) (top+1) c3⟩,rfl,E2.out.own.o7 E2.out.rb _ _ _ _ _ _ _,E2.out.bel.s7 (by omega) _ _ _ _ _ _ _⟩
theorem OK(v:VP)(t c n:Int)(x:VS)(ia ib ic:Int)(C:List (Value×List MC))(K:List MC)(F:List (MG×Value))(B top:Nat)(y:MG×Value)(aa:Option Addr)(ca:Nat)(ar:List MC)(w:World)(hB:B<=w.heap.size)(h:Ah w B x C K F)(hF:F.length=top+1)(hF1:top<=1048576)(hy:F[top]?=some y)(har:w.ownsRow B 128 2 (.slice aa ar.length ca) ar.length (ar.flatMap MC.cells))(z0:MC)(ha0:ar[0]?=some z0):
 Calls Tryz.prog 79 #[.agg #[v.r,v.k,v.f,v.t],.agg #[.int .i64 t,.bool false,.int .i64 c,.int .i64 n,x.c,x.k,x.f],.agg #[.int .i64 26,.int .i64 ia,.int .i64 ib,.int .i64 ic],.slice aa ar.length ca] w (Dl w B t c n C K (if z0.word=0 then F.set top ({y.1 with at_:=ic},y.2)else F)):=by
 have H:Hid (Ah w B x C K F/\F.length=top+1/\F[top]?=some y):=⟨h,hF,hy⟩
 have HA:Hid (w.ownsRow B 128 2 (.slice aa ar.length ca) ar.length (ar.flatMap MC.cells)/\ar[0]?=some z0/\0<ar.length):=⟨har,ha0,(gI.1 ha0).1⟩
 rcases At har with⟨_,e⟩|⟨ga,ca',ea⟩
 ·have:=HA.out.2.2;omega
 simp only[sJ,true_and]at ea;obtain⟨rfl,rfl⟩:=ea;clear har ha0;obtain⟨a1,c1,e1⟩:=Al h.cells;obtain⟨a2,c2,e2⟩:=Al (h.fam.own (x.k,K) (by simp));rcases At h.frames with⟨_,e⟩|⟨gf,c3,e3⟩
 ·omega
 have E0:=A7.of v t c n ⟨26,ia,ib,ic⟩ h hB;obtain⟨vc,vk',vf'⟩:=x;simp only[]at e1 e2 e3;rw[hF]at e3;subst e1 e2 e3;have E1:Hid _:=E0.1;have E1':Hid _:=E0.2;clear E0 h hy;generalize hna:ar.length=na at*;have HNA:Hid (ar.length=na):=hna;have hna0:0<na:=by have:=HA.out.2.2;omega
 clear hna;go_enter Tryz.func79,Tryz.ntmps79;go_upto_region 1 with fail
 refine Af (fun u=>Hid (A7 w u B v t c n ⟨.slice a1 C.length c1,.slice a2 K.length c2,.slice (some ⟨gf,0,none⟩) (top+1) c3⟩ ⟨26,ia,ib,ic⟩ C K F/\Below w.heap.size w u)) ⟨E1.out,E1'.out⟩ ?_
 rintro U EE;clear E1 E1';have E1:Hid _:=EE.out.1;have E1':Hid _:=EE.out.2;clear EE;have sb6:=E1.out.sb.cell 6;have ib0:=E1.out.ib.cell 0;simp only[gA,gZ,gS]at sb6 ib0
 have az0t:U.cell? ⟨ga,0,none⟩=some (.int .i64 z0.type):=by
  have h1:=Ag (by have:=HA.out.1;exact this) E1'.out lR;have h2:=h1.cellAt 0 (by have:=(gI.1 HA.out.2.1).1;omega);rw[h2];exact AF MC.cells 2 MC.cells_length ar 0 0 z0 HA.out.2.1 (by omega)
 have az0w:U.cell? ⟨ga,1,none⟩=some (.int .u32 z0.word):=by
  have h1:=Ag (by have:=HA.out.1;exact this) E1'.out lR;have h2:=h1.cellAt 1 (by have:=(gI.1 HA.out.2.1).1;omega);rw[h2];exact AF MC.cells 2 MC.cells_length ar 0 1 z0 HA.out.2.1 (by omega)
 by_cases hw:z0.word=0
 ·rw[if_pos hw]
  have hw':(z0.word==0)=true:=by simpa using hw
  have ib3:=E1.out.ib.cell 3;simp only[gA,gZ,gS]at ib3;have ho:=E1.out.own.frames;simp only[]at ho;rw[hF]at ho;have fc:=ho.cellAt (top*4+1) (by omega);have ff:=ho.frozenAt (top*4+1);rw[AF AA 4 Au F top 1 y H.out.2.2 (by omega)]at fc;obtain⟨hBg,curf,hgf⟩:=Bq ho;have HGF:Hid (B<=gf/\∃cur,Ap U gf cur 123):=⟨hBg,_,hgf⟩
  clear ho hgf hBg;go_upto_region 40 with fail
  refine Af (fun u=>Hid (A7 w u B v t c n ⟨.slice a1 C.length c1,.slice a2 K.length c2,.slice (some ⟨gf,0,none⟩) (top+1) c3⟩ ⟨26,ia,ib,ic⟩ C K (F.set top ({y.1 with at_:=ic},y.2)))) ?_ ?_
  ·obtain⟨o1,g1⟩:=E1.out.own.setAt rfl H.out.2.2 ic
   obtain⟨hBg,cur,hgf⟩:=HGF.out;exact E1.out.rows g1 hgf (by decide) (by decide) (by decide) hBg o1
  rintro U2 E2;clear fc ff ib3 ib0 sb6 az0t az0w;obtain⟨m0,m1,m2,m3,m4,m5,m6⟩:=E2.out.sb.c7;try dsimp only at m0 m1 m2 m3 m4 m5 m6
  obtain⟨r0,r1,r2,r3,r4,r5,r6⟩:=E2.out.rb.c7;obtain⟨rz0,rz1,rz2,rz3,rz4,rz5,rz6⟩:=E2.out.rb.z7;try dsimp only at r0 r1 r2 r3 r4 r5 r6
  go_wp2_with fail
  have hBw:=E2.out.hB;exact bodyPost_ret (results_cell_row Tryz.results79 _ _ _ 39 _ (0,0) _ rfl (E2.out.rb.w7 _ _ _ _ _ _ _) Tryz.underlying39 rfl (by kernel_rfl)) rfl ⟨⟨.slice a1 C.length c1,.slice a2 K.length c2,.slice (some ⟨gf,0,none⟩) (top+1) c3⟩,rfl,E2.out.own.o7 E2.out.rb _ _ _ _ _ _ _,E2.out.bel.s7 (by omega) _ _ _ _ _ _ _⟩
 ·rw[if_neg hw]
  have hw':(z0.word==0)=false:=by simpa using hw
  obtain⟨m0,m1,m2,m3,m4,m5,m6⟩:=E1.out.sb.c7;try dsimp only at m0 m1 m2 m3 m4 m5 m6
  obtain⟨r0,r1,r2,r3,r4,r5,r6⟩:=E1.out.rb.c7;obtain⟨rz0,rz1,rz2,rz3,rz4,rz5,rz6⟩:=E1.out.rb.z7;try dsimp only at r0 r1 r2 r3 r4 r5 r6
  go_wp2_with fail
  have hBw:=E1.out.hB;exact bodyPost_ret (results_cell_row Tryz.results79 _ _ _ 39 _ (0,0) _ rfl (E1.out.rb.w7 _ _ _ _ _ _ _) Tryz.underlying39 rfl (by kernel_rfl)) rfl ⟨⟨.slice a1 C.length c1,.slice a2 K.length c2,.slice (some ⟨gf,0,none⟩) (top+1) c3⟩,rfl,E1.out.own.o7 E1.out.rb _ _ _ _ _ _ _,E1.out.bel.s7 (by omega) _ _ _ _ _ _ _⟩
theorem Dv(w:World)(xs:List MC):∀j u,(xs.flatMap MC.cells)[j]?=some u->(w.alloc (.cells (xs.flatMap MC.cells).toArray 128)).drew.cell? ((⟨w.heap.size,0,none⟩:Addr).add j)=some u:=fun j u hj=>by
 have:=cell_of_row _ w.heap.size (0+j) _ _ _ (Ck w (xs.flatMap MC.cells).toArray 128);rw[CW];show(w.alloc (.cells (xs.flatMap MC.cells).toArray 128)).cell? ⟨w.heap.size,0+j,none⟩=some u;rw[this,Nat.zero_add];simpa using hj
theorem A7.pushOwn{w u u6 u8:World}{B:Nat}{v:VP}{t c n:Int}{x:VS}{i:MI}{C:List (Value×List MC)}{K:List MC}{F:List (MG×Value)}(h:A7 w u B v t c n x i C K F)(hb:Below u.heap.size u u6){K':List MC}{g m cap:Nat}(hg:u6.grownBy u8 x.k.ownBlock)(hown:u8.ownsRow B 128 2 (.slice (some ⟨g,0,none⟩) m cap) m (K'.flatMap MC.cells))(hm:m=K'.length)(hat:x.k.ownBlock=some g\/g=u6.heap.size):Ah u8 B {x with k:=.slice (some ⟨g,0,none⟩) m cap} C K' F:=by
 have h7:=h.keep hb;subst hm
 exact h7.own.stack (Nat.le_trans h.hB h7.le) hg hown (by
  rcases hat with hat|hat
  ·exact .inl (by rw[hat];rfl)
  ·exact .inr (fun g' hg'=>by simp only[Value.ownBlock,Option.some.injEq]at hg';omega))
theorem Ah.frm{u:World}{B:Nat}{x:VS}{C:List (Value×List MC)}{K:List MC}{F:List (MG×Value)}(h:Ah u B x C K F){gf m c top:Nat}{y:MG×Value}(hx:x.f=.slice (some ⟨gf,0,none⟩) m c)(hy:F[top]?=some y):u.cell? ⟨gf,top*4+3,none⟩=some y.2:=by
 have ho:=h.frames;rw[hx]at ho;have hm:m=F.length:=BG ho;subst hm;have hlt:=(gI.1 hy).1;rw[ho.cellAt (top*4+3) (by omega),AF AA 4 Au F top 3 y hy (by omega)];rfl
theorem Ah.rowc{u:World}{B:Nat}{x:VS}{C:List (Value×List MC)}{K:List MC}{F:List (MG×Value)}(h:Ah u B x C K F){r:Value×List MC}(hr:r∈C++[(x.k,K)]++AL F){gl nl cl q:Nat}{z:MC}(hv:r.1=.slice (some ⟨gl,0,none⟩) nl cl)(hq:r.2[q]?=some z):u.cell? ⟨gl,q*2,none⟩=some (.int .i64 z.type)/\u.cell? ⟨gl,q*2+1,none⟩=some (.int .u32 z.word):=by
 have ho:=h.fam.own r hr;rw[hv]at ho;have hm:nl=r.2.length:=BG ho;subst hm;have hlt:=(gI.1 hq).1;refine⟨?_,?_⟩
 ·rw[ho.cellAt (q*2) (by omega)]
  have:=AF MC.cells 2 MC.cells_length r.2 q 0 z hq (by omega);rw[Nat.add_zero]at this;rw[this];rfl
 ·rw[ho.cellAt (q*2+1) (by omega),AF MC.cells 2 MC.cells_length r.2 q 1 z hq (by omega)]
  rfl
theorem Ah.celc{u:World}{B:Nat}{x:VS}{C:List (Value×List MC)}{K:List MC}{F:List (MG×Value)}(h:Ah u B x C K F){gc m c a:Nat}{r:Value×List MC}(hx:x.c=.slice (some ⟨gc,0,none⟩) m c)(hr:C[a]?=some r):u.cell? ⟨gc,a,none⟩=some r.1:=by
 have ho:=h.cells;rw[hx]at ho;have hm:m=C.length:=BG ho;subst hm;have hlt:=(gI.1 hr).1;have:=AF CU 1 EY C a 0 r hr (by omega);rw[Nat.mul_one,Nat.add_zero]at this;rw[ho.cellAt a (by omega),this];rfl
theorem Fl{u:World}{B ga n ca j:Nat}{ar:List MC}{z:MC}(h:u.ownsRow B 128 2 (.slice (some ⟨ga,0,none⟩) n ca) n (ar.flatMap MC.cells))(hz:ar[j]?=some z)(hn:ar.length=n):u.cell? ⟨ga,j*2,none⟩=some (.int .i64 z.type)/\u.cell? ⟨ga,j*2+1,none⟩=some (.int .u32 z.word):=by
 subst hn;have hlt:=(gI.1 hz).1;refine⟨?_,?_⟩
 ·rw[h.cellAt (j*2) (by omega)]
  have:=AF MC.cells 2 MC.cells_length ar j 0 z hz (by omega);rw[Nat.add_zero]at this;rw[this];rfl
 ·rw[h.cellAt (j*2+1) (by omega),AF MC.cells 2 MC.cells_length ar j 1 z hz (by omega)]
  rfl
theorem JP(a b:Nat)(ha:a<=4294967295)(hb:b<=4294967295):bits .and .i64 (a:Int) (b:Int)=((a &&& b:Nat):Int):=by
 have h1:bits .and .i64 (a:Int) (b:Int)=IntKind.i64.wrap ((BitVec.ofInt 64 a &&& BitVec.ofInt 64 b).toNat:Int):=by
  rfl
 have h2:(BitVec.ofInt 64 (a:Int) &&& BitVec.ofInt 64 (b:Int)).toNat=a &&& b:=by
  rw[BitVec.toNat_and];simp;rw[Nat.mod_eq_of_lt (by omega),Nat.mod_eq_of_lt (by omega)]
 rw[h1,h2];have h3:a &&& b<=a:=Nat.and_le_left;rw[IntWalk.i64_in _ (by omega)]
theorem Cm(xs:List MC):∀u∈xs.flatMap MC.cells,u.oneCell'=true:=fun u hu=>by
 obtain⟨x,_,hx⟩:=List.mem_flatMap.1 hu;exact Be x u hx
theorem PV(v:VP)(t c n:Int)(x:VS)(ia ib ic:Int)(C:List (Value×List MC))(K:List MC)(F:List (MG×Value))(B top:Nat)(y:MG×Value)(aa:Option Addr)(ca:Nat)(ar:List MC)(w:World)(hB:B<=w.heap.size)(h:Ah w B x C K F)(hF:F.length=top+1)(hF1:top<=1048576)(hy:F[top]?=some y)(hK:K.length<=1048576)(q nk:Nat)(z:MC)(ak:Option Addr)(ck:Nat)(hia:ia=q)(hvk:v.k=.slice ak nk ck)(hq:q<nk)(hnk:nk<=1048576)(gk ok:Nat)(hak:ak=some ⟨gk,ok,none⟩)(hz:∀u,Below B w u->u.cell? ⟨gk,ok+q*2,none⟩=some (.int .i64 z.type)/\u.cell? ⟨gk,ok+q*2+1,none⟩=some (.int .u32 z.word)):
 Calls Tryz.prog 79 #[.agg #[v.r,v.k,v.f,v.t],.agg #[.int .i64 t,.bool false,.int .i64 c,.int .i64 n,x.c,x.k,x.f],.agg #[.int .i64 1,.int .i64 ia,.int .i64 ib,.int .i64 ic],.slice aa ar.length ca] w (Dl w B t c n C (K++[z]) F):=by
 have H:=h3 h hF hy;obtain⟨vr,vk,vf,vt⟩:=v;simp only[]at hvk;subst hvk hia hak;have HZ:Hid _:=hz;clear hz;obtain⟨i0,hi,hz0,hz1,hz2⟩:=info_parts DJ;obtain⟨a1,c1,e1⟩:=Al h.cells;obtain⟨a2,c2,e2⟩:=Al (h.fam.own (x.k,K) (by simp));rcases At h.frames with⟨_,e⟩|⟨gf,c3,e3⟩
 ·omega
 have E0:=A7.of ⟨vr,.slice (some ⟨gk,ok,none⟩) nk ck,vf,vt⟩ t c n ⟨1,q,ib,ic⟩ h hB;obtain⟨vc,vk',vf'⟩:=x;simp only[]at e1 e2 e3;rw[hF]at e3;subst e1 e2 e3;have E1:Hid _:=E0.1;have E1':Hid _:=E0.2;clear E0 h hy;generalize ar.length=na at*;go_enter Tryz.func79,Tryz.ntmps79;go_upto_region 1 with fail
 refine Af (fun u=>Hid (A7 w u B _ t c n _ _ C K F/\Below w.heap.size w u)) ⟨E1.out,E1'.out⟩ ?_
 rintro U EE;clear E1 E1';have E1:Hid _:=EE.out.1;have E1':Hid _:=EE.out.2;clear EE;have sb6:=E1.out.sb.cell 6;have ib0:=E1.out.ib.cell 0;simp only[gA,gZ,gS]at sb6 ib0;have hqI:(q:Int)<(nk:Int):=by omega
 obtain⟨kt,kw⟩:=HZ.out U E1.out.bel.low;have p1:=E1.out.pb.cell 1;have ib1:=E1.out.ib.cell 1;simp only[gA,gZ,gS]at p1 ib1;have s5:=E1.out.sb.cell 5;simp only[gA,gZ,gS]at s5;have bD:=Ad U;have bE:Below U.heap.size U (U.alloc (.cells #[.int .i64 z.type,.int .u32 z.word] 128)).drew:=Ab (Aa _ _) lR (Ad _);have s5d:=Ac bD s5;have s5e:=Ac bE s5;have KD:U.drew.cell? ⟨w.heap.size,1,none⟩=some (.slice (some ⟨gk,ok,none⟩) nk ck)/\U.drew.cell? ⟨w.heap.size+1+1,1,none⟩=some (.int .i64 q)/\U.drew.cell? ⟨gk,ok+q*2,none⟩=some (.int .i64 z.type)/\U.drew.cell? ⟨gk,ok+q*2+1,none⟩=some (.int .u32 z.word):=⟨Ac bD p1,Ac bD ib1,Ac bD kt,Ac bD kw⟩
 have KE:(U.alloc (.cells #[.int .i64 z.type,.int .u32 z.word] 128)).drew.cell? ⟨w.heap.size,1,none⟩=some (.slice (some ⟨gk,ok,none⟩) nk ck)/\(U.alloc (.cells #[.int .i64 z.type,.int .u32 z.word] 128)).drew.cell? ⟨w.heap.size+1+1,1,none⟩=some (.int .i64 q)/\(U.alloc (.cells #[.int .i64 z.type,.int .u32 z.word] 128)).drew.cell? ⟨gk,ok+q*2,none⟩=some (.int .i64 z.type)/\(U.alloc (.cells #[.int .i64 z.type,.int .u32 z.word] 128)).drew.cell? ⟨gk,ok+q*2+1,none⟩=some (.int .u32 z.word):=⟨Ac bE p1,Ac bE ib1,Ac bE kt,Ac bE kw⟩
 have HC:Hid ((U.alloc (.cells #[.int .i64 z.type,.int .u32 z.word] 128)).drew.ownsRow B 128 2 (.slice a2 K.length c2) K.length (K.flatMap MC.cells)/\(∀j u,(([⟨z.type,z.word⟩]:List MC).flatMap MC.cells)[j]?=some u->(U.alloc (.cells #[.int .i64 z.type,.int .u32 z.word] 128)).drew.cell? ((⟨U.heap.size,0,none⟩:Addr).add j)=some u)/\Below U.heap.size U (U.alloc (.cells #[.int .i64 z.type,.int .u32 z.word] 128)).drew/\B<=(U.alloc (.cells #[.int .i64 z.type,.int .u32 z.word] 128)).drew.heap.size):=⟨Ag (E1.out.own.fam.own (.slice a2 K.length c2,K) (by simp)) bE lR,fun j u hj=>Dv U ([⟨z.type,z.word⟩]:List MC) j u hj,bE,Nat.le_trans (Nat.le_trans E1.out.hB E1.out.le) bE.size⟩
 clear p1 ib1 kt kw s5 bD bE;go_wp2_with fail
 refine wp_region_held_drew (S:=fun w'=>w'.cell? ⟨w.heap.size,1,none⟩=some (.slice (some ⟨gk,ok,none⟩) nk ck)/\w'.cell? ⟨w.heap.size+1+1,1,none⟩=some (.int .i64 q)/\w'.cell? ⟨gk,ok+q*2,none⟩=some (.int .i64 z.type)/\w'.cell? ⟨gk,ok+q*2+1,none⟩=some (.int .u32 z.word)) (by kernel_rfl) KD (fun hHeld=> ?_)
 refine wpAnyH_take (i:=0) (v:= ?_) rfl (by kernel_rfl) (by kernel_rfl) (by kernel_rfl) (fun _ _ _ h=>h) (Or.inl ⟨by rfl,?_⟩) (by assumption) ?_;rotate_left
 ·(intro w hSw;(try dsimp only at hSw);go_simp;(try with_reducible rfl))
 refine wpAnyH_take (i:=2) (v:= ?_) rfl (by kernel_rfl) (by kernel_rfl) (by kernel_rfl) (fun _ _ _ h=>h) (Or.inl ⟨by rfl,?_⟩) (by assumption) ?_;rotate_left
 ·(intro w hSw;(try dsimp only at hSw);go_simp;(try with_reducible rfl))
 refine wpAnyH_take (i:=3) (v:= ?_) rfl (by kernel_rfl) (by kernel_rfl) (by kernel_rfl) (fun _ _ _ h=>h) (Or.inl ⟨by rfl,?_⟩) (by assumption) ?_;rotate_left
 ·(intro w hSw;(try dsimp only at hSw);go_simp;(try with_reducible rfl))
 refine wpAnyH_take (i:=4) (v:= ?_) rfl (by kernel_rfl) (by kernel_rfl) (by kernel_rfl) (fun _ _ _ h=>h) (Or.inl ⟨by rfl,?_⟩) (by assumption) ?_;rotate_left
 ·(intro w hSw;(try dsimp only at hSw);go_simp;(try with_reducible rfl))
 refine wpAnyH_take (i:=5) (v:= ?_) rfl (by kernel_rfl) (by kernel_rfl) (by kernel_rfl) (fun _ _ _ h=>h) (Or.inl ⟨by rfl,?_⟩) (by assumption) ?_;rotate_left
 ·(intro w hSw;(try dsimp only at hSw);go_simp;(try with_reducible rfl))
 refine wpAnyH_take (i:=6) (v:= ?_) rfl (by kernel_rfl) (by kernel_rfl) (by kernel_rfl) (fun _ _ _ h=>h) (Or.inl ⟨by rfl,?_⟩) (by assumption) ?_;rotate_left
 ·(intro w hSw;(try dsimp only at hSw);go_simp;(try with_reducible rfl))
 refine wpAnyH_take (i:=7) (v:= ?_) rfl (by kernel_rfl) (by kernel_rfl) (by kernel_rfl) (fun _ _ _ h=>h) (Or.inl ⟨by rfl,?_⟩) (by assumption) ?_;rotate_left
 ·(intro w hSw;(try dsimp only at hSw);go_simp;(try with_reducible rfl))
 refine wpAnyH_take (i:=8) (v:= ?_) rfl (by kernel_rfl) (by kernel_rfl) (by kernel_rfl) (fun _ _ _ h=>h) (Or.inl ⟨by rfl,?_⟩) (by assumption) ?_;rotate_left
 ·(intro w hSw;(try dsimp only at hSw);go_simp;(try with_reducible rfl))
 refine wpAnyH_take (i:=9) (v:= ?_) rfl (by kernel_rfl) (by kernel_rfl) (by kernel_rfl) (fun _ _ _ h=>h) (Or.inl ⟨by rfl,?_⟩) (by assumption) ?_;rotate_left
 ·(intro w hSw;(try dsimp only at hSw);go_simp;(try with_reducible rfl))
 refine wpAnyH_take (i:=10) (v:= ?_) rfl (by kernel_rfl) (by kernel_rfl) (by kernel_rfl) (fun _ _ _ h=>h) (Or.inl ⟨by rfl,?_⟩) (by assumption) ?_;rotate_left
 ·(intro w hSw;(try dsimp only at hSw);go_simp;(try with_reducible rfl))
 refine wpAnyH_take (i:=11) (v:= ?_) rfl (by kernel_rfl) (by kernel_rfl) (by kernel_rfl) (fun _ _ _ h=>h) (Or.inl ⟨by rfl,?_⟩) (by assumption) ?_;rotate_left
 ·(intro w hSw;(try dsimp only at hSw);go_simp;(try with_reducible rfl))
 refine wpAnyH_take (i:=12) (v:= ?_) rfl (by kernel_rfl) (by kernel_rfl) (by kernel_rfl) (fun _ _ _ h=>h) (Or.inl ⟨by rfl,?_⟩) (by assumption) ?_;rotate_left
 ·(intro w hSw;(try dsimp only at hSw);go_simp;(try with_reducible rfl))
 refine wpAnyH_take (i:=13) (v:= ?_) rfl (by kernel_rfl) (by kernel_rfl) (by kernel_rfl) (fun _ _ _ h=>h) (Or.inl ⟨by rfl,?_⟩) (by assumption) ?_;rotate_left
 ·(intro w hSw;(try dsimp only at hSw);go_simp;(try with_reducible rfl))
 refine wpAnyH_take (i:=14) (v:= ?_) rfl (by kernel_rfl) (by kernel_rfl) (by kernel_rfl) (fun _ _ _ h=>h) (Or.inl ⟨by rfl,?_⟩) (by assumption) ?_;rotate_left
 ·(intro w hSw;(try dsimp only at hSw);go_simp;(try with_reducible rfl))
 refine wpAnyH_take (i:=15) (v:= ?_) rfl (by kernel_rfl) (by kernel_rfl) (by kernel_rfl) (fun _ _ _ h=>h) (Or.inl ⟨by rfl,?_⟩) (by assumption) ?_;rotate_left
 ·(intro w hSw;(try dsimp only at hSw);go_simp;(try with_reducible rfl))
 refine wpAnyH_take (i:=16) (v:= ?_) rfl (by kernel_rfl) (by kernel_rfl) (by kernel_rfl) (fun _ _ _ h=>h) (Or.inl ⟨by rfl,?_⟩) (by assumption) ?_;rotate_left
 ·(intro w hSw;(try dsimp only at hSw);go_simp;(try with_reducible rfl))
 refine wpAnyH_ready (rs:=[1,17]) (by kernel_rfl) (by simp) ?_;refine AllReadyH.cons rfl (fun KC hKC=> ?_) (AllReadyH.cons rfl (fun KC hKC=> ?_) AllReadyH.nil)
 focus
  go_simp;refine hKC.out _ _ KD (fun hHeld=> ?_);clear hKC KC;refine wpAnyH_ready (rs:=[17]) (by kernel_rfl) (by simp) ?_;refine AllReadyH.cons rfl (fun KC hKC=> ?_) AllReadyH.nil;go_simp;refine hKC.out _ _ KE (fun hHeld=> ?_);clear hKC KC;refine wpAnyH_ready (rs:=[18]) (by kernel_rfl) (by simp) ?_;refine AllReadyH.cons rfl (fun KC hKC=> ?_) AllReadyH.nil
 rotate_left
 focus
  go_simp;refine hKC.out _ _ KE (fun hHeld=> ?_);clear hKC KC;refine wpAnyH_ready (rs:=[1]) (by kernel_rfl) (by simp) ?_;refine AllReadyH.cons rfl (fun KC hKC=> ?_) AllReadyH.nil;go_simp;refine hKC.out _ _ KE (fun hHeld=> ?_);clear hKC KC;refine wpAnyH_ready (rs:=[18]) (by kernel_rfl) (by simp) ?_;refine AllReadyH.cons rfl (fun KC hKC=> ?_) AllReadyH.nil
 all_goals
  refine step_append_lies _ rfl (.tmp 65) (.tmp 81) 36 rfl B 128 i0 (.agg #[.int .i64 0,.int .u32 0]) 2 16 Tryz.underlying36 hi hz0 hz1 hz2 rfl (by decide) (.slice a2 K.length c2) K.length (K.flatMap MC.cells) (by simp[Act.eval]) HC.out.1 ⟨U.heap.size,0,none⟩ 1 1 (([⟨z.type,z.word⟩]:List MC).flatMap MC.cells) (by simp[Act.eval]) rfl HC.out.2.1 (Cm _) (by omega) (by unfold maxLen;omega) (by omega) HC.out.2.2.2 _ rfl ?_;intro gg cap u8 hown hgrow hat hlt8;have HN:Hid (A7 w (u8.setCell ⟨w.heap.size+1,5,none⟩ (.slice (some ⟨gg,0,none⟩) (K.length+1) cap)) B ⟨vr,.slice (some ⟨gk,ok,none⟩) nk ck,vf,vt⟩ t c n ⟨.slice a1 C.length c1,.slice (some ⟨gg,0,none⟩) (K.length+1) cap,.slice (some ⟨gf,0,none⟩) (top+1) c3⟩ ⟨1,q,ib,ic⟩ C (K++[⟨z.type,z.word⟩]) F):=E1.out.push HC.out.2.2.1 (K':=K++([⟨z.type,z.word⟩]:List MC)) hgrow (by rw[List.flatMap_append];exact hown) (by simp) hat;have st8:=(E1.out.keep HC.out.2.2.1).sb.grown hgrow HC.out.1 (by decide);have y0:=st8.cell 5;have y1:=st8.frozen 5;simp only[gA,gZ,gS]at y0;have p8:=(E1.out.keep HC.out.2.2.1).pb.grown hgrow HC.out.1 (by decide);have i8:=(E1.out.keep HC.out.2.2.1).ib.grown hgrow HC.out.1 (by decide);have b9:Below B w u8:=(E1.out.keep HC.out.2.2.1).bel.low.grown hgrow HC.out.2.2.2 (fun j hj=>(HC.out.1.lt j hj).1);have KU:u8.cell? ⟨w.heap.size,1,none⟩=some (.slice (some ⟨gk,ok,none⟩) nk ck)/\u8.cell? ⟨w.heap.size+1+1,1,none⟩=some (.int .i64 q)/\u8.cell? ⟨gk,ok+q*2,none⟩=some (.int .i64 z.type)/\u8.cell? ⟨gk,ok+q*2+1,none⟩=some (.int .u32 z.word):=⟨p8.cell 1,i8.cell 1,(HZ.out _ b9).1,(HZ.out _ b9).2⟩;have KV:(u8.setCell ⟨w.heap.size+1,5,none⟩ (.slice (some ⟨gg,0,none⟩) (K.length+1) cap)).cell? ⟨w.heap.size,1,none⟩=some (.slice (some ⟨gk,ok,none⟩) nk ck)/\(u8.setCell ⟨w.heap.size+1,5,none⟩ (.slice (some ⟨gg,0,none⟩) (K.length+1) cap)).cell? ⟨w.heap.size+1+1,1,none⟩=some (.int .i64 q)/\(u8.setCell ⟨w.heap.size+1,5,none⟩ (.slice (some ⟨gg,0,none⟩) (K.length+1) cap)).cell? ⟨gk,ok+q*2,none⟩=some (.int .i64 z.type)/\(u8.setCell ⟨w.heap.size+1,5,none⟩ (.slice (some ⟨gg,0,none⟩) (K.length+1) cap)).cell? ⟨gk,ok+q*2+1,none⟩=some (.int .u32 z.word):=⟨HN.out.pb.cell 1,HN.out.ib.cell 1,(HZ.out _ HN.out.bel.low).1,(HZ.out _ HN.out.bel.low).2⟩;clear hown hgrow hat hlt8 st8 p8 i8 b9
  refine hKC.out _ _ KU (fun hHeld=> ?_);clear hKC KC;refine wpAnyH_take (i:=19) (v:= ?_) rfl (by kernel_rfl) (by kernel_rfl) (by kernel_rfl) (fun _ _ _ h=>h) (Or.inl ⟨by rfl,?_⟩) (by assumption) ?_;rotate_left
  ·(intro w hSw;(try dsimp only at hSw);go_simp;(try with_reducible rfl))
  refine wpAnyH_ready (rs:=[20]) (by kernel_rfl) (by simp) ?_;refine AllReadyH.cons rfl (fun KC hKC=> ?_) AllReadyH.nil;go_simp;refine hKC.out _ _ KV (fun hHeld=> ?_);clear hKC KC;refine wpAnyH_done (by kernel_rfl) ?_ _;clear KD s5d s5e ib0 sb6;go_upto_region 40 with fail
  refine Af (fun u=>Hid (A7 w u B _ t c n _ _ C _ F)) HN ?_;rintro U2 E2;clear HN;obtain⟨m0,m1,m2,m3,m4,m5,m6⟩:=E2.out.sb.c7;try dsimp only at m0 m1 m2 m3 m4 m5 m6
  obtain⟨r0,r1,r2,r3,r4,r5,r6⟩:=E2.out.rb.c7;obtain⟨rz0,rz1,rz2,rz3,rz4,rz5,rz6⟩:=E2.out.rb.z7;try dsimp only at r0 r1 r2 r3 r4 r5 r6
  go_wp2_with fail
  have hBw:=E2.out.hB;exact bodyPost_ret (results_cell_row Tryz.results79 _ _ _ 39 _ (0,0) _ rfl (E2.out.rb.w7 _ _ _ _ _ _ _) Tryz.underlying39 rfl (by kernel_rfl)) rfl ⟨⟨.slice a1 C.length c1,.slice (some ⟨gg,0,none⟩) (K.length+1) cap,.slice (some ⟨gf,0,none⟩) (top+1) c3⟩,rfl,E2.out.own.o7 E2.out.rb _ _ _ _ _ _ _,E2.out.bel.s7 (by omega) _ _ _ _ _ _ _⟩
theorem N2(p:MP)(f:MF)(g:MG)(s:MS)(x:MI):(CF p f g s x).trap=s.trap/\(CF p f g s x).cost=s.cost/\(CF p f g s x).steps=s.steps:=by
 unfold CF;simp only[];by_cases c:x.op=0\/x.op=24
 . rw[if_pos c];exact⟨rfl,rfl,rfl⟩
 rw[if_neg c];clear c;by_cases c:x.op=1
 . rw[if_pos c];exact⟨rfl,rfl,rfl⟩
 rw[if_neg c];clear c;by_cases c:x.op=2
 . rw[if_pos c];exact⟨rfl,rfl,rfl⟩
 rw[if_neg c];clear c;by_cases c:x.op=3
 . rw[if_pos c];exact⟨rfl,rfl,rfl⟩
 rw[if_neg c];clear c;by_cases c:x.op=4
 . rw[if_pos c];exact⟨rfl,rfl,rfl⟩
 rw[if_neg c];clear c;by_cases c:x.op=5
 . rw[if_pos c];exact⟨rfl,rfl,rfl⟩
 rw[if_neg c];clear c;by_cases c:x.op=6
 . rw[if_pos c];exact⟨rfl,rfl,rfl⟩
 rw[if_neg c];clear c;by_cases c:x.op=7
 . rw[if_pos c];exact⟨rfl,rfl,rfl⟩
 rw[if_neg c];clear c;by_cases c:x.op=16\/x.op=19
 . rw[if_pos c];exact⟨rfl,rfl,rfl⟩
 rw[if_neg c];clear c;by_cases c:x.op=20\/x.op=21
 . rw[if_pos c];exact⟨rfl,rfl,rfl⟩
 rw[if_neg c];clear c;by_cases c:8<=x.op/\x.op<=18
 . rw[if_pos c];exact⟨rfl,rfl,rfl⟩
 rw[if_neg c];clear c;by_cases c:x.op=22
 . rw[if_pos c];exact⟨rfl,rfl,rfl⟩
 rw[if_neg c];clear c;by_cases c:x.op=23
 . rw[if_pos c];exact⟨rfl,rfl,rfl⟩
 rw[if_neg c];clear c;by_cases c:x.op=25
 . rw[if_pos c];exact⟨rfl,rfl,rfl⟩
 rw[if_neg c];clear c;by_cases c:x.op=26
 . rw[if_pos c];split<;>exact⟨rfl,rfl,rfl⟩
 rw[if_neg c];clear c;by_cases c:x.op=27
 . rw[if_pos c];split<;>exact⟨rfl,rfl,rfl⟩
 rw[if_neg c];clear c;by_cases c:x.op=28
 . rw[if_pos c];exact⟨rfl,rfl,rfl⟩
 rw[if_neg c];exact⟨rfl,rfl,rfl⟩
structure Kj(p:MP)(k:Nat)(s:MS):Prop where
 sh:FA p s
 wf:s.wf
 cost:s.cost<=8*(k:Int)
 steps:s.steps<=(k:Int)
theorem Kj.next{p:MP}{k:Nat}{s s':MS}(hpw:p.wf)(hk:k<=1048576)(h:Kj p k s)(h0:s.trap=0)(hs:Bk p s s')(ht:s'.trap=0)(hd:s'.done=false):Kj p (k+1) s':=by
 cases hs with
 |jump e1 e2 e3=>simp only[]at ht;omega
 |trap e1 e2 e3 e4 e5 e6=>exact absurd ht e6
 | does e1 e2 e3 e4 e5=>
   rename_i g f x;have hok:=h.sh.prog.instr e2 e4;have hco:=GG hok.1 hok.2.1;have hc:=h.cost;have hst:=h.steps;have c0:=h.sh.cost;have s0:=h.sh.steps;have h1:FA p {s with steps:=s.steps+1,cost:=s.cost+BC x.op}:=⟨h.sh.prog,⟨by simp only[];omega,by simp only[];omega⟩,⟨by simp only[];omega,by simp only[];omega⟩,h.sh.three,h.sh.cells,h.sh.high,h.sh.stack,h.sh.some,h.sh.deep,h.sh.frames,h.sh.bases⟩;have h2:({s with steps:=s.steps+1,cost:=s.cost+BC x.op}:MS).wf:=⟨h.wf.trap,Dt (by simp only[];omega) (by simp only[];omega),Dt (by simp only[];omega) (by simp only[];omega),h.wf.cells,h.wf.stack,h.wf.frames⟩;obtain⟨i1,i2⟩:=OL hpw h1 h2 e1 e2 e3 e4 e5 hd;obtain⟨_,d2,d3⟩:=N2 p f g {s with steps:=s.steps+1,cost:=s.cost+BC x.op} x;exact⟨i1,i2,by rw[d2];simp only[];omega,by rw[d3];simp only[];omega⟩
inductive Fh (p:MP):Nat->MS->MS->Prop
 |zero {s:MS}:Fh p 0 s s
 |next {k:Nat} {s s1 s2:MS}:Fh p k s s1->s1.trap=0->s1.done=false->Bk p s1 s2->Fh p (k+1) s s2
theorem Fh.one{p:MP}{k:Nat}{s a b:MS}(h:Fh p k s a)(h':Fh p k s b):a=b:=by
 induction h generalizing b with
 |zero=>cases h';rfl
 | next h1 h2 h3 h4 ih=>
   cases h' with
   | next g1 g2 g3 g4=>
     obtain rfl:=ih g1;exact h4.one g4
def Mo(p:MP)(n:Nat)(s s':MS):Prop:=∃k,Fh p k s s'/\(k=n\/(k<n/\(s'.trap≠0\/s'.done=true)))
theorem Fh.ahead{p:MP}{k:Nat}{s a:MS}(h:Fh p k s a):∀{j:Nat} {b:MS},Fh p j s b->j<k->∃c,Fh p j s c/\c.trap=0/\c.done=false:=by
 induction h with
 |zero=>intro j b hb hj;omega
 | @next k s s1 s2 h1 h2 h3 h4 ih=>
   intro j b hb hj;by_cases e:j=k
   . subst e;exact⟨s1,h1,h2,h3⟩
   . exact ih hb (by omega)
theorem Mo.one{p:MP}{n:Nat}{s a b:MS}(h:Mo p n s a)(h':Mo p n s b):a=b:=by
 obtain⟨k,h1,h2⟩:=h;obtain⟨j,g1,g2⟩:=h'
 have hkj:k=j:=by
  rcases Nat.lt_trichotomy k j with e|e|e
  . obtain⟨c,c1,c2,c3⟩:=g1.ahead h1 e
    obtain rfl:=h1.one c1;rcases h2 with h2|⟨h2,h3⟩
    . omega
    . simp[c2,c3]at h3
  . exact e
  . obtain⟨c,c1,c2,c3⟩:=h1.ahead g1 e
    obtain rfl:=g1.one c1;rcases g2 with g2|⟨g2,g3⟩
    . omega
    . simp[c2,c3]at g3
 subst hkj;exact h1.one g1
end Go.Proofs.YtlejplpkomddeaaGreat
