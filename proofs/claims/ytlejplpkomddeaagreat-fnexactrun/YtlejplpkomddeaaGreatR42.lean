import Derived.Test.YtlejplpkomddeaaGreatR0
import Derived.Test.YtlejplpkomddeaaGreatR41
import Derived.Test.YtlejplpkomddeaaGreatR34
import Derived.Test.YtlejplpkomddeaaGreatR35
import Derived.Test.YtlejplpkomddeaaGreatR36
import Derived.Test.YtlejplpkomddeaaGreatR37
import Derived.Test.YtlejplpkomddeaaGreatR38
import Derived.Test.YtlejplpkomddeaaGreatR39
import Derived.Test.YtlejplpkomddeaaGreatR40
namespace Go.Proofs.YtlejplpkomddeaaGreat
open Go.ChangeShapes Go.WideShapes Go.ChangeAt Go.RowKit
set_option linter.unusedVariables false
theorem Qg{w:World}{B n q:Nat}{s:Value}{cs:List MC}{z:MC}(hP:∀u,Below B w u->Rd u 2 s n (cs.flatMap MC.cells))(hq:cs[q]?=some z):∃gk ok ck,s=.slice (some ⟨gk,ok,none⟩) n ck/\∀u,Below B w u->u.cell? ⟨gk,ok+q*2,none⟩=some (.int .i64 z.type)/\u.cell? ⟨gk,ok+q*2+1,none⟩=some (.int .u32 z.word):=by
 have h0:=hP w (Below.refl B w);have hlt:=(gI.1 hq).1;have hl:=h0.1;rw[Az MC.cells 2 MC.cells_length]at hl;rcases h0.2 with⟨e,_⟩|⟨gk,ok,ck,e,_⟩
 . omega
 . refine⟨gk,ok,ck,e,fun u hu=> ?_⟩
   rcases(hP u hu).2 with⟨e',_⟩|⟨g',o',c',e',hc⟩
   . omega
   . rw[e]at e'
     simp only[sJ,Option.some.injEq,Addr.mk.injEq,true_and,and_true]at e';obtain⟨⟨rfl,rfl⟩,_⟩:=e';exact⟨Rd.elem MC.cells_length hc q z hq 0 _ rfl,Rd.elem MC.cells_length hc q z hq 1 _ rfl⟩
theorem EX{C:List (Value×List MC)}{q p:Nat}{r:Value×List MC}(hr:C[q]?=some r)(z:MC):Dy (C.map Prod.snd) q p z=(C.set q (r.1,r.2.set p z)).map Prod.snd:=by
 unfold Dy;rw[List.map_set];apply List.ext_getElem?;intro j;rw[List.getElem?_modify,List.getElem?_set];by_cases hj:q=j
 . subst hj
   have:=(gI.1 hr).1;obtain⟨_,rfl⟩:=gI.1 hr;simp[this]
 . cases (List.map Prod.snd C)[j]?<;>simp[hj]
theorem Ik{l:List MC}{q:Nat}{z:MC}(h:l[q]?=some z)(f:MC->MC):l.modify q f=l.set q (f z):=by
 apply List.ext_getElem?;intro j;rw[List.getElem?_modify,List.getElem?_set];by_cases hj:q=j
 . subst hj
   have:=(gI.1 h).1;obtain⟨_,rfl⟩:=gI.1 h;simp[this]
 . cases l[j]?<;>simp[hj]
structure Dp(p:MP)(f:MF)(g:MG)(x:MI)(C:List (Value×List MC))(ar:List MC):Prop where
 prog:A4 p 0
 ins:AN p f x
 three:C.length=p.regions.length
 cells:∀(i:Nat) (r:Value×List MC) rt,C[i]?=some r->p.regions[i]?=some rt->r.2.map MC.type=rt
 locals:g.locals.map MC.type=f.params++f.locals
 lwf:∀z∈g.locals,z.wf
 awf:∀z∈ar,z.wf
 alen:ar.length=(Ak p f x).length
theorem Dp.loc{p:MP}{f:MF}{g:MG}{x:MI}{C:List (Value×List MC)}{ar:List MC}(h:Dp p f g x C ar)(e:x.op=2\/x.op=3\/x.op=27):∃(q:Nat) (z:MC),x.a=q/\g.locals[q]?=some z/\z.type=Av f x.a:=by
 obtain⟨q,hq,ht⟩:=h.ins.local e;rw[<-h.locals,List.getElem?_map]at ht;cases hz:g.locals[q]? with
 |none=>rw[hz]at ht;cases ht
 | some z=>
   rw[hz]at ht;exact⟨q,z,hq,hz,Option.some.inj ht⟩
theorem Dp.cell{p:MP}{f:MF}{g:MG}{x:MI}{C:List (Value×List MC)}{ar:List MC}(h:Dp p f g x C ar)(e:x.op=4\/x.op=5\/x.op=6\/x.op=7):∃(q p':Nat) (r:Value×List MC) (rt:List Int),x.a=q/\x.b=p'/\C[q]?=some r/\p.regions[q]?=some rt/\r.2.map MC.type=rt/\rt[p']?=some (Cf p x)/\r.2.length<=256/\C.length=3:=by
 have h3:=h.prog.parts.1.1;obtain⟨q,z,rt,h1,h2,hr,ht⟩:=h.ins.cell h3 e;have hlt:=(gI.1 hr).1;have hc:C[q]?=some (C[q]'(by rw[h.three];exact hlt)):=gE _
 have hm:=h.cells q _ rt hc hr;refine⟨q,z,_,rt,h1,h2,hc,hr,hm,ht,?_,by rw[h.three,h3]⟩;have hR:ER rt:=h.prog.parts.1.2 q hlt rt hr;have:(C[q]'(by rw[h.three];exact hlt)).2.length=rt.length:=by rw[<-hm,List.length_map]
 rw[this];exact hR.1
theorem ET{l:List MC}{ts:List Int}{k:Nat}{t:Int}(hm:l.map MC.type=ts)(ht:ts[k]?=some t):∃z,l[k]?=some z/\z.type=t:=by
 rw[<-hm,List.getElem?_map]at ht;cases hz:l[k]? with
 |none=>rw[hz]at ht;cases ht
 |some z=>rw[hz]at ht;exact⟨z,rfl,Option.some.inj ht⟩
theorem Dp.masked{p:MP}{f:MF}{g:MG}{x:MI}{C:List (Value×List MC)}{ar:List MC}(h:Dp p f g x C ar)(e:x.op=6\/x.op=7):∃(q b0 m0:Nat) (r:Value×List MC),x.a=q/\x.b=b0/\x.c=m0/\m0<256/\C[q]?=some r/\r.2.length<=256/\C.length=3/\∀w0:Nat,∃z,r.2[b0+(w0 &&& m0)]?=some z/\z.type=Cf p x:=by
 obtain⟨q,b0,r,rt,h1,h2,hc,hr,hm,ht,h256,h3⟩:=h.cell (by omega);have hM:=h.ins.mask e;obtain⟨m0,hm0⟩:=Int.eq_ofNat_of_zero_le hM.low;have hhi:=hM.high;refine⟨q,b0,m0,r,h1,h2,hm0,by omega,hc,h256,h3,fun w0=> ?_⟩;have hle:w0 &&& m0<=m0:=Nat.and_le_right;have h4:=hM.one (w0 &&& m0) (by rw[hm0];omega);have hq3:q<=2:=by have:=(gI.1 hc).1;omega
 rw[h1,h2]at h4;rw[<-Int.natCast_add,Dj hq3 hr,Dj hq3 hr]at h4;have hne:=hM.there;rw[h1,h2,Dj hq3 hr]at hne;rw[List.getD_eq_getElem?_getD,List.getD_eq_getElem?_getD,ht]at h4;rw[List.getD_eq_getElem?_getD,ht]at hne
 have h5:rt[b0+(w0 &&& m0)]?=some (Cf p x):=by
  cases e5:rt[b0+(w0 &&& m0)]? with
  |none=>rw[e5]at h4;exact absurd h4.symm hne
  |some z=>rw[e5]at h4;exact congrArg some h4
 exact ET hm h5
theorem DY{z:MC}(h:z.wf):∃w0:Nat,z.word=w0/\w0<=4294967295:=by
 have h1:=h.2;have h2:0<=z.word/\z.word<=4294967295:=by simpa[Ka,Lit.wf,IntKind.min,IntKind.max,IntKind.signed,IntKind.bits]using h1
 obtain⟨w0,hw⟩:=Int.eq_ofNat_of_zero_le h2.1;exact⟨w0,hw,by omega⟩
theorem CO{ar:List MC}(h:ar.length=2):∃z0 z1,ar=[z0,z1]:=by
 match ar,h with
 |[a,b],_=>exact⟨a,b,rfl⟩
theorem CX{ar:List MC}(h:ar.length=1):∃z0,ar=[z0]:=by
 match ar,h with
 |[a],_=>exact⟨a,rfl⟩
set_option maxHeartbeats 8000000 in
theorem Nk(v:VP)(p:MP)(f:MF)(x:MI)(t c n:Int)(X:VS)(C:List (Value×List MC))(K:List MC)(F0:List (MG×Value))(B top:Nat)(y0:MG×Value)(aa:Option Addr)(ca:Nat)(ar:List MC)(w:World)(hB:B<=w.heap.size)(h:Ah w B X C K (F0.set top ({y0.1 with at_:=y0.1.at_+1},y0.2)))(hF:F0.length=top+1)(hF1:top<=1048576)(hy:F0[top]?=some y0)(hk:Dp p f y0.1 x C ar)(h28:x.op≠28)(h29:x.op≠29)(hK:K.length<=1048576)(hlo:y0.1.locals.length<=1048576)(hP:∀u,Below B w u->Rd u 2 v.k p.consts.length (p.consts.flatMap MC.cells))(hcs:p.consts.length<=1048576)
 (har:w.ownsRow B 128 2 (.slice aa ar.length ca) ar.length (ar.flatMap MC.cells)) (hap:∀r∈C++[(X.k,K)]++AL (F0.set top ({y0.1 with at_:=y0.1.at_+1},y0.2)),∀g,(Value.slice aa ar.length ca).ownBlock=some g->some g≠r.1.ownBlock):
 Calls Tryz.prog 79 #[.agg #[v.r,v.k,v.f,v.t],.agg #[.int .i64 t,.bool false,.int .i64 c,.int .i64 n,X.c,X.k,X.f],.agg #[.int .i64 x.op,.int .i64 x.a,.int .i64 x.b,.int .i64 x.c],.slice aa ar.length ca] w fun e w'=>∃C2 K2 F2,Dl w B t c n C2 K2 F2 e w'/\Ao t false c n C2 K2 F2=CF p f y0.1 (Ao t false c n C (K++ar) F0) x:=by
 generalize hFe:F0.set top ({y0.1 with at_:=y0.1.at_+1},y0.2)=F at h hap;have hFl:F.length=top+1:=by rw[<-hFe,List.length_set,hF]
 have hyF:F[top]?=some ({y0.1 with at_:=y0.1.at_+1},y0.2):=by rw[<-hFe,List.getElem?_set_self (by omega)]
 have e1:(Ao t false c n C (K++ar) F0).stack.drop ((Ao t false c n C (K++ar) F0).stack.length-(Ak p f x).length)=ar:=by
  rw[<-hk.alen];simp only[Ao,List.length_append,Nat.add_sub_cancel];exact List.drop_left
 have e2:(Ao t false c n C (K++ar) F0).stack.take ((Ao t false c n C (K++ar) F0).stack.length-(Ak p f x).length)=K:=by
  rw[<-hk.alen];simp only[Ao,List.length_append,Nat.add_sub_cancel];exact List.take_left
 have e3:CV (Ao t false c n C (K++ar) F0).frames (fun h=>{h with at_:=y0.1.at_+1})=F.map Prod.fst:=by
  rw[<-hFe];exact BZ hF hy _
 have hlo':=hk.ins.1;have hhi:=hk.ins.2.1;have hcase:x.op=0\/x.op=1\/x.op=2\/x.op=3\/x.op=4\/x.op=5\/x.op=6\/x.op=7\/x.op=20\/x.op=21\/x.op=22\/x.op=23\/x.op=24\/x.op=25\/x.op=26\/x.op=27\/(x.op=8\/x.op=9\/x.op=10\/x.op=11\/x.op=12\/x.op=13\/x.op=14\/x.op=15\/x.op=17\/x.op=18)\/x.op=16\/x.op=19:=by omega
 have hap1:∀g,(Value.slice aa ar.length ca).ownBlock=some g->some g≠X.k.ownBlock:=fun g hg=>hap (X.k,K) (by simp) g hg
 rcases hcase with hop|hop|hop|hop|hop|hop|hop|hop|hop|hop|hop|hop|hop|hop|hop|hop|(hop|hop|hop|hop|hop|hop|hop|hop|hop|hop)|hop|hop
 . rw[hop]
   refine(PF v t c n X x.a x.b x.c C K F B top _ aa ca ar w hB h hFl hF1 hyF).mono ?_;intro e w' hr;refine⟨_,_,_,hr,?_⟩;simp only[CF,e1,e2,e3,hop];simp[Ao]
 . rw[hop]
   obtain⟨q,z,hq,hz⟩:=hk.ins.const hop;obtain⟨gk,ok,ck,ek,hcell⟩:=Qg hP hz;have hql:=(gI.1 hz).1;refine(PV v t c n X x.a x.b x.c C K F B top _ aa ca ar w hB h hFl hF1 hyF hK q p.consts.length z _ ck hq ek hql hcs gk ok rfl hcell).mono ?_;intro e w' hr;refine⟨_,_,_,hr,?_⟩;simp only[CF,e1,e2,e3,hop];simp[Ao,Cn,hq,hz]
 . rw[hop]
   obtain⟨q,z,hq,hz,_⟩:=hk.loc (by omega);refine(PI v t c n X x.a x.b x.c C K F B top _ aa ca ar w hB h hFl hF1 hyF hK q z hq hz hlo).mono ?_;intro e w' hr;refine⟨_,_,_,hr,?_⟩;simp only[CF,e1,e2,e3,hop];simp[Ao,Cn,hq,hz]
 . rw[hop]
   have al:ar.length=1:=by rw[hk.alen];simp[Ak,hop]
   obtain⟨z0,hz0⟩:=CX al;have ha0:ar[0]?=some z0:=by rw[hz0];rfl
   obtain⟨q,z,hq,hz,_⟩:=hk.loc (by omega);refine(Py v t c n X x.a x.b x.c C K F B top _ aa ca ar w hB h hFl hF1 hyF q z hq hz hlo har z0 ha0 hap (by omega)).mono ?_;intro e w' hr;refine⟨_,_,_,hr,?_⟩;simp only[CF,e1,e2,e3,hop];simp[Ao,Cn,hz0,hq,BZ hFl hyF]
 . rw[hop]
   obtain⟨q,i,r,rt,hq,hi,hr,hrt,hm,ht,h256,h3⟩:=hk.cell (by omega);obtain⟨z,hz,_⟩:=ET hm ht;refine(PD v t c n X x.a x.b x.c C K F B top _ aa ca ar w hB h hFl hF1 hyF hK q i r z hq hi hr hz (by omega) (by omega)).mono ?_;intro e w' hr';refine⟨_,_,_,hr',?_⟩;simp only[CF,e1,e2,e3,hop];simp[Ao,cellAt,Cn,hq,hi,hr,hz]
 . rw[hop]
   have al:ar.length=1:=by rw[hk.alen];simp[Ak,hop]
   obtain⟨z0,hz0⟩:=CX al;have ha0:ar[0]?=some z0:=by rw[hz0];rfl
   obtain⟨q,i,r,rt,hq,hi,hr,hrt,hm,ht,h256,h3⟩:=hk.cell (by omega);obtain⟨z,hz,_⟩:=ET hm ht;refine(PJ v t c n X x.a x.b x.c C K F B top _ aa ca ar w hB h hFl hF1 hyF q i r z hq hi hr hz (by omega) (by omega) har z0 ha0 hap (by omega)).mono ?_;intro e w' hr';refine⟨_,_,_,hr',?_⟩;simp only[CF,e1,e2,e3,hop];simp[Ao,Cn,hz0,hq,hi,EX hr]
 . rw[hop]
   have al:ar.length=1:=by rw[hk.alen];simp[Ak,hop]
   obtain⟨z0,hz0⟩:=CX al;have ha0:ar[0]?=some z0:=by rw[hz0];rfl
   obtain⟨q,b0,m0,r,hq,hb0,hm0,hm,hr,h256,h3,hall⟩:=hk.masked (by omega);obtain⟨w0,hw0,hw0'⟩:=DY (hk.awf z0 (by rw[hz0];simp));obtain⟨z,hz,_⟩:=hall w0;refine(Pr v t c n X x.a x.b x.c C K F B top _ aa ca ar w hB h hFl hF1 hyF z0 hK q b0 m0 w0 _ r z hq hb0 hm0 hr hz (by omega) (by omega) hw0 rfl hw0' (by omega) har ha0 hap1 (by omega)).mono ?_;intro e w' hr';refine⟨_,_,_,hr',?_⟩;simp only[CF,e1,e2,e3,hop];simp[Ao,cellAt,Cn,hz0,hq,hb0,hm0,hw0,hr,hz]
 . rw[hop]
   have al:ar.length=2:=by rw[hk.alen];simp[Ak,hop]
   obtain⟨z0,z1,hz0⟩:=CO al;have ha0:ar[0]?=some z0:=by rw[hz0];rfl
   have ha1:ar[1]?=some z1:=by rw[hz0];rfl
   obtain⟨q,b0,m0,r,hq,hb0,hm0,hm,hr,h256,h3,hall⟩:=hk.masked (by omega);obtain⟨w0,hw0,hw0'⟩:=DY (hk.awf z0 (by rw[hz0];simp));obtain⟨z,hz,_⟩:=hall w0;refine(Pw v t c n X x.a x.b x.c C K F B top _ aa ca ar w hB h hFl hF1 hyF z0 q b0 m0 w0 _ z1 ha1 r z hq hb0 hm0 hr hz (by omega) (by omega) hw0 rfl hw0' (by omega) har ha0 hap (by omega)).mono ?_;intro e w' hr';refine⟨_,_,_,hr',?_⟩;simp only[CF,e1,e2,e3,hop];simp[Ao,Cn,hz0,hq,hb0,hm0,hw0,EX hr]
 . rw[hop]
   have al:ar.length=2:=by rw[hk.alen];simp[Ak,hop]
   obtain⟨z0,z1,hz0⟩:=CO al;have ha0:ar[0]?=some z0:=by rw[hz0];rfl
   have ha1:ar[1]?=some z1:=by rw[hz0];rfl
   obtain⟨w1,hw1,hw1'⟩:=DY (hk.awf z1 (by rw[hz0];simp));refine(Pf v t c n X x.a x.b x.c C K F B top _ aa ca ar w hB h hFl hF1 hyF hK al z1 ha1 (by omega) (by omega) har z0 ha0 hap1 (by omega)).mono ?_;intro e w' hr;refine⟨_,_,_,hr,?_⟩;simp only[CF,e1,e2,e3,hop];simp[Ao,Cn,hz0]
 . rw[hop]
   have al:ar.length=2:=by rw[hk.alen];simp[Ak,hop]
   obtain⟨z0,z1,hz0⟩:=CO al;have ha0:ar[0]?=some z0:=by rw[hz0];rfl
   have ha1:ar[1]?=some z1:=by rw[hz0];rfl
   obtain⟨w1,hw1,hw1'⟩:=DY (hk.awf z1 (by rw[hz0];simp));refine(MR v t c n X x.a x.b x.c C K F B top _ aa ca ar w hB h hFl hF1 hyF hK al z1 ha1 (by omega) (by omega) har z0 ha0 hap1 (by omega)).mono ?_;intro e w' hr;refine⟨_,_,_,hr,?_⟩;simp only[CF,e1,e2,e3,hop];simp[Ao,Cn,hz0]
 . rw[hop]
   have al:ar.length=1:=by rw[hk.alen];simp[Ak,hop]
   obtain⟨z0,hz0⟩:=CX al;have ha0:ar[0]?=some z0:=by rw[hz0];rfl
   refine(Oy v t c n X x.a x.b x.c C K F B top _ aa ca ar w hB h hFl hF1 hyF hK har z0 ha0 hap1 (by omega)).mono ?_;intro e w' hr;refine⟨_,_,_,hr,?_⟩;simp only[CF,e1,e2,e3,hop];simp[Ao,Cn,hz0]
 . rw[hop]
   have al:ar.length=1:=by rw[hk.alen];simp[Ak,hop]
   obtain⟨z0,hz0⟩:=CX al;have ha0:ar[0]?=some z0:=by rw[hz0];rfl
   refine(ON v t c n X x.a x.b x.c C K F B top _ aa ca ar w hB h hFl hF1 hyF hK har z0 ha0 hap1 (by omega)).mono ?_;intro e w' hr;refine⟨_,_,_,hr,?_⟩;simp only[CF,e1,e2,e3,hop];simp[Ao,Cn,hz0]
 . rw[hop]
   refine(OG v t c n X x.a x.b x.c C K F B top _ aa ca ar w hB h hFl hF1 hyF).mono ?_;intro e w' hr;refine⟨_,_,_,hr,?_⟩;simp only[CF,e1,e2,e3,hop];simp[Ao]
 . rw[hop]
   refine(Ou v t c n X x.a x.b x.c C K F B top _ aa ca ar w hB h hFl hF1 hyF).mono ?_;intro e w' hr;refine⟨_,_,_,hr,?_⟩;simp only[CF,e1,e2,e3,hop];simp[Ao,BZ hFl hyF]
 . rw[hop]
   have al:ar.length=1:=by rw[hk.alen];simp[Ak,hop]
   obtain⟨z0,hz0⟩:=CX al;have ha0:ar[0]?=some z0:=by rw[hz0];rfl
   refine(OK v t c n X x.a x.b x.c C K F B top _ aa ca ar w hB h hFl hF1 hyF har z0 ha0).mono ?_;intro e w' hr;refine⟨_,_,_,hr,?_⟩;simp only[CF,e1,e2,e3,hop];by_cases hz:z0.word=0
   . simp[Ao,Cn,hz0,hz,BZ hFl hyF]
   . simp[Ao,Cn,hz0,hz]
 . rw[hop]
   obtain⟨q,z,hq,hz,_⟩:=hk.loc (by omega);obtain⟨w0,hw0,hw0'⟩:=DY (hk.lwf z (mG hz));refine(Oi v t c n X x.a x.b x.c C K F B top _ aa ca ar w hB h hFl hF1 hyF q z hq hz hlo (by omega) (by omega)).mono ?_;intro e w' hr;refine⟨_,_,_,hr,?_⟩;simp only[CF,e1,e2,e3,hop];by_cases hz0:z.word=0
   . simp[Ao,Cn,hq,hz,hz0,BZ hFl hyF]
   . simp[Ao,Cn,hq,hz,hz0,BZ hFl hyF,Ik hz]
 all_goals
  first
   | (rw[hop]
      have al:ar.length=2:=by rw[hk.alen];simp[Ak,hop]
      obtain⟨z0,z1,hz0⟩:=CO al;have ha0:ar[0]?=some z0:=by rw[hz0];rfl
      have ha1:ar[1]?=some z1:=by rw[hz0];rfl
      obtain⟨w1,hw1,hw1'⟩:=DY (hk.awf z1 (by rw[hz0];simp));refine(L0 v t c n X x.a x.b x.c C K F B top _ aa ca ar w hB h hFl hF1 hyF _ (by omega) hK al z1 ha1 (by omega) (by omega) har z0 ha0 hap1 (by omega)).mono ?_;intro e w' hr;refine⟨_,_,_,hr,?_⟩;simp only[CF,e1,e2,e3,hop];simp[Ao,Cn,hz0])
   | (rw[hop]
      have al:ar.length=1:=by rw[hk.alen];simp[Ak,hop]
      obtain⟨z0,hz0⟩:=CX al;have ha0:ar[0]?=some z0:=by rw[hz0];rfl
      refine(L4 v t c n X x.a x.b x.c C K F B top _ aa ca ar w hB h hFl hF1 hyF _ (by omega) hK al har z0 ha0 hap1 (by omega)).mono ?_;intro e w' hr;refine⟨_,_,_,hr,?_⟩;simp only[CF,e1,e2,e3,hop];simp[Ao,Cn,hz0])
theorem PR(v:VP)(p:MP)(f:MF)(x:MI)(t c n:Int)(X:VS)(C:List (Value×List MC))(K:List MC)(F0:List (MG×Value))(B top:Nat)(y0:MG×Value)(aa:Option Addr)(ca:Nat)(ar:List MC)(m:Nat)(hm:ar.length=m)(w:World)(hB:B<=w.heap.size)(h:Ah w B X C K (F0.set top ({y0.1 with at_:=y0.1.at_+1},y0.2)))(hF:F0.length=top+1)(hF1:top<=1048576)(hy:F0[top]?=some y0)(hk:Dp p f y0.1 x C ar)(h28:x.op≠28)(h29:x.op≠29)(hK:K.length<=1048576)(hlo:y0.1.locals.length<=1048576)(hP:∀u,Below B w u->Rd u 2 v.k p.consts.length (p.consts.flatMap MC.cells))(hcs:p.consts.length<=1048576)
 (har:w.ownsRow B 128 2 (.slice aa m ca) m (ar.flatMap MC.cells)) (hap:∀r∈C++[(X.k,K)]++AL (F0.set top ({y0.1 with at_:=y0.1.at_+1},y0.2)),∀g,(Value.slice aa m ca).ownBlock=some g->some g≠r.1.ownBlock):
 Calls Tryz.prog 79 #[.agg #[v.r,v.k,v.f,v.t],.agg #[.int .i64 t,.bool false,.int .i64 c,.int .i64 n,X.c,X.k,X.f],.agg #[.int .i64 x.op,.int .i64 x.a,.int .i64 x.b,.int .i64 x.c],.slice aa m ca] w fun e w'=>∃C2 K2 F2,Dl w B t c n C2 K2 F2 e w'/\Ao t false c n C2 K2 F2=CF p f y0.1 (Ao t false c n C (K++ar) F0) x:=by
 subst hm;exact Nk v p f x t c n X C K F0 B top y0 aa ca ar w hB h hF hF1 hy hk h28 h29 hK hlo hP hcs har hap
end Go.Proofs.YtlejplpkomddeaaGreat
