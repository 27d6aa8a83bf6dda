import Derived.Test.YtjcamlobelcepaaGreatDoorCt26
import Derived.Test.YtjcamlobelcepaaGreatDoorCt28
namespace Go.Proofs.YtjcamlobelcepaaGreatDoor
open Go.ChangeShapes Go.WideShapes Go.ChangeAt Go.RowKit
set_option linter.unusedVariables false
set_option maxHeartbeats 8000000
set_option maxRecDepth 100000
theorem C5{w u:World}(hb:Below w.heap.size w u){a:Addr}{x:Value}(h:w.cell? a=some x):u.cell? a=some x:=by rw[hb.cell (aD h)];exact h
theorem Gt{w:World}{base g k n:Nat}{e t:TypeId}{s:Value}{xs:List Value}{cur:Array Value}{fr:Nat×Nat}(h:w.ownsRow base e k s n xs)(hg:w.heap[g]?=some (Obj.cells cur t fr))(hne:e≠t):∀j,s.ownBlock=some j->j≠g:=by
 intro j hj e1;subst e1;rcases h.2 with⟨rfl,_⟩|⟨g',cap',cur',rfl,_,hg',_⟩
 . cases hj
 . simp only[Value.ownBlock,aM]at hj
   subst hj;rw[hg]at hg';simp only[aM,cD]at hg';exact hne hg'.2.1.symm
structure Rs(w u:World)(v:VP)(g:VF)(f fq:MF)(q b c:Int)(X Y:Nat)(tv gv:Value):Prop where
 in4:Ki w u v g f 28 q b c
 fb:u.cell? ⟨X,1,none⟩=some (.int .i64 fq.result)
 eb:Ap u Y #[tv,gv] 237
 own:u.ownsRow w.heap.size 2 1 tv fq.params.length (fq.params.flatMap Ac)
 yR:w.heap.size+1+1+1<Y
 XY:X<Y
theorem Rs.done{w u:World}{v:VP}{g:VF}{f fq:MF}{q b c:Int}{X Y:Nat}{tv gv:Value}(h:Rs w u v g f fq q b c X Y tv gv)(gs:List Int)(ho:u.ownsRow w.heap.size 2 1 gv gs.length (gs.flatMap Ac)):
 Dn w fq.params gs (.returned (.agg #[tv,gv])) ((u.setCell ⟨w.heap.size+1+1+1,0,none⟩ tv).setCell ⟨w.heap.size+1+1+1,1,none⟩ gv)/\((u.setCell ⟨w.heap.size+1+1+1,0,none⟩ tv).setCell ⟨w.heap.size+1+1+1,1,none⟩ gv).cell? ⟨w.heap.size+1+1+1,0,none⟩=some tv/\((u.setCell ⟨w.heap.size+1+1+1,0,none⟩ tv).setCell ⟨w.heap.size+1+1+1,1,none⟩ gv).cell? ⟨w.heap.size+1+1+1,1,none⟩=some gv:=by
 have R1:=h.in4.rb.set 0 tv;have R2:=R1.set 1 gv;have q0:=R2.cell 0;have q1:=R2.cell 1;simp only[aY,au,aw,aQ,aJ,aL]at q0 q1
 have keep:∀{s:Value} {m:Nat} {xs:List Value},u.ownsRow w.heap.size 2 1 s m xs->((u.setCell ⟨w.heap.size+1+1+1,0,none⟩ tv).setCell ⟨w.heap.size+1+1+1,1,none⟩ gv).ownsRow w.heap.size 2 1 s m xs:=fun hs=>by
  have h1:=aN hs (a:=⟨w.heap.size+1+1+1,0,none⟩) (fun e=>Gt hs h.in4.rb (by decide) _ e rfl) tv;exact aN h1 (a:=⟨w.heap.size+1+1+1,1,none⟩) (fun e=>Gt h1 R1 (by decide) _ e rfl) gv
 exact⟨⟨_,_,rfl,Rd.of_own (keep h.own),Rd.of_own (keep ho),(h.in4.in3.bel.setCell (by simp only[];omega) _).setCell (by simp only[];omega) _⟩,q0,q1⟩
theorem Rs.res{w u:World}{v:VP}{g:VF}{f fq:MF}{q b c:Int}{X Y:Nat}{tv:Value}(h:Rs w u v g f fq q b c X Y tv (.slice none 0 0)):
 Rs w ((u.setCell ⟨Y,1,none⟩ (.slice (some ⟨u.heap.size,0,none⟩) 1 1)).alloc (.cells #[.int .i64 fq.result] 2)) v g f fq q b c X Y tv (.slice (some ⟨u.heap.size,0,none⟩) 1 1)/\((u.setCell ⟨Y,1,none⟩ (.slice (some ⟨u.heap.size,0,none⟩) 1 1)).alloc (.cells #[.int .i64 fq.result] 2)).ownsRow w.heap.size 2 1 (.slice (some ⟨u.heap.size,0,none⟩) 1 1) 1 ([fq.result].flatMap Ac):=by
 have hYR:=h.yR;have hXY:=h.XY;have R1:=h.eb.set 1 (.slice (some ⟨u.heap.size,0,none⟩) 1 1);have o1:=aN h.own (a:=⟨Y,1,none⟩) (fun e=>Gt h.own h.eb (by decide) _ e rfl) (.slice (some ⟨u.heap.size,0,none⟩) 1 1)
 have f1:(u.setCell ⟨Y,1,none⟩ (.slice (some ⟨u.heap.size,0,none⟩) 1 1)).cell? ⟨X,1,none⟩=some (.int .i64 fq.result):=by
  rw[ce (bI u ⟨Y,1,none⟩ _ _ (by simp only[];omega))];exact h.fb
 have i1:Ki w (u.setCell ⟨Y,1,none⟩ (.slice (some ⟨u.heap.size,0,none⟩) 1 1)) v g f 28 q b c:=by
  have oc:∀{b' i:Nat} {x:Value},b'<w.heap.size+1+1+1->u.cell? ⟨b',i,none⟩=some x->(u.setCell ⟨Y,1,none⟩ (.slice (some ⟨u.heap.size,0,none⟩) 1 1)).cell? ⟨b',i,none⟩=some x:=fun hb hx=>by
   rw[ce (bI u ⟨Y,1,none⟩ _ _ (by simp only[];omega))];exact hx
  have A:=h.in4.in3;exact⟨⟨A.bel.setCell (by simp only[];omega) _,⟨oc (by omega) A.prog.c0,oc (by omega) A.prog.c1,oc (by omega) A.prog.c2,oc (by omega) A.prog.c3⟩,⟨oc (by omega) A.func.c0,oc (by omega) A.func.c1,oc (by omega) A.func.c2,oc (by omega) A.func.c3⟩,⟨oc (by omega) A.ins.c0,oc (by omega) A.ins.c1,oc (by omega) A.ins.c2,oc (by omega) A.ins.c3⟩⟩,h.in4.rb.other (by simp only[];omega) _⟩
 have z1:(u.setCell ⟨Y,1,none⟩ (.slice (some ⟨u.heap.size,0,none⟩) 1 1)).heap.size=u.heap.size:=bf _ _ _;generalize u.setCell ⟨Y,1,none⟩ (.slice (some ⟨u.heap.size,0,none⟩) 1 1)=u1 at R1 o1 f1 i1 z1⊢;have b1:=Aa u1 (.cells #[.int .i64 fq.result] 2);have n1:=Ap.new u1 #[.int .i64 fq.result] 2;rw[z1]at n1;have hB:=i1.in3.bel.size;exact⟨⟨i1.keep b1,C5 b1 f1,R1.keep b1,Ah o1 b1 lR,hYR,hXY⟩,⟨rfl,.inr ⟨u.heap.size,1,_,rfl,by omega,n1,Nat.le_refl _,by unfold maxLen;omega,rfl,rfl⟩⟩⟩
theorem RZ(vr vk vt gp gl gc:Value)(f:MF)(fs:List MF)(af:Option Addr)(cf q:Nat)(fq:MF)(b c:Int)(w:World)(hn:fs.length<=1048576)(hm:fq.small)(hf:Jd w (.slice af fs.length cf) fs)(hq:fs[q]?=some fq):
 Calls Tryz.prog 146 #[.agg #[vr,vk,.slice af fs.length cf,vt],.agg #[gp,.int .i64 f.result,gl,gc],.agg #[.int .i64 28,.int .i64 q,.int .i64 b,.int .i64 c]] w (Dn w fq.params (BJ fq)):=by
 obtain⟨i0,hi,hy0,hy1,hy2⟩:=bJ CF;obtain⟨xs,h1,h2,h3⟩:=hf;have hlt:=(aE.1 hq).1;obtain⟨⟨f',y⟩,hx⟩:∃x,xs[q]?=some x:=⟨_,aA (by rw[<-bB (f:=Prod.fst),h1];exact hlt)⟩;have e2:=BG h1 hx;rw[hq]at e2;obtain rfl:fq=f':=aZ e2;have hy:=h3 _ (aF hx);simp only[]at hy;rcases h2.2 with⟨e0,_⟩|⟨g,o,c',e1,hc⟩
 . omega
 simp only[aI,ao]at e1;obtain⟨rfl,rfl⟩:=e1;have k1:=Rd.elem Ag hc q _ hx 0 _ rfl;have k2:=Rd.elem Ag hc q _ hx 1 _ rfl;have k3:=Rd.elem Ag hc q _ hx 2 _ rfl;have k4:=Rd.elem Ag hc q _ hx 3 _ rfl;rw[aT]at k1;obtain⟨yp,yl,yc⟩:=y;simp only[]at k1 k2 k3 k4;obtain⟨ap,cp,rfl⟩:∃a c,yp=.slice a fq.params.length c:=hy.1.is_slice;obtain⟨al,cl,rfl⟩:∃a c,yl=.slice a fq.locals.length c:=hy.2.1.is_slice;obtain⟨ac,cc,rfl⟩:∃a c,yc=.slice a fq.code.length c:=hy.2.2.is_slice;have HK:Hid (w.cell? ⟨g,o+q*4,none⟩=some (.slice ap fq.params.length cp)/\w.cell? ⟨g,o+q*4+1,none⟩=some (.int .i64 fq.result)/\w.cell? ⟨g,o+q*4+2,none⟩=some (.slice al fq.locals.length cl)/\w.cell? ⟨g,o+q*4+3,none⟩=some (.slice ac fq.code.length cc)/\Rd w 1 (.slice ap fq.params.length cp) fq.params.length (fq.params.flatMap Ac)/\fq.params.length<=1048576):=⟨k1,k2,k3,k4,hy.1,hm.1⟩
 clear hc k1 k2 k3 k4 hq h2 h3 hy hx e2 h1 hm;generalize fs.length=n at hlt hn⊢;have hltI:(q:Int)<(n:Int):=by omega
 have E0:Hid _:=Ki.of w ⟨vr,vk,.slice (some ⟨g,o,none⟩) n cf,vt⟩ ⟨gp,gl,gc⟩ f 28 q b c;have hS:Hid (∀w,Calls Tryz.prog 121 #[.int .i64 28] w fun e w'=>e=.returned (.agg #[.string ⟨#[99,97,108,108]⟩,.int .i64 4,.int .i64 11])/\Below w.heap.size w w'):=fun w=>Cr 28 w
 have hfl:=Cw;go_enter Tryz.func146,Tryz.ntmps146;go_wp2_with fail
 refine(hS.o _).mono ?_;rintro e u1 ⟨rfl,b1⟩;have E1:Hid _:=E0.o.keep b1;clear E0 b1 hS;have x0:=E1.o.in3.ins.c0;have x1:=E1.o.in3.ins.c1;have x2:=E1.o.in3.ins.c2;have p2:=E1.o.in3.prog.c2;have k1:u1.cell? ⟨g,o+q*4,none⟩=some (.slice ap fq.params.length cp):=C5 E1.o.in3.bel HK.o.1;have k2:u1.cell? ⟨g,o+q*4+1,none⟩=some (.int .i64 fq.result):=C5 E1.o.in3.bel HK.o.2.1;have k3:u1.cell? ⟨g,o+q*4+2,none⟩=some (.slice al fq.locals.length cl):=C5 E1.o.in3.bel HK.o.2.2.1;have k4:u1.cell? ⟨g,o+q*4+3,none⟩=some (.slice ac fq.code.length cc):=C5 E1.o.in3.bel HK.o.2.2.2.1;generalize hNP:fq.params.length=np at k1 HK;generalize fq.locals.length=nl at k3 HK;generalize fq.code.length=nc at k4 HK;have HNP:Hid (fq.params.length=np):=hNP;clear hNP;have lt1:w.heap.size+1+1+1<u1.heap.size:=E1.o.rb.lt;have ne1:¬w.heap.size+1+1+1=u1.heap.size:=by omega
 have F1:Hid (Ap (u1.alloc (.cells #[.slice ap np cp,.int .i64 fq.result,.slice al nl cl,.slice ac nc cc] 58)) u1.heap.size #[.slice ap np cp,.int .i64 fq.result,.slice al nl cl,.slice ac nc cc] 58/\Below u1.heap.size u1 (u1.alloc (.cells #[.slice ap np cp,.int .i64 fq.result,.slice al nl cl,.slice ac nc cc] 58))):=⟨Ap.new _ _ _,Aa _ _⟩
 have F2:Hid (True/\Below u1.heap.size u1 ((u1.alloc (.cells #[.slice ap np cp,.int .i64 fq.result,.slice al nl cl,.slice ac nc cc] 58)).alloc (.cells #[] 2))/\((u1.alloc (.cells #[.slice ap np cp,.int .i64 fq.result,.slice al nl cl,.slice ac nc cc] 58)).alloc (.cells #[] 2)).ownsRow w.heap.size 2 1 (.slice (some ⟨u1.heap.size+1,0,none⟩) 0 0) 0 []):=by
  have n2:=Ap.new (u1.alloc (.cells #[.slice ap np cp,.int .i64 fq.result,.slice al nl cl,.slice ac nc cc] 58)) #[] 2;rw[show(u1.alloc (.cells #[.slice ap np cp,.int .i64 fq.result,.slice al nl cl,.slice ac nc cc] 58)).heap.size=u1.heap.size+1 by simp]at n2;exact⟨trivial,Ab F1.o.2 lR (Aa _ _),⟨rfl,.inr ⟨u1.heap.size+1,0,#[],rfl,by omega,n2,Nat.le_refl _,cU _,rfl,by simp⟩⟩⟩
 cases ap with
 | none=>
   have hz:np=0:=by
    rcases HK.o.2.2.2.2.1.2 with⟨e0,_⟩|⟨g',o',c'',e1,_⟩
    . exact e0
    . cases e1
   subst hz;go_upto_region 21 with fail
   refine An (fun u=>Hid (Rs w u ⟨vr,vk,.slice (some ⟨g,o,none⟩) n cf,vt⟩ ⟨gp,gl,gc⟩ f fq q b c u1.heap.size (u1.heap.size+1+1) (.slice (some ⟨u1.heap.size+1,0,none⟩) 0 0) (.slice none 0 0))) ?_ ?_
   . have b5:=Aa ((u1.alloc (.cells #[.slice none 0 cp,.int .i64 fq.result,.slice al nl cl,.slice ac nc cc] 58)).alloc (.cells #[] 2)) (.cells #[.slice (some ⟨u1.heap.size+1,0,none⟩) 0 0,.slice none 0 0] 237)
     have n5:=Ap.new ((u1.alloc (.cells #[.slice none 0 cp,.int .i64 fq.result,.slice al nl cl,.slice ac nc cc] 58)).alloc (.cells #[] 2)) #[.slice (some ⟨u1.heap.size+1,0,none⟩) 0 0,.slice none 0 0] 237;rw[show((u1.alloc (.cells #[.slice none 0 cp,.int .i64 fq.result,.slice al nl cl,.slice ac nc cc] 58)).alloc (.cells #[] 2)).heap.size=u1.heap.size+1+1 by simp]at n5;exact⟨(E1.o.keep F2.o.2.1).keep b5,C5 b5 (C5 (Aa _ _) (F1.o.1.cell 1)),n5,by rw[HNP.o,bx HNP.o];exact Ah F2.o.2.2 b5 lR,by omega,by omega⟩
   rintro u5 HC;have hy0':=HC.o.eb.cell 0;have hy1':=HC.o.eb.cell 1;have hz1':=HC.o.eb.frozen 1;have fb:=HC.o.fb;have yR:=HC.o.yR;have XY:=HC.o.XY;have neY:¬w.heap.size+1+1+1=(u1.heap.size+1+1):=by omega
   have neY':¬(u1.heap.size+1+1)=w.heap.size+1+1+1:=by omega
   simp only[aQ,aJ,aL]at hy0' hy1';by_cases hr:fq.result=0
   . have HR:Hid (BJ fq=[]):=bj hr
     have hr':(fq.result != 0)=false:=by simpa using hr
     have hr2:(fq.result==0)=true:=by simpa using hr
     have r0:=HC.o.in4.rb.cell 0;have r1:=HC.o.in4.rb.cell 1;have z0:=HC.o.in4.rb.frozen 0;have z1:=HC.o.in4.rb.frozen 1;simp only[aQ,aJ,aL]at r0 r1;go_wp2_with fail
     rw[HR.o];obtain⟨he,q0,q1⟩:=HC.o.done [] (bq _ _ _ _);exact aW (by simp[results,Tryz.results146,go_sem,q0,q1]) rfl he
   . have HR:Hid (BJ fq=[fq.result]):=bX hr
     have hr':(fq.result != 0)=true:=by simpa using hr
     have hr2:(fq.result==0)=false:=by simpa using hr
     have neU:¬(u1.heap.size+1+1)=u5.heap.size:=by have:=HC.o.eb.lt;omega
     have ltU:(u1.heap.size+1+1)<u5.heap.size:=HC.o.eb.lt;go_upto_region 23 with fail
     refine An (fun u=>Hid (Rs w u ⟨vr,vk,.slice (some ⟨g,o,none⟩) n cf,vt⟩ ⟨gp,gl,gc⟩ f fq q b c u1.heap.size (u1.heap.size+1+1) (.slice (some ⟨u1.heap.size+1,0,none⟩) 0 0) (.slice (some ⟨u5.heap.size,0,none⟩) 1 1)/\u.ownsRow w.heap.size 2 1 (.slice (some ⟨u5.heap.size,0,none⟩) 1 1) 1 ([fq.result].flatMap Ac))) (HC.o.res) ?_
     rintro u6 HC6;clear hy0' hy1' hz1' fb;have hy0':=HC6.o.1.eb.cell 0;have hy1':=HC6.o.1.eb.cell 1;have r0:=HC6.o.1.in4.rb.cell 0;have r1:=HC6.o.1.in4.rb.cell 1;have z0:=HC6.o.1.in4.rb.frozen 0;have z1:=HC6.o.1.in4.rb.frozen 1;simp only[aQ,aJ,aL]at hy0' hy1' r0 r1;go_wp2_with fail
     rw[HR.o];obtain⟨he,q0,q1⟩:=HC6.o.1.done [fq.result] HC6.o.2;exact aW (by simp[results,Tryz.results146,go_sem,q0,q1]) rfl he
 | some ad=>
   have HO:Hid (((u1.alloc (.cells #[.slice (some ad) np cp,.int .i64 fq.result,.slice al nl cl,.slice ac nc cc] 58)).alloc (.cells #[] 2)).ownsRow w.heap.size 2 1 (.slice (some ⟨u1.heap.size+1,0,none⟩) 0 0) 0 []):=F2.o.2.2
   have HN:Hid (∀j u,(fq.params.flatMap Ac)[j]?=some u->((u1.alloc (.cells #[.slice (some ad) np cp,.int .i64 fq.result,.slice al nl cl,.slice ac nc cc] 58)).alloc (.cells #[] 2)).cell? (ad.add j)=some u):=fun j u hj=>by
    rcases HK.o.2.2.2.2.1.2 with⟨e0,_⟩|⟨g',o',c'',e1,hc'⟩
    . have hl:(fq.params.flatMap Ac).length=0:=by rw[Aq Ac 1 Al,HNP.o,e0]
      rw[bx hl]at hj;simp at hj
    . simp only[aI,aM]at e1
      obtain⟨rfl,_,_⟩:=e1;have:=hc' j u hj;rw[Ds];exact C5 F2.o.2.1 (C5 E1.o.in3.bel this)
   have HL:Hid ((fq.params.flatMap Ac).length=np*1/\np<=1048576):=⟨by rw[Aq Ac 1 Al,HNP.o],HK.o.2.2.2.2.2⟩
   go_wp2_with (at_builtin;refine wpList_append_own _ rfl _ _ 47 rfl w.heap.size 2 i0 (.int .i64 0) 1 8 Tryz.underlying47 hi hy0 hy1 hy2 rfl (by decide) _ 0 [] rfl HO.o ad np cp (fq.params.flatMap Ac) rfl HL.o.1 HN.o ?c1 ?c2 ?c3 ?c4 ?_)
   case c1=>
    intro u hu;obtain⟨z,_,hz⟩:=cG.1 hu;simp[Ac]at hz;subst hz;rfl
   case c2=>have:=HL.o.2;unfold maxLen;omega
   case c3=>have:=HL.o.2;omega
   case c4=>have:=F2.o.2.1.size;omega
   intro v' w' hown' hgrow' hnil'
   obtain⟨a2,c2,rfl⟩:∃a c,v'=.slice a np c:=by
    have:=(Rd.of_own hown').is_slice;simpa using this
   have HW:Hid (w'.ownsRow w.heap.size 2 1 (.slice a2 np c2) np (fq.params.flatMap Ac)/\Below u1.heap.size u1 w'/\w'.cell? ⟨u1.heap.size,1,none⟩=some (.int .i64 fq.result)/\u1.heap.size<w'.heap.size):=by
    have hb:Below (u1.heap.size+1) (u1.alloc (.cells #[.slice (some ad) np cp,.int .i64 fq.result,.slice al nl cl,.slice ac nc cc] 58)) w':=⟨hgrow'.os.trans rfl,hgrow'.tape.trans rfl,hgrow'.output.trans rfl,by have:=hgrow'.size;simp at this⊢;omega,fun k hk=>by
     rw[hgrow'.block k (by simp;omega) (by simp[Value.ownBlock];omega)];exact(Aa (u1.alloc (.cells #[.slice (some ad) np cp,.int .i64 fq.result,.slice al nl cl,.slice ac nc cc] 58)) (.cells #[] 2)).block k (by simp;omega)⟩
    have hsz:(u1.alloc (.cells #[.slice (some ad) np cp,.int .i64 fq.result,.slice al nl cl,.slice ac nc cc] 58)).heap.size=u1.heap.size+1:=by simp
    have hb':Below (u1.alloc (.cells #[.slice (some ad) np cp,.int .i64 fq.result,.slice al nl cl,.slice ac nc cc] 58)).heap.size (u1.alloc (.cells #[.slice (some ad) np cp,.int .i64 fq.result,.slice al nl cl,.slice ac nc cc] 58)) w':=by rw[hsz];exact hb
    refine⟨by simpa using hown',Ab F1.o.2 lR hb',?_,by have:=hb'.size;omega⟩;have:=(F1.o.1.keep hb').cell 1;simpa using this
   clear hown' hgrow' hnil';go_upto_region 21 with fail
   refine An (fun u=>Hid (Rs w u ⟨vr,vk,.slice (some ⟨g,o,none⟩) n cf,vt⟩ ⟨gp,gl,gc⟩ f fq q b c u1.heap.size w'.heap.size (.slice a2 np c2) (.slice none 0 0))) ?_ ?_
   . have b5:=Aa w' (.cells #[.slice a2 np c2,.slice none 0 0] 237)
     exact⟨(E1.o.keep HW.o.2.1).keep b5,C5 b5 HW.o.2.2.1,Ap.new _ _ _,by rw[HNP.o];exact Ah HW.o.1 b5 lR,by have:=HW.o.2.2.2;omega,HW.o.2.2.2⟩
   rintro u5 HC;have hy0':=HC.o.eb.cell 0;have hy1':=HC.o.eb.cell 1;have hz1':=HC.o.eb.frozen 1;have fb:=HC.o.fb;have yR:=HC.o.yR;have XY:=HC.o.XY;have neY:¬w.heap.size+1+1+1=w'.heap.size:=by omega
   have neY':¬w'.heap.size=w.heap.size+1+1+1:=by omega
   simp only[aQ,aJ,aL]at hy0' hy1';by_cases hr:fq.result=0
   . have HR:Hid (BJ fq=[]):=bj hr
     have hr':(fq.result != 0)=false:=by simpa using hr
     have hr2:(fq.result==0)=true:=by simpa using hr
     have r0:=HC.o.in4.rb.cell 0;have r1:=HC.o.in4.rb.cell 1;have z0:=HC.o.in4.rb.frozen 0;have z1:=HC.o.in4.rb.frozen 1;simp only[aQ,aJ,aL]at r0 r1;go_wp2_with fail
     rw[HR.o];obtain⟨he,q0,q1⟩:=HC.o.done [] (bq _ _ _ _);exact aW (by simp[results,Tryz.results146,go_sem,q0,q1]) rfl he
   . have HR:Hid (BJ fq=[fq.result]):=bX hr
     have hr':(fq.result != 0)=true:=by simpa using hr
     have hr2:(fq.result==0)=false:=by simpa using hr
     have neU:¬w'.heap.size=u5.heap.size:=by have:=HC.o.eb.lt;omega
     have ltU:w'.heap.size<u5.heap.size:=HC.o.eb.lt;go_upto_region 23 with fail
     refine An (fun u=>Hid (Rs w u ⟨vr,vk,.slice (some ⟨g,o,none⟩) n cf,vt⟩ ⟨gp,gl,gc⟩ f fq q b c u1.heap.size w'.heap.size (.slice a2 np c2) (.slice (some ⟨u5.heap.size,0,none⟩) 1 1)/\u.ownsRow w.heap.size 2 1 (.slice (some ⟨u5.heap.size,0,none⟩) 1 1) 1 ([fq.result].flatMap Ac))) (HC.o.res) ?_
     rintro u6 HC6;clear hy0' hy1' hz1' fb;have hy0':=HC6.o.1.eb.cell 0;have hy1':=HC6.o.1.eb.cell 1;have r0:=HC6.o.1.in4.rb.cell 0;have r1:=HC6.o.1.in4.rb.cell 1;have z0:=HC6.o.1.in4.rb.frozen 0;have z1:=HC6.o.1.in4.rb.frozen 1;simp only[aQ,aJ,aL]at hy0' hy1' r0 r1;go_wp2_with fail
     rw[HR.o];obtain⟨he,q0,q1⟩:=HC6.o.1.done [fq.result] HC6.o.2;exact aW (by simp[results,Tryz.results146,go_sem,q0,q1]) rfl he
def Rz(p:MP)(zs:List Int):Prop:=(AV p 0/\zs=Hp p.funcs)\/(¬AV p 0/\zs=[])
theorem JF{p:MP}(h:AV p 0):AX p.funcs/\Ck p:=by
 rcases h with h|h|h|h|h|h
 . exact absurd h.1 (by decide)
 . exact absurd h.1 (by decide)
 . exact absurd h.1 (by decide)
 . exact absurd h.1 (by decide)
 . exact absurd h.1 (by decide)
 . exact⟨h.2.2.2.1,h.2.2.2.2.1⟩
def G6(fs:List MF)(zs:List Int)(n j:Nat)(nxt:Int):Prop:=(nxt=-1/\∀k,j<=k->k<n->Ey fs zs k=false)\/∃q:Nat,nxt=(q:Int)/\j<=q/\q<n/\Ey fs zs q=true/\∀k,j<=k->k<q->Ey fs zs k=false
theorem G6.yes{fs:List MF}{zs:List Int}{n b:Nat}{nxt:Int}(h:G6 fs zs n (b+1) nxt)(hb:b<n)(hr:Ey fs zs b=true):G6 fs zs n b (b:Int):=.inr ⟨b,rfl,Nat.le_refl _,hb,hr,fun k h1 h2=>by omega⟩
theorem G6.no{fs:List MF}{zs:List Int}{n b:Nat}{nxt:Int}(h:G6 fs zs n (b+1) nxt)(hr:Ey fs zs b=false):G6 fs zs n b nxt:=by
 rcases h with⟨h1,h2⟩|⟨q,h1,h2,h3,h4,h5⟩
 . refine .inl ⟨h1,fun k k1 k2=> ?_⟩
   by_cases e:k=b
   . subst e
     exact hr
   . exact h2 k (by omega) k2
 . refine .inr ⟨q,h1,by omega,h3,h4,fun k k1 k2=> ?_⟩
   by_cases e:k=b
   . subst e
     exact hr
   . exact h5 k (by omega) k2
theorem Mx{w u:World}(hb:Below w.heap.size w u){a:Addr}{x:Value}(h:w.cell? a=some x):u.cell? a=some x:=by rw[hb.cell (aD h)];exact h
structure Mr(w u:World)(v:VP)(n bd:Nat)(V:Value)(zs:List Int)(q:Nat):Prop where
 pb:DE u w.heap.size v.r v.k v.f v.t
 done:u.ownsRow w.heap.size 4 1 (.slice (some ⟨bd,0,none⟩) n n) n (Hy (zs++[(q:Int)]) n)
 o:u.ownsRow (w.heap.size+1) 2 1 V zs.length (zs.flatMap Ac)
 bel:Below w.heap.size w u
 far:w.heap.size<bd
theorem Q5{w:World}{base g k n c:Nat}{e:TypeId}{xs:List Value}(h:w.ownsRow base e k (.slice (some ⟨g,0,none⟩) n c) n xs):base<=g/\∃cur,w.heap[g]?=some (Obj.cells cur e (0,0)):=by
 rcases h.2 with⟨h',_⟩|⟨g',cap',cur,h',hb,hg,_⟩
 . cases h'
 . cases h'
   exact⟨hb,cur,hg⟩
theorem Oq{u:World}{B B' g k k' n n' c:Nat}{e e':TypeId}{s:Value}{xs ys:List Value}(h:u.ownsRow B e k s n xs)(h':u.ownsRow B' e' k' (.slice (some ⟨g,0,none⟩) n' c) n' ys)(hne:e≠e')(i:Nat)(z:Value):(u.setCell ⟨g,i,none⟩ z).ownsRow B e k s n xs:=by
 obtain⟨_,cur,h1⟩:=Q5 h';refine aN h (a:=⟨g,i,none⟩) (fun q=> ?_) z;rcases h.2 with⟨rfl,_⟩|⟨g',cap',cur',rfl,_,hg',_⟩
 . cases q
 . simp only[Value.ownBlock,aM]at q
   subst q;rw[h1]at hg';simp only[aM,cD]at hg';exact hne hg'.2.1.symm
theorem Oo{w w':World}{base B:Nat}{e e':TypeId}{s v:Value}{k k' n m:Nat}{xs bs:List Value}(h:w.ownsRow base e k s n xs)(hg:w.grownBy w' v.ownBlock)(ho:w.ownsRow B e' k' v m bs)(hne:e≠e'):w'.ownsRow base e k s n xs:=by
 refine⟨h.1,?_⟩;rcases h.2 with h|⟨g,cap,cur,e1,hb1,hgg,hr⟩
 . exact .inl h
 . refine .inr ⟨g,cap,cur,e1,hb1,?_,hr⟩
   rw[hg.block g (an.1 hgg).1 ?_]
   . exact hgg
   . intro hv
     rcases ho.2 with⟨rfl,_⟩|⟨g',cap',cur',rfl,_,hg',_⟩
     . cases hv
     . simp only[Value.ownBlock,aM]at hv
       subst hv;rw[hgg]at hg';simp only[aM,cD]at hg';exact hne hg'.2.1
theorem PP(U:World)(z:Int):∀j u,[(.int .i64 z:Value)][j]?=some u->(U.alloc (.cells #[.int .i64 z] 2)).cell? ((⟨U.heap.size,0,none⟩:Addr).add j)=some u:=fun j u hj=>by
 rw[Ds,bV,(Ap.new U #[.int .i64 z] 2).cell j];simpa using hj
theorem DE.setC{u:World}{b g i:Nat}{x y z t V:Value}(h:DE u b x y z t)(hne:b≠g):DE (u.setCell ⟨g,i,none⟩ V) b x y z t:=by
 have k:∀(j:Nat) (a:Value),u.cell? ⟨b,j,none⟩=some a->(u.setCell ⟨g,i,none⟩ V).cell? ⟨b,j,none⟩=some a:=fun j a ha=>by
  have:=bI u ⟨g,i,none⟩ b V hne;unfold World.cell? at*;rw[this];exact ha
 exact⟨k 0 _ h.c0,k 1 _ h.c1,k 2 _ h.c2,k 3 _ h.c3⟩
theorem Mr.of{w u:World}{v:VP}{n bd q:Nat}{V:Value}{zs:List Int}(h:CW w u v n bd V zs)(hq:q<n)(hf:w.heap.size<bd):Mr w (u.setCell ⟨bd,q,none⟩ (.bool true)) v n bd V zs q:=by
 refine⟨h.pb.setC (by omega),?_,Oq h.o h.done (by decide) q _,h.bel.setCell (by simp only[];omega) _,hf⟩;have:=(h.done.stored q (.bool true)).1;rw[Px zs n q hq]at this;exact this
theorem Mr.al{w u:World}{v:VP}{n bd q:Nat}{V:Value}{zs:List Int}(h:Mr w u v n bd V zs q)(o:Obj):(u.alloc o).ownsRow (w.heap.size+1) 2 1 V zs.length (zs.flatMap Ac)/\w.heap.size+1<=(u.alloc o).heap.size:=⟨Ah h.o (Aa _ _) lR,aR h.pb.lt (Aa _ _).size⟩
theorem Mr.next{w u u':World}{v:VP}{n bd q:Nat}{V V':Value}{zs:List Int}(h:Mr w u v n bd V zs q)(hown:u'.ownsRow (w.heap.size+1) 2 1 V' (zs.length+1) (zs.flatMap Ac++[.int .i64 (q:Int)]))(hg:(u.alloc (.cells #[.int .i64 (q:Int)] 2)).grownBy u' V.ownBlock):CW w u' v n bd V' (zs++[(q:Int)]):=by
 have bA:=Aa u (.cells #[.int .i64 (q:Int)] 2);have o1:=Ah h.o bA lR;refine⟨?_,Oo (Ah h.done bA lR) hg o1 (by decide),?_,(Ab h.bel lR bA).grown hg (aR h.bel.size bA.size) (fun i hi=>by have:=(h.o.lt i hi).1;omega)⟩
 . have k:∀(j:Nat) (a:Value),u.cell? ⟨w.heap.size,j,none⟩=some a->u'.cell? ⟨w.heap.size,j,none⟩=some a:=fun j a ha=>by
    have h1:=Ad bA ha;have h2:=hg.block w.heap.size (bZ h.pb.lt bA.size) (fun e=>by have:=(h.o.lt _ e.symm).1;omega);unfold World.cell? at*;rw[h2];exact h1
   exact⟨k 0 _ h.pb.c0,k 1 _ h.pb.c1,k 2 _ h.pb.c2,k 3 _ h.pb.c3⟩
 . rw[aH,aP,a8]
   exact hown
theorem KL (v : VP)(p:MP)(w:World)(hs:p.small)(hw:p.wf)(h:Ej w v p):
 Calls Tryz.prog 59 #[.agg #[v.r,v.k,v.f,v.t]] w fun e w'=>∃V zs,e=.returned V/\Rd w' 1 V zs.length (zs.flatMap Ac)/\Rz p zs/\Below w.heap.size w w':=by
 obtain⟨j0,hj,hy0,hy1,hy2⟩:=bJ Dv;obtain⟨k0,hk,hx0,hx1,hx2⟩:=bJ CF;have H:=Af (aG hs (aG hw h))
 have HE0:Hid (DE ((w.alloc (.cells #[v.r,v.k,v.f,v.t] 28)).alloc (.cells #[] 2)) w.heap.size v.r v.k v.f v.t/\Ap ((w.alloc (.cells #[v.r,v.k,v.f,v.t] 28)).alloc (.cells #[] 2)) (w.heap.size+1) #[] 2/\Below w.heap.size w ((w.alloc (.cells #[v.r,v.k,v.f,v.t] 28)).alloc (.cells #[] 2))):=by
  refine⟨(DE.new w _ _ _ _ _).alloc _,?_,Ab (Aa _ _) lR (Aa _ _)⟩;have:=Ap.new (w.alloc (.cells #[v.r,v.k,v.f,v.t] 28)) #[] 2;simpa using this
 go_enter Tryz.func59,Tryz.ntmps59;go_wp2_with fail
 refine(C7 v p _ H.o.1 H.o.2.1 (H.o.2.2.keep HE0.o.2.2 lR)).mono ?_;rintro e u1 ⟨⟨nf,rfl,hnf⟩,b1⟩;have HE1:=Af (aG (HE0.o.1.keep b1) (aG (HE0.o.2.1.keep b1) (Ab HE0.o.2.2 lR b1)));by_cases q0:nf=0
 . subst q0
   have HF:=Af hnf;obtain⟨ys,hys,hrd,hel⟩:=H.o.2.2.funcs;obtain⟨vr,vk,vf,vt⟩:=v;obtain⟨af,cf,ef⟩:∃a c,vf=.slice a p.funcs.length c:=hrd.is_slice;subst ef;have hn32:=(JF HF.o).1.2.1;have hn0:=(JF HF.o).1.1;have HFN:=Af (aG hys (aG hrd hel));generalize hLL:p.funcs.length=n at hn32 hn0 HFN HE1;have HL:=Af hLL
   obtain⟨gf,of,rfl,HCF⟩:∃gf of,af=some ⟨gf,of,none⟩/\Hid (∀j u,(ys.flatMap AW)[j]?=some u->w.cell? ⟨gf,of+j,none⟩=some u):=by
    rcases HFN.o.2.1.2 with⟨e0,_⟩|⟨gf,of,c',e1,hc1⟩
    . exact absurd e0 hn0
    . simp only[aI,ao]at e1
      exact⟨gf,of,e1.1,hc1⟩
   obtain⟨p0,p1,p2,p3⟩:=HE1.o.1;go_wp2_with (at_make;refine bu _ rfl _ _ 159 rfl w.heap.size 4 j0 (.bool false) 1 Tryz.underlying159 hj hy0 hy1 .i64 .i64 _ _ n rfl rfl rfl rfl (by rw[hy2];omega) (by unfold maxLen;omega) HE1.o.2.2.size ?_;intro w3 hown hgrow;rw[Og,Pw]at hown)
   have HC0:Hid (CW w w3 ⟨vr,vk,.slice (some ⟨gf,of,none⟩) n cf,vt⟩ n u1.heap.size (.slice (some ⟨w.heap.size+1,0,none⟩) 0 0) []):=by
    have hb3:Below u1.heap.size u1 w3:=(aq _ _).grown hgrow lR (fun k hk=>by cases hk);exact⟨HE1.o.1.keep hb3,hown,⟨rfl,.inr ⟨w.heap.size+1,0,#[],rfl,Nat.le_refl _,HE1.o.2.1.keep hb3,Nat.le_refl _,cU _,rfl,rfl⟩⟩,Ab HE1.o.2.2 lR hb3⟩
   have HBD0:=Af HE1.o.1.lt;have HBD:=Af HBD0.o;generalize u1.heap.size=bd at HC0 HBD⊢;go_wp2
   go_loopw [3] (fun V wr=>∃zs:List Int,zs.length<=n/\(∃a c,V=.slice a zs.length c)/\Hid (CW w wr ⟨vr,vk,.slice (some ⟨gf,of,none⟩) n cf,vt⟩ n bd V zs/\FJ p.funcs (n-zs.length) zs=Hp p.funcs)) (fun V _=>n-Uj V)
   case atStart=>exact⟨[],by simp,⟨_,_,rfl⟩,⟨HC0.o,by unfold Hp;rw[HL.o];rfl⟩⟩
   case round =>
    obtain⟨zs,hzn,⟨aV,cV,rfl⟩,HC⟩:=hrel;by_cases hlt:zs.length<n
    . have hltI :(zs.length:Int)<(n:Int):=by omega
      go_wp2
      go_loopw [6,7] (fun nx i wr=>∃(j:Nat) (nxt:Int),j<=n/\nx=.int .i64 nxt/\i=.int .i64 ((j:Int)-1)/\Hid (G6 p.funcs zs n j nxt/\CW w wr ⟨vr,vk,.slice (some ⟨gf,of,none⟩) n cf,vt⟩ n bd (.slice aV zs.length cV) zs)) (fun _ i _=>(intOf i+1).toNat)
      case atStart=>exact⟨n,-1,Nat.le_refl _,rfl,rfl,⟨.inl ⟨rfl,fun k h1 h2=>by omega⟩,HC.o.1⟩⟩
      case round =>
       obtain⟨j,nxt,hj',rfl,rfl,HF2⟩:=hrel;cases j with
       | succ b =>
         rw[show(((b+1:Nat):Int)-1)=(b:Int)by omega];obtain⟨⟨f,z⟩,hy⟩:∃y,ys[b]?=some y:=⟨_,aA (by have:=congrArg List.length HFN.o.1;rw[bB,HL.o]at this;omega)⟩;have hfb:=BG HFN.o.1 hy;have hrf:=HFN.o.2.2 _ (aF hy);simp only[]at hrf;obtain⟨zp,zl,zc⟩:=z;obtain⟨ac,cc,ec⟩:∃a c,zc=.slice a f.code.length c:=hrf.2.2.is_slice;subst ec;have HX:=Af (aG hrf (aG (H.o.1.func f (aF hfb)) hfb));have hcl:f.code.length<=1048576:=HX.o.2.1.2.2;have i3:=Rd.elem Ag HCF.o b _ hy 3 _ rfl;have HI3:=Af i3;have d0:=HF2.o.2.done.cellAt b (by omega);rw[Fh _ _ _ (by omega)]at d0;obtain⟨cb,hcb⟩:∃cb,cb=zs.contains (b:Int):=⟨_,rfl⟩;rw[<-hcb]at d0;have HCB:=Af hcb;clear hcb;have hbL:(b:Int)<(n:Int):=by omega
         go_wp2
         go_loopw [8,9] (fun r i wr=>∃(k:Nat) (rb:Bool),k<=f.code.length/\r=.bool rb/\i=.int .i64 k/\Hid (rb=(!cb&&Ji zs f.code k)/\CW w wr ⟨vr,vk,.slice (some ⟨gf,of,none⟩) n cf,vt⟩ n bd (.slice aV zs.length cV) zs)) (fun _ i _=>f.code.length-(intOf i).toNat)
         case atStart=>exact⟨0,!cb,by omega,rfl,rfl,⟨by simp[Ji],HF2.o.2⟩⟩
         case round=>
          obtain⟨k,rb,hk',rfl,rfl,HK⟩:=hrel;obtain⟨p0,p1,p2,p3⟩:=HK.o.2.pb;have i3:=Mx HK.o.2.bel HI3.o;by_cases hlt3:k<f.code.length
          . have hkL:(k:Int)<(f.code.length:Int):=by omega
            cases rb
            . have HNO:Hid (G6 p.funcs zs n b nxt):=HF2.o.1.no (by
               rw[J9 p.funcs zs b f HX.o.2.2,<-HCB.o];have:=HK.o.1;cases hc:cb
               . rw[hc]at this
                 rw[Om zs f.code k (by simpa using this.symm)];rfl
               . rfl)
              go_wp2
              go_roundw
              case rel=>exact⟨b,nxt,by omega,rfl,by go_num,⟨HNO.o,HK.o.2⟩⟩
              case measure=>simp[intOf]
            . obtain⟨x,hx⟩:∃x,f.code[k]?=some x:=⟨_,aA hlt3⟩
              have HXC:=Af hx;have hcr:=HX.o.1.2.2.keep HK.o.2.bel lR;rcases hcr.2 with⟨e0,_⟩|⟨gc,oc,c',e1,hc1⟩
              . omega
              simp only[aI,ao]at e1;obtain⟨rfl,rfl⟩:=e1;have x0:=Rd.elem MI.cells_length hc1 k _ hx 0 _ rfl;have x1:=Rd.elem MI.cells_length hc1 k _ hx 1 _ rfl;have x2:=Rd.elem MI.cells_length hc1 k _ hx 2 _ rfl;have x3:=Rd.elem MI.cells_length hc1 k _ hx 3 _ rfl;rw[aT]at x0;obtain⟨wo,hwo⟩:∃W,W=wr:=⟨_,rfl⟩;subst hwo;go_upto_region 16 with fail
              refine An (fun u=>Hid (CW w u ⟨vr,vk,.slice (some ⟨gf,of,none⟩) n cf,vt⟩ n bd (.slice aV zs.length cV) zs/\Ap u wo.heap.size #[.int .i64 x.op,.int .i64 x.a,.int .i64 x.b,.int .i64 x.c] 97)) ⟨HK.o.2.keep (Aa _ _),Ap.new _ _ _⟩ ?_
              intro U1 HU1;have a0:=HU1.o.2.cell 0;have a1:=HU1.o.2.cell 1;simp only[aQ,aJ,aL]at a0 a1;by_cases hc:x.op=28
              . rw[hc]at a0
                have hin:=Qs (JF HF.o).2 HX.o.2.2 (a:=x.a) (cE.2 ⟨x,dW.2 ⟨aF HXC.o,by simpa using hc⟩,rfl⟩);rw[HL.o]at hin;obtain⟨aa,haa⟩:∃aa:Nat,x.a=(aa:Int):=⟨x.a.toNat,by omega⟩;rw[haa]at a1 hin;have hd:=HU1.o.1.done.cellAt aa (by omega);rw[Fh _ _ _ (by omega)]at hd;obtain⟨ca,hca⟩:∃ca,ca=zs.contains (aa:Int):=⟨_,rfl⟩;rw[<-hca]at hd
                have HN:Hid (ca=(!cb&&Ji zs f.code (k+1))):=by
                 show _=_;rw[Lc zs f.code k x HXC.o,haa,<-hca,<-Bool.and_assoc,<-HK.o.1];simp[hc]
                clear hca;go_wp2
                go_roundw
                case rel=>exact⟨k+1,ca,by omega,rfl,by go_num,⟨HN.o,HU1.o.1⟩⟩
                case measure=>simp[intOf];omega
              . have hc':(x.op != 28)=true:=by simpa using hc
                have HN:Hid (true=(!cb&&Ji zs f.code (k+1))):=by
                 show _=_;rw[Lc zs f.code k x HXC.o,<-Bool.and_assoc,<-HK.o.1];simp[hc]
                go_wp2
                go_roundw
                case rel=>exact⟨k+1,true,by omega,rfl,by go_num,⟨HN.o,HU1.o.1⟩⟩
                case measure=>simp[intOf];omega
          . obtain rfl:k=f.code.length:=by omega
            cases rb
            . have HNO:Hid (G6 p.funcs zs n b nxt):=HF2.o.1.no (by rw[J9 p.funcs zs b f HX.o.2.2,<-HCB.o,<-HK.o.1])
              go_wp2
              go_roundw
              case rel=>exact⟨b,nxt,by omega,rfl,by go_num,⟨HNO.o,HK.o.2⟩⟩
              case measure=>simp[intOf]
            . have HYE:Hid (G6 p.funcs zs n b (b:Int)):=HF2.o.1.yes (by omega) (by rw[J9 p.funcs zs b f HX.o.2.2,<-HCB.o,<-HK.o.1])
              go_wp2
              go_roundw
              case rel=>exact⟨b,(b:Int),by omega,rfl,by go_num,⟨HYE.o,HK.o.2⟩⟩
              case measure=>simp[intOf]
       | zero=>
         rw[show(((0:Nat):Int)-1)=-1 from rfl];rcases HF2.o.1 with⟨rfl,hno⟩|⟨q,rfl,_,hqn,hqr,hqm⟩
         . have HO:Hid (Hp p.funcs=[]):=by
            show _=_;rw[<-HC.o.2,show n-zs.length=(n-zs.length-1)+1 by omega];simp only[FJ];rw[Nf (fun j hj=>hno j (cU _) (by rw[<-HL.o];exact hj))]
           have HBE:=Af HF2.o.2.bel;go_wp2
           go_ret
           exact⟨_,[],rfl,⟨rfl,.inl ⟨rfl,_,_,rfl⟩⟩,.inl ⟨HF.o,HO.o.symm⟩,Ab HBE.o lR (Aa _ _)⟩
         . have HO:Hid (FJ p.funcs (n-(zs++[(q:Int)]).length) (zs++[(q:Int)])=Hp p.funcs):=by
            show _=_;rw[<-HC.o.2,show n-zs.length=(n-zs.length-1)+1 by omega];simp only[FJ];rw[Ng (by rw[HL.o];exact hqn) hqr (fun j hj=>hqm j (cU _) hj),aH,aP,Nat.sub_add_eq]
           have d0:=HF2.o.2.done.cellAt q (by omega);rw[Fh _ _ _ hqn]at d0;generalize zs.contains (q:Int)=cq at d0;have d1:=HF2.o.2.done.frozenAt q;have HS1:=Af (Mr.of HF2.o.2 hqn HBD.o);have hqL:(q:Int)<(n:Int):=by omega
           have hq0:¬(q:Int)<0:=by omega
           go_upto_region 22 with fail
           refine An (fun u=>Hid (Mr w u ⟨vr,vk,.slice (some ⟨gf,of,none⟩) n cf,vt⟩ n bd (.slice aV zs.length cV) zs q)) HS1 ?_;intro U1 HU1;go_wp2_with (at_builtin;refine wpList_append_lies _ rfl _ _ 47 rfl (w.heap.size+1) 2 k0 (.int .i64 0) 1 8 Tryz.underlying47 hk hx0 hx1 hx2 rfl (by decide) _ zs.length (zs.flatMap Ac) rfl (HU1.o.al (.cells #[.int .i64 (q:Int)] 2)).1 ⟨U1.heap.size,0,none⟩ 1 1 [.int .i64 (q:Int)] rfl rfl (PP U1 (q:Int)) (fun u hu=>by simp at hu;subst hu;rfl) (by omega) (by unfold maxLen;omega) (by omega) (HU1.o.al (.cells #[.int .i64 (q:Int)] 2)).2 _ rfl ?_;intro g3 cap3 w3 hown hgrow hat hlt3;have HN:Hid (CW w w3 ⟨vr,vk,.slice (some ⟨gf,of,none⟩) n cf,vt⟩ n bd (.slice (some ⟨g3,0,none⟩) (zs.length+1) cap3) (zs++[(q:Int)])):=HU1.o.next hown hgrow;clear hown hgrow hat hlt3);go_wp2;go_roundw
           case rel=>exact⟨zs++[(q:Int)],by simp only[aH,aP];omega,⟨some ⟨g3,0,none⟩,cap3,by rw[aH,aP]⟩,⟨HN.o,HO.o⟩⟩
           case measure=>simp only[Uj];omega
    . have hz:zs.length=n:=by omega
      have HO:Hid (zs=Hp p.funcs):=by
       have:=HC.o.2;rw[hz,eP]at this;exact this
      have HRD:=Af (aG (Rd.of_own HC.o.1.o) HC.o.1.bel);rw[hz]at HRD⊢;go_wp2
      go_ret
      refine⟨_,zs,rfl,?_,.inl ⟨HF.o,HO.o⟩,HRD.o.2⟩;rw[hz];exact HRD.o.1
 . have HN:Hid (¬AV p 0):=fun e=>q0 (AV.one hnf e)
   have q0':(nf != 0)=true:=by simpa using q0
   have HBE:=Af HE1.o.2.2;go_wp2
   go_ret
   exact⟨_,[],rfl,⟨rfl,.inl ⟨rfl,_,_,rfl⟩⟩,.inr ⟨HN.o,rfl⟩,HBE.o⟩
end Go.Proofs.YtjcamlobelcepaaGreatDoor
