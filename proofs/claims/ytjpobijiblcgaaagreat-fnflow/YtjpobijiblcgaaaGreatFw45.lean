import Derived.Test.YtjpobijiblcgaaaGreatFw0
import Derived.Test.YtjpobijiblcgaaaGreatFw2
import Derived.Test.YtjpobijiblcgaaaGreatFw33
import Derived.OneCell
import Derived.Test.YtjpobijiblcgaaaGreatFw26
import Derived.Test.YtjpobijiblcgaaaGreatFw8
import Derived.Deep.RegionLaw
namespace Go.Proofs.YtjpobijiblcgaaaGreat
open Go.ChangeShapes Go.WideShapes Go.ChangeAt Go.RowKit
set_option linter.unusedVariables false
set_option maxHeartbeats 4000000
set_option maxRecDepth 100000
theorem CZ{w u:World}(hb:Below w.heap.size w u){a:Addr}{x:Value}(h:w.cell? a=some x):u.cell? a=some x:=by rw[hb.cell (aF h)];exact h
theorem FL{w:World}{base g k n:Nat}{e t:TypeId}{s:Value}{xs:List Value}{cur:Array Value}{fr:Nat×Nat}(h:w.ownsRow base e k s n xs)(hg:w.heap[g]?=some (Obj.cells cur t fr))(hne:e≠t):∀j,s.ownBlock=some j->j≠g:=by
 intro j hj e1;subst e1;rcases h.2 with⟨rfl,_⟩|⟨g',cap',cur',rfl,_,hg',_⟩
 . cases hj
 . simp only[Value.ownBlock,aJ]at hj
   subst hj;rw[hg]at hg';simp only[aJ,dC]at hg';exact hne hg'.2.1.symm
structure Pn(w u:World)(v:VP)(g:VF)(f fq:MF)(q b c:Int)(X Y:Nat)(tv gv:Value):Prop where
 in4:I7 w u v g f 28 q b c
 fb:u.cell? ⟨X,1,none⟩=some (.int .i64 fq.result)
 eb:An u Y #[tv,gv] 190
 own:u.ownsRow w.heap.size 2 1 tv fq.params.length (fq.params.flatMap Ab)
 yR:w.heap.size+1+1+1<Y
 XY:X<Y
theorem Pn.done{w u:World}{v:VP}{g:VF}{f fq:MF}{q b c:Int}{X Y:Nat}{tv gv:Value}(h:Pn w u v g f fq q b c X Y tv gv)(gs:List Int)(ho:u.ownsRow w.heap.size 2 1 gv gs.length (gs.flatMap Ab)):
 Dg w fq.params gs (.returned (.agg #[tv,gv])) ((u.setCell ⟨w.heap.size+1+1+1,0,none⟩ tv).setCell ⟨w.heap.size+1+1+1,1,none⟩ gv)/\((u.setCell ⟨w.heap.size+1+1+1,0,none⟩ tv).setCell ⟨w.heap.size+1+1+1,1,none⟩ gv).cell? ⟨w.heap.size+1+1+1,0,none⟩=some tv/\((u.setCell ⟨w.heap.size+1+1+1,0,none⟩ tv).setCell ⟨w.heap.size+1+1+1,1,none⟩ gv).cell? ⟨w.heap.size+1+1+1,1,none⟩=some gv:=by
 have R1:=h.in4.rb.set 0 tv;have R2:=R1.set 1 gv;have q0:=R2.cell 0;have q1:=R2.cell 1;simp only[aZ,bF,bI,aU,aM,aQ]at q0 q1
 have keep:∀{s:Value} {m:Nat} {xs:List Value},u.ownsRow w.heap.size 2 1 s m xs->((u.setCell ⟨w.heap.size+1+1+1,0,none⟩ tv).setCell ⟨w.heap.size+1+1+1,1,none⟩ gv).ownsRow w.heap.size 2 1 s m xs:=fun hs=>by
  have h1:=aR hs (a:=⟨w.heap.size+1+1+1,0,none⟩) (fun e=>FL hs h.in4.rb (by decide) _ e rfl) tv;exact aR h1 (a:=⟨w.heap.size+1+1+1,1,none⟩) (fun e=>FL h1 R1 (by decide) _ e rfl) gv
 exact⟨⟨_,_,rfl,Rd.of_own (keep h.own),Rd.of_own (keep ho),(h.in4.in3.bel.setCell (by simp only[];omega) _).setCell (by simp only[];omega) _⟩,q0,q1⟩
theorem Pn.res{w u:World}{v:VP}{g:VF}{f fq:MF}{q b c:Int}{X Y:Nat}{tv:Value}(h:Pn w u v g f fq q b c X Y tv (.slice none 0 0)):
 Pn w ((u.setCell ⟨Y,1,none⟩ (.slice (some ⟨u.heap.size,0,none⟩) 1 1)).alloc (.cells #[.int .i64 fq.result] 2)) v g f fq q b c X Y tv (.slice (some ⟨u.heap.size,0,none⟩) 1 1)/\((u.setCell ⟨Y,1,none⟩ (.slice (some ⟨u.heap.size,0,none⟩) 1 1)).alloc (.cells #[.int .i64 fq.result] 2)).ownsRow w.heap.size 2 1 (.slice (some ⟨u.heap.size,0,none⟩) 1 1) 1 ([fq.result].flatMap Ab):=by
 have hYR:=h.yR;have hXY:=h.XY;have R1:=h.eb.set 1 (.slice (some ⟨u.heap.size,0,none⟩) 1 1);have o1:=aR h.own (a:=⟨Y,1,none⟩) (fun e=>FL h.own h.eb (by decide) _ e rfl) (.slice (some ⟨u.heap.size,0,none⟩) 1 1)
 have f1:(u.setCell ⟨Y,1,none⟩ (.slice (some ⟨u.heap.size,0,none⟩) 1 1)).cell? ⟨X,1,none⟩=some (.int .i64 fq.result):=by
  rw[dW (bO u ⟨Y,1,none⟩ _ _ (by simp only[];omega))];exact h.fb
 have i1:I7 w (u.setCell ⟨Y,1,none⟩ (.slice (some ⟨u.heap.size,0,none⟩) 1 1)) v g f 28 q b c:=by
  have oc:∀{b' i:Nat} {x:Value},b'<w.heap.size+1+1+1->u.cell? ⟨b',i,none⟩=some x->(u.setCell ⟨Y,1,none⟩ (.slice (some ⟨u.heap.size,0,none⟩) 1 1)).cell? ⟨b',i,none⟩=some x:=fun hb hx=>by
   rw[dW (bO u ⟨Y,1,none⟩ _ _ (by simp only[];omega))];exact hx
  have A:=h.in4.in3;exact⟨⟨A.bel.setCell (by simp only[];omega) _,⟨oc (by omega) A.prog.c0,oc (by omega) A.prog.c1,oc (by omega) A.prog.c2,oc (by omega) A.prog.c3⟩,⟨oc (by omega) A.func.c0,oc (by omega) A.func.c1,oc (by omega) A.func.c2,oc (by omega) A.func.c3⟩,⟨oc (by omega) A.ins.c0,oc (by omega) A.ins.c1,oc (by omega) A.ins.c2,oc (by omega) A.ins.c3⟩⟩,h.in4.rb.other (by simp only[];omega) _⟩
 have z1:(u.setCell ⟨Y,1,none⟩ (.slice (some ⟨u.heap.size,0,none⟩) 1 1)).heap.size=u.heap.size:=bX _ _ _;generalize u.setCell ⟨Y,1,none⟩ (.slice (some ⟨u.heap.size,0,none⟩) 1 1)=u1 at R1 o1 f1 i1 z1⊢;have b1:=Aa u1 (.cells #[.int .i64 fq.result] 2);have n1:=An.new u1 #[.int .i64 fq.result] 2;rw[z1]at n1;have hB:=i1.in3.bel.size;exact⟨⟨i1.keep b1,CZ b1 f1,R1.keep b1,Aj o1 b1 lR,hYR,hXY⟩,⟨rfl,.inr ⟨u.heap.size,1,_,rfl,by omega,n1,Nat.le_refl _,by unfold maxLen;omega,rfl,rfl⟩⟩⟩
theorem PP(vr vk vt gp gl gc:Value)(f:MF)(fs:List MF)(af:Option Addr)(cf q:Nat)(fq:MF)(b c:Int)(w:World)(hn:fs.length<=1048576)(hm:fq.small)(hf:LT w (.slice af fs.length cf) fs)(hq:fs[q]?=some fq):
 Calls Tryz.prog 121 #[.agg #[vr,vk,.slice af fs.length cf,vt],.agg #[gp,.int .i64 f.result,gl,gc],.agg #[.int .i64 28,.int .i64 q,.int .i64 b,.int .i64 c]] w (Dg w fq.params (BS fq)):=by
 obtain⟨i0,hi,hy0,hy1,hy2⟩:=bH Bf;obtain⟨xs,h1,h2,h3⟩:=hf;have hlt:=(aD.1 hq).1;obtain⟨⟨f',y⟩,hx⟩:∃x,xs[q]?=some x:=⟨_,aA (by rw[<-aj (f:=Prod.fst),h1];exact hlt)⟩;have e2:=D1 h1 hx;rw[hq]at e2;obtain rfl:fq=f':=bC e2;have hy:=h3 _ (aE hx);simp only[]at hy;rcases h2.2 with⟨e0,_⟩|⟨g,o,c',e1,hc⟩
 . omega
 simp only[aI,bU]at e1;obtain⟨rfl,rfl⟩:=e1;have k1:=Rd.elem Ao hc q _ hx 0 _ rfl;have k2:=Rd.elem Ao hc q _ hx 1 _ rfl;have k3:=Rd.elem Ao hc q _ hx 2 _ rfl;have k4:=Rd.elem Ao hc q _ hx 3 _ rfl;rw[aw]at k1;obtain⟨yp,yl,yc⟩:=y;simp only[]at k1 k2 k3 k4;obtain⟨ap,cp,rfl⟩:∃a c,yp=.slice a fq.params.length c:=hy.1.is_slice;obtain⟨al,cl,rfl⟩:∃a c,yl=.slice a fq.locals.length c:=hy.2.1.is_slice;obtain⟨ac,cc,rfl⟩:∃a c,yc=.slice a fq.code.length c:=hy.2.2.is_slice;have HK:Hid (w.cell? ⟨g,o+q*4,none⟩=some (.slice ap fq.params.length cp)/\w.cell? ⟨g,o+q*4+1,none⟩=some (.int .i64 fq.result)/\w.cell? ⟨g,o+q*4+2,none⟩=some (.slice al fq.locals.length cl)/\w.cell? ⟨g,o+q*4+3,none⟩=some (.slice ac fq.code.length cc)/\Rd w 1 (.slice ap fq.params.length cp) fq.params.length (fq.params.flatMap Ab)/\fq.params.length<=1048576):=⟨k1,k2,k3,k4,hy.1,hm.1⟩
 clear hc k1 k2 k3 k4 hq h2 h3 hy hx e2 h1 hm;generalize fs.length=n at hlt hn⊢;have hltI:(q:Int)<(n:Int):=by omega
 have E0:Hid _:=I7.of w ⟨vr,vk,.slice (some ⟨g,o,none⟩) n cf,vt⟩ ⟨gp,gl,gc⟩ f 28 q b c;have hS:Hid (∀w,Calls Tryz.prog 105 #[.int .i64 28] w fun e w'=>e=.returned (.agg #[.string ⟨#[99,97,108,108]⟩,.int .i64 4,.int .i64 11])/\Below w.heap.size w w'):=fun w=>Cq 28 w
 have hfl:=Cz;go_enter Tryz.func121,Tryz.ntmps121;go_wp2_with fail
 refine(hS.o _).mono ?_;rintro e u1 ⟨rfl,b1⟩;have E1:Hid _:=E0.o.keep b1;clear E0 b1 hS;have x0:=E1.o.in3.ins.c0;have x1:=E1.o.in3.ins.c1;have x2:=E1.o.in3.ins.c2;have p2:=E1.o.in3.prog.c2;have k1:u1.cell? ⟨g,o+q*4,none⟩=some (.slice ap fq.params.length cp):=CZ E1.o.in3.bel HK.o.1;have k2:u1.cell? ⟨g,o+q*4+1,none⟩=some (.int .i64 fq.result):=CZ E1.o.in3.bel HK.o.2.1;have k3:u1.cell? ⟨g,o+q*4+2,none⟩=some (.slice al fq.locals.length cl):=CZ E1.o.in3.bel HK.o.2.2.1;have k4:u1.cell? ⟨g,o+q*4+3,none⟩=some (.slice ac fq.code.length cc):=CZ E1.o.in3.bel HK.o.2.2.2.1;generalize hNP:fq.params.length=np at k1 HK;generalize fq.locals.length=nl at k3 HK;generalize fq.code.length=nc at k4 HK;have HNP:Hid (fq.params.length=np):=hNP;clear hNP;have lt1:w.heap.size+1+1+1<u1.heap.size:=E1.o.rb.lt;have ne1:¬w.heap.size+1+1+1=u1.heap.size:=by omega
 have F1:Hid (An (u1.alloc (.cells #[.slice ap np cp,.int .i64 fq.result,.slice al nl cl,.slice ac nc cc] 68)) u1.heap.size #[.slice ap np cp,.int .i64 fq.result,.slice al nl cl,.slice ac nc cc] 68/\Below u1.heap.size u1 (u1.alloc (.cells #[.slice ap np cp,.int .i64 fq.result,.slice al nl cl,.slice ac nc cc] 68))):=⟨An.new _ _ _,Aa _ _⟩
 have F2:Hid (True/\Below u1.heap.size u1 ((u1.alloc (.cells #[.slice ap np cp,.int .i64 fq.result,.slice al nl cl,.slice ac nc cc] 68)).alloc (.cells #[] 2))/\((u1.alloc (.cells #[.slice ap np cp,.int .i64 fq.result,.slice al nl cl,.slice ac nc cc] 68)).alloc (.cells #[] 2)).ownsRow w.heap.size 2 1 (.slice (some ⟨u1.heap.size+1,0,none⟩) 0 0) 0 []):=by
  have n2:=An.new (u1.alloc (.cells #[.slice ap np cp,.int .i64 fq.result,.slice al nl cl,.slice ac nc cc] 68)) #[] 2;rw[show(u1.alloc (.cells #[.slice ap np cp,.int .i64 fq.result,.slice al nl cl,.slice ac nc cc] 68)).heap.size=u1.heap.size+1 by simp]at n2;exact⟨trivial,Af F1.o.2 lR (Aa _ _),⟨rfl,.inr ⟨u1.heap.size+1,0,#[],rfl,by omega,n2,Nat.le_refl _,dP _,rfl,by simp⟩⟩⟩
 cases ap with
 | none=>
   have hz:np=0:=by
    rcases HK.o.2.2.2.2.1.2 with⟨e0,_⟩|⟨g',o',c'',e1,_⟩
    . exact e0
    . cases e1
   subst hz;go_upto_region 21 with fail
   refine Al (fun u=>Hid (Pn w u ⟨vr,vk,.slice (some ⟨g,o,none⟩) n cf,vt⟩ ⟨gp,gl,gc⟩ f fq q b c u1.heap.size (u1.heap.size+1+1) (.slice (some ⟨u1.heap.size+1,0,none⟩) 0 0) (.slice none 0 0))) ?_ ?_
   . have b5:=Aa ((u1.alloc (.cells #[.slice none 0 cp,.int .i64 fq.result,.slice al nl cl,.slice ac nc cc] 68)).alloc (.cells #[] 2)) (.cells #[.slice (some ⟨u1.heap.size+1,0,none⟩) 0 0,.slice none 0 0] 190)
     have n5:=An.new ((u1.alloc (.cells #[.slice none 0 cp,.int .i64 fq.result,.slice al nl cl,.slice ac nc cc] 68)).alloc (.cells #[] 2)) #[.slice (some ⟨u1.heap.size+1,0,none⟩) 0 0,.slice none 0 0] 190;rw[show((u1.alloc (.cells #[.slice none 0 cp,.int .i64 fq.result,.slice al nl cl,.slice ac nc cc] 68)).alloc (.cells #[] 2)).heap.size=u1.heap.size+1+1 by simp]at n5;exact⟨(E1.o.keep F2.o.2.1).keep b5,CZ b5 (CZ (Aa _ _) (F1.o.1.cell 1)),n5,by rw[HNP.o,cX HNP.o];exact Aj F2.o.2.2 b5 lR,by omega,by omega⟩
   rintro u5 HC;have hy0':=HC.o.eb.cell 0;have hy1':=HC.o.eb.cell 1;have hz1':=HC.o.eb.frozen 1;have fb:=HC.o.fb;have yR:=HC.o.yR;have XY:=HC.o.XY;have neY:¬w.heap.size+1+1+1=(u1.heap.size+1+1):=by omega
   have neY':¬(u1.heap.size+1+1)=w.heap.size+1+1+1:=by omega
   simp only[aU,aM,aQ]at hy0' hy1';by_cases hr:fq.result=0
   . have HR:Hid (BS fq=[]):=cD hr
     have hr':(fq.result != 0)=false:=by simpa using hr
     have hr2:(fq.result==0)=true:=by simpa using hr
     have r0:=HC.o.in4.rb.cell 0;have r1:=HC.o.in4.rb.cell 1;have z0:=HC.o.in4.rb.frozen 0;have z1:=HC.o.in4.rb.frozen 1;simp only[aU,aM,aQ]at r0 r1;go_wp2_with fail
     rw[HR.o];obtain⟨he,q0,q1⟩:=HC.o.done [] (ba _ _ _ _);exact aT (by simp[results,Tryz.results121,go_sem,q0,q1]) rfl he
   . have HR:Hid (BS fq=[fq.result]):=bu hr
     have hr':(fq.result != 0)=true:=by simpa using hr
     have hr2:(fq.result==0)=false:=by simpa using hr
     have neU:¬(u1.heap.size+1+1)=u5.heap.size:=by have:=HC.o.eb.lt;omega
     have ltU:(u1.heap.size+1+1)<u5.heap.size:=HC.o.eb.lt;go_upto_region 23 with fail
     refine Al (fun u=>Hid (Pn w u ⟨vr,vk,.slice (some ⟨g,o,none⟩) n cf,vt⟩ ⟨gp,gl,gc⟩ f fq q b c u1.heap.size (u1.heap.size+1+1) (.slice (some ⟨u1.heap.size+1,0,none⟩) 0 0) (.slice (some ⟨u5.heap.size,0,none⟩) 1 1)/\u.ownsRow w.heap.size 2 1 (.slice (some ⟨u5.heap.size,0,none⟩) 1 1) 1 ([fq.result].flatMap Ab))) (HC.o.res) ?_
     rintro u6 HC6;clear hy0' hy1' hz1' fb;have hy0':=HC6.o.1.eb.cell 0;have hy1':=HC6.o.1.eb.cell 1;have r0:=HC6.o.1.in4.rb.cell 0;have r1:=HC6.o.1.in4.rb.cell 1;have z0:=HC6.o.1.in4.rb.frozen 0;have z1:=HC6.o.1.in4.rb.frozen 1;simp only[aU,aM,aQ]at hy0' hy1' r0 r1;go_wp2_with fail
     rw[HR.o];obtain⟨he,q0,q1⟩:=HC6.o.1.done [fq.result] HC6.o.2;exact aT (by simp[results,Tryz.results121,go_sem,q0,q1]) rfl he
 | some ad=>
   have HO:Hid (((u1.alloc (.cells #[.slice (some ad) np cp,.int .i64 fq.result,.slice al nl cl,.slice ac nc cc] 68)).alloc (.cells #[] 2)).ownsRow w.heap.size 2 1 (.slice (some ⟨u1.heap.size+1,0,none⟩) 0 0) 0 []):=F2.o.2.2
   have HN:Hid (∀j u,(fq.params.flatMap Ab)[j]?=some u->((u1.alloc (.cells #[.slice (some ad) np cp,.int .i64 fq.result,.slice al nl cl,.slice ac nc cc] 68)).alloc (.cells #[] 2)).cell? (ad.add j)=some u):=fun j u hj=>by
    rcases HK.o.2.2.2.2.1.2 with⟨e0,_⟩|⟨g',o',c'',e1,hc'⟩
    . have hl:(fq.params.flatMap Ab).length=0:=by rw[Ax Ab 1 Aq,HNP.o,e0]
      rw[cX hl]at hj;simp at hj
    . simp only[aI,aJ]at e1
      obtain⟨rfl,_,_⟩:=e1;have:=hc' j u hj;rw[Di];exact CZ F2.o.2.1 (CZ E1.o.in3.bel this)
   have HL:Hid ((fq.params.flatMap Ab).length=np*1/\np<=1048576):=⟨by rw[Ax Ab 1 Aq,HNP.o],HK.o.2.2.2.2.2⟩
   go_wp2_with (at_builtin;refine wpList_append_own _ rfl _ _ 26 rfl w.heap.size 2 i0 (.int .i64 0) 1 8 Tryz.underlying26 hi hy0 hy1 hy2 rfl (by decide) _ 0 [] rfl HO.o ad np cp (fq.params.flatMap Ab) rfl HL.o.1 HN.o ?c1 ?c2 ?c3 ?c4 ?_)
   case c1=>
    intro u hu;obtain⟨z,_,hz⟩:=cE.1 hu;simp[Ab]at hz;subst hz;rfl
   case c2=>have:=HL.o.2;unfold maxLen;omega
   case c3=>have:=HL.o.2;omega
   case c4=>have:=F2.o.2.1.size;omega
   intro v' w' hown' hgrow' hnil'
   obtain⟨a2,c2,rfl⟩:∃a c,v'=.slice a np c:=by
    have:=(Rd.of_own hown').is_slice;simpa using this
   have HW:Hid (w'.ownsRow w.heap.size 2 1 (.slice a2 np c2) np (fq.params.flatMap Ab)/\Below u1.heap.size u1 w'/\w'.cell? ⟨u1.heap.size,1,none⟩=some (.int .i64 fq.result)/\u1.heap.size<w'.heap.size):=by
    have hb:Below (u1.heap.size+1) (u1.alloc (.cells #[.slice (some ad) np cp,.int .i64 fq.result,.slice al nl cl,.slice ac nc cc] 68)) w':=⟨hgrow'.os.trans rfl,hgrow'.tape.trans rfl,hgrow'.output.trans rfl,by have:=hgrow'.size;simp at this⊢;omega,fun k hk=>by
     rw[hgrow'.block k (by simp;omega) (by simp[Value.ownBlock];omega)];exact(Aa (u1.alloc (.cells #[.slice (some ad) np cp,.int .i64 fq.result,.slice al nl cl,.slice ac nc cc] 68)) (.cells #[] 2)).block k (by simp;omega)⟩
    have hsz:(u1.alloc (.cells #[.slice (some ad) np cp,.int .i64 fq.result,.slice al nl cl,.slice ac nc cc] 68)).heap.size=u1.heap.size+1:=by simp
    have hb':Below (u1.alloc (.cells #[.slice (some ad) np cp,.int .i64 fq.result,.slice al nl cl,.slice ac nc cc] 68)).heap.size (u1.alloc (.cells #[.slice (some ad) np cp,.int .i64 fq.result,.slice al nl cl,.slice ac nc cc] 68)) w':=by rw[hsz];exact hb
    refine⟨by simpa using hown',Af F1.o.2 lR hb',?_,by have:=hb'.size;omega⟩;have:=(F1.o.1.keep hb').cell 1;simpa using this
   clear hown' hgrow' hnil';go_upto_region 21 with fail
   refine Al (fun u=>Hid (Pn w u ⟨vr,vk,.slice (some ⟨g,o,none⟩) n cf,vt⟩ ⟨gp,gl,gc⟩ f fq q b c u1.heap.size w'.heap.size (.slice a2 np c2) (.slice none 0 0))) ?_ ?_
   . have b5:=Aa w' (.cells #[.slice a2 np c2,.slice none 0 0] 190)
     exact⟨(E1.o.keep HW.o.2.1).keep b5,CZ b5 HW.o.2.2.1,An.new _ _ _,by rw[HNP.o];exact Aj HW.o.1 b5 lR,by have:=HW.o.2.2.2;omega,HW.o.2.2.2⟩
   rintro u5 HC;have hy0':=HC.o.eb.cell 0;have hy1':=HC.o.eb.cell 1;have hz1':=HC.o.eb.frozen 1;have fb:=HC.o.fb;have yR:=HC.o.yR;have XY:=HC.o.XY;have neY:¬w.heap.size+1+1+1=w'.heap.size:=by omega
   have neY':¬w'.heap.size=w.heap.size+1+1+1:=by omega
   simp only[aU,aM,aQ]at hy0' hy1';by_cases hr:fq.result=0
   . have HR:Hid (BS fq=[]):=cD hr
     have hr':(fq.result != 0)=false:=by simpa using hr
     have hr2:(fq.result==0)=true:=by simpa using hr
     have r0:=HC.o.in4.rb.cell 0;have r1:=HC.o.in4.rb.cell 1;have z0:=HC.o.in4.rb.frozen 0;have z1:=HC.o.in4.rb.frozen 1;simp only[aU,aM,aQ]at r0 r1;go_wp2_with fail
     rw[HR.o];obtain⟨he,q0,q1⟩:=HC.o.done [] (ba _ _ _ _);exact aT (by simp[results,Tryz.results121,go_sem,q0,q1]) rfl he
   . have HR:Hid (BS fq=[fq.result]):=bu hr
     have hr':(fq.result != 0)=true:=by simpa using hr
     have hr2:(fq.result==0)=false:=by simpa using hr
     have neU:¬w'.heap.size=u5.heap.size:=by have:=HC.o.eb.lt;omega
     have ltU:w'.heap.size<u5.heap.size:=HC.o.eb.lt;go_upto_region 23 with fail
     refine Al (fun u=>Hid (Pn w u ⟨vr,vk,.slice (some ⟨g,o,none⟩) n cf,vt⟩ ⟨gp,gl,gc⟩ f fq q b c u1.heap.size w'.heap.size (.slice a2 np c2) (.slice (some ⟨u5.heap.size,0,none⟩) 1 1)/\u.ownsRow w.heap.size 2 1 (.slice (some ⟨u5.heap.size,0,none⟩) 1 1) 1 ([fq.result].flatMap Ab))) (HC.o.res) ?_
     rintro u6 HC6;clear hy0' hy1' hz1' fb;have hy0':=HC6.o.1.eb.cell 0;have hy1':=HC6.o.1.eb.cell 1;have r0:=HC6.o.1.in4.rb.cell 0;have r1:=HC6.o.1.in4.rb.cell 1;have z0:=HC6.o.1.in4.rb.frozen 0;have z1:=HC6.o.1.in4.rb.frozen 1;simp only[aU,aM,aQ]at hy0' hy1' r0 r1;go_wp2_with fail
     rw[HR.o];obtain⟨he,q0,q1⟩:=HC6.o.1.done [fq.result] HC6.o.2;exact aT (by simp[results,Tryz.results121,go_sem,q0,q1]) rfl he
def Qc(w:World)(ts:List Int)(e:Ending)(w':World):Prop:=∃s,e=.returned s/\Rd w' 1 s ts.length (ts.flatMap Ab)/\Below w.heap.size w w'
theorem Nh{w u:World}(hb:Below w.heap.size w u)(ts:List Int)(n c:Nat)(hn:n=ts.length):Qc w ts (.returned (.slice (some ⟨u.heap.size,0,none⟩) n c)) (u.alloc (.cells (ts.flatMap Ab).toArray 2)):=by
 subst hn;refine⟨_,rfl,⟨by rw[Ax Ab 1 Aq],.inr ⟨u.heap.size,0,c,rfl,fun j v hj=> ?_⟩⟩,Af hb lR (Aa _ _)⟩;rw[dY _ u.heap.size (0+j) _ _ _ (FQ u (ts.flatMap Ab).toArray 2),bG];simpa using hj
end Go.Proofs.YtjpobijiblcgaaaGreat
