import Derived.Test.YtjcamlobelcepaaGreatDoorCt17
import Derived.Deep.RegionHeld3
namespace Go.Proofs.YtjcamlobelcepaaGreatDoor
open Go.ChangeShapes Go.WideShapes Go.ChangeAt Go.RowKit
set_option linter.unusedVariables false
set_option maxHeartbeats 8000000
set_option maxRecDepth 100000
def Dn(w:World)(ts gs:List Int)(e:Ending)(w':World):Prop:=∃t s,e=.returned (.agg #[t,s])/\Rd w' 1 t ts.length (ts.flatMap Ac)/\Rd w' 1 s gs.length (gs.flatMap Ac)/\Below w.heap.size w w'
structure Ki(w u:World)(v:VP)(g:VF)(f:MF)(op a b c:Int):Prop where
 in3:Qc w u v g f op a b c
 rb:Ap u (w.heap.size+1+1+1) #[sN,sN] 237
theorem Ki.of(w:World)(v:VP)(g:VF)(f:MF)(op a b c:Int):Ki w ((((w.alloc (.cells #[v.r,v.k,v.f,v.t] 28)).alloc (.cells #[g.p,iZ f.result,g.l,g.c] 58)).alloc (.cells #[iZ op,iZ a,iZ b,iZ c] 97)).alloc (.cells #[sN,sN] 237)) v g f op a b c:=by
 refine⟨(Qc.of w v g f op a b c).keep (Aa _ _),?_⟩;have:=Ap.new (((w.alloc (.cells #[v.r,v.k,v.f,v.t] 28)).alloc (.cells #[g.p,iZ f.result,g.l,g.c] 58)).alloc (.cells #[iZ op,iZ a,iZ b,iZ c] 97)) #[sN,sN] 237;simpa using this
theorem Ki.keep{w u u':World}{v:VP}{g:VF}{f:MF}{op a b c:Int}(h:Ki w u v g f op a b c)(hb:Below u.heap.size u u'):Ki w u' v g f op a b c:=⟨h.in3.keep hb,h.rb.keep hb⟩
theorem IG(u:World)(ts:List Int):Rd (u.alloc (.cells (ts.flatMap Ac).toArray 2)) 1 (sG u.heap.size ts.length ts.length) ts.length (ts.flatMap Ac):=by
 refine⟨by rw[Aq Ac 1 Al],.inr ⟨u.heap.size,0,_,rfl,fun j x hj=> ?_⟩⟩;rw[cu _ _ _ _ _ _ (GA u (ts.flatMap Ac).toArray 2),bV];simpa using hj
theorem LT(u:World):Rd u 1 sN ([]:List Int).length (([]:List Int).flatMap Ac):=⟨rfl,.inl ⟨rfl,_,_,rfl⟩⟩
theorem AB{W u:World}(hb:Below W.heap.size W u){a:Addr}{x:Value}(h:W.cell? a=some x):u.cell? a=some x:=by rw[hb.cell (aD h)];exact h
theorem Gf{w u:World}{v:VP}{g:VF}{f:MF}{op a b c:Int}(h:Ki w u v g f op a b c)(ts:List Int)(gs:List Int)(U:World)(hU:U=((((u.setCell ⟨w.heap.size+1+1+1,0,none⟩ (sG u.heap.size ts.length ts.length)).setCell ⟨w.heap.size+1+1+1,1,none⟩ (.slice (some ⟨u.heap.size+1,0,none⟩) gs.length gs.length)).alloc (.cells (ts.flatMap Ac).toArray 2)).alloc (.cells (gs.flatMap Ac).toArray 2))):
 Dn w ts gs (.returned (.agg #[sG u.heap.size ts.length ts.length,.slice (some ⟨u.heap.size+1,0,none⟩) gs.length gs.length])) U/\U.cell? ⟨w.heap.size+1+1+1,0,none⟩=some (sG u.heap.size ts.length ts.length)/\U.cell? ⟨w.heap.size+1+1+1,1,none⟩=some (.slice (some ⟨u.heap.size+1,0,none⟩) gs.length gs.length):=by
 subst hU;have R2:=(h.rb.set 0 (sG u.heap.size ts.length ts.length)).set 1 (.slice (some ⟨u.heap.size+1,0,none⟩) gs.length gs.length);have q0:=R2.cell 0;have q1:=R2.cell 1;simp only[aY,au,aw,aQ,aJ,aL]at q0 q1;have bel:Below w.heap.size w ((u.setCell ⟨w.heap.size+1+1+1,0,none⟩ (sG u.heap.size ts.length ts.length)).setCell ⟨w.heap.size+1+1+1,1,none⟩ (.slice (some ⟨u.heap.size+1,0,none⟩) gs.length gs.length)):=(h.in3.bel.setCell (by simp only[];omega) _).setCell (by simp only[];omega) _;have z0:((u.setCell ⟨w.heap.size+1+1+1,0,none⟩ (sG u.heap.size ts.length ts.length)).setCell ⟨w.heap.size+1+1+1,1,none⟩ (.slice (some ⟨u.heap.size+1,0,none⟩) gs.length gs.length)).heap.size=u.heap.size:=by simp only[bf]
 generalize ((u.setCell ⟨w.heap.size+1+1+1,0,none⟩ (sG u.heap.size ts.length ts.length)).setCell ⟨w.heap.size+1+1+1,1,none⟩ (.slice (some ⟨u.heap.size+1,0,none⟩) gs.length gs.length))=u0 at q0 q1 bel z0⊢;have r1:=IG u0 ts;have z1:(u0.alloc (.cells (ts.flatMap Ac).toArray 2)).heap.size=u.heap.size+1:=by simp[z0]
 have b1:=Aa u0 (.cells (ts.flatMap Ac).toArray 2);rw[z0]at r1;generalize u0.alloc (.cells (ts.flatMap Ac).toArray 2)=u1 at r1 z1 b1⊢;have r2:=IG u1 gs;have b2:=Aa u1 (.cells (gs.flatMap Ac).toArray 2);rw[z1]at r2;generalize u1.alloc (.cells (gs.flatMap Ac).toArray 2)=u2 at r2 b2⊢;exact⟨⟨_,_,rfl,(r1.keep b2 lR),r2,(Ab (Ab bel lR b1) lR b2)⟩,(AB b2 (AB b1 q0)),(AB b2 (AB b1 q1))⟩
theorem MH{w u:World}{v:VP}{g:VF}{f:MF}{op a b c:Int}(h:Ki w u v g f op a b c)(ts:List Int)(U:World)(hU:U=(((u.setCell ⟨w.heap.size+1+1+1,0,none⟩ (sG u.heap.size ts.length ts.length)).setCell ⟨w.heap.size+1+1+1,1,none⟩ sN).alloc (.cells (ts.flatMap Ac).toArray 2))):
 Dn w ts [] (.returned (.agg #[sG u.heap.size ts.length ts.length,sN])) U/\U.cell? ⟨w.heap.size+1+1+1,0,none⟩=some (sG u.heap.size ts.length ts.length)/\U.cell? ⟨w.heap.size+1+1+1,1,none⟩=some sN:=by
 subst hU;have R2:=(h.rb.set 0 (sG u.heap.size ts.length ts.length)).set 1 sN;have q0:=R2.cell 0;have q1:=R2.cell 1;simp only[aY,au,aw,aQ,aJ,aL]at q0 q1;have bel:Below w.heap.size w ((u.setCell ⟨w.heap.size+1+1+1,0,none⟩ (sG u.heap.size ts.length ts.length)).setCell ⟨w.heap.size+1+1+1,1,none⟩ sN):=(h.in3.bel.setCell (by simp only[];omega) _).setCell (by simp only[];omega) _;have z0:((u.setCell ⟨w.heap.size+1+1+1,0,none⟩ (sG u.heap.size ts.length ts.length)).setCell ⟨w.heap.size+1+1+1,1,none⟩ sN).heap.size=u.heap.size:=by simp only[bf]
 generalize ((u.setCell ⟨w.heap.size+1+1+1,0,none⟩ (sG u.heap.size ts.length ts.length)).setCell ⟨w.heap.size+1+1+1,1,none⟩ sN)=u0 at q0 q1 bel z0⊢;have r1:=IG u0 ts;have z1:(u0.alloc (.cells (ts.flatMap Ac).toArray 2)).heap.size=u.heap.size+1:=by simp[z0]
 have b1:=Aa u0 (.cells (ts.flatMap Ac).toArray 2);rw[z0]at r1;generalize u0.alloc (.cells (ts.flatMap Ac).toArray 2)=u1 at r1 z1 b1⊢;exact⟨⟨_,_,rfl,r1,(LT _),(Ab bel lR b1)⟩,(AB b1 q0),(AB b1 q1)⟩
theorem QB{w u:World}{v:VP}{g:VF}{f:MF}{op a b c:Int}(h:Ki w u v g f op a b c)(gs:List Int)(U:World)(hU:U=(((u.setCell ⟨w.heap.size+1+1+1,0,none⟩ sN).setCell ⟨w.heap.size+1+1+1,1,none⟩ (sG u.heap.size gs.length gs.length)).alloc (.cells (gs.flatMap Ac).toArray 2))):
 Dn w [] gs (.returned (.agg #[sN,sG u.heap.size gs.length gs.length])) U/\U.cell? ⟨w.heap.size+1+1+1,0,none⟩=some sN/\U.cell? ⟨w.heap.size+1+1+1,1,none⟩=some (sG u.heap.size gs.length gs.length):=by
 subst hU;have R2:=(h.rb.set 0 sN).set 1 (sG u.heap.size gs.length gs.length);have q0:=R2.cell 0;have q1:=R2.cell 1;simp only[aY,au,aw,aQ,aJ,aL]at q0 q1;have bel:Below w.heap.size w ((u.setCell ⟨w.heap.size+1+1+1,0,none⟩ sN).setCell ⟨w.heap.size+1+1+1,1,none⟩ (sG u.heap.size gs.length gs.length)):=(h.in3.bel.setCell (by simp only[];omega) _).setCell (by simp only[];omega) _;have z0:((u.setCell ⟨w.heap.size+1+1+1,0,none⟩ sN).setCell ⟨w.heap.size+1+1+1,1,none⟩ (sG u.heap.size gs.length gs.length)).heap.size=u.heap.size:=by simp only[bf]
 generalize ((u.setCell ⟨w.heap.size+1+1+1,0,none⟩ sN).setCell ⟨w.heap.size+1+1+1,1,none⟩ (sG u.heap.size gs.length gs.length))=u0 at q0 q1 bel z0⊢;have r2:=IG u0 gs;have b2:=Aa u0 (.cells (gs.flatMap Ac).toArray 2);rw[z0]at r2;generalize u0.alloc (.cells (gs.flatMap Ac).toArray 2)=u2 at r2 b2⊢;exact⟨⟨_,_,rfl,(LT _),r2,(Ab bel lR b2)⟩,(AB b2 q0),(AB b2 q1)⟩
theorem TV{w u:World}{v:VP}{g:VF}{f:MF}{op a b c:Int}(h:Ki w u v g f op a b c)(U:World)(hU:U=((u.setCell ⟨w.heap.size+1+1+1,0,none⟩ sN).setCell ⟨w.heap.size+1+1+1,1,none⟩ sN)):
 Dn w [] [] (.returned (.agg #[sN,sN])) U/\U.cell? ⟨w.heap.size+1+1+1,0,none⟩=some sN/\U.cell? ⟨w.heap.size+1+1+1,1,none⟩=some sN:=by
 subst hU;have R2:=(h.rb.set 0 sN).set 1 sN;have q0:=R2.cell 0;have q1:=R2.cell 1;simp only[aY,au,aw,aQ,aJ,aL]at q0 q1;have bel:Below w.heap.size w ((u.setCell ⟨w.heap.size+1+1+1,0,none⟩ sN).setCell ⟨w.heap.size+1+1+1,1,none⟩ sN):=(h.in3.bel.setCell (by simp only[];omega) _).setCell (by simp only[];omega) _;have z0:((u.setCell ⟨w.heap.size+1+1+1,0,none⟩ sN).setCell ⟨w.heap.size+1+1+1,1,none⟩ sN).heap.size=u.heap.size:=by simp only[bf]
 generalize ((u.setCell ⟨w.heap.size+1+1+1,0,none⟩ sN).setCell ⟨w.heap.size+1+1+1,1,none⟩ sN)=u0 at q0 q1 bel z0⊢;exact⟨⟨_,_,rfl,(LT _),(LT _),bel⟩,q0,q1⟩
theorem Ce(vr vk vf vt gp gl gc:Value)(f:MF)(op F a b c:Int)(ts gs:List Int)(w:World)(h:op=0/\F=0/\ts=[]/\gs=[]\/op=8/\F=5/\ts=[a,a]/\gs=[a]\/op=9/\F=5/\ts=[a,a]/\gs=[a]\/op=10/\F=5/\ts=[a,a]/\gs=[a]\/op=11/\F=5/\ts=[a,a]/\gs=[a]\/op=12/\F=5/\ts=[a,a]/\gs=[a]\/op=13/\F=6/\ts=[a,a]/\gs=[a]\/op=14/\F=6/\ts=[a,a]/\gs=[a]\/op=15/\F=6/\ts=[a,a]/\gs=[a]\/op=16/\F=6/\ts=[a]/\gs=[a]\/op=17/\F=0/\ts=[3,3]/\gs=[3]\/op=18/\F=0/\ts=[3,3]/\gs=[3]\/op=19/\F=0/\ts=[2]/\gs=[2]\/op=20/\F=7/\ts=[a,a]/\gs=[1]\/op=21/\F=5/\ts=[a,a]/\gs=[1]\/op=22/\F=8/\ts=[a]/\gs=[b]\/op=23/\F=0/\ts=[0]/\gs=[0,0]\/op=24/\F=0/\ts=[0]/\gs=[]\/op=25/\F=9/\ts=[]/\gs=[]\/op=26/\F=9/\ts=[1]/\gs=[]\/op=27/\F=10/\ts=[]/\gs=[]\/op=29/\F=0/\ts=[]/\gs=[]):
 Calls Tryz.prog 146 #[.agg #[vr,vk,vf,vt],.agg #[gp,iZ f.result,gl,gc],.agg #[iZ op,iZ a,iZ b,iZ c]] w (Dn w ts gs):=by
 obtain⟨nm,co,hI⟩:∃nm co,CL op=#[.string nm,iZ co,iZ F]:=by
  rcases h with⟨rfl,rfl,_⟩|⟨rfl,rfl,_⟩|⟨rfl,rfl,_⟩|⟨rfl,rfl,_⟩|⟨rfl,rfl,_⟩|⟨rfl,rfl,_⟩|⟨rfl,rfl,_⟩|⟨rfl,rfl,_⟩|⟨rfl,rfl,_⟩|⟨rfl,rfl,_⟩|⟨rfl,rfl,_⟩|⟨rfl,rfl,_⟩|⟨rfl,rfl,_⟩|⟨rfl,rfl,_⟩|⟨rfl,rfl,_⟩|⟨rfl,rfl,_⟩|⟨rfl,rfl,_⟩|⟨rfl,rfl,_⟩|⟨rfl,rfl,_⟩|⟨rfl,rfl,_⟩|⟨rfl,rfl,_⟩|⟨rfl,rfl,_⟩<;>exact⟨_,_,rfl⟩
 have hS:Hid (∀w,Calls Tryz.prog 121 #[iZ op] w fun e w'=>e=.returned (.agg #[.string nm,iZ co,iZ F])/\Below w.heap.size w w'):=fun w=>by
  have h1:=Cr op w;rw[hI]at h1;exact h1
 clear hI;have E0:Hid _:=Ki.of w ⟨vr,vk,vf,vt⟩ ⟨gp,gl,gc⟩ f op a b c;rcases h with⟨rfl,rfl,rfl,rfl⟩|⟨rfl,rfl,rfl,rfl⟩|⟨rfl,rfl,rfl,rfl⟩|⟨rfl,rfl,rfl,rfl⟩|⟨rfl,rfl,rfl,rfl⟩|⟨rfl,rfl,rfl,rfl⟩|⟨rfl,rfl,rfl,rfl⟩|⟨rfl,rfl,rfl,rfl⟩|⟨rfl,rfl,rfl,rfl⟩|⟨rfl,rfl,rfl,rfl⟩|⟨rfl,rfl,rfl,rfl⟩|⟨rfl,rfl,rfl,rfl⟩|⟨rfl,rfl,rfl,rfl⟩|⟨rfl,rfl,rfl,rfl⟩|⟨rfl,rfl,rfl,rfl⟩|⟨rfl,rfl,rfl,rfl⟩|⟨rfl,rfl,rfl,rfl⟩|⟨rfl,rfl,rfl,rfl⟩|⟨rfl,rfl,rfl,rfl⟩|⟨rfl,rfl,rfl,rfl⟩|⟨rfl,rfl,rfl,rfl⟩|⟨rfl,rfl,rfl,rfl⟩
 all_goals
  have hfl:=Cw;go_enter Tryz.func146,Tryz.ntmps146;go_wp2_with fail
  refine(hS.o _).mono ?_;rintro e u1 ⟨rfl,b1⟩;have E1:Hid _:=E0.o.keep b1;clear E0 b1 hS;have x0:=E1.o.in3.ins.c0;have x1:=E1.o.in3.ins.c1;have x2:=E1.o.in3.ins.c2;have r0:=E1.o.rb.cell 0;have r1:=E1.o.rb.cell 1;have z0:=E1.o.rb.frozen 0;have z1:=E1.o.rb.frozen 1;have lt2:w.heap.size+1+1<u1.heap.size:=by have:=E1.o.rb.lt;omega
  have ne2:¬w.heap.size+1+1=u1.heap.size:=by have:=E1.o.rb.lt;omega
  have lt3:w.heap.size+1+1+1<u1.heap.size:=E1.o.rb.lt;have ne3:¬w.heap.size+1+1+1=u1.heap.size:=by have:=E1.o.rb.lt;omega
  have ne4:¬w.heap.size+1+1+1=u1.heap.size+1:=by have:=E1.o.rb.lt;omega
  have ne5:¬w.heap.size+1+1=u1.heap.size+1:=by have:=E1.o.rb.lt;omega
  simp only[aQ,aJ,aL]at r0 r1;go_wp2_with fail
  first
   |(obtain⟨he,q0,q1⟩:=TV E1.o _ rfl;exact aW (v:=.agg #[sN,sN]) (by simp[results,Tryz.results146,go_sem,q0,q1]) rfl he)
   |(obtain⟨he,q0,q1⟩:=Gf E1.o [a,a] [a] _ rfl;simp only[Ac,am,bi,bK,ba,bL,bc,bV,Nat.reduceAdd]at q0 q1;exact aW (v:=.agg #[sG u1.heap.size 2 2,.slice (some ⟨u1.heap.size+1,0,none⟩) 1 1]) (by simp[results,Tryz.results146,go_sem,q0,q1]) rfl he)
   |(obtain⟨he,q0,q1⟩:=Gf E1.o [a] [a] _ rfl;simp only[Ac,am,bi,bK,ba,bL,bc,bV]at q0 q1;exact aW (v:=.agg #[sG u1.heap.size 1 1,.slice (some ⟨u1.heap.size+1,0,none⟩) 1 1]) (by simp[results,Tryz.results146,go_sem,q0,q1]) rfl he)
   |(obtain⟨he,q0,q1⟩:=Gf E1.o [3,3] [3] _ rfl;simp only[Ac,am,bi,bK,ba,bL,bc,bV,Nat.reduceAdd]at q0 q1;exact aW (v:=.agg #[sG u1.heap.size 2 2,.slice (some ⟨u1.heap.size+1,0,none⟩) 1 1]) (by simp[results,Tryz.results146,go_sem,q0,q1]) rfl he)
   |(obtain⟨he,q0,q1⟩:=Gf E1.o [2] [2] _ rfl;simp only[Ac,am,bi,bK,ba,bL,bc,bV]at q0 q1;exact aW (v:=.agg #[sG u1.heap.size 1 1,.slice (some ⟨u1.heap.size+1,0,none⟩) 1 1]) (by simp[results,Tryz.results146,go_sem,q0,q1]) rfl he)
   |(obtain⟨he,q0,q1⟩:=Gf E1.o [a,a] [1] _ rfl;simp only[Ac,am,bi,bK,ba,bL,bc,bV,Nat.reduceAdd]at q0 q1;exact aW (v:=.agg #[sG u1.heap.size 2 2,.slice (some ⟨u1.heap.size+1,0,none⟩) 1 1]) (by simp[results,Tryz.results146,go_sem,q0,q1]) rfl he)
   |(obtain⟨he,q0,q1⟩:=Gf E1.o [a] [b] _ rfl;simp only[Ac,am,bi,bK,ba,bL,bc,bV]at q0 q1;exact aW (v:=.agg #[sG u1.heap.size 1 1,.slice (some ⟨u1.heap.size+1,0,none⟩) 1 1]) (by simp[results,Tryz.results146,go_sem,q0,q1]) rfl he)
   |(obtain⟨he,q0,q1⟩:=Gf E1.o [0] [0,0] _ rfl;simp only[Ac,am,bi,bK,ba,bL,bc,bV,Nat.reduceAdd]at q0 q1;exact aW (v:=.agg #[sG u1.heap.size 1 1,.slice (some ⟨u1.heap.size+1,0,none⟩) 2 2]) (by simp[results,Tryz.results146,go_sem,q0,q1]) rfl he)
   |(obtain⟨he,q0,q1⟩:=MH E1.o [0] _ rfl;simp only[Ac,am,bi,bK,ba,bL,bc,bV]at q0 q1;exact aW (v:=.agg #[sG u1.heap.size 1 1,sN]) (by simp[results,Tryz.results146,go_sem,q0,q1]) rfl he)
   |(obtain⟨he,q0,q1⟩:=MH E1.o [1] _ rfl;simp only[Ac,am,bi,bK,ba,bL,bc,bV]at q0 q1;exact aW (v:=.agg #[sG u1.heap.size 1 1,sN]) (by simp[results,Tryz.results146,go_sem,q0,q1]) rfl he)
end Go.Proofs.YtjcamlobelcepaaGreatDoor
