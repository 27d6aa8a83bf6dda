import Derived.Test.YtdfmdgbolmbffaaGreatTy10
import Derived.Test.YtdfmdgbolmbffaaGreatTy3
import Derived.Test.YtdfmdgbolmbffaaGreatTy12
import Derived.Deep.RegionHeld3
import Derived.Deep.RegionLaw
namespace Go.Proofs.YtdfmdgbolmbffaaGreat
open Go.ChangeShapes Go.WideShapes Go.ChangeAt Go.RowKit
set_option linter.unusedVariables false
def EffIs(w:World)(ts gs:List Int)(e:Ending)(w':World):Prop:=∃t s,e=.returned (.agg #[t,s])/\Rd w' 1 t ts.length (ts.flatMap intCell)/\Rd w' 1 s gs.length (gs.flatMap intCell)/\Below w.heap.size w w'
structure In4(w u:World)(v:VP)(g:VF)(f:MF)(op a b c:Int):Prop where
  in3:In3 w u v g f op a b c
  rb:Blk u (w.heap.size+1+1+1) #[.slice none 0 0,.slice none 0 0] 124
theorem In4.of(w:World)(v:VP)(g:VF)(f:MF)(op a b c:Int):In4 w ((((w.alloc (.cells #[v.r,v.k,v.f,v.t] 36)).alloc (.cells #[g.p,.int .i64 f.result,g.l,g.c] 63)).alloc (.cells #[.int .i64 op,.int .i64 a,.int .i64 b,.int .i64 c] 73)).alloc (.cells #[.slice none 0 0,.slice none 0 0] 124)) v g f op a b c:=by
  refine⟨(In3.of w v g f op a b c).keep (below_alloc _ _),?_⟩
  have:=Blk.new (((w.alloc (.cells #[v.r,v.k,v.f,v.t] 36)).alloc (.cells #[g.p,.int .i64 f.result,g.l,g.c] 63)).alloc (.cells #[.int .i64 op,.int .i64 a,.int .i64 b,.int .i64 c] 73)) #[.slice none 0 0,.slice none 0 0] 124
  simpa using this
theorem In4.keep{w u u':World}{v:VP}{g:VF}{f:MF}{op a b c:Int}(h:In4 w u v g f op a b c)(hb:Below u.heap.size u u'):In4 w u' v g f op a b c:=⟨h.in3.keep hb,h.rb.keep hb⟩
theorem rd_new(u:World)(ts:List Int):Rd (u.alloc (.cells (ts.flatMap intCell).toArray 2)) 1 (.slice (some ⟨u.heap.size,0,none⟩) ts.length ts.length) ts.length (ts.flatMap intCell):=by
  refine⟨by rw[flat_length intCell 1 intCell_length],.inr ⟨u.heap.size,0,_,rfl,fun j x hj=> ?_⟩⟩
  rw[cell_of_row _ _ _ _ _ _ (block_new u (ts.flatMap intCell).toArray 2),Nat.zero_add]
  simpa using hj
theorem rd_nil(u:World):Rd u 1 (.slice none 0 0) ([]:List Int).length (([]:List Int).flatMap intCell):=⟨rfl,.inl ⟨rfl,_,_,rfl⟩⟩
theorem bcell'{W u:World}(hb:Below W.heap.size W u){a:Addr}{x:Value}(h:W.cell? a=some x):u.cell? a=some x:=by rw[hb.cell (block_lt_of_cell h)];exact h
theorem eff_tg{w u:World}{v:VP}{g:VF}{f:MF}{op a b c:Int}(h:In4 w u v g f op a b c)(ts:List Int)(gs:List Int)(U:World)(hU:U=((((u.setCell ⟨w.heap.size+1+1+1,0,none⟩ (.slice (some ⟨u.heap.size,0,none⟩) ts.length ts.length)).setCell ⟨w.heap.size+1+1+1,1,none⟩ (.slice (some ⟨u.heap.size+1,0,none⟩) gs.length gs.length)).alloc (.cells (ts.flatMap intCell).toArray 2)).alloc (.cells (gs.flatMap intCell).toArray 2))):
    EffIs w ts gs (.returned (.agg #[.slice (some ⟨u.heap.size,0,none⟩) ts.length ts.length,.slice (some ⟨u.heap.size+1,0,none⟩) gs.length gs.length])) U/\U.cell? ⟨w.heap.size+1+1+1,0,none⟩=some (.slice (some ⟨u.heap.size,0,none⟩) ts.length ts.length)/\U.cell? ⟨w.heap.size+1+1+1,1,none⟩=some (.slice (some ⟨u.heap.size+1,0,none⟩) gs.length gs.length):=by
  subst hU
  have R2:=(h.rb.set 0 (.slice (some ⟨u.heap.size,0,none⟩) ts.length ts.length)).set 1 (.slice (some ⟨u.heap.size+1,0,none⟩) gs.length gs.length)
  have q0:=R2.cell 0
  have q1:=R2.cell 1
  simp only[List.setIfInBounds_toArray,List.set_cons_zero,List.set_cons_succ,List.getElem?_toArray,List.getElem?_cons_zero,List.getElem?_cons_succ]at q0 q1
  have bel:Below w.heap.size w ((u.setCell ⟨w.heap.size+1+1+1,0,none⟩ (.slice (some ⟨u.heap.size,0,none⟩) ts.length ts.length)).setCell ⟨w.heap.size+1+1+1,1,none⟩ (.slice (some ⟨u.heap.size+1,0,none⟩) gs.length gs.length)):=(h.in3.bel.setCell (by simp only[];omega) _).setCell (by simp only[];omega) _
  have z0:((u.setCell ⟨w.heap.size+1+1+1,0,none⟩ (.slice (some ⟨u.heap.size,0,none⟩) ts.length ts.length)).setCell ⟨w.heap.size+1+1+1,1,none⟩ (.slice (some ⟨u.heap.size+1,0,none⟩) gs.length gs.length)).heap.size=u.heap.size:=by simp only[World.size_setCell]
  generalize ((u.setCell ⟨w.heap.size+1+1+1,0,none⟩ (.slice (some ⟨u.heap.size,0,none⟩) ts.length ts.length)).setCell ⟨w.heap.size+1+1+1,1,none⟩ (.slice (some ⟨u.heap.size+1,0,none⟩) gs.length gs.length))=u0 at q0 q1 bel z0⊢
  have r1:=rd_new u0 ts
  have z1:(u0.alloc (.cells (ts.flatMap intCell).toArray 2)).heap.size=u.heap.size+1:=by simp[z0]
  have b1:=below_alloc u0 (.cells (ts.flatMap intCell).toArray 2)
  rw[z0]at r1
  generalize u0.alloc (.cells (ts.flatMap intCell).toArray 2)=u1 at r1 z1 b1⊢
  have r2:=rd_new u1 gs
  have b2:=below_alloc u1 (.cells (gs.flatMap intCell).toArray 2)
  rw[z1]at r2
  generalize u1.alloc (.cells (gs.flatMap intCell).toArray 2)=u2 at r2 b2⊢
  exact⟨⟨_,_,rfl,(r1.keep b2 (Nat.le_refl _)),r2,(below_on (below_on bel (Nat.le_refl _) b1) (Nat.le_refl _) b2)⟩,(bcell' b2 (bcell' b1 q0)),(bcell' b2 (bcell' b1 q1))⟩
theorem eff_t{w u:World}{v:VP}{g:VF}{f:MF}{op a b c:Int}(h:In4 w u v g f op a b c)(ts:List Int)(U:World)(hU:U=(((u.setCell ⟨w.heap.size+1+1+1,0,none⟩ (.slice (some ⟨u.heap.size,0,none⟩) ts.length ts.length)).setCell ⟨w.heap.size+1+1+1,1,none⟩ (.slice none 0 0)).alloc (.cells (ts.flatMap intCell).toArray 2))):
    EffIs w ts [] (.returned (.agg #[.slice (some ⟨u.heap.size,0,none⟩) ts.length ts.length,.slice none 0 0])) U/\U.cell? ⟨w.heap.size+1+1+1,0,none⟩=some (.slice (some ⟨u.heap.size,0,none⟩) ts.length ts.length)/\U.cell? ⟨w.heap.size+1+1+1,1,none⟩=some (.slice none 0 0):=by
  subst hU
  have R2:=(h.rb.set 0 (.slice (some ⟨u.heap.size,0,none⟩) ts.length ts.length)).set 1 (.slice none 0 0)
  have q0:=R2.cell 0
  have q1:=R2.cell 1
  simp only[List.setIfInBounds_toArray,List.set_cons_zero,List.set_cons_succ,List.getElem?_toArray,List.getElem?_cons_zero,List.getElem?_cons_succ]at q0 q1
  have bel:Below w.heap.size w ((u.setCell ⟨w.heap.size+1+1+1,0,none⟩ (.slice (some ⟨u.heap.size,0,none⟩) ts.length ts.length)).setCell ⟨w.heap.size+1+1+1,1,none⟩ (.slice none 0 0)):=(h.in3.bel.setCell (by simp only[];omega) _).setCell (by simp only[];omega) _
  have z0:((u.setCell ⟨w.heap.size+1+1+1,0,none⟩ (.slice (some ⟨u.heap.size,0,none⟩) ts.length ts.length)).setCell ⟨w.heap.size+1+1+1,1,none⟩ (.slice none 0 0)).heap.size=u.heap.size:=by simp only[World.size_setCell]
  generalize ((u.setCell ⟨w.heap.size+1+1+1,0,none⟩ (.slice (some ⟨u.heap.size,0,none⟩) ts.length ts.length)).setCell ⟨w.heap.size+1+1+1,1,none⟩ (.slice none 0 0))=u0 at q0 q1 bel z0⊢
  have r1:=rd_new u0 ts
  have z1:(u0.alloc (.cells (ts.flatMap intCell).toArray 2)).heap.size=u.heap.size+1:=by simp[z0]
  have b1:=below_alloc u0 (.cells (ts.flatMap intCell).toArray 2)
  rw[z0]at r1
  generalize u0.alloc (.cells (ts.flatMap intCell).toArray 2)=u1 at r1 z1 b1⊢
  exact⟨⟨_,_,rfl,r1,(rd_nil _),(below_on bel (Nat.le_refl _) b1)⟩,(bcell' b1 q0),(bcell' b1 q1)⟩
theorem eff_g{w u:World}{v:VP}{g:VF}{f:MF}{op a b c:Int}(h:In4 w u v g f op a b c)(gs:List Int)(U:World)(hU:U=(((u.setCell ⟨w.heap.size+1+1+1,0,none⟩ (.slice none 0 0)).setCell ⟨w.heap.size+1+1+1,1,none⟩ (.slice (some ⟨u.heap.size,0,none⟩) gs.length gs.length)).alloc (.cells (gs.flatMap intCell).toArray 2))):
    EffIs w [] gs (.returned (.agg #[.slice none 0 0,.slice (some ⟨u.heap.size,0,none⟩) gs.length gs.length])) U/\U.cell? ⟨w.heap.size+1+1+1,0,none⟩=some (.slice none 0 0)/\U.cell? ⟨w.heap.size+1+1+1,1,none⟩=some (.slice (some ⟨u.heap.size,0,none⟩) gs.length gs.length):=by
  subst hU
  have R2:=(h.rb.set 0 (.slice none 0 0)).set 1 (.slice (some ⟨u.heap.size,0,none⟩) gs.length gs.length)
  have q0:=R2.cell 0
  have q1:=R2.cell 1
  simp only[List.setIfInBounds_toArray,List.set_cons_zero,List.set_cons_succ,List.getElem?_toArray,List.getElem?_cons_zero,List.getElem?_cons_succ]at q0 q1
  have bel:Below w.heap.size w ((u.setCell ⟨w.heap.size+1+1+1,0,none⟩ (.slice none 0 0)).setCell ⟨w.heap.size+1+1+1,1,none⟩ (.slice (some ⟨u.heap.size,0,none⟩) gs.length gs.length)):=(h.in3.bel.setCell (by simp only[];omega) _).setCell (by simp only[];omega) _
  have z0:((u.setCell ⟨w.heap.size+1+1+1,0,none⟩ (.slice none 0 0)).setCell ⟨w.heap.size+1+1+1,1,none⟩ (.slice (some ⟨u.heap.size,0,none⟩) gs.length gs.length)).heap.size=u.heap.size:=by simp only[World.size_setCell]
  generalize ((u.setCell ⟨w.heap.size+1+1+1,0,none⟩ (.slice none 0 0)).setCell ⟨w.heap.size+1+1+1,1,none⟩ (.slice (some ⟨u.heap.size,0,none⟩) gs.length gs.length))=u0 at q0 q1 bel z0⊢
  have r2:=rd_new u0 gs
  have b2:=below_alloc u0 (.cells (gs.flatMap intCell).toArray 2)
  rw[z0]at r2
  generalize u0.alloc (.cells (gs.flatMap intCell).toArray 2)=u2 at r2 b2⊢
  exact⟨⟨_,_,rfl,(rd_nil _),r2,(below_on bel (Nat.le_refl _) b2)⟩,(bcell' b2 q0),(bcell' b2 q1)⟩
theorem eff_n{w u:World}{v:VP}{g:VF}{f:MF}{op a b c:Int}(h:In4 w u v g f op a b c)(U:World)(hU:U=((u.setCell ⟨w.heap.size+1+1+1,0,none⟩ (.slice none 0 0)).setCell ⟨w.heap.size+1+1+1,1,none⟩ (.slice none 0 0))):
    EffIs w [] [] (.returned (.agg #[.slice none 0 0,.slice none 0 0])) U/\U.cell? ⟨w.heap.size+1+1+1,0,none⟩=some (.slice none 0 0)/\U.cell? ⟨w.heap.size+1+1+1,1,none⟩=some (.slice none 0 0):=by
  subst hU
  have R2:=(h.rb.set 0 (.slice none 0 0)).set 1 (.slice none 0 0)
  have q0:=R2.cell 0
  have q1:=R2.cell 1
  simp only[List.setIfInBounds_toArray,List.set_cons_zero,List.set_cons_succ,List.getElem?_toArray,List.getElem?_cons_zero,List.getElem?_cons_succ]at q0 q1
  have bel:Below w.heap.size w ((u.setCell ⟨w.heap.size+1+1+1,0,none⟩ (.slice none 0 0)).setCell ⟨w.heap.size+1+1+1,1,none⟩ (.slice none 0 0)):=(h.in3.bel.setCell (by simp only[];omega) _).setCell (by simp only[];omega) _
  have z0:((u.setCell ⟨w.heap.size+1+1+1,0,none⟩ (.slice none 0 0)).setCell ⟨w.heap.size+1+1+1,1,none⟩ (.slice none 0 0)).heap.size=u.heap.size:=by simp only[World.size_setCell]
  generalize ((u.setCell ⟨w.heap.size+1+1+1,0,none⟩ (.slice none 0 0)).setCell ⟨w.heap.size+1+1+1,1,none⟩ (.slice none 0 0))=u0 at q0 q1 bel z0⊢
  exact⟨⟨_,_,rfl,(rd_nil _),(rd_nil _),bel⟩,q0,q1⟩
set_option maxHeartbeats 8000000 in
set_option maxRecDepth 100000 in
theorem l4Of_C(vr vk vf vt gp gl gc:Value)(f:MF)(op F a b c:Int)(ts gs:List Int)(w:World)(h:op=0/\F=0/\ts=[]/\gs=[]\/op=8/\F=5/\ts=[a,a]/\gs=[a]\/op=9/\F=5/\ts=[a,a]/\gs=[a]\/op=10/\F=5/\ts=[a,a]/\gs=[a]\/op=11/\F=5/\ts=[a,a]/\gs=[a]\/op=12/\F=5/\ts=[a,a]/\gs=[a]\/op=13/\F=6/\ts=[a,a]/\gs=[a]\/op=14/\F=6/\ts=[a,a]/\gs=[a]\/op=15/\F=6/\ts=[a,a]/\gs=[a]\/op=16/\F=6/\ts=[a]/\gs=[a]\/op=17/\F=0/\ts=[3,3]/\gs=[3]\/op=18/\F=0/\ts=[3,3]/\gs=[3]\/op=19/\F=0/\ts=[2]/\gs=[2]\/op=20/\F=7/\ts=[a,a]/\gs=[1]\/op=21/\F=5/\ts=[a,a]/\gs=[1]\/op=22/\F=8/\ts=[a]/\gs=[b]\/op=23/\F=0/\ts=[0]/\gs=[0,0]\/op=24/\F=0/\ts=[0]/\gs=[]\/op=25/\F=9/\ts=[]/\gs=[]\/op=26/\F=9/\ts=[1]/\gs=[]\/op=27/\F=10/\ts=[]/\gs=[]\/op=29/\F=0/\ts=[]/\gs=[]):
    Calls Tryz.prog 71 #[.agg #[vr,vk,vf,vt],.agg #[gp,.int .i64 f.result,gl,gc],.agg #[.int .i64 op,.int .i64 a,.int .i64 b,.int .i64 c]] w (EffIs w ts gs):=by
  obtain⟨nm,co,hI⟩:∃nm co,infoOf op=#[.string nm,.int .i64 co,.int .i64 F]:=by
    rcases h with⟨rfl,rfl,_⟩|⟨rfl,rfl,_⟩|⟨rfl,rfl,_⟩|⟨rfl,rfl,_⟩|⟨rfl,rfl,_⟩|⟨rfl,rfl,_⟩|⟨rfl,rfl,_⟩|⟨rfl,rfl,_⟩|⟨rfl,rfl,_⟩|⟨rfl,rfl,_⟩|⟨rfl,rfl,_⟩|⟨rfl,rfl,_⟩|⟨rfl,rfl,_⟩|⟨rfl,rfl,_⟩|⟨rfl,rfl,_⟩|⟨rfl,rfl,_⟩|⟨rfl,rfl,_⟩|⟨rfl,rfl,_⟩|⟨rfl,rfl,_⟩|⟨rfl,rfl,_⟩|⟨rfl,rfl,_⟩|⟨rfl,rfl,_⟩<;>exact⟨_,_,rfl⟩
  have hS:Hid (∀w,Calls Tryz.prog 98 #[.int .i64 op] w fun e w'=>e=.returned (.agg #[.string nm,.int .i64 co,.int .i64 F])/\Below w.heap.size w w'):=fun w=>by
    have h1:=SInfo_any op w
    rw[hI]at h1
    exact h1
  clear hI
  have E0:Hid _:=In4.of w ⟨vr,vk,vf,vt⟩ ⟨gp,gl,gc⟩ f op a b c
  rcases h with⟨rfl,rfl,rfl,rfl⟩|⟨rfl,rfl,rfl,rfl⟩|⟨rfl,rfl,rfl,rfl⟩|⟨rfl,rfl,rfl,rfl⟩|⟨rfl,rfl,rfl,rfl⟩|⟨rfl,rfl,rfl,rfl⟩|⟨rfl,rfl,rfl,rfl⟩|⟨rfl,rfl,rfl,rfl⟩|⟨rfl,rfl,rfl,rfl⟩|⟨rfl,rfl,rfl,rfl⟩|⟨rfl,rfl,rfl,rfl⟩|⟨rfl,rfl,rfl,rfl⟩|⟨rfl,rfl,rfl,rfl⟩|⟨rfl,rfl,rfl,rfl⟩|⟨rfl,rfl,rfl,rfl⟩|⟨rfl,rfl,rfl,rfl⟩|⟨rfl,rfl,rfl,rfl⟩|⟨rfl,rfl,rfl,rfl⟩|⟨rfl,rfl,rfl,rfl⟩|⟨rfl,rfl,rfl,rfl⟩|⟨rfl,rfl,rfl,rfl⟩|⟨rfl,rfl,rfl,rfl⟩
  all_goals
    have hfl:=field_form
    go_enter Tryz.func71,Tryz.ntmps71
    go_wp2_with fail
    refine(hS.out _).mono ?_
    rintro e u1 ⟨rfl,b1⟩
    have E1:Hid _:=E0.out.keep b1
    clear E0 b1 hS
    have x0:=E1.out.in3.ins.c0
    have x1:=E1.out.in3.ins.c1
    have x2:=E1.out.in3.ins.c2
    have r0:=E1.out.rb.cell 0
    have r1:=E1.out.rb.cell 1
    have z0:=E1.out.rb.frozen 0
    have z1:=E1.out.rb.frozen 1
    have lt2:w.heap.size+1+1<u1.heap.size:=by have:=E1.out.rb.lt;omega
    have ne2:¬w.heap.size+1+1=u1.heap.size:=by have:=E1.out.rb.lt;omega
    have lt3:w.heap.size+1+1+1<u1.heap.size:=E1.out.rb.lt
    have ne3:¬w.heap.size+1+1+1=u1.heap.size:=by have:=E1.out.rb.lt;omega
    have ne4:¬w.heap.size+1+1+1=u1.heap.size+1:=by have:=E1.out.rb.lt;omega
    have ne5:¬w.heap.size+1+1=u1.heap.size+1:=by have:=E1.out.rb.lt;omega
    simp only[List.getElem?_toArray,List.getElem?_cons_zero,List.getElem?_cons_succ]at r0 r1
    go_wp2_with fail
    first
      |(obtain⟨he,q0,q1⟩:=eff_n E1.out _ rfl;exact bodyPost_ret (v:=.agg #[.slice none 0 0,.slice none 0 0]) (by simp[results,Tryz.results71,go_sem,q0,q1]) rfl he)
      |(obtain⟨he,q0,q1⟩:=eff_tg E1.out [a,a] [a] _ rfl;simp only[intCell,List.flatMap_cons,List.flatMap_nil,List.cons_append,List.nil_append,List.length_cons,List.length_nil,Nat.zero_add,Nat.reduceAdd]at q0 q1;exact bodyPost_ret (v:=.agg #[.slice (some ⟨u1.heap.size,0,none⟩) 2 2,.slice (some ⟨u1.heap.size+1,0,none⟩) 1 1]) (by simp[results,Tryz.results71,go_sem,q0,q1]) rfl he)
      |(obtain⟨he,q0,q1⟩:=eff_tg E1.out [a] [a] _ rfl;simp only[intCell,List.flatMap_cons,List.flatMap_nil,List.cons_append,List.nil_append,List.length_cons,List.length_nil,Nat.zero_add]at q0 q1;exact bodyPost_ret (v:=.agg #[.slice (some ⟨u1.heap.size,0,none⟩) 1 1,.slice (some ⟨u1.heap.size+1,0,none⟩) 1 1]) (by simp[results,Tryz.results71,go_sem,q0,q1]) rfl he)
      |(obtain⟨he,q0,q1⟩:=eff_tg E1.out [3,3] [3] _ rfl;simp only[intCell,List.flatMap_cons,List.flatMap_nil,List.cons_append,List.nil_append,List.length_cons,List.length_nil,Nat.zero_add,Nat.reduceAdd]at q0 q1;exact bodyPost_ret (v:=.agg #[.slice (some ⟨u1.heap.size,0,none⟩) 2 2,.slice (some ⟨u1.heap.size+1,0,none⟩) 1 1]) (by simp[results,Tryz.results71,go_sem,q0,q1]) rfl he)
      |(obtain⟨he,q0,q1⟩:=eff_tg E1.out [2] [2] _ rfl;simp only[intCell,List.flatMap_cons,List.flatMap_nil,List.cons_append,List.nil_append,List.length_cons,List.length_nil,Nat.zero_add]at q0 q1;exact bodyPost_ret (v:=.agg #[.slice (some ⟨u1.heap.size,0,none⟩) 1 1,.slice (some ⟨u1.heap.size+1,0,none⟩) 1 1]) (by simp[results,Tryz.results71,go_sem,q0,q1]) rfl he)
      |(obtain⟨he,q0,q1⟩:=eff_tg E1.out [a,a] [1] _ rfl;simp only[intCell,List.flatMap_cons,List.flatMap_nil,List.cons_append,List.nil_append,List.length_cons,List.length_nil,Nat.zero_add,Nat.reduceAdd]at q0 q1;exact bodyPost_ret (v:=.agg #[.slice (some ⟨u1.heap.size,0,none⟩) 2 2,.slice (some ⟨u1.heap.size+1,0,none⟩) 1 1]) (by simp[results,Tryz.results71,go_sem,q0,q1]) rfl he)
      |(obtain⟨he,q0,q1⟩:=eff_tg E1.out [a] [b] _ rfl;simp only[intCell,List.flatMap_cons,List.flatMap_nil,List.cons_append,List.nil_append,List.length_cons,List.length_nil,Nat.zero_add]at q0 q1;exact bodyPost_ret (v:=.agg #[.slice (some ⟨u1.heap.size,0,none⟩) 1 1,.slice (some ⟨u1.heap.size+1,0,none⟩) 1 1]) (by simp[results,Tryz.results71,go_sem,q0,q1]) rfl he)
      |(obtain⟨he,q0,q1⟩:=eff_tg E1.out [0] [0,0] _ rfl;simp only[intCell,List.flatMap_cons,List.flatMap_nil,List.cons_append,List.nil_append,List.length_cons,List.length_nil,Nat.zero_add,Nat.reduceAdd]at q0 q1;exact bodyPost_ret (v:=.agg #[.slice (some ⟨u1.heap.size,0,none⟩) 1 1,.slice (some ⟨u1.heap.size+1,0,none⟩) 2 2]) (by simp[results,Tryz.results71,go_sem,q0,q1]) rfl he)
      |(obtain⟨he,q0,q1⟩:=eff_t E1.out [0] _ rfl;simp only[intCell,List.flatMap_cons,List.flatMap_nil,List.cons_append,List.nil_append,List.length_cons,List.length_nil,Nat.zero_add]at q0 q1;exact bodyPost_ret (v:=.agg #[.slice (some ⟨u1.heap.size,0,none⟩) 1 1,.slice none 0 0]) (by simp[results,Tryz.results71,go_sem,q0,q1]) rfl he)
      |(obtain⟨he,q0,q1⟩:=eff_t E1.out [1] _ rfl;simp only[intCell,List.flatMap_cons,List.flatMap_nil,List.cons_append,List.nil_append,List.length_cons,List.length_nil,Nat.zero_add]at q0 q1;exact bodyPost_ret (v:=.agg #[.slice (some ⟨u1.heap.size,0,none⟩) 1 1,.slice none 0 0]) (by simp[results,Tryz.results71,go_sem,q0,q1]) rfl he)
end Go.Proofs.YtdfmdgbolmbffaaGreat
