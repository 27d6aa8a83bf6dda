import Derived.Test.YtlejplpkomddeaaGreatR0
import Derived.Test.YtlejplpkomddeaaGreatR4
import Derived.Test.YtlejplpkomddeaaGreatR44
import Derived.Deep.RegionHeldLaw
import Derived.Deep.RegionLaw
import Derived.Deep.AppendLies
namespace Go.Proofs.YtlejplpkomddeaaGreat
open Go.ChangeShapes Go.WideShapes Go.ChangeAt Go.RowKit
set_option linter.unusedVariables false
set_option maxHeartbeats 4000000
set_option maxRecDepth 100000
def Oz(w:World)(B M:Nat)(t:Int)(d:Bool)(c n:Int)(X:VS)(C:List (Value×List MC))(K:List MC)(F:List (MG×Value))(hv:Value)(e:Ending)(w':World):Prop:=e=.returned (.tuple #[])/\∃k',MB w' M t d c n ⟨X.c,k',X.f⟩ hv/\Ah w' B ⟨X.c,k',X.f⟩ C K F/\C9 (fun j=>j=M\/X.k.ownBlock=some j) w w'/\(k'.ownBlock=X.k.ownBlock\/∀g,k'.ownBlock=some g->w.heap.size<=g)
theorem Px{w U u6 u8:World}{B M:Nat}{t:Int}{d:Bool}{c n:Int}{x1 x3:Value}{a2:Option Addr}{c2:Nat}{C:List (Value×List MC)}{K:List MC}{z:MC}{F:List (MG×Value)}{hv:Value}{gg cap:Nat}(HM:MB U M t d c n ⟨x1,.slice a2 K.length c2,x3⟩ hv)(HO:Ah U B ⟨x1,.slice a2 K.length c2,x3⟩ C K F)(hB:B<=w.heap.size)(hbw:Below w.heap.size w U)(hb:Below U.heap.size U u6)(h1:u6.ownsRow B 128 2 (.slice a2 K.length c2) K.length (K.flatMap MC.cells))(hgrow:u6.grownBy u8 (Value.slice a2 K.length c2).ownBlock)(hown:u8.ownsRow B 128 2 (.slice (some ⟨gg,0,none⟩) (K.length+1) cap) (K.length+1) (K.flatMap MC.cells++([z]:List MC).flatMap MC.cells))(hat:(Value.slice a2 K.length c2).ownBlock=some gg\/gg=u6.heap.size):MB u8 M t d c n ⟨x1,.slice a2 K.length c2,x3⟩ hv/\Ah u8 B ⟨x1,.slice (some ⟨gg,0,none⟩) (K.length+1) cap,x3⟩ C (K++[z]) F/\C9 (fun j=>j=M\/(Value.slice a2 K.length c2).ownBlock=some j) w u8/\((Value.slice (some ⟨gg,0,none⟩) (K.length+1) cap).ownBlock=(Value.slice a2 K.length c2).ownBlock\/w.heap.size<=gg):=by
 obtain⟨cur,hbk,hmc⟩:=(HM.keep hb).blk;have o6:=HO.grow hb;have hB6:B<=u6.heap.size:=Nat.le_trans hB (Nat.le_trans hbw.size hb.size);refine⟨⟨cur,hbk.grown hgrow h1 (by decide),hmc⟩,?_,?_,?_⟩
 ·have hl:(K++[z]).length=K.length+1:=by simp
  exact o6.stack (K':=K++[z]) hB6 hgrow (by rw[hl,List.flatMap_append];exact hown) (by
   rcases hat with hat|hat
   ·exact .inl hat.symm
   ·exact .inr (fun g hg=>by simp only[Value.ownBlock,Option.some.injEq]at hg;omega))
 ·exact(C9.of (Ab hbw lR hb)).grown hgrow (fun k hk e=>.inr e.symm)
 ·rcases hat with hat|hat
  ·exact .inl hat.symm
  ·have h1:=hbw.size
   have h2:=hb.size;exact .inr (by omega)
theorem C5(B M:Nat)(t:Int)(d:Bool)(c n:Int)(X:VS)(C:List (Value×List MC))(K:List MC)(F:List (MG×Value))(hv:Value)(z:MC)(w:World)(hB:B<=w.heap.size)(h:Ah w B X C K F)(hm:MB w M t d c n X hv)(hK:K.length<=1048576):
 Calls Tryz.prog 196 #[.pointer (some ⟨M,0,none⟩),.agg #[.int .i64 z.type,.int .u32 z.word]] w (Oz w B M t d c n X C (K++[z]) F hv):=by
 obtain⟨i0,hi,hz0,hz1,hz2⟩:=info_parts DJ;obtain⟨x1,x2,x3⟩:=X;obtain⟨a2,c2,e2⟩:=Al (h.fam.own (x2,K) (by simp));simp only[]at e2;subst e2;have H:=AS h;have HM:=AS hm;have hlM:=hm.lt;clear h hm;have E0:Hid (MB (w.alloc (.cells #[.int .i64 z.type,.int .u32 z.word] 128)) M t d c n _ hv/\Ah (w.alloc (.cells #[.int .i64 z.type,.int .u32 z.word] 128)) B _ C K F/\Ap (w.alloc (.cells #[.int .i64 z.type,.int .u32 z.word] 128)) w.heap.size _ _/\Below w.heap.size w (w.alloc (.cells #[.int .i64 z.type,.int .u32 z.word] 128))):=⟨HM.out.keep (Aa _ _),H.out.grow (Aa _ _),Ap.new _ _ _,Aa _ _⟩
 go_enter Tryz.func196,Tryz.ntmps196;go_upto_region 1 with fail
 refine Af (fun u=>Hid (MB u M t d c n _ hv/\Ah u B _ C K F/\Ap u w.heap.size _ _/\Below w.heap.size w u)) E0 ?_
 rintro U E1;clear E0;have m5:=E1.out.1.at.2.2.2.2.2.1;obtain⟨b0,b1⟩:=E1.out.2.2.1.c2;simp only[]at m5;try dsimp only at b0 b1
 have bD:=Ad U;have bE:Below U.heap.size U (U.alloc (.cells #[.int .i64 z.type,.int .u32 z.word] 128)).drew:=Ab (Aa _ _) lR (Ad _);have m5d:=Ac bD m5;have m5e:=Ac bE m5;have b0d:=Ac bD b0;have b1d:=Ac bD b1;have b0e:=Ac bE b0;have b1e:=Ac bE b1;have HC:Hid ((U.alloc (.cells #[.int .i64 z.type,.int .u32 z.word] 128)).drew.ownsRow B 128 2 (.slice a2 K.length c2) K.length (K.flatMap MC.cells)/\(∀j u,(([z]:List MC).flatMap MC.cells)[j]?=some u->(U.alloc (.cells #[.int .i64 z.type,.int .u32 z.word] 128)).drew.cell? ((⟨U.heap.size,0,none⟩:Addr).add j)=some u)/\Below U.heap.size U (U.alloc (.cells #[.int .i64 z.type,.int .u32 z.word] 128)).drew/\B<=(U.alloc (.cells #[.int .i64 z.type,.int .u32 z.word] 128)).drew.heap.size):=⟨Ag (E1.out.2.1.fam.own (.slice a2 K.length c2,K) (by simp)) bE lR,fun j u hj=>Dv U [z] j u hj,bE,Nat.le_trans (Nat.le_trans hB E1.out.2.2.2.size) bE.size⟩
 clear m5 b0 b1 bD bE;go_upto_region 1 with fail
 go_region_law (refine step_append_lies _ rfl (.tmp 9) (.tmp 11) 36 rfl B 128 i0 (.agg #[.int .i64 0,.int .u32 0]) 2 16 Tryz.underlying36 hi hz0 hz1 hz2 rfl (by decide) (.slice a2 K.length c2) K.length (K.flatMap MC.cells) (by simp[Act.eval]) HC.out.1 ⟨U.heap.size,0,none⟩ 1 1 (([z]:List MC).flatMap MC.cells) (by simp[Act.eval]) rfl HC.out.2.1 (Cm _) (by omega) (by unfold maxLen;omega) (by omega) HC.out.2.2.2 _ rfl ?_;intro gg cap u8 hown hgrow hat hlt8;have HN:Hid (MB u8 M t d c n ⟨x1,.slice a2 K.length c2,x3⟩ hv/\Ah u8 B ⟨x1,.slice (some ⟨gg,0,none⟩) (K.length+1) cap,x3⟩ C (K++[z]) F/\C9 (fun j=>j=M\/(Value.slice a2 K.length c2).ownBlock=some j) w u8/\((Value.slice (some ⟨gg,0,none⟩) (K.length+1) cap).ownBlock=(Value.slice a2 K.length c2).ownBlock\/w.heap.size<=gg)):=Px (HM:=E1.out.1) (HO:=E1.out.2.1) hB E1.out.2.2.2 HC.out.2.2.1 HC.out.1 hgrow hown hat;have y0:=HN.out.1.at.2.2.2.2.2.1;have y1:=HN.out.1.frozen 5;simp only[]at y0;clear hown hgrow hat hlt8)
 all_goals
  refine bodyPost_end (v:=.tuple #[]) (by kernel_rfl) rfl ?_;exact⟨rfl,.slice (some ⟨gg,0,none⟩) (K.length+1) cap,HN.out.1.setK _,Fc HN.out.2.1 HN.out.1,HN.out.2.2.1.setCell (.inl (.inl rfl)) _,HN.out.2.2.2.imp_right (fun h g hg=>by simp only[Value.ownBlock,Option.some.injEq]at hg;omega)⟩
structure Ax(w u:World)(B M top:Nat)(t:Int)(d:Bool)(c n:Int)(X:VS)(C:List (Value×List MC))(K:List MC)(F:List (MG×Value))(hv:Value)(gh oh gf:Nat)(op a b c':Int)(X0:VS)(C0:List (Value×List MC))(F0:List (MG×Value)):Prop where
 mb:MB u M t d c n X hv
 own:Ah u B X C K F
 fb:Ap u w.heap.size #[.pointer (some ⟨gh,oh,none⟩),.pointer (some ⟨gf,top*4,none⟩)] 172
 ib:Ap u (w.heap.size+1) #[.int .i64 op,.int .i64 a,.int .i64 b,.int .i64 c'] 134
 chg:C9 (fun j=>j=M\/C8 X0 C0 F0 j) w u
 inn:∀j,C8 X C F j->j<w.heap.size->C8 X0 C0 F0 j
 far:∀j,C8 X C F j->j<w.heap.size\/w.heap.size+1<j
 hB:B<=w.heap.size
 hM:M<w.heap.size
def BP(w:World)(B M:Nat)(t:Int)(d:Bool)(c n:Int)(C:List (Value×List MC))(K:List MC)(F:List (MG×Value))(hv:Value)(X0:VS)(C0:List (Value×List MC))(F0:List (MG×Value))(e:Ending)(w':World):Prop:=e=.returned (.tuple #[])/\∃X,MB w' M t d c n X hv/\Ah w' B X C K F/\C9 (fun j=>j=M\/C8 X0 C0 F0 j) w w'
theorem Ax.res{w u:World}{B M top:Nat}{t:Int}{d:Bool}{c n:Int}{X:VS}{C:List (Value×List MC)}{K:List MC}{F:List (MG×Value)}{hv:Value}{gh oh gf:Nat}{op a b c':Int}{X0:VS}{C0:List (Value×List MC)}{F0:List (MG×Value)}(h:Ax w u B M top t d c n X C K F hv gh oh gf op a b c' X0 C0 F0):BP w B M t d c n C K F hv X0 C0 F0 (.returned (.tuple #[])) u:=⟨rfl,X,h.mb,h.own,h.chg⟩
theorem Ax.of{w:World}{B M top:Nat}{t:Int}{d:Bool}{c n:Int}{X:VS}{C:List (Value×List MC)}{K:List MC}{F:List (MG×Value)}{hv:Value}(gh oh gf:Nat)(op a b c':Int)(hB:B<=w.heap.size)(h:Ah w B X C K F)(hm:MB w M t d c n X hv):Ax w ((w.alloc (.cells #[.pointer (some ⟨gh,oh,none⟩),.pointer (some ⟨gf,top*4,none⟩)] 172)).alloc (.cells #[.int .i64 op,.int .i64 a,.int .i64 b,.int .i64 c'] 134)) B M top t d c n X C K F hv gh oh gf op a b c' X C F:=by
 have b1:=Aa w (.cells #[.pointer (some ⟨gh,oh,none⟩),.pointer (some ⟨gf,top*4,none⟩)] 172);have k1:=Ap.new w #[.pointer (some ⟨gh,oh,none⟩),.pointer (some ⟨gf,top*4,none⟩)] 172;generalize hU1:w.alloc (.cells #[.pointer (some ⟨gh,oh,none⟩),.pointer (some ⟨gf,top*4,none⟩)] 172)=U1 at b1 k1⊢;have z1:U1.heap.size=w.heap.size+1:=by rw[<-hU1];simp
 have b2:=Aa U1 (.cells #[.int .i64 op,.int .i64 a,.int .i64 b,.int .i64 c'] 134);have k2:=Ap.new U1 #[.int .i64 op,.int .i64 a,.int .i64 b,.int .i64 c'] 134;rw[z1]at k2;have bb:=Ab b1 lR b2;exact⟨hm.keep bb,h.grow bb,k1.keep b2,k2,.of bb,fun j hj _=>hj,fun j hj=>.inl (h.ltOf hj).2,hB,hm.lt⟩
theorem Ax.keep{w u u':World}{B M top:Nat}{t:Int}{d:Bool}{c n:Int}{X:VS}{C:List (Value×List MC)}{K:List MC}{F:List (MG×Value)}{hv:Value}{gh oh gf:Nat}{op a b c':Int}{X0:VS}{C0:List (Value×List MC)}{F0:List (MG×Value)}(h:Ax w u B M top t d c n X C K F hv gh oh gf op a b c' X0 C0 F0)(hb:Below u.heap.size u u'):Ax w u' B M top t d c n X C K F hv gh oh gf op a b c' X0 C0 F0:=⟨h.mb.keep hb,h.own.grow hb,h.fb.keep hb,h.ib.keep hb,h.chg.trans (.of (R:=fun _=>False) hb) (fun _ _ e=>e.elim),h.inn,h.far,h.hB,h.hM⟩
theorem Ax.pop{w u u':World}{B M top:Nat}{t:Int}{d:Bool}{c n:Int}{X:VS}{C:List (Value×List MC)}{K K':List MC}{F:List (MG×Value)}{hv:Value}{gh oh gf:Nat}{op a b c':Int}{X0:VS}{C0:List (Value×List MC)}{F0:List (MG×Value)}{k':Value}(h:Ax w u B M top t d c n X C K F hv gh oh gf op a b c' X0 C0 F0)(h1:MB u' M t d c n ⟨X.c,k',X.f⟩ hv)(h2:Ah u' B ⟨X.c,k',X.f⟩ C K' F)(h3:C9 (fun j=>j=M) u u')(h4:k'.ownBlock=X.k.ownBlock):Ax w u' B M top t d c n ⟨X.c,k',X.f⟩ C K' F hv gh oh gf op a b c' X0 C0 F0:=by
 have hM:=h.hM;exact⟨h1,h2,h3.blk h.fb (by omega),h3.blk h.ib (by omega),h.chg.trans h3 (fun _ _ e=>.inl e),fun j hj=>h.inn j (hj.stack (x3:=X.f) h4),fun j hj=>h.far j (hj.stack (x3:=X.f) h4),h.hB,h.hM⟩
theorem Ax.push{w u u':World}{B M top:Nat}{t:Int}{d:Bool}{c n:Int}{X:VS}{C:List (Value×List MC)}{K K':List MC}{F:List (MG×Value)}{hv:Value}{gh oh gf:Nat}{op a b c':Int}{X0:VS}{C0:List (Value×List MC)}{F0:List (MG×Value)}{k':Value}(h:Ax w u B M top t d c n X C K F hv gh oh gf op a b c' X0 C0 F0)(h1:MB u' M t d c n ⟨X.c,k',X.f⟩ hv)(h2:Ah u' B ⟨X.c,k',X.f⟩ C K' F)(h3:C9 (fun j=>j=M\/X.k.ownBlock=some j) u u')(h4:k'.ownBlock=X.k.ownBlock\/∀g,k'.ownBlock=some g->u.heap.size<=g):Ax w u' B M top t d c n ⟨X.c,k',X.f⟩ C K' F hv gh oh gf op a b c' X0 C0 F0:=by
 have hM:=h.hM;have hl:=h.ib.lt
 have hk:∀j,C8 ⟨X.c,k',X.f⟩ C F j->C8 X C F j\/u.heap.size<=j:=fun j hj=>by
  rcases hj with e|e|e|e|e
  ·exact .inl (.inl e)
  ·rcases h4 with h4|h4
   ·exact .inl (.inr (.inl (h4▸e)))
   ·exact .inr (h4 j e)
  ·exact .inl (.inr (.inr (.inl e)))
  ·exact .inl (.inr (.inr (.inr (.inl e))))
  ·exact .inl (.inr (.inr (.inr (.inr e))))
 have ne:∀j,j=w.heap.size\/j=w.heap.size+1->¬(j=M\/X.k.ownBlock=some j):=fun j hj e=>by
  rcases e with e|e
  ·omega
  ·have:=h.far j (.inr (.inl e))
   omega
 refine⟨h1,h2,h3.blk h.fb (ne _ (.inl rfl)),h3.blk h.ib (ne _ (.inr rfl)),h.chg.trans h3 (fun j hj e=> ?_),fun j hj hlt=> ?_,fun j hj=> ?_,h.hB,h.hM⟩
 ·rcases e with e|e
  ·exact .inl e
  ·exact .inr (h.inn j (.inr (.inl e)) hj)
 ·rcases hk j hj with e|e
  ·exact h.inn j e hlt
  ·omega
 ·rcases hk j hj with e|e
  ·exact h.far j e
  ·omega
theorem Ax.rows{w u u':World}{B M top:Nat}{t:Int}{d:Bool}{c n:Int}{X:VS}{C C':List (Value×List MC)}{K:List MC}{F F':List (MG×Value)}{hv:Value}{gh oh gf:Nat}{op a b c':Int}{X0:VS}{C0:List (Value×List MC)}{F0:List (MG×Value)}{g:Nat}{cur:Array Value}{ty:TypeId}(h:Ax w u B M top t d c n X C K F hv gh oh gf op a b c' X0 C0 F0)(hg:u.grownBy u' (some g))(ho:Ah u' B X C' K F')(hob:C8 X C F g)(hk:Ap u g cur ty)(hne:94≠ty)(hin:∀j,C8 X C' F' j->C8 X C F j):Ax w u' B M top t d c n X C' K F' hv gh oh gf op a b c' X0 C0 F0:=by
 have hM:=h.hM;have hfar:=h.far g hob;have hcg:C9 (fun j=>j=g) u u':=⟨hg.os,hg.tape,hg.output,hg.size,fun k hk hn=>hg.block k hk (fun e=>hn (Option.some.inj e))⟩
 have hgM:¬M=g:=fun e=>by
  obtain⟨cm,hm1,_⟩:=h.mb.blk;subst e;unfold Ap at hm1 hk;rw[hm1]at hk;simp only[Option.some.injEq,Obj.cells.injEq]at hk;exact hne hk.2.1
 exact⟨h.mb.chg hcg hgM,ho,hcg.blk h.fb (by omega),hcg.blk h.ib (by omega),h.chg.trans hcg (fun j hj e=>.inr (h.inn j (e▸hob) hj)),fun j hj=>h.inn j (hin j hj),fun j hj=>h.far j (hin j hj),h.hB,h.hM⟩
theorem OO(B M top:Nat)(t:Int)(d:Bool)(c n:Int)(X:VS)(C:List (Value×List MC))(K:List MC)(F:List (MG×Value))(hv:Value)(gh oh gf c3:Nat)(y:MG×Value)(op a b c':Int)(w:World)(hB:B<=w.heap.size)(h:Ah w B X C K F)(hm:MB w M t d c n X hv)(hF:F.length=top+1)(hF1:top<=1048576)(hy:F[top]?=some y)(hXf:X.f=.slice (some ⟨gf,0,none⟩) (top+1) c3):
 Calls Tryz.prog 150 #[.pointer (some ⟨M,0,none⟩),.agg #[.pointer (some ⟨gh,oh,none⟩),.pointer (some ⟨gf,top*4,none⟩)],.agg #[.int .i64 op,.int .i64 a,.int .i64 b,.int .i64 c']] w (BP w B M t d c n C K F hv X C F):=by
 have E0:Hid (Ax w ((w.alloc (.cells #[.pointer (some ⟨gh,oh,none⟩),.pointer (some ⟨gf,top*4,none⟩)] 172)).alloc (.cells #[.int .i64 op,.int .i64 a,.int .i64 b,.int .i64 c'] 134)) B M top t d c n X C K F hv gh oh gf op a b c' X C F):=Ax.of gh oh gf op a b c' hB h hm;clear h hm hy;go_enter Tryz.func150,Tryz.ntmps150;go_wp2_with fail
 exact bodyPost_end (v:=.tuple #[]) (by kernel_rfl) rfl E0.out.res
theorem Oc(z:MC)(B M top:Nat)(t:Int)(d:Bool)(c n:Int)(X:VS)(C:List (Value×List MC))(K:List MC)(F:List (MG×Value))(hv:Value)(gh oh gf c3:Nat)(y:MG×Value)(op a b c':Int)(w:World)(hB:B<=w.heap.size)(h:Ah w B X C (K++[z]) F)(hm:MB w M t d c n X hv)(hF:F.length=top+1)(hF1:top<=1048576)(hy:F[top]?=some y)(hXf:X.f=.slice (some ⟨gf,0,none⟩) (top+1) c3)(hK:K.length<=1048576):
 Calls Tryz.prog 163 #[.pointer (some ⟨M,0,none⟩),.agg #[.pointer (some ⟨gh,oh,none⟩),.pointer (some ⟨gf,top*4,none⟩)],.agg #[.int .i64 op,.int .i64 a,.int .i64 b,.int .i64 c']] w (BP w B M t d c n C K F hv X C F):=by
 have E0:Hid (Ax w ((w.alloc (.cells #[.pointer (some ⟨gh,oh,none⟩),.pointer (some ⟨gf,top*4,none⟩)] 172)).alloc (.cells #[.int .i64 op,.int .i64 a,.int .i64 b,.int .i64 c'] 134)) B M top t d c n X C (K++[z]) F hv gh oh gf op a b c' X C F):=Ax.of gh oh gf op a b c' hB h hm;have H:=h3 h hF hy;clear h hm hy;go_enter Tryz.func163,Tryz.ntmps163;go_upto_region 1 with fail
 refine Af (fun u=>Hid (Ax w u B M _ t d c n X C _ F hv gh oh gf op a b c' X C F)/\Below w.heap.size w u) ⟨E0,Ab (Aa _ _) lR (Aa _ _)⟩ ?_
 rintro U ⟨E1,bU⟩;clear E0;go_wp2_with fail
 refine(CC B M t d c n X C K F hv z U (Nat.le_trans E1.out.hB E1.out.chg.size) E1.out.own E1.out.mb hK).mono ?_;rintro e u1 ⟨rfl,k',h1,h2,h3,h4⟩;have E2:=AS (E1.out.pop h1 h2 h3 h4);clear h1 h2 h3 h4;go_wp2_with fail
 exact bodyPost_end (v:=.tuple #[]) (by kernel_rfl) rfl E2.out.res
theorem Ov(z:MC)(B M top:Nat)(t:Int)(d:Bool)(c n:Int)(X:VS)(C:List (Value×List MC))(K:List MC)(F:List (MG×Value))(hv:Value)(gh oh gf c3:Nat)(y:MG×Value)(op a b c':Int)(w:World)(hB:B<=w.heap.size)(h:Ah w B X C (K++[z]) F)(hm:MB w M t d c n X hv)(hF:F.length=top+1)(hF1:top<=1048576)(hy:F[top]?=some y)(hXf:X.f=.slice (some ⟨gf,0,none⟩) (top+1) c3)(hK:K.length<1048576):
 Calls Tryz.prog 162 #[.pointer (some ⟨M,0,none⟩),.agg #[.pointer (some ⟨gh,oh,none⟩),.pointer (some ⟨gf,top*4,none⟩)],.agg #[.int .i64 op,.int .i64 a,.int .i64 b,.int .i64 c']] w (BP w B M t d c n C (K++[z,z]) F hv X C F):=by
 have E0:Hid (Ax w ((w.alloc (.cells #[.pointer (some ⟨gh,oh,none⟩),.pointer (some ⟨gf,top*4,none⟩)] 172)).alloc (.cells #[.int .i64 op,.int .i64 a,.int .i64 b,.int .i64 c'] 134)) B M top t d c n X C (K++[z]) F hv gh oh gf op a b c' X C F):=Ax.of gh oh gf op a b c' hB h hm;have H:=h3 h hF hy;clear h hm hy;go_enter Tryz.func162,Tryz.ntmps162;go_upto_region 1 with fail
 refine Af (fun u=>Hid (Ax w u B M _ t d c n X C _ F hv gh oh gf op a b c' X C F)/\Below w.heap.size w u) ⟨E0,Ab (Aa _ _) lR (Aa _ _)⟩ ?_
 rintro U ⟨E1,bU⟩;clear E0;go_wp2_with fail
 refine(CC B M t d c n X C K F hv z U (Nat.le_trans E1.out.hB E1.out.chg.size) E1.out.own E1.out.mb (by omega)).mono ?_;rintro e u1 ⟨rfl,k',h1,h2,h3,h4⟩;have E2:=AS (E1.out.pop h1 h2 h3 h4);have hYo:∀j,C8 ⟨X.c,k',X.f⟩ C F j->j<u1.heap.size:=fun j hj=>(h2.ltOf hj).2
 clear h1 h2 h3 h4 E1 bU;have hY0:w.heap.size+1<u1.heap.size:=E2.out.ib.lt;have EN:Hid (Ax w (u1.alloc (.cells #[.int .i64 z.type,.int .u32 z.word] 128)) B M _ t d c n _ C K F hv gh oh gf op a b c' X C F/\Ap (u1.alloc (.cells #[.int .i64 z.type,.int .u32 z.word] 128)) u1.heap.size _ _):=⟨E2.out.keep (Aa _ _),Ap.new _ _ _⟩
 go_upto_region 2 with fail
 generalize u1.heap.size=Y at EN hYo hY0⊢;refine Af (fun u=>Hid (Ax w u B M _ t d c n _ C K F hv gh oh gf op a b c' X C F/\Ap u Y _ _)) EN ?_
 rintro U2 E3;clear EN E2;clear u1;obtain⟨v0,v1⟩:=E3.out.2.c2;try dsimp only at v0 v1
 have HYO:=AS hYo;clear hYo;go_wp2_with fail
 refine(C5 B M t d c n ⟨X.c,k',X.f⟩ C K F hv z U2 (Nat.le_trans E3.out.1.hB E3.out.1.chg.size) E3.out.1.own E3.out.1.mb (by omega)).mono ?_;rintro e u3 ⟨rfl,k2,h1,h2,h3,h4⟩
 have E4:Hid (Ax w u3 B M _ t d c n _ C _ F hv gh oh gf op a b c' X C F/\Ap u3 Y _ _):=⟨E3.out.1.push h1 h2 h3 h4,h3.blk E3.out.2 (fun e=>by
  have hM:=E3.out.1.hM;rcases e with e|e
  ·omega
  ·have:=HYO.out Y (.inr (.inl e))
   omega)⟩
 clear h1 h2 h3 h4 v0 v1 E3;obtain⟨v0,v1⟩:=E4.out.2.c2;try dsimp only at v0 v1
 have hK1:(K++[z]).length<=1048576+1:=by simp;omega
 go_wp2_with fail
 refine(C5 B M t d c n ⟨X.c,k2,X.f⟩ C (K++[z]) F hv z u3 (Nat.le_trans E4.out.1.hB E4.out.1.chg.size) E4.out.1.own E4.out.1.mb (by simp;omega)).mono ?_;rintro e u4 ⟨rfl,k3,h1,h2,h3,h4⟩;have E5:=AS (E4.out.1.push h1 (by simpa using h2) h3 h4);clear h1 h2 h3 h4;go_wp2_with fail;exact bodyPost_end (v:=.tuple #[]) (by kernel_rfl) rfl E5.out.res
theorem C8.at_{X:VS}{C:List (Value×List MC)}{F:List (MG×Value)}{top:Nat}{y:MG×Value}(hy:F[top]?=some y){z:Int}{j:Nat}(h:C8 X C (F.set top ({y.1 with at_:=z},y.2)) j):C8 X C F j:=by
 have e:AL (F.set top ({y.1 with at_:=z},y.2))=AL F:=Jm hy z;unfold C8 at*;rw[e]at h;exact h
theorem Ax.jump{w u:World}{B M top:Nat}{t:Int}{d:Bool}{c n:Int}{X:VS}{C:List (Value×List MC)}{K:List MC}{F:List (MG×Value)}{hv:Value}{gh oh gf:Nat}{op a b c':Int}{X0:VS}{C0:List (Value×List MC)}{F0:List (MG×Value)}(h:Ax w u B M top t d c n X C K F hv gh oh gf op a b c' X0 C0 F0){y:MG×Value}{m c3:Nat}(hXf:X.f=.slice (some ⟨gf,0,none⟩) m c3)(hy:F[top]?=some y)(z:Int):Ax w (u.setCell ⟨gf,top*4+1,none⟩ (.int .i64 z)) B M top t d c n X C K (F.set top ({y.1 with at_:=z},y.2)) hv gh oh gf op a b c' X0 C0 F0:=by
 obtain⟨o1,g1⟩:=h.own.setAt hXf hy z;have ho:=h.own.frames;rw[hXf]at ho;have hl:=BG ho;subst hl;obtain⟨hb,cur,hg⟩:=Bq ho;exact h.rows g1 o1 (.inr (.inr (.inl (by rw[hXf];rfl)))) hg (by decide) (fun j hj=>hj.at_ hy)
theorem Ax.frc{w u:World}{B M top:Nat}{t:Int}{d:Bool}{c n:Int}{X:VS}{C:List (Value×List MC)}{K:List MC}{F:List (MG×Value)}{hv:Value}{gh oh gf:Nat}{op a b c':Int}{X0:VS}{C0:List (Value×List MC)}{F0:List (MG×Value)}(h:Ax w u B M top t d c n X C K F hv gh oh gf op a b c' X0 C0 F0){y:MG×Value}{m c3:Nat}(hXf:X.f=.slice (some ⟨gf,0,none⟩) m c3)(hy:F[top]?=some y):u.cell? ⟨gf,top*4+1,none⟩=some (.int .i64 y.1.at_)/\u.frozen? ⟨gf,top*4+1,none⟩=false/\u.cell? ⟨gf,top*4+3,none⟩=some y.2:=by
 have ho:=h.own.frames;rw[hXf]at ho;have hl:=BG ho;subst hl;have hlt:=(gI.1 hy).1;refine⟨?_,ho.frozenAt _,h.own.frm hXf hy⟩;rw[ho.cellAt (top*4+1) (by omega),AF AA 4 Au F top 1 y hy (by omega)];rfl
theorem Nq(B M top:Nat)(t:Int)(d:Bool)(c n:Int)(X:VS)(C:List (Value×List MC))(K:List MC)(F:List (MG×Value))(hv:Value)(gh oh gf c3:Nat)(y:MG×Value)(op a b c':Int)(w:World)(hB:B<=w.heap.size)(h:Ah w B X C K F)(hm:MB w M t d c n X hv)(hF:F.length=top+1)(hF1:top<=1048576)(hy:F[top]?=some y)(hXf:X.f=.slice (some ⟨gf,0,none⟩) (top+1) c3):
 Calls Tryz.prog 164 #[.pointer (some ⟨M,0,none⟩),.agg #[.pointer (some ⟨gh,oh,none⟩),.pointer (some ⟨gf,top*4,none⟩)],.agg #[.int .i64 op,.int .i64 a,.int .i64 b,.int .i64 c']] w (BP w B M t d c n C K (F.set top ({y.1 with at_:=c'},y.2)) hv X C F):=by
 have E0:Hid (Ax w ((w.alloc (.cells #[.pointer (some ⟨gh,oh,none⟩),.pointer (some ⟨gf,top*4,none⟩)] 172)).alloc (.cells #[.int .i64 op,.int .i64 a,.int .i64 b,.int .i64 c'] 134)) B M top t d c n X C K F hv gh oh gf op a b c' X C F):=Ax.of gh oh gf op a b c' hB h hm;have H:=h3 h hF hy;clear h hm hy;go_enter Tryz.func164,Tryz.ntmps164;go_upto_region 1 with fail
 refine Af (fun u=>Hid (Ax w u B M _ t d c n X C K F hv gh oh gf op a b c' X C F)/\Below w.heap.size w u) ⟨E0,Ab (Aa _ _) lR (Aa _ _)⟩ ?_
 rintro U ⟨E1,bU⟩;clear E0;have f1:=E1.out.fb.cell 1;have i3:=E1.out.ib.cell 3;simp only[gA,gZ,gS]at f1 i3;obtain⟨fc1,fz1,_⟩:=E1.out.frc hXf H.out.2.2;have E2:=AS (E1.out.jump hXf H.out.2.2 c');clear hXf;go_wp2_with fail
 exact bodyPost_end (v:=.tuple #[]) (by kernel_rfl) rfl E2.out.res
theorem IC(B M top:Nat)(t:Int)(d:Bool)(c n:Int)(X:VS)(C:List (Value×List MC))(K:List MC)(F:List (MG×Value))(hv:Value)(gh oh gf c3:Nat)(y:MG×Value)(op a b c':Int)(w:World)(hB:B<=w.heap.size)(h:Ah w B X C K F)(hm:MB w M t d c n X hv)(hF:F.length=top+1)(hF1:top<=1048576)(hy:F[top]?=some y)(hXf:X.f=.slice (some ⟨gf,0,none⟩) (top+1) c3)(hK:K.length<=1048576)(q:Nat)(z:MC)(ha:a=q)(hz:y.1.locals[q]?=some z)(hnl:y.1.locals.length<=1048576):
 Calls Tryz.prog 152 #[.pointer (some ⟨M,0,none⟩),.agg #[.pointer (some ⟨gh,oh,none⟩),.pointer (some ⟨gf,top*4,none⟩)],.agg #[.int .i64 op,.int .i64 a,.int .i64 b,.int .i64 c']] w (BP w B M t d c n C (K++[z]) F hv X C F):=by
 subst ha;have E0:Hid (Ax w ((w.alloc (.cells #[.pointer (some ⟨gh,oh,none⟩),.pointer (some ⟨gf,top*4,none⟩)] 172)).alloc (.cells #[.int .i64 op,.int .i64 (q:Int),.int .i64 b,.int .i64 c'] 134)) B M top t d c n X C K F hv gh oh gf op q b c' X C F):=Ax.of gh oh gf op q b c' hB h hm;have H:=h3 h hF hy;clear h hm hy;go_enter Tryz.func152,Tryz.ntmps152;go_upto_region 1 with fail
 refine Af (fun u=>Hid (Ax w u B M _ t d c n X C K F hv gh oh gf op q b c' X C F)/\Below w.heap.size w u) ⟨E0,Ab (Aa _ _) lR (Aa _ _)⟩ ?_
 rintro U ⟨E1,bU⟩;clear E0;have f1:=E1.out.fb.cell 1;have i1:=E1.out.ib.cell 1;simp only[gA,gZ,gS]at f1 i1;obtain⟨_,_,fc3⟩:=E1.out.frc hXf H.out.2.2;have hmem:(y.2,y.1.locals)∈C++[(X.k,K)]++AL F:=by simp only[List.mem_append];exact .inr (mG (Bb H.out.2.2))
 have hql:=(gI.1 hz).1;rcases At (E1.out.own.fam.own _ hmem)with⟨_,e⟩|⟨gl,cl,el⟩
 ·simp only[]at e
  omega
 simp only[]at el;obtain⟨lt0,lw0⟩:=E1.out.own.rowc hmem el hz;rw[el]at fc3;have hqI:(q:Int)<(y.1.locals.length:Int):=by omega
 generalize y.1.locals.length=nl at fc3 hqI hnl;have bD:=Ad U;have f1d:=Ac bD f1;have i1d:=Ac bD i1;have fcd:=Ac bD fc3;have ltd:=Ac bD lt0;have lwd:=Ac bD lw0;have HXF:=AS hXf;clear f1 i1 fc3 lt0 lw0 hXf hmem el hz hql;go_upto_region 1 with fail
 go_region_law (go_simp;go_at_call 196;refine(C5 B M t d c n X C K F hv z _ (Nat.le_trans E1.out.hB (E1.out.keep bD).chg.size) (E1.out.keep bD).own (E1.out.keep bD).mb hK).mono ?_;rintro e u1 ⟨rfl,k',h1,h2,h3,h4⟩;have E2:Hid (Ax w u1 B M top t d c n ⟨X.c,k',X.f⟩ C (K++[z]) F hv gh oh gf op q b c' X C F):=(E1.out.keep bD).push h1 h2 h3 h4;clear h1 h2 h3 h4)
 all_goals
  go_wp2_with fail
  exact bodyPost_end (v:=.tuple #[]) (by kernel_rfl) rfl E2.out.res
theorem Ah.neM{u:World}{B M:Nat}{t:Int}{d:Bool}{c n:Int}{X X':VS}{C:List (Value×List MC)}{K:List MC}{F:List (MG×Value)}{hv:Value}(h:Ah u B X C K F)(hm:MB u M t d c n X' hv):¬C8 X C F M:=by
 obtain⟨cur,hb,_⟩:=hm.blk;rintro(e|e|e|⟨r,hr,e⟩|⟨r,hr,e⟩)
 ·exact AJ h.cells hb (by decide) _ e rfl
 ·exact AJ (h.fam.own (X.k,K) (by simp)) hb (by decide) _ e rfl
 ·exact AJ h.frames hb (by decide) _ e rfl
 ·exact AJ (h.fam.own r (by simp only[List.mem_append];exact .inl (.inl hr))) hb (by decide) _ e rfl
 ·exact AJ (h.fam.own r (by simp only[List.mem_append];exact .inr hr)) hb (by decide) _ e rfl
theorem C9.cell{R:Nat->Prop}{u u':World}(h:C9 R u u'){ad:Addr}{v:Value}(hc:u.cell? ad=some v)(hn:¬R ad.block):u'.cell? ad=some v:=by
 rw[World.cell?_of_block (h.block _ (bL hc) hn)];exact hc
theorem GI{u:World}{g i:Nat}{cur:Array Value}{ty:TypeId}(hg:Ap u g cur ty)(v0:Value){old:Value}(h1:u.cell? ⟨g,i+1,none⟩=some old):(u.setCell ⟨g,i,none⟩ v0).cell? ⟨g,i+1,none⟩=some old/\(u.setCell ⟨g,i,none⟩ v0).frozen? ⟨g,i+1,none⟩=false/\u.frozen? ⟨g,i,none⟩=false:=by
 have h2:=hg.set i v0;refine⟨?_,h2.frozen _,hg.frozen _⟩;rw[h2.cell,Array.getElem?_setIfInBounds_ne (by omega),<-hg.cell];exact h1
theorem C8.loc{X:VS}{C:List (Value×List MC)}{F:List (MG×Value)}{top:Nat}{y:MG×Value}(hy:F[top]?=some y){g:MG}{j:Nat}(h:C8 X C (F.set top (g,y.2)) j):C8 X C F j:=by
 rcases h with e|e|e|e|⟨r,hr,e⟩
 ·exact .inl e
 ·exact .inr (.inl e)
 ·exact .inr (.inr (.inl e))
 ·exact .inr (.inr (.inr (.inl e)))
 ·rw[EQ]at hr
  rcases List.mem_or_eq_of_mem_set hr with hr|hr
  ·exact .inr (.inr (.inr (.inr ⟨r,hr,e⟩)))
  ·exact .inr (.inr (.inr (.inr ⟨_,mG (Bb hy),by rw[hr]at e;exact e⟩)))
theorem C8.cel{X:VS}{C:List (Value×List MC)}{F:List (MG×Value)}{q:Nat}{r:Value×List MC}(hr:C[q]?=some r){vs:List MC}{j:Nat}(h:C8 X (C.set q (r.1,vs)) F j):C8 X C F j:=by
 rcases h with e|e|e|⟨x,hx,e⟩|e
 ·exact .inl e
 ·exact .inr (.inl e)
 ·exact .inr (.inr (.inl e))
 ·rcases List.mem_or_eq_of_mem_set hx with hx|hx
  ·exact .inr (.inr (.inr (.inl ⟨x,hx,e⟩)))
  ·exact .inr (.inr (.inr (.inl ⟨r,mG hr,by rw[hx]at e;exact e⟩)))
 ·exact .inr (.inr (.inr (.inr e)))
theorem Ax.setL{w u:World}{B M top:Nat}{t:Int}{d:Bool}{c n:Int}{X:VS}{C:List (Value×List MC)}{K:List MC}{F:List (MG×Value)}{hv:Value}{gh oh gf:Nat}{op a b c':Int}{X0:VS}{C0:List (Value×List MC)}{F0:List (MG×Value)}(h:Ax w u B M top t d c n X C K F hv gh oh gf op a b c' X0 C0 F0){y:MG×Value}{gl nl cl q:Nat}{zo:MC}(hy:F[top]?=some y)(el:y.2=.slice (some ⟨gl,0,none⟩) nl cl)(hq:y.1.locals[q]?=some zo)(z:MC):Ax w ((u.setCell ⟨gl,q*2,none⟩ (.int .i64 z.type)).setCell ⟨gl,q*2+1,none⟩ (.int .u32 z.word)) B M top t d c n X C K (F.set top ({y.1 with locals:=y.1.locals.set q z},y.2)) hv gh oh gf op a b c' X0 C0 F0:=by
 have hy2:F[top]?=some (y.1,.slice (some ⟨gl,0,none⟩) nl cl):=by rw[hy,<-el]
 obtain⟨o1,g1⟩:=h.own.setL (Nat.le_trans h.hB h.chg.size) hy2 hq z;rw[<-el]at o1;have ho:=h.own.fam.own (y.2,y.1.locals) (by simp only[List.mem_append];exact .inr (mG (Bb hy)));simp only[]at ho;rw[el]at ho;have hl:=BG ho;subst hl;obtain⟨hb,cur,hg⟩:=Bq ho;exact h.rows g1 o1 (.inr (.inr (.inr (.inr ⟨_,mG (Bb hy),by simp only[];rw[el];rfl⟩)))) hg (by decide) (fun j hj=>hj.loc hy)
theorem Ax.setC{w u:World}{B M top:Nat}{t:Int}{d:Bool}{c n:Int}{X:VS}{C:List (Value×List MC)}{K:List MC}{F:List (MG×Value)}{hv:Value}{gh oh gf:Nat}{op a b c':Int}{X0:VS}{C0:List (Value×List MC)}{F0:List (MG×Value)}(h:Ax w u B M top t d c n X C K F hv gh oh gf op a b c' X0 C0 F0){r:Value×List MC}{gl nl cl q i:Nat}{zo:MC}(hr:C[q]?=some r)(el:r.1=.slice (some ⟨gl,0,none⟩) nl cl)(hi:r.2[i]?=some zo)(z:MC):Ax w ((u.setCell ⟨gl,i*2,none⟩ (.int .i64 z.type)).setCell ⟨gl,i*2+1,none⟩ (.int .u32 z.word)) B M top t d c n X (C.set q (r.1,r.2.set i z)) K F hv gh oh gf op a b c' X0 C0 F0:=by
 have hr2:C[q]?=some (.slice (some ⟨gl,0,none⟩) nl cl,r.2):=by rw[hr,<-el]
 obtain⟨o1,g1⟩:=h.own.setC (Nat.le_trans h.hB h.chg.size) hr2 hi z;rw[<-el]at o1;have ho:=h.own.fam.own r (by simp only[List.mem_append];exact .inl (.inl (mG hr)));rw[el]at ho;have hl:=BG ho;subst hl;obtain⟨hb,cur,hg⟩:=Bq ho;exact h.rows g1 o1 (.inr (.inr (.inr (.inl ⟨_,mG hr,by rw[el];rfl⟩)))) hg (by decide) (fun j hj=>hj.cel hr)
theorem JF(B M top:Nat)(t:Int)(d:Bool)(c n:Int)(X:VS)(C:List (Value×List MC))(K:List MC)(F:List (MG×Value))(hv:Value)(gh oh gf c3:Nat)(y:MG×Value)(op a b c':Int)(w:World)(hB:B<=w.heap.size)(h:Ah w B X C K F)(hm:MB w M t d c n X hv)(hF:F.length=top+1)(hF1:top<=1048576)(hy:F[top]?=some y)(hXf:X.f=.slice (some ⟨gf,0,none⟩) (top+1) c3)(hK:K.length<=1048576)(q nk gk ok ck:Nat)(z:MC)(ha:a=q)(hq:q<nk)(hnk:nk<=1048576)(hh:w.cell? ⟨gh,oh+1,none⟩=some (.slice (some ⟨gk,ok,none⟩) nk ck))(hz0:w.cell? ⟨gk,ok+q*2,none⟩=some (.int .i64 z.type))(hz1:w.cell? ⟨gk,ok+q*2+1,none⟩=some (.int .u32 z.word)):
 Calls Tryz.prog 151 #[.pointer (some ⟨M,0,none⟩),.agg #[.pointer (some ⟨gh,oh,none⟩),.pointer (some ⟨gf,top*4,none⟩)],.agg #[.int .i64 op,.int .i64 a,.int .i64 b,.int .i64 c']] w (BP w B M t d c n C (K++[z]) F hv X C F):=by
 subst ha;have E0:Hid (Ax w ((w.alloc (.cells #[.pointer (some ⟨gh,oh,none⟩),.pointer (some ⟨gf,top*4,none⟩)] 172)).alloc (.cells #[.int .i64 op,.int .i64 (q:Int),.int .i64 b,.int .i64 c'] 134)) B M top t d c n X C K F hv gh oh gf op q b c' X C F):=Ax.of gh oh gf op q b c' hB h hm;have H:=h3 h hF hy;clear h hm hy;go_enter Tryz.func151,Tryz.ntmps151;go_upto_region 1 with fail
 refine Af (fun u=>Hid (Ax w u B M _ t d c n X C K F hv gh oh gf op q b c' X C F)/\Below w.heap.size w u) ⟨E0,Ab (Aa _ _) lR (Aa _ _)⟩ ?_
 rintro U ⟨E1,bU⟩;clear E0;have f0:=E1.out.fb.cell 0;have i1:=E1.out.ib.cell 1;simp only[gA,gZ,gS]at f0 i1;have bD:=Ad U;have f0d:=Ac bD f0;have i1d:=Ac bD i1;have hhd:=Ac bD (Ac bU hh);have z0d:=Ac bD (Ac bU hz0);have z1d:=Ac bD (Ac bU hz1);have hqI:(q:Int)<(nk:Int):=by omega
 clear f0 i1 hh hz0 hz1 hXf;go_upto_region 1 with fail
 go_region_law (go_simp;go_at_call 196;refine(C5 B M t d c n X C K F hv z _ (Nat.le_trans E1.out.hB (E1.out.keep bD).chg.size) (E1.out.keep bD).own (E1.out.keep bD).mb hK).mono ?_;rintro e u1 ⟨rfl,k',h1,h2,h3,h4⟩;have E2:Hid (Ax w u1 B M top t d c n ⟨X.c,k',X.f⟩ C (K++[z]) F hv gh oh gf op q b c' X C F):=(E1.out.keep bD).push h1 h2 h3 h4;clear h1 h2 h3 h4)
 all_goals
  go_wp2_with fail
  exact bodyPost_end (v:=.tuple #[]) (by kernel_rfl) rfl E2.out.res
theorem NC(B M top:Nat)(t:Int)(d:Bool)(c n:Int)(X:VS)(C:List (Value×List MC))(K:List MC)(F:List (MG×Value))(hv:Value)(gh oh gf c3:Nat)(y:MG×Value)(op a b c':Int)(w:World)(hB:B<=w.heap.size)(h:Ah w B X C K F)(hm:MB w M t d c n X hv)(hF:F.length=top+1)(hF1:top<=1048576)(hy:F[top]?=some y)(hXf:X.f=.slice (some ⟨gf,0,none⟩) (top+1) c3)(hK:K.length<=1048576)(q p:Nat)(r:Value×List MC)(z:MC)(ha:a=q)(hb:b=p)(hr:C[q]?=some r)(hz:r.2[p]?=some z)(hnr:r.2.length<=1048576)(hnc:C.length<=1048576):
 Calls Tryz.prog 154 #[.pointer (some ⟨M,0,none⟩),.agg #[.pointer (some ⟨gh,oh,none⟩),.pointer (some ⟨gf,top*4,none⟩)],.agg #[.int .i64 op,.int .i64 a,.int .i64 b,.int .i64 c']] w (BP w B M t d c n C (K++[z]) F hv X C F):=by
 subst ha hb;have E0:Hid (Ax w ((w.alloc (.cells #[.pointer (some ⟨gh,oh,none⟩),.pointer (some ⟨gf,top*4,none⟩)] 172)).alloc (.cells #[.int .i64 op,.int .i64 (q:Int),.int .i64 (p:Int),.int .i64 c'] 134)) B M top t d c n X C K F hv gh oh gf op q p c' X C F):=Ax.of gh oh gf op q p c' hB h hm;have H:=h3 h hF hy;clear h hm hy;go_enter Tryz.func154,Tryz.ntmps154;go_upto_region 1 with fail
 refine Af (fun u=>Hid (Ax w u B M _ t d c n X C K F hv gh oh gf op q p c' X C F)/\Below w.heap.size w u) ⟨E0,Ab (Aa _ _) lR (Aa _ _)⟩ ?_
 rintro U ⟨E1,bU⟩;clear E0;have i1:=E1.out.ib.cell 1;have i2:=E1.out.ib.cell 2;simp only[gA,gZ,gS]at i1 i2;have hql:=(gI.1 hr).1;have hpl:=(gI.1 hz).1;rcases At E1.out.own.cells with⟨_,e⟩|⟨gc,c1,ec⟩
 ·omega
 have hmem:r∈C++[(X.k,K)]++AL F:=by simp only[List.mem_append];exact .inl (.inl (mG hr))
 rcases At (E1.out.own.fam.own _ hmem)with⟨_,e⟩|⟨gl,cl,el⟩
 ·omega
 have m4:=E1.out.mb.at.2.2.2.2.1;rw[ec]at m4;have cc:=E1.out.own.celc ec hr;rw[el]at cc;obtain⟨lt0,lw0⟩:=E1.out.own.rowc hmem el hz;have hqI:(q:Int)<(C.length:Int):=by omega
 have hpI:(p:Int)<(r.2.length:Int):=by omega
 have HR:=h3 hr el hz;have HEC:=AS ec;have bD:=Ad U;have i1d:=Ac bD i1;have i2d:=Ac bD i2;have m4d:=Ac bD m4;have ccd:=Ac bD cc;have ltd:=Ac bD lt0;have lwd:=Ac bD lw0;generalize r.2.length=nr at ccd hpI hnr;clear i1 i2 m4 cc lt0 lw0 hXf hmem el hz hr ec hql hpl;go_upto_region 1 with fail
 go_region_law (go_simp;go_at_call 196;refine(C5 B M t d c n X C K F hv z _ (Nat.le_trans E1.out.hB (E1.out.keep bD).chg.size) (E1.out.keep bD).own (E1.out.keep bD).mb hK).mono ?_;rintro e u1 ⟨rfl,k',h1,h2,h3,h4⟩;have E2:Hid (Ax w u1 B M top t d c n ⟨X.c,k',X.f⟩ C (K++[z]) F hv gh oh gf op q p c' X C F):=(E1.out.keep bD).push h1 h2 h3 h4;clear h1 h2 h3 h4)
 all_goals
  go_wp2_with fail
  exact bodyPost_end (v:=.tuple #[]) (by kernel_rfl) rfl E2.out.res
end Go.Proofs.YtlejplpkomddeaaGreat
