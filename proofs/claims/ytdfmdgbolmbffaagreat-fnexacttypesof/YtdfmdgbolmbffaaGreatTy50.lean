import Derived.Test.YtdfmdgbolmbffaaGreatTy49
import Derived.Test.YtdfmdgbolmbffaaGreatTy46
namespace Go.Proofs.YtdfmdgbolmbffaaGreat
open Go.ChangeShapes Go.WideShapes Go.ChangeAt Go.RowKit
set_option linter.unusedVariables false
theorem frz4{w:World}{b:Nat}{t:TypeId}{cur:Array Value}(h:Blk w b cur t):w.frozen? ⟨b,0,none⟩=false/\w.frozen? ⟨b,1,none⟩=false/\w.frozen? ⟨b,2,none⟩=false/\w.frozen? ⟨b,3,none⟩=false:=⟨h.frozen 0,h.frozen 1,h.frozen 2,h.frozen 3⟩
theorem cel12{w:World}{b:Nat}{x0 x1 x2 x3 x4 x5 x6 x7 x8 x9 x10 x11:Value}{t:TypeId}(h:Blk w b #[x0,x1,x2,x3,x4,x5,x6,x7,x8,x9,x10,x11] t):w.cell? ⟨b,0,none⟩=some x0/\w.cell? ⟨b,1,none⟩=some x1/\w.cell? ⟨b,2,none⟩=some x2/\w.cell? ⟨b,3,none⟩=some x3/\w.cell? ⟨b,4,none⟩=some x4/\w.cell? ⟨b,5,none⟩=some x5/\w.cell? ⟨b,6,none⟩=some x6/\w.cell? ⟨b,7,none⟩=some x7/\w.cell? ⟨b,8,none⟩=some x8/\w.cell? ⟨b,9,none⟩=some x9/\w.cell? ⟨b,10,none⟩=some x10/\w.cell? ⟨b,11,none⟩=some x11:=⟨h.cell 0,h.cell 1,h.cell 2,h.cell 3,h.cell 4,h.cell 5,h.cell 6,h.cell 7,h.cell 8,h.cell 9,h.cell 10,h.cell 11⟩
structure ThS(w u:World)(v:VP)(g:VF)(f:MF)(bv:Value)(TB QB GS n B N:Nat)(RS:List Value)(s:WI)(S:Nat)(V:Value)(sh:List Int)(XB ma me:Nat)(nv:Value):Prop where
  ty:TyI w u v g f bv TB QB GS n B N RS s
  st:Stk u S V sh
  ap:ApR RS (RStk S V)
  xb:Blk u XB #[.int .i64 (ma:Int),.int .i64 (me:Int),nv] 71
  rb:Blk u (XB+1) #[.int .i64 0,.int .i64 0,.int .i64 0,.slice none 0 0] 30
  lo:B<=XB/\XB+1<S
  sl:sh.length<=s.d
theorem ThS.keep{w u u':World}{v:VP}{g:VF}{f:MF}{bv:Value}{TB QB GS n B N:Nat}{RS:List Value}{s:WI}{S:Nat}{V:Value}{sh:List Int}{XB ma me:Nat}{nv:Value}(h:ThS w u v g f bv TB QB GS n B N RS s S V sh XB ma me nv)(hb:Below u.heap.size u u'):ThS w u' v g f bv TB QB GS n B N RS s S V sh XB ma me nv:=⟨h.ty.keep hb,h.st.keep hb,h.ap,h.xb.keep hb,h.rb.keep hb,h.lo,h.sl⟩
theorem ThS.setS{w u:World}{v:VP}{g:VF}{f:MF}{bv:Value}{TB QB GS n B N:Nat}{RS:List Value}{s:WI}{S:Nat}{V:Value}{sh:List Int}{XB ma me:Nat}{nv:Value}(h:ThS w u v g f bv TB QB GS n B N RS s S V sh XB ma me nv){j:Nat}{V':Value}(hV:RowT u B V' sh)(hfr:∀(i:Nat) (W:Value),RS[i]?=some W->∀g,V'.ownBlock=some g->W.ownBlock≠some g)(hap:∀g,V'.ownBlock=some g->¬RStk S V g):ThS w (u.setCell ⟨GS,j,none⟩ V') v g f bv TB QB GS n B N (RS.set j V') ⟨s.c,updT s.r j sh,s.d⟩ S V sh XB ma me nv:=by
  obtain⟨n1,n2,n3,n4,n5,n6⟩:=h.ty.ne
  obtain⟨l1,l2⟩:=h.lo
  exact⟨h.ty.setS hV (Nat.le_trans h.sl h.ty.dl) hfr,h.st.setB (by simp only[];omega) _,h.ap.set hap,h.xb.other (by simp only[];omega) _,h.rb.other (by simp only[];omega) _,h.lo,h.sl⟩
structure ThC(w u:World)(v:VP)(g:VF)(f:MF)(bv:Value)(TB QB GS n B N:Nat)(RS:List Value)(s:WI)(S:Nat)(XB ma me:Nat)(nv:Value):Prop where
  ty:TyI w u v g f bv TB QB GS n B N RS s
  xb:Blk u XB #[.int .i64 (ma:Int),.int .i64 (me:Int),nv] 71
  rb:Blk u (XB+1) #[.int .i64 0,.int .i64 0,.int .i64 0,.slice none 0 0] 30
  lo:B<=XB/\XB+1<S
theorem ThS.chg{w u u':World}{v:VP}{g:VF}{f:MF}{bv:Value}{TB QB GS n B N:Nat}{RS:List Value}{s:WI}{S:Nat}{V:Value}{sh:List Int}{XB ma me:Nat}{nv:Value}(h:ThS w u v g f bv TB QB GS n B N RS s S V sh XB ma me nv)(hc:Chg (RStk S V) u u'):ThC w u' v g f bv TB QB GS n B N RS s S XB ma me nv:=by
  obtain⟨l1,l2⟩:=h.lo
  have hge:∀k,RStk S V k->S<=k:=fun k hk=>(RStk.ge h.st hk).1
  exact⟨h.ty.chg hc (fun k hk=>by have:=hge k hk;omega) h.ap,hc.blk h.xb (fun e=>by have:=hge _ e;omega),hc.blk h.rb (fun e=>by have:=hge _ e;omega),h.lo⟩
theorem ThC.setD{w u:World}{v:VP}{g:VF}{f:MF}{bv:Value}{TB QB GS n B N:Nat}{RS:List Value}{s:WI}{S:Nat}{XB ma me:Nat}{nv:Value}(h:ThC w u v g f bv TB QB GS n B N RS s S XB ma me nv){V:Value}{sh:List Int}(hst:Stk u S V sh)(hap:ApR RS (RStk S V)){d:Nat}(hd:d<=64)(hs:sh.length<=d):ThS w (u.setCell ⟨TB,11,none⟩ (.int .i64 (d:Int))) v g f bv TB QB GS n B N RS ⟨s.c,s.r,d⟩ S V sh XB ma me nv:=by
  obtain⟨n1,n2,n3,n4,n5,n6⟩:=h.ty.ne
  obtain⟨l1,l2⟩:=h.lo
  exact⟨h.ty.setD d hd,hst.setB (by simp only[];omega) _,hap,h.xb.other (by simp only[];omega) _,h.rb.other (by simp only[];omega) _,h.lo,hs⟩
theorem ThS.apC{w u:World}{v:VP}{g:VF}{f:MF}{bv:Value}{TB QB GS n B N:Nat}{RS:List Value}{s:WI}{S:Nat}{V V':Value}{sh:List Int}{XB ma me:Nat}{nv:Value}(h:ThS w u v g f bv TB QB GS n B N RS s S V sh XB ma me nv)(hv:V'.ownBlock=V.ownBlock\/∀g,V'.ownBlock=some g->u.heap.size<=g):ApR RS (RStk S V'):=fun j W e g hg hr=>by
  rcases hr with rfl|hr
  . exact h.ap j W e g hg (.inl rfl)
  . rcases hv with q|q
    . exact h.ap j W e g hg (.inr (by rw[<-q];exact hr))
    . have h1:=q g hr
      have h2:=((h.ty.rs j W e).lt g hg).2
      omega
theorem TyI.more{w u:World}{v:VP}{g:VF}{f:MF}{bv:Value}{TB QB GS n B N N':Nat}{RS:List Value}{s:WI}(h:TyI w u v g f bv TB QB GS n B N RS s)(hN:N<=N'):TyI w u v g f bv TB QB GS n B N' RS s:=by
  obtain⟨cnt,D,h1,h2,h3⟩:=h.mp
  exact⟨h.tb,⟨cnt,D,h1,Nat.le_trans h2 hN,h3⟩,h.sa,h.sl,h.rs,h.bel,h.lo,h.ne,h.sz,h.dl,h.rl,h.ap⟩
theorem ThS.more{w u:World}{v:VP}{g:VF}{f:MF}{bv:Value}{TB QB GS n B N N':Nat}{RS:List Value}{s:WI}{S:Nat}{V:Value}{sh:List Int}{XB ma me:Nat}{nv:Value}(h:ThS w u v g f bv TB QB GS n B N RS s S V sh XB ma me nv)(hN:N<=N'):ThS w u v g f bv TB QB GS n B N' RS s S V sh XB ma me nv:=⟨h.ty.more hN,h.st,h.ap,h.xb,h.rb,h.lo,h.sl⟩
theorem ThS.apX{w u:World}{v:VP}{g:VF}{f:MF}{bv:Value}{TB QB GS n B N:Nat}{RS:List Value}{s:WI}{S:Nat}{V:Value}{sh:List Int}{XB ma me:Nat}{nv:Value}(h:ThS w u v g f bv TB QB GS n B N RS s S V sh XB ma me nv):ApR RS (fun k=>k=XB+1):=fun j W e g hg hr=>by
  subst hr
  rcases(h.ty.rs j W e).2 with⟨q,_⟩|⟨g',cap,cur,q,_,hg',_⟩
  . subst q
    cases hg
  . subst q
    simp only[Value.ownBlock,Option.some.injEq]at hg
    subst hg
    have:=h.rb
    unfold Blk at this
    rw[hg']at this
    simp only[Option.some.injEq,Obj.cells.injEq]at this
    exact absurd this.2.1 (by decide)
def ThR(w:World)(v:VP)(g:VF)(f:MF)(bv:Value)(TB QB GS n B N:Nat)(r:RunI)(e:Ending)(u':World):Prop:=match r with
  |.inl (c,a)=>e=.returned (.agg #[.int .i64 c,.int .i64 (a:Int),.int .i64 0,.slice none 0 0])/\c≠0/\Below w.heap.size w u'
  |.inr s'=>e=.returned (.agg #[.int .i64 0,.int .i64 0,.int .i64 0,.slice none 0 0])/\∃RS' N',N'<=N+2/\TyI w u' v g f bv TB QB GS n B N' RS' s'
theorem codeI_small{p:MP}{f:MF}{x:MI}{sh:List Int}(h:codeI p f x sh=0):(outI p f x sh).length<=64:=by
  unfold codeI at h
  unfold outI
  by_cases e:x.op=29
  . rw[if_pos e];simp
  . rw[if_neg e]at h⊢
    exact codeT_small h
def AtI(bs:List MB)(me:Nat)(nx:List Nat)(sh:List Int)(C:Nat->Bool)(R:Nat->List Int)(D:Nat)(RUN:RunI):Prop:=(match meetI bs nx sh C R with|none=>Sum.inl (4,me)|some (C',R')=>.inr ⟨C',R',D⟩)=RUN
theorem runBI_eq{p:MP}{f:MF}{bs:List MB}{m:MB}{ma me:Nat}{s:WI}(h1:m.first=(ma:Int))(h2:m.last=(me:Int)):runBI p f bs m s=(match runK p f (me+1-ma) ma (s.r ma) s.r s.d with|.inl e=>.inl e|.inr (sh,R,D)=>match meetI bs (m.next.map Int.toNat) sh s.c R with|none=>.inl (4,me)|some (C,R')=>.inr ⟨C,R',D⟩):=by
  unfold runBI
  have e:(m.last-m.first+1).toNat=me+1-ma:=by omega
  rw[e,h1,h2,Int.toNat_natCast,Int.toNat_natCast]<;>rfl
theorem AtI.same{bs:List MB}{me t:Nat}{nx:List Nat}{sh:List Int}{C:Nat->Bool}{R:Nat->List Int}{D:Nat}{RUN:RunI}(h:AtI bs me (t::nx) sh C R D RUN)(hc:C t=true)(hs:R (fstB bs t)=sh):AtI bs me nx sh C R D RUN:=by
  unfold AtI at h⊢
  rw[meetI,if_pos hc,if_pos hs]at h
  exact h
theorem AtI.bad{bs:List MB}{me t:Nat}{nx:List Nat}{sh:List Int}{C:Nat->Bool}{R:Nat->List Int}{D:Nat}{RUN:RunI}(h:AtI bs me (t::nx) sh C R D RUN)(hc:C t=true)(hs:¬R (fstB bs t)=sh):RUN=.inl (4,me):=by
  unfold AtI at h
  rw[meetI,if_pos hc,if_neg hs]at h
  exact h.symm
theorem AtI.new{bs:List MB}{me t:Nat}{nx:List Nat}{sh:List Int}{C:Nat->Bool}{R:Nat->List Int}{D:Nat}{RUN:RunI}(h:AtI bs me (t::nx) sh C R D RUN)(hc:C t=false):AtI bs me nx sh (updI C t) (updT R (fstB bs t) sh) D RUN:=by
  unfold AtI at h⊢
  rw[meetI,if_neg (by rw[hc];decide)]at h
  exact h
set_option maxHeartbeats 8000000 in
set_option maxRecDepth 100000 in
theorem through_any(w u:World)(v:VP)(p:MP)(g:VF)(f:MF)(bv nv:Value)(TB QB GS B N:Nat)(RS:List Value)(s:WI)(bs:List MB)(b:Nat)(m:MB)(ma me:Nat)(h:TyI w u v g f bv TB QB GS f.code.length B N RS s)(hsc:ScIn w v p g f)(hb:RdBs w bv bs)(hB:BlkIn f.code bs)(hm:bs[b]?=some m)(hma:m.first=(ma:Int))(hme:m.last=(me:Int))(hnx:Rd w 1 nv m.next.length (m.next.flatMap intCell))(hm2:m.next.length<=2)(hnt:∀z∈m.next,∃t:Nat,z=(t:Int)/\t<bs.length)(hbl:bs.length<=1024)(hN:N<=4000)(hlen:(s.r ma).length<=s.d):
    Calls Tryz.prog 80 #[.pointer (some ⟨TB,0,none⟩),.agg #[.int .i64 (ma:Int),.int .i64 (me:Int),nv]] u (ThR w v g f bv TB QB GS f.code.length B N (runBI p f bs m s)):=by
  obtain⟨r1,r3,k1,k3,t1,t3,f1,f3,rfl⟩:=hsc.rp.sl
  obtain⟨g1,g3,g4,g6,g7,g9,rfl⟩:=rdF_sl hsc.rf
  obtain⟨xa,xc,rfl⟩:=hnx.is_slice
  obtain⟨ba,bc,rfl⟩:∃a c,bv=.slice a bs.length c:=by obtain⟨_,_,h2,_⟩:=hb;exact h2.is_slice
  obtain⟨a',e',q1,q2,hae,hec⟩:=hB.part b m hm
  have ea:ma=a':=by omega
  have ee:me=e':=by omega
  subst ea ee
  clear q1 q2
  obtain⟨gi,oi,ci,ei,_⟩:=in_at hsc.rf.2.2 (List.getElem?_eq_getElem hec)
  simp only[Value.slice.injEq,true_and]at ei
  obtain⟨rfl,rfl⟩:=ei
  have hcl:f.code.length<=1024:=hsc.cl
  obtain⟨RUN,hRUN⟩:∃R,R=runBI p f bs m s:=⟨_,rfl⟩
  rw[<-hRUN]
  have HRUN:Hid (runBI p f bs m s=RUN):=hRUN.symm
  clear hRUN
  have H:Hid (ScIn w ⟨.slice r1 p.regions.length r3,.slice k1 p.consts.length k3,.slice f1 p.funcs.length f3,.slice t1 p.certs.length t3⟩ p ⟨.slice g1 f.params.length g3,.slice g4 f.locals.length g6,.slice (some ⟨gi,oi,none⟩) f.code.length g9⟩ f/\RdBs w (.slice ba bs.length bc) bs/\Rd w 1 (.slice xa m.next.length xc) m.next.length (m.next.flatMap intCell)/\(∀z∈m.next,∃t:Nat,z=(t:Int)/\t<bs.length)/\BlkIn f.code bs):=⟨hsc,hb,hnx,hnt,hB⟩
  have HM:Hid (m.first=(ma:Int)/\m.last=(me:Int)):=⟨hma,hme⟩
  have HL:Hid ((s.r ma).length<=s.d):=hlen
  have HT:Hid (TyI w u ⟨.slice r1 p.regions.length r3,.slice k1 p.consts.length k3,.slice f1 p.funcs.length f3,.slice t1 p.certs.length t3⟩ ⟨.slice g1 f.params.length g3,.slice g4 f.locals.length g6,.slice (some ⟨gi,oi,none⟩) f.code.length g9⟩ f (.slice ba bs.length bc) TB QB GS f.code.length B N RS s):=h
  clear hsc hb hnx hnt hB hma hme hlen hm h
  have E0:=two_new u #[.int .i64 (ma:Int),.int .i64 (me:Int),(.slice xa m.next.length xc)] #[.int .i64 0,.int .i64 0,.int .i64 0,.slice none 0 0] 71 30
  go_enter Tryz.func80,Tryz.ntmps80
  go_upto_region 1 with fail
  refine wp_world (fun u'=>Hid (Blk u' u.heap.size #[.int .i64 (ma:Int),.int .i64 (me:Int),(.slice xa m.next.length xc)] 71/\Blk u' (u.heap.size+1) #[.int .i64 0,.int .i64 0,.int .i64 0,.slice none 0 0] 30/\TyI w u' ⟨.slice r1 p.regions.length r3,.slice k1 p.consts.length k3,.slice f1 p.funcs.length f3,.slice t1 p.certs.length t3⟩ ⟨.slice g1 f.params.length g3,.slice g4 f.locals.length g6,.slice (some ⟨gi,oi,none⟩) f.code.length g9⟩ f (.slice ba bs.length bc) TB QB GS f.code.length B N RS s)) ⟨E0.1,E0.2.1,HT.out.keep E0.2.2⟩ ?_
  rintro U0 E1
  have hXB:B<=u.heap.size:=HT.out.sz
  generalize u.heap.size=XB at E1 hXB⊢
  clear E0 HT
  clear u
  obtain⟨V0,hV0⟩:∃V,RS[ma]?=some V:=⟨_,List.getElem?_eq_getElem (by rw[E1.out.2.2.sl];omega)⟩
  have hrow0:=E1.out.2.2.rs ma V0 hV0
  obtain⟨va,vc,eV0⟩:=own_slice hrow0
  subst eV0
  have HR1:Hid (Blk U0.drew XB #[.int .i64 (ma:Int),.int .i64 (me:Int),(.slice xa m.next.length xc)] 71/\Blk U0.drew (XB+1) #[.int .i64 0,.int .i64 0,.int .i64 0,.slice none 0 0] 30/\TyI w U0.drew ⟨.slice r1 p.regions.length r3,.slice k1 p.consts.length k3,.slice f1 p.funcs.length f3,.slice t1 p.certs.length t3⟩ ⟨.slice g1 f.params.length g3,.slice g4 f.locals.length g6,.slice (some ⟨gi,oi,none⟩) f.code.length g9⟩ f (.slice ba bs.length bc) TB QB GS f.code.length B N RS s/\RowT U0.drew B (.slice va (s.r ma).length vc) (s.r ma)/\RS[ma]?=some (.slice va (s.r ma).length vc)):=⟨E1.out.1.keep (below_drew1 _),E1.out.2.1.keep (below_drew1 _),E1.out.2.2.keep (below_drew1 _),hrow0.keep (below_drew1 _),hV0⟩
  have maL:(ma:Int)<(f.code.length:Int):=by omega
  clear hrow0 hV0 E1
  have b10:U0.drew.cell? ⟨TB,10,none⟩=some (.slice (some ⟨GS,0,none⟩) f.code.length f.code.length):=HR1.out.2.2.1.tb.cell 10
  have b0:U0.drew.cell? ⟨XB,0,none⟩=some (.int .i64 (ma:Int)):=HR1.out.1.cell 0
  have b1:U0.drew.cell? ⟨GS,ma,none⟩=some (.slice va (s.r ma).length vc):=by have:=HR1.out.2.2.1.sa.cellAt ma (by omega);rw[HR1.out.2.2.2.2]at this;exact this
  refine wp_region_held_drew (S:=fun w'=>w'.cell? ⟨TB,10,none⟩=some (.slice (some ⟨GS,0,none⟩) f.code.length f.code.length)/\w'.cell? ⟨XB,0,none⟩=some (.int .i64 (ma:Int))/\w'.cell? ⟨GS,ma,none⟩=some (.slice va (s.r ma).length vc)) (by kernel_rfl) ⟨b10,b0,b1⟩ (fun hHeld=> ?_)
  refine wpAnyH_take (i:=0) (v:= ?_) rfl (by kernel_rfl) (by kernel_rfl) (by kernel_rfl) (fun _ _ _ h=>h) (Or.inl ⟨by rfl,?_⟩) (by assumption) ?_
  rotate_left
  . (intro w hSw;(try dsimp only at hSw);go_simp;(try with_reducible rfl))
  refine wpAnyH_take (i:=1) (v:= ?_) rfl (by kernel_rfl) (by kernel_rfl) (by kernel_rfl) (fun _ _ _ h=>h) (Or.inl ⟨by rfl,?_⟩) (by assumption) ?_
  rotate_left
  . (intro w hSw;(try dsimp only at hSw);go_simp;(try with_reducible rfl))
  refine wpAnyH_take (i:=2) (v:= ?_) rfl (by kernel_rfl) (by kernel_rfl) (by kernel_rfl) (fun _ _ _ h=>h) (Or.inl ⟨by rfl,?_⟩) (by assumption) ?_
  rotate_left
  . (intro w hSw;(try dsimp only at hSw);go_simp;(try with_reducible rfl))
  refine wpAnyH_take (i:=3) (v:= ?_) rfl (by kernel_rfl) (by kernel_rfl) (by kernel_rfl) (fun _ _ _ h=>h) (Or.inl ⟨by rfl,?_⟩) (by assumption) ?_
  rotate_left
  . (intro w hSw;(try dsimp only at hSw);go_simp;(try with_reducible rfl))
  refine wpAnyH_take (i:=4) (v:= ?_) rfl (by kernel_rfl) (by kernel_rfl) (by kernel_rfl) (fun _ _ _ h=>h) (Or.inl ⟨by rfl,?_⟩) (by assumption) ?_
  rotate_left
  . (intro w hSw;(try dsimp only at hSw);go_simp;(try with_reducible rfl))
  refine wpAnyH_take (i:=5) (v:= ?_) rfl (by kernel_rfl) (by kernel_rfl) (by kernel_rfl) (fun _ _ _ h=>h) (Or.inl ⟨by rfl,?_⟩) (by assumption) ?_
  rotate_left
  . (intro w hSw;(try dsimp only at hSw);go_simp;(try with_reducible rfl))
  refine wpAnyH_take (i:=6) (v:= ?_) rfl (by kernel_rfl) (by kernel_rfl) (by kernel_rfl) (fun _ _ _ h=>h) (Or.inl ⟨by rfl,?_⟩) (by assumption) ?_
  rotate_left
  . (intro w hSw;(try dsimp only at hSw);go_simp;(try with_reducible rfl))
  refine wpAnyH_take (i:=7) (v:= ?_) rfl (by kernel_rfl) (by kernel_rfl) (by kernel_rfl) (fun _ _ _ h=>h) (Or.inl ⟨by rfl,?_⟩) (by assumption) ?_
  rotate_left
  . (intro w hSw;(try dsimp only at hSw);go_simp;(try with_reducible rfl))
  refine wpAnyH_ready (rs:=[8]) (by kernel_rfl) (by simp) ?_
  refine AllReadyH.cons rfl (fun KC hKC=> ?_) AllReadyH.nil
  go_simp
  refine(stackOf_any (.slice va (s.r ma).length vc) (s.r ma) U0.drew (Rd.of_own HR1.out.2.2.2.1) (by have:=HR1.out.2.2.1.rl ma;omega)).mono ?_
  rintro e u1 ⟨rfl,⟨V,hst⟩,bb1⟩
  have F1:Hid (ThS w u1 ⟨.slice r1 p.regions.length r3,.slice k1 p.consts.length k3,.slice f1 p.funcs.length f3,.slice t1 p.certs.length t3⟩ ⟨.slice g1 f.params.length g3,.slice g4 f.locals.length g6,.slice (some ⟨gi,oi,none⟩) f.code.length g9⟩ f (.slice ba bs.length bc) TB QB GS f.code.length B N RS s U0.drew.heap.size V (s.r ma) XB ma me (.slice xa m.next.length xc)):=by
    have hx:=HR1.out.2.1.lt
    refine⟨HR1.out.2.2.1.keep bb1,hst,fun j W e g hg hr=> ?_,HR1.out.1.keep bb1,HR1.out.2.1.keep bb1,⟨hXB,hx⟩,HL.out⟩
    have h1:=(RStk.ge hst hr).1
    have h2:=((HR1.out.2.2.1.rs j W e).lt g hg).2
    omega
  have K1:u1.cell? ⟨TB,10,none⟩=some (.slice (some ⟨GS,0,none⟩) f.code.length f.code.length)/\u1.cell? ⟨XB,0,none⟩=some (.int .i64 (ma:Int))/\u1.cell? ⟨GS,ma,none⟩=some (.slice va (s.r ma).length vc):=⟨bcell_lt bb1 b10,bcell_lt bb1 b0,bcell_lt bb1 b1⟩
  clear hst bb1
  go_simp
  refine hKC.out _ _ K1 (fun hHeld=> ?_)
  clear hKC KC
  refine wpAnyH_take (i:=9) (v:= ?_) rfl (by kernel_rfl) (by kernel_rfl) (by kernel_rfl) (fun _ _ _ h=>h) (Or.inl ⟨by rfl,?_⟩) (by assumption) ?_
  rotate_left
  . (intro w hSw;(try dsimp only at hSw);go_simp;(try with_reducible rfl))
  refine wpAnyH_done (by kernel_rfl) ?_ _
  clear hHeld K1 b10 b0 b1 HR1 HL
  go_upto_region 2 with fail
  refine wp_world (fun u'=>Hid (ThS w u' ⟨.slice r1 p.regions.length r3,.slice k1 p.consts.length k3,.slice f1 p.funcs.length f3,.slice t1 p.certs.length t3⟩ ⟨.slice g1 f.params.length g3,.slice g4 f.locals.length g6,.slice (some ⟨gi,oi,none⟩) f.code.length g9⟩ f (.slice ba bs.length bc) TB QB GS f.code.length B N RS s U0.drew.heap.size V (s.r ma) XB ma me (.slice xa m.next.length xc))) F1 ?_
  clear F1
  rintro U1 F1
  have hds:U0.drew.heap.size=U0.heap.size:=rfl
  rw[hds]at F1
  clear hds
  generalize U0.heap.size=S at F1⊢
  obtain⟨R0,hR0⟩:∃R,R=runK p f (me+1-ma) ma (s.r ma) s.r s.d:=⟨_,rfl⟩
  have HR0:Hid (runK p f (me+1-ma) ma (s.r ma) s.r s.d=R0):=hR0.symm
  clear hR0
  obtain⟨x0,x1,x2⟩:=blk3 F1.out.xb
  go_wp2_with fail
  clear x0 x1 x2
  go_loopw [6] (fun i wr=>∃(d:Nat) (RS:List Value) (sh:List Int) (R:Nat->List Int) (D:Nat) (V:Value),ma<=d/\d<=me+1/\i=.int .i64 d/\Hid (runK p f (me+1-d) d sh R D=R0)/\Hid (ThS w wr ⟨.slice r1 p.regions.length r3,.slice k1 p.consts.length k3,.slice f1 p.funcs.length f3,.slice t1 p.certs.length t3⟩ ⟨.slice g1 f.params.length g3,.slice g4 f.locals.length g6,.slice (some ⟨gi,oi,none⟩) f.code.length g9⟩ f (.slice ba bs.length bc) TB QB GS f.code.length B N RS ⟨s.c,R,D⟩ S V sh XB ma me (.slice xa m.next.length xc))) (fun i _=>me+1-(intOf i).toNat)
  case atStart=>exact⟨ma,RS,_,s.r,s.d,V,by omega,by omega,rfl,HR0,F1⟩
  case round=>
  clear F1
  clear V RS
  obtain⟨d,RS,sh,R,D,V,hd1,hd2,rfl,HK,F⟩:=hrel
  have hsh:sh.length<=64:=Nat.le_trans F.out.sl F.out.ty.dl
  obtain⟨x0,x1,x2⟩:=blk3 F.out.xb
  by_cases hle:d<=me
  case pos=>
    have hleI:(d:Int)<=(me:Int):=by omega
    have hdI:(d:Int)<(f.code.length:Int):=by omega
    obtain⟨y,hy⟩:∃y,f.code[d]?=some y:=⟨_,List.getElem?_eq_getElem (by omega)⟩
    have HY:Hid (f.code[d]?=some y):=hy
    clear hy
    go_upto_region 5 with fail
    clear x0 x1 x2
    have HR5:Hid (ThS w wr.drew ⟨.slice r1 p.regions.length r3,.slice k1 p.consts.length k3,.slice f1 p.funcs.length f3,.slice t1 p.certs.length t3⟩ ⟨.slice g1 f.params.length g3,.slice g4 f.locals.length g6,.slice (some ⟨gi,oi,none⟩) f.code.length g9⟩ f (.slice ba bs.length bc) TB QB GS f.code.length B N RS ⟨s.c,R,D⟩ S V sh XB ma me (.slice xa m.next.length xc)):=F.out.keep (below_drew1 _)
    clear F
    have bo:wr.drew.cell? ⟨TB,10,none⟩=some (.slice (some ⟨GS,0,none⟩) f.code.length f.code.length):=HR5.out.ty.tb.cell 10
    refine wp_region_held_drew (S:=fun w'=>w'.cell? ⟨TB,10,none⟩=some (.slice (some ⟨GS,0,none⟩) f.code.length f.code.length)) (by kernel_rfl) bo (fun hHeld=> ?_)
    refine wpAnyH_take (i:=0) (v:= ?_) rfl (by kernel_rfl) (by kernel_rfl) (by kernel_rfl) (fun _ _ _ h=>h) (Or.inl ⟨by rfl,?_⟩) (by assumption) ?_
    rotate_left
    . (intro w hSw;(try dsimp only at hSw);go_simp;(try with_reducible rfl))
    refine wpAnyH_take (i:=1) (v:= ?_) rfl (by kernel_rfl) (by kernel_rfl) (by kernel_rfl) (fun _ _ _ h=>h) (Or.inl ⟨by rfl,?_⟩) (by assumption) ?_
    rotate_left
    . (intro w hSw;(try dsimp only at hSw);go_simp;(try with_reducible rfl))
    refine wpAnyH_take (i:=2) (v:= ?_) rfl (by kernel_rfl) (by kernel_rfl) (by kernel_rfl) (fun _ _ _ h=>h) (Or.inl ⟨by rfl,?_⟩) (by assumption) ?_
    rotate_left
    . (intro w hSw;(try dsimp only at hSw);go_simp;(try with_reducible rfl))
    refine wpAnyH_take (i:=3) (v:= ?_) rfl (by kernel_rfl) (by kernel_rfl) (by kernel_rfl) (fun _ _ _ h=>h) (Or.inl ⟨by rfl,?_⟩) (by assumption) ?_
    rotate_left
    . (intro w hSw;(try dsimp only at hSw);go_simp;(try with_reducible rfl))
    refine wpAnyH_take (i:=4) (v:= ?_) rfl (by kernel_rfl) (by kernel_rfl) (by kernel_rfl) (fun _ _ _ h=>h) (Or.inl ⟨by rfl,?_⟩) (by assumption) ?_
    rotate_left
    . (intro w hSw;(try dsimp only at hSw);go_simp;(try with_reducible rfl))
    refine wpAnyH_take (i:=5) (v:= ?_) rfl (by kernel_rfl) (by kernel_rfl) (by kernel_rfl) (fun _ _ _ h=>h) (Or.inl ⟨by rfl,?_⟩) (by assumption) ?_
    rotate_left
    . (intro w hSw;(try dsimp only at hSw);go_simp;(try with_reducible rfl))
    refine wpAnyH_ready (rs:=[6]) (by kernel_rfl) (by simp) ?_
    refine AllReadyH.cons rfl (fun KC hKC=> ?_) AllReadyH.nil
    go_simp
    refine(listT_any S V sh wr.drew HR5.out.st (by omega)).mono ?_
    rintro e u3 ⟨a3,c3,rfl,hrow3,b3⟩
    have H3:Hid (ThS w u3 ⟨.slice r1 p.regions.length r3,.slice k1 p.consts.length k3,.slice f1 p.funcs.length f3,.slice t1 p.certs.length t3⟩ ⟨.slice g1 f.params.length g3,.slice g4 f.locals.length g6,.slice (some ⟨gi,oi,none⟩) f.code.length g9⟩ f (.slice ba bs.length bc) TB QB GS f.code.length B N RS ⟨s.c,R,D⟩ S V sh XB ma me (.slice xa m.next.length xc)):=HR5.out.keep b3
    have HR3:Hid (RowT u3 B (.slice a3 sh.length c3) sh/\(∀(i:Nat) (W:Value),RS[i]?=some W->∀g,(Value.slice a3 sh.length c3).ownBlock=some g->W.ownBlock≠some g)/\∀g,(Value.slice a3 sh.length c3).ownBlock=some g->¬RStk S V g):=by
      refine⟨own_base hrow3 HR5.out.ty.sz,fun i W e g hg e2=> ?_,fun g hg e2=> ?_⟩
      . have h1:=(hrow3.lt g hg).1
        have h2:=((HR5.out.ty.rs i W e).lt g e2).2
        omega
      . have h1:=(hrow3.lt g hg).1
        have h2:=(RStk.ge HR5.out.st e2).2
        omega
    clear hrow3 b3
    go_simp
    refine hKC.out _ _ (by have:=H3.out.ty.tb.cell 10;exact this) (fun hHeld=> ?_)
    clear hKC KC
    refine wpAnyH_take (i:=7) (v:= ?_) rfl (by kernel_rfl) (by kernel_rfl) (by kernel_rfl) (fun _ _ _ h=>h) (Or.inl ⟨by rfl,?_⟩) (by assumption) ?_
    rotate_left
    . (intro w hSw;(try dsimp only at hSw);go_simp;(try with_reducible rfl))
    refine wpAnyH_ready (rs:=[8]) (by kernel_rfl) (by simp) ?_
    refine AllReadyH.cons rfl (fun KC hKC=> ?_) AllReadyH.nil
    have c19:=H3.out.ty.sa.cellAt d (by omega)
    have z19:=H3.out.ty.sa.frozenAt d
    obtain⟨V1,hV1⟩:∃V,RS[d]?=some V:=⟨_,List.getElem?_eq_getElem (by rw[H3.out.ty.sl];omega)⟩
    rw[hV1]at c19
    have H4:Hid (ThS w (u3.setCell ⟨GS,d,none⟩ (.slice a3 sh.length c3)) ⟨.slice r1 p.regions.length r3,.slice k1 p.consts.length k3,.slice f1 p.funcs.length f3,.slice t1 p.certs.length t3⟩ ⟨.slice g1 f.params.length g3,.slice g4 f.locals.length g6,.slice (some ⟨gi,oi,none⟩) f.code.length g9⟩ f (.slice ba bs.length bc) TB QB GS f.code.length B N (RS.set d (.slice a3 sh.length c3)) ⟨s.c,updT R d sh,D⟩ S V sh XB ma me (.slice xa m.next.length xc)):=H3.out.setS HR3.out.1 HR3.out.2.1 HR3.out.2.2
    go_simp
    refine hKC.out _ _ (by have:=H4.out.ty.tb.cell 10;exact this) (fun hHeld=> ?_)
    clear hKC KC
    refine wpAnyH_done (by kernel_rfl) ?_ _
    clear hHeld bo c19 z19 hV1 HR3 H3 HR5
    go_upto_region 6 with fail
    refine wp_world (fun u'=>Hid (ThS w u' ⟨.slice r1 p.regions.length r3,.slice k1 p.consts.length k3,.slice f1 p.funcs.length f3,.slice t1 p.certs.length t3⟩ ⟨.slice g1 f.params.length g3,.slice g4 f.locals.length g6,.slice (some ⟨gi,oi,none⟩) f.code.length g9⟩ f (.slice ba bs.length bc) TB QB GS f.code.length B N (RS.set d (.slice a3 sh.length c3)) ⟨s.c,updT R d sh,D⟩ S V sh XB ma me (.slice xa m.next.length xc))) H4 ?_
    clear H4
    rintro U5 F5
    generalize RS.set d (.slice a3 sh.length c3)=RS' at F5
    have HR6:Hid (ThS w U5.drew ⟨.slice r1 p.regions.length r3,.slice k1 p.consts.length k3,.slice f1 p.funcs.length f3,.slice t1 p.certs.length t3⟩ ⟨.slice g1 f.params.length g3,.slice g4 f.locals.length g6,.slice (some ⟨gi,oi,none⟩) f.code.length g9⟩ f (.slice ba bs.length bc) TB QB GS f.code.length B N RS' ⟨s.c,updT R d sh,D⟩ S V sh XB ma me (.slice xa m.next.length xc)):=F5.out.keep (below_drew1 _)
    clear F5
    have HIN:Hid (∀u',Below w.heap.size w u'->u'.cell? ⟨gi,oi+d*4,none⟩=some (.int .i64 y.op)/\u'.cell? ⟨gi,oi+d*4+1,none⟩=some (.int .i64 y.a)/\u'.cell? ⟨gi,oi+d*4+2,none⟩=some (.int .i64 y.b)/\u'.cell? ⟨gi,oi+d*4+3,none⟩=some (.int .i64 y.c)):=fun u' hu=>by
      obtain⟨gi',oi',ci',ei',j0,j1,j2,j3⟩:=in_at H.out.1.rf.2.2 HY.out
      simp only[Value.slice.injEq,Option.some.injEq,Addr.mk.injEq,true_and,and_true]at ei'
      obtain⟨⟨rfl,rfl⟩,_⟩:=ei'
      exact⟨bcell_lt hu j0,bcell_lt hu j1,bcell_lt hu j2,bcell_lt hu j3⟩
    have KS:∀{w':World} {D':WI} {RS'':List Value},TyI w w' ⟨.slice r1 p.regions.length r3,.slice k1 p.consts.length k3,.slice f1 p.funcs.length f3,.slice t1 p.certs.length t3⟩ ⟨.slice g1 f.params.length g3,.slice g4 f.locals.length g6,.slice (some ⟨gi,oi,none⟩) f.code.length g9⟩ f (.slice ba bs.length bc) TB QB GS f.code.length B N RS'' D'->w'.cell? ⟨TB,0,none⟩=some (.slice r1 p.regions.length r3)/\w'.cell? ⟨TB,1,none⟩=some (.slice k1 p.consts.length k3)/\w'.cell? ⟨TB,2,none⟩=some (.slice f1 p.funcs.length f3)/\w'.cell? ⟨TB,3,none⟩=some (.slice t1 p.certs.length t3)/\w'.cell? ⟨TB,4,none⟩=some (.slice g1 f.params.length g3)/\w'.cell? ⟨TB,5,none⟩=some (.int .i64 f.result)/\w'.cell? ⟨TB,6,none⟩=some (.slice g4 f.locals.length g6)/\w'.cell? ⟨TB,7,none⟩=some (.slice (some ⟨gi,oi,none⟩) f.code.length g9)/\w'.cell? ⟨gi,oi+d*4,none⟩=some (.int .i64 y.op)/\w'.cell? ⟨gi,oi+d*4+1,none⟩=some (.int .i64 y.a)/\w'.cell? ⟨gi,oi+d*4+2,none⟩=some (.int .i64 y.b)/\w'.cell? ⟨gi,oi+d*4+3,none⟩=some (.int .i64 y.c):=fun hty=>by
      obtain⟨j0,j1,j2,j3⟩:=HIN.out _ hty.bel
      obtain⟨q0,q1,q2,q3,q4,q5,q6,q7,_⟩:=cel12 hty.tb
      exact⟨q0,q1,q2,q3,q4,q5,q6,q7,j0,j1,j2,j3⟩
    refine wp_region_held_drew (S:=fun w'=>w'.cell? ⟨TB,0,none⟩=some (.slice r1 p.regions.length r3)/\w'.cell? ⟨TB,1,none⟩=some (.slice k1 p.consts.length k3)/\w'.cell? ⟨TB,2,none⟩=some (.slice f1 p.funcs.length f3)/\w'.cell? ⟨TB,3,none⟩=some (.slice t1 p.certs.length t3)/\w'.cell? ⟨TB,4,none⟩=some (.slice g1 f.params.length g3)/\w'.cell? ⟨TB,5,none⟩=some (.int .i64 f.result)/\w'.cell? ⟨TB,6,none⟩=some (.slice g4 f.locals.length g6)/\w'.cell? ⟨TB,7,none⟩=some (.slice (some ⟨gi,oi,none⟩) f.code.length g9)/\w'.cell? ⟨gi,oi+d*4,none⟩=some (.int .i64 y.op)/\w'.cell? ⟨gi,oi+d*4+1,none⟩=some (.int .i64 y.a)/\w'.cell? ⟨gi,oi+d*4+2,none⟩=some (.int .i64 y.b)/\w'.cell? ⟨gi,oi+d*4+3,none⟩=some (.int .i64 y.c)) (by kernel_rfl) (KS HR6.out.ty) (fun hHeld=> ?_)
    refine wpAnyH_take (i:=0) (v:= ?_) rfl (by kernel_rfl) (by kernel_rfl) (by kernel_rfl) (fun _ _ _ h=>h) (Or.inl ⟨by rfl,?_⟩) (by assumption) ?_
    rotate_left
    . (intro w hSw;(try dsimp only at hSw);go_simp;(try with_reducible rfl))
    refine wpAnyH_take (i:=1) (v:= ?_) rfl (by kernel_rfl) (by kernel_rfl) (by kernel_rfl) (fun _ _ _ h=>h) (Or.inl ⟨by rfl,?_⟩) (by assumption) ?_
    rotate_left
    . (intro w hSw;(try dsimp only at hSw);go_simp;(try with_reducible rfl))
    refine wpAnyH_take (i:=2) (v:= ?_) rfl (by kernel_rfl) (by kernel_rfl) (by kernel_rfl) (fun _ _ _ h=>h) (Or.inl ⟨by rfl,?_⟩) (by assumption) ?_
    rotate_left
    . (intro w hSw;(try dsimp only at hSw);go_simp;(try with_reducible rfl))
    refine wpAnyH_take (i:=3) (v:= ?_) rfl (by kernel_rfl) (by kernel_rfl) (by kernel_rfl) (fun _ _ _ h=>h) (Or.inl ⟨by rfl,?_⟩) (by assumption) ?_
    rotate_left
    . (intro w hSw;(try dsimp only at hSw);go_simp;(try with_reducible rfl))
    refine wpAnyH_take (i:=4) (v:= ?_) rfl (by kernel_rfl) (by kernel_rfl) (by kernel_rfl) (fun _ _ _ h=>h) (Or.inl ⟨by rfl,?_⟩) (by assumption) ?_
    rotate_left
    . (intro w hSw;(try dsimp only at hSw);go_simp;(try with_reducible rfl))
    refine wpAnyH_take (i:=5) (v:= ?_) rfl (by kernel_rfl) (by kernel_rfl) (by kernel_rfl) (fun _ _ _ h=>h) (Or.inl ⟨by rfl,?_⟩) (by assumption) ?_
    rotate_left
    . (intro w hSw;(try dsimp only at hSw);go_simp;(try with_reducible rfl))
    refine wpAnyH_take (i:=6) (v:= ?_) rfl (by kernel_rfl) (by kernel_rfl) (by kernel_rfl) (fun _ _ _ h=>h) (Or.inl ⟨by rfl,?_⟩) (by assumption) ?_
    rotate_left
    . (intro w hSw;(try dsimp only at hSw);go_simp;(try with_reducible rfl))
    refine wpAnyH_take (i:=7) (v:= ?_) rfl (by kernel_rfl) (by kernel_rfl) (by kernel_rfl) (fun _ _ _ h=>h) (Or.inl ⟨by rfl,?_⟩) (by assumption) ?_
    rotate_left
    . (intro w hSw;(try dsimp only at hSw);go_simp;(try with_reducible rfl))
    refine wpAnyH_take (i:=8) (v:= ?_) rfl (by kernel_rfl) (by kernel_rfl) (by kernel_rfl) (fun _ _ _ h=>h) (Or.inl ⟨by rfl,?_⟩) (by assumption) ?_
    rotate_left
    . (intro w hSw;(try dsimp only at hSw);go_simp;(try with_reducible rfl))
    refine wpAnyH_take (i:=9) (v:= ?_) rfl (by kernel_rfl) (by kernel_rfl) (by kernel_rfl) (fun _ _ _ h=>h) (Or.inl ⟨by rfl,?_⟩) (by assumption) ?_
    rotate_left
    . (intro w hSw;(try dsimp only at hSw);go_simp;(try with_reducible rfl))
    refine wpAnyH_take (i:=10) (v:= ?_) rfl (by kernel_rfl) (by kernel_rfl) (by kernel_rfl) (fun _ _ _ h=>h) (Or.inl ⟨by rfl,?_⟩) (by assumption) ?_
    rotate_left
    . (intro w hSw;(try dsimp only at hSw);go_simp;(try with_reducible rfl))
    refine wpAnyH_take (i:=11) (v:= ?_) rfl (by kernel_rfl) (by kernel_rfl) (by kernel_rfl) (fun _ _ _ h=>h) (Or.inl ⟨by rfl,?_⟩) (by assumption) ?_
    rotate_left
    . (intro w hSw;(try dsimp only at hSw);go_simp;(try with_reducible rfl))
    refine wpAnyH_take (i:=12) (v:= ?_) rfl (by kernel_rfl) (by kernel_rfl) (by kernel_rfl) (fun _ _ _ h=>h) (Or.inl ⟨by rfl,?_⟩) (by assumption) ?_
    rotate_left
    . (intro w hSw;(try dsimp only at hSw);go_simp;(try with_reducible rfl))
    refine wpAnyH_take (i:=13) (v:= ?_) rfl (by kernel_rfl) (by kernel_rfl) (by kernel_rfl) (fun _ _ _ h=>h) (Or.inl ⟨by rfl,?_⟩) (by assumption) ?_
    rotate_left
    . (intro w hSw;(try dsimp only at hSw);go_simp;(try with_reducible rfl))
    refine wpAnyH_ready (rs:=[14]) (by kernel_rfl) (by simp) ?_
    refine AllReadyH.cons rfl (fun KC hKC=> ?_) AllReadyH.nil
    go_simp
    refine(change_any ⟨.slice r1 p.regions.length r3,.slice k1 p.consts.length k3,.slice f1 p.funcs.length f3,.slice t1 p.certs.length t3⟩ p ⟨.slice g1 f.params.length g3,.slice g4 f.locals.length g6,.slice (some ⟨gi,oi,none⟩) f.code.length g9⟩ f y S V sh w U5.drew H.out.1.ps H.out.1.pf H.out.1.fs H.out.1.rp H.out.1.rf (H.out.1.ok y (List.mem_of_getElem? HY.out)) (by have:=HR6.out.lo;have:=HR6.out.ty.lo;have:=HR6.out.ty.ne;omega) HR6.out.ty.bel HR6.out.st (by omega)).mono ?_
    rintro e u6 ⟨rfl,hch,hv6⟩
    have F6:Hid (ThC w u6 ⟨.slice r1 p.regions.length r3,.slice k1 p.consts.length k3,.slice f1 p.funcs.length f3,.slice t1 p.certs.length t3⟩ ⟨.slice g1 f.params.length g3,.slice g4 f.locals.length g6,.slice (some ⟨gi,oi,none⟩) f.code.length g9⟩ f (.slice ba bs.length bc) TB QB GS f.code.length B N RS' ⟨s.c,updT R d sh,D⟩ S XB ma me (.slice xa m.next.length xc)):=HR6.out.chg hch
    have HV6:Hid (codeI p f y sh=0->∃V',Stk u6 S V' (outI p f y sh)/\ApR RS' (RStk S V')):=fun e=>by
      obtain⟨V',h1,h2⟩:=hv6 e
      exact⟨V',h1,HR6.out.apC h2⟩
    clear hch hv6
    go_simp
    refine hKC.out _ _ (KS F6.out.ty) (fun hHeld=> ?_)
    clear hKC KC
    refine wpAnyH_take (i:=15) (v:= ?_) rfl (by kernel_rfl) (by kernel_rfl) (by kernel_rfl) (fun _ _ _ h=>h) (Or.inl ⟨by rfl,?_⟩) (by assumption) ?_
    rotate_left
    . (intro w hSw;(try dsimp only at hSw);go_simp;(try with_reducible rfl))
    refine wpAnyH_done (by kernel_rfl) ?_ _
    clear hHeld HR6 KS HIN
    have hRS:runK p f (me+1-d) d sh R D=R0:=HK.out
    rw[runK_step HY.out hle]at hRS
    have HO64:Hid (codeI p f y sh=0->(outI p f y sh).length<=64):=codeI_small
    generalize codeI p f y sh=cc at HV6 hRS HO64⊢
    generalize outI p f y sh=oo at HV6 hRS HO64⊢
    by_cases hcz:cc=0
    case neg=>
      have hcz':(cc != 0)=true:=by simpa using hcz
      have HEND:Hid (RUN=.inl (cc,d)):=by
        rw[<-HRUN.out,runBI_eq HM.out.1 HM.out.2,HR0.out,<-hRS,if_neg hcz]<;>rfl
      clear hRS HV6 HO64
      obtain⟨q0,q1,q2,q3⟩:=cel4 F6.out.rb
      obtain⟨fz0,fz1,fz2,fz3⟩:=frz4 F6.out.rb
      go_wp2_with fail
      have G:Hid _:=(((F6.out.rb.set 0 (.int .i64 (cc))).set 1 (.int .i64 ((d:Int)))).set 2 (.int .i64 0)).set 3 (.slice none 0 0)
      simp only[List.setIfInBounds_toArray,List.set_cons_zero,List.set_cons_succ]at G
      clear q0 q1 q2 q3
      obtain⟨q0,q1,q2,q3⟩:=cel4 G.out
      refine bodyPost_ret (v:=.agg #[.int .i64 (cc),.int .i64 ((d:Int)),.int .i64 0,.slice none 0 0]) (by simp[results,Tryz.results80,go_sem,q0,q1,q2,q3]) rfl ?_
      have hbl0:=F6.out.ty.bel
      have l1:=F6.out.lo
      have l2:=F6.out.ty.ne
      have l3:=F6.out.ty.lo
      rw[HEND.out]
      exact⟨rfl,hcz,((((hbl0.setCell (by simp only[];omega) _).setCell (by simp only[];omega) _).setCell (by simp only[];omega) _).setCell (by simp only[];omega) _)⟩
    case pos=>
      subst hcz
      rw[if_pos rfl]at hRS
      have HRS:Hid _:=hRS
      obtain⟨V6,hst6,hap6⟩:=HV6.out rfl
      have HST:Hid (Stk u6 S V6 oo/\ApR RS' (RStk S V6)):=⟨hst6,hap6⟩
      have ho64:oo.length<=64:=HO64.out rfl
      have hD64:D<=64:=F6.out.ty.dl
      clear hRS hst6 hap6 HV6 HO64
      have c11:=(F6.out.ty.keep (below_drew1 _)).tb.cell 11
      simp only[List.getElem?_toArray,List.getElem?_cons_zero,List.getElem?_cons_succ]at c11
      have z11:=(F6.out.ty.keep (below_drew1 _)).tb.frozen 11
      have F9:Hid (ThS w (u6.setCell ⟨TB,11,none⟩ (.int .i64 (max (D:Int) (oo.length:Int)))).drew ⟨.slice r1 p.regions.length r3,.slice k1 p.consts.length k3,.slice f1 p.funcs.length f3,.slice t1 p.certs.length t3⟩ ⟨.slice g1 f.params.length g3,.slice g4 f.locals.length g6,.slice (some ⟨gi,oi,none⟩) f.code.length g9⟩ f (.slice ba bs.length bc) TB QB GS f.code.length B N RS' ⟨s.c,updT R d sh,max D oo.length⟩ S V6 oo XB ma me (.slice xa m.next.length xc)):=by
        have hmx:max (D:Int) (oo.length:Int)=((max D oo.length:Nat):Int):=by omega
        rw[hmx]
        exact(F6.out.setD HST.out.1 HST.out.2 (by omega) (by omega)).keep (below_drew1 _)
      go_upto_region 9 with fail
      go_region_with (go_at_call 121;refine(height_any S V6 oo u6.drew (HST.out.1.keep (below_drew1 _))).mono ?_;rintro e u7 ⟨rfl,rfl⟩)
      all_goals
        go_wp2_with fail
        go_roundw
        case rel=>exact⟨d+1,RS',oo,updT R d sh,max D oo.length,V6,by omega,by omega,by go_num,HRS,F9⟩
        case measure=>simp[intOf];omega
  case neg=>
    have hdm:d=me+1:=by omega
    have hleI:¬(d:Int)<=(me:Int):=by omega
    have HAT:Hid (AtI bs me ((m.next.map Int.toNat).drop 0) sh s.c R D RUN):=by
      have e:=HK.out
      rw[runK_end hdm]at e
      show AtI bs me ((m.next.map Int.toNat).drop 0) sh s.c R D RUN
      unfold AtI
      rw[List.drop_zero,<-HRUN.out,runBI_eq HM.out.1 HM.out.2,HR0.out,<-e]<;>rfl
    clear HK HR0
    go_wp2_with fail
    clear x0 x1 x2
    go_loopw [68] (fun q wr=>∃(i:Nat) (RS:List Value) (C:Nat->Bool) (R:Nat->List Int),i<=m.next.length/\q=.int .i64 i/\Hid (AtI bs me ((m.next.map Int.toNat).drop i) sh C R D RUN)/\Hid (ThS w wr ⟨.slice r1 p.regions.length r3,.slice k1 p.consts.length k3,.slice f1 p.funcs.length f3,.slice t1 p.certs.length t3⟩ ⟨.slice g1 f.params.length g3,.slice g4 f.locals.length g6,.slice (some ⟨gi,oi,none⟩) f.code.length g9⟩ f (.slice ba bs.length bc) TB QB GS f.code.length B (N+i) RS ⟨C,R,D⟩ S V sh XB ma me (.slice xa m.next.length xc))) (fun q _=>m.next.length-(intOf q).toNat)
    case atStart=>exact⟨0,RS,s.c,R,by omega,rfl,HAT,F⟩
    case round=>
    clear F HAT
    clear R RS
    obtain⟨i,RS,C,R,hi,rfl,HA,F⟩:=hrel
    by_cases hil:i<m.next.length
    case pos=>
      obtain⟨z,hz⟩:∃z,m.next[i]?=some z:=⟨_,List.getElem?_eq_getElem hil⟩
      obtain⟨t,ezt,htl⟩:=H.out.2.2.2.1 z (List.mem_of_getElem? hz)
      subst ezt
      rcases H.out.2.2.1.2 with⟨q0,_⟩|⟨gn,on,cn,q1,hcn⟩
      . omega
      simp only[Value.slice.injEq,true_and]at q1
      obtain⟨hxa,hxc⟩:=q1
      subst hxa
      clear hxc
      have n0:=Rd.elem intCell_length hcn i _ hz 0 _ rfl
      rw[Nat.mul_one,Nat.add_zero,<-F.out.ty.bel.cell (block_lt_of_cell n0)]at n0
      obtain⟨m1,hm1⟩:∃m,bs[t]?=some m:=⟨_,List.getElem?_eq_getElem htl⟩
      obtain⟨ta,te,et1,et2,et3,et4⟩:=H.out.2.2.2.2.part t m1 hm1
      have HN:Hid ((m.next.map Int.toNat).drop i=t::(m.next.map Int.toNat).drop (i+1)/\bs[t]?=some m1/\m1.first=(ta:Int)/\fstB bs t=ta):=⟨drop_at (by rw[List.getElem?_map,hz];simp),hm1,et1,fstB_of hm1 et1⟩
      clear hcn hz hm1 et1 et2
      have hiI:(i:Int)<(m.next.length:Int):=by omega
      have hsh':sh.length<=64:=Nat.le_trans F.out.sl F.out.ty.dl
      go_wp2_with fail
      refine(comesTo_any w wr ⟨.slice r1 p.regions.length r3,.slice k1 p.consts.length k3,.slice f1 p.funcs.length f3,.slice t1 p.certs.length t3⟩ ⟨.slice g1 f.params.length g3,.slice g4 f.locals.length g6,.slice (some ⟨gi,oi,none⟩) f.code.length g9⟩ f (.slice ba bs.length bc) TB QB GS f.code.length B (N+i) RS ⟨C,R,D⟩ bs S V sh t ta m1 F.out.ty H.out.2.1 HN.out.2.1 HN.out.2.2.1 (by omega) hcl hbl (by omega) F.out.st (by have:=F.out.lo;omega) F.out.ap hsh').mono ?_
      rintro e u13 (⟨hct,bb,rfl,hbb,b13⟩|⟨hct,rfl,V',hty,hst,hap,hch⟩)
      . have F13:Hid (ThS w u13 ⟨.slice r1 p.regions.length r3,.slice k1 p.consts.length k3,.slice f1 p.funcs.length f3,.slice t1 p.certs.length t3⟩ ⟨.slice g1 f.params.length g3,.slice g4 f.locals.length g6,.slice (some ⟨gi,oi,none⟩) f.code.length g9⟩ f (.slice ba bs.length bc) TB QB GS f.code.length B (N+i) RS ⟨C,R,D⟩ S V sh XB ma me (.slice (some ⟨gn,on,none⟩) m.next.length xc)):=F.out.keep b13
        have HBB:Hid ((bb=true↔sh=R ta)/\C t=true):=⟨hbb,hct⟩
        clear hbb hct b13 F n0
        cases bb
        case false=>
          have HEND:Hid (RUN=.inl (4,me)):=AtI.bad (by rw[<-HN.out.1];exact HA.out) HBB.out.2 (fun e=>by rw[HN.out.2.2.2]at e;have:=HBB.out.1.2 e.symm;cases this)
          obtain⟨x0,x1,x2⟩:=blk3 F13.out.xb
          obtain⟨q0,q1,q2,q3⟩:=cel4 F13.out.rb
          obtain⟨fz0,fz1,fz2,fz3⟩:=frz4 F13.out.rb
          go_wp2_with fail
          have G:Hid _:=(((F13.out.rb.set 0 (.int .i64 (4))).set 1 (.int .i64 ((me:Int)))).set 2 (.int .i64 0)).set 3 (.slice none 0 0)
          simp only[List.setIfInBounds_toArray,List.set_cons_zero,List.set_cons_succ]at G
          clear q0 q1 q2 q3
          obtain⟨q0,q1,q2,q3⟩:=cel4 G.out
          refine bodyPost_ret (v:=.agg #[.int .i64 (4),.int .i64 ((me:Int)),.int .i64 0,.slice none 0 0]) (by simp[results,Tryz.results80,go_sem,q0,q1,q2,q3]) rfl ?_
          have hbl0:=F13.out.ty.bel
          have l1:=F13.out.lo
          have l2:=F13.out.ty.ne
          have l3:=F13.out.ty.lo
          rw[HEND.out]
          exact⟨rfl,by decide,((((hbl0.setCell (by simp only[];omega) _).setCell (by simp only[];omega) _).setCell (by simp only[];omega) _).setCell (by simp only[];omega) _)⟩
        case true=>
          have HAN:Hid (AtI bs me ((m.next.map Int.toNat).drop (i+1)) sh C R D RUN):=AtI.same (by rw[<-HN.out.1];exact HA.out) HBB.out.2 (by rw[HN.out.2.2.2];exact(HBB.out.1.1 rfl).symm)
          have F14:Hid (ThS w u13 ⟨.slice r1 p.regions.length r3,.slice k1 p.consts.length k3,.slice f1 p.funcs.length f3,.slice t1 p.certs.length t3⟩ ⟨.slice g1 f.params.length g3,.slice g4 f.locals.length g6,.slice (some ⟨gi,oi,none⟩) f.code.length g9⟩ f (.slice ba bs.length bc) TB QB GS f.code.length B (N+(i+1)) RS ⟨C,R,D⟩ S V sh XB ma me (.slice (some ⟨gn,on,none⟩) m.next.length xc)):=F13.out.more (by omega)
          go_wp2_with fail
          go_roundw
          case rel=>exact⟨i+1,RS,C,R,by omega,by go_num,HAN,F14⟩
          case measure=>simp[intOf];omega
      . have F14:Hid (ThS w u13 ⟨.slice r1 p.regions.length r3,.slice k1 p.consts.length k3,.slice f1 p.funcs.length f3,.slice t1 p.certs.length t3⟩ ⟨.slice g1 f.params.length g3,.slice g4 f.locals.length g6,.slice (some ⟨gi,oi,none⟩) f.code.length g9⟩ f (.slice ba bs.length bc) TB QB GS f.code.length B (N+(i+1)) (RS.set ta V') ⟨updI C t,updT R ta sh,D⟩ S V sh XB ma me (.slice (some ⟨gn,on,none⟩) m.next.length xc)):=by
          have l1:=F.out.lo
          have l2:=F.out.ty.ne
          exact⟨hty,hst,hap,hch.blk F.out.xb (by omega),hch.blk F.out.rb (by omega),F.out.lo,F.out.sl⟩
        have HAN:Hid (AtI bs me ((m.next.map Int.toNat).drop (i+1)) sh (updI C t) (updT R ta sh) D RUN):=by
          have:=AtI.new (by rw[<-HN.out.1];exact HA.out) hct
          rw[HN.out.2.2.2]at this
          exact this
        clear hty hst hap hch F n0 hct
        go_wp2_with fail
        go_roundw
        case rel=>exact⟨i+1,_,_,_,by omega,by go_num,HAN,F14⟩
        case measure=>simp[intOf];omega
    case neg=>
      have hie:i=m.next.length:=by omega
      have HEND:Hid (RUN=.inr ⟨C,R,D⟩):=by
        have:=HA.out
        have hdn:(m.next.map Int.toNat).drop i=[]:=List.drop_eq_nil_of_le (by rw[List.length_map];omega)
        rw[hdn]at this
        exact this.symm
      have hiI:¬(i:Int)<(m.next.length:Int):=by omega
      obtain⟨q0,q1,q2,q3⟩:=cel4 F.out.rb
      obtain⟨fz0,fz1,fz2,fz3⟩:=frz4 F.out.rb
      go_wp2_with fail
      have G:Hid _:=(((F.out.rb.set 0 (.int .i64 (0))).set 1 (.int .i64 (0))).set 2 (.int .i64 0)).set 3 (.slice none 0 0)
      simp only[List.setIfInBounds_toArray,List.set_cons_zero,List.set_cons_succ]at G
      clear q0 q1 q2 q3
      obtain⟨q0,q1,q2,q3⟩:=cel4 G.out
      refine bodyPost_ret (v:=.agg #[.int .i64 (0),.int .i64 (0),.int .i64 0,.slice none 0 0]) (by simp[results,Tryz.results80,go_sem,q0,q1,q2,q3]) rfl ?_
      have l1:=F.out.lo
      have l2:=F.out.ty.ne
      have l3:=F.out.ty.lo
      have hCG:=((((Chg.refl (fun k=>k=XB+1) wr).setCell (ad:=⟨XB+1,0,none⟩) (.inl rfl) (.int .i64 0)).setCell (ad:=⟨XB+1,1,none⟩) (.inl rfl) (.int .i64 0)).setCell (ad:=⟨XB+1,2,none⟩) (.inl rfl) (.int .i64 0)).setCell (ad:=⟨XB+1,3,none⟩) (.inl rfl) (.slice none 0 0)
      have hTY:=F.out.ty.chg hCG (fun k (e:k=XB+1)=>by omega) F.out.apX
      rw[HEND.out]
      exact⟨rfl,RS,N+i,by omega,hTY⟩
end Go.Proofs.YtdfmdgbolmbffaaGreat
