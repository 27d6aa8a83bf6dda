import Derived.Test.YtdfmdgbolmbffaaGreatTy50
import Derived.Test.YtdfmdgbolmbffaaGreatTy49
namespace Go.Proofs.YtdfmdgbolmbffaaGreat
open Go.ChangeShapes Go.WideShapes Go.ChangeAt Go.RowKit
set_option linter.unusedVariables false
theorem step_make{P:Program}(w:World){ops:Array Oper}{o:Oper}{a:Act}{K:Act->World->Prop}{Q:Exit->Act->World->Prop}{E:Prop}(hgd:o.guard=none)(l c:Operand)(t:TypeId)(hop:o.op=Op.makeSlice t l c)
    (base:Nat) (e:TypeId) (i:TypeInfo) (z:Value) (size:Nat) (h1:P.underlying t=some (.slice e)) (h2:P.info? e=some i) (h3:i.zero=some z) (h4:i.size=size)
    (kl kc:IntKind) (n:Nat) (hl:a.eval l=.int kl (n:Int)) (hc:a.eval c=.int kc (n:Int)) (b2:i.bytes*n<=281474976710656) (b3:n<=maxLen) (b4:base<=w.heap.size)
    (hK:∀w',w'.ownsRow base e size (.slice (some ⟨w.heap.size,0,none⟩) n n) n (madeCells z.cells (n*size)).toList->w.grownBy w' none->K (a.put o.dst (.slice (some ⟨w.heap.size,0,none⟩) n n)) w'):
    if Region.wanted o (yielded ops a.tmps)=true then Oper.wp P o a w K Q else E:=by
  have hw:Region.wanted o (yielded ops a.tmps)=true:=by simp[Region.wanted,hgd]
  rw[if_pos hw]
  obtain⟨w',hrun,r1,r2⟩:=run_make_full (P:=P) w base t e i z size h1 h2 h3 h4 kl kc n b2 b3 b4
  unfold Oper.wp
  simp[execOp,hop,hl,hc,hrun,Result.andThen]
  exact hK w' r1 r2
structure NT(w u:World)(QB GS n:Nat):Prop where
  mp:SetAt u QB 0 (.map [])
  sa:u.ownsRow w.heap.size 48 1 (.slice (some ⟨GS,0,none⟩) n n) n (List.replicate n (.slice none 0 0))
  bel:Below w.heap.size w u
  q1:w.heap.size<=QB
  q2:QB<u.heap.size
  g1:w.heap.size<=GS
  g2:GS<u.heap.size
  ne:QB≠GS
theorem NT.keep{w u u':World}{QB GS n:Nat}(h:NT w u QB GS n)(hb:Below u.heap.size u u'):NT w u' QB GS n:=⟨h.mp.keep hb,own_keep h.sa hb (Nat.le_refl _),below_on h.bel (Nat.le_refl _) hb,h.q1,Nat.lt_of_lt_of_le h.q2 hb.size,h.g1,Nat.lt_of_lt_of_le h.g2 hb.size,h.ne⟩
theorem NT.ty{w u:World}{QB GS n:Nat}(h:NT w u QB GS n){v:VP}{g:VF}{f:MF}{bv:Value}{TB:Nat}(hb:Blk u TB #[v.r,v.k,v.f,v.t,g.p,.int .i64 f.result,g.l,g.c,bv,.map (some QB),.slice (some ⟨GS,0,none⟩) n n,.int .i64 0] 144)(hs:u.heap.size=TB+1)(hq:QB<TB)(hg:GS<TB)(hw:w.heap.size<=TB):TyI w u v g f bv TB QB GS n (TB+1) 0 (List.replicate n (.slice none 0 0)) ⟨fun _=>false,fun _=>[],0⟩:=by
  have hall:∀(j:Nat) (V:Value),(List.replicate n (Value.slice none 0 0))[j]?=some V->V=.slice none 0 0:=fun j V e=>List.eq_of_mem_replicate (List.mem_of_getElem? e)
  refine⟨hb,⟨0,_,h.mp,Nat.le_refl _,fun b=>rfl⟩,h.sa,by simp,fun j V e=> ?_,h.bel,⟨hw,h.q1,h.g1⟩,⟨by omega,by omega,h.ne,by omega,by omega,by omega⟩,by omega,by simp,fun j=>by simp,fun i j V W hij hV hW g hg=> ?_⟩
  . rw[hall j V e]
    exact RowT.nil _ _
  . rw[hall i V hV]at hg
    cases hg
set_option maxHeartbeats 8000000 in
set_option maxRecDepth 100000 in
theorem newTyping_any(w:World)(v:VP)(p:MP)(g:VF)(f:MF)(bv:Value)(hP:RdP w v p)(hF:RdF w g f)(hbv:∃a n c,bv=.slice a n c)(hcl:f.code.length<=1024):
    Calls Tryz.prog 79 #[.agg #[v.r,v.k,v.f,v.t,g.p,.int .i64 f.result,g.l,g.c],bv] w fun e u=>∃TB QB GS B RS,e=.returned (.pointer (some ⟨TB,0,none⟩))/\TyI w u v g f bv TB QB GS f.code.length B 1 RS wi0:=by
  obtain⟨r1,r3,k1,k3,t1,t3,f1,f3,rfl⟩:=hP.sl
  obtain⟨g1,g3,g4,g6,g7,g9,rfl⟩:=rdF_sl hF
  obtain⟨l0,hl,hl0,hl1,hl2⟩:=info_parts infoSI
  obtain⟨ba,bn,bc,rfl⟩:=hbv
  have hmm:= @run_makeMap Tryz.prog
  clear hP hF
  go_enter Tryz.func79,Tryz.ntmps79
  go_upto_region 1 with fail
  refine wp_world (fun u=>Hid (Blk u w.heap.size #[.slice r1 p.regions.length r3,.slice k1 p.consts.length k3,.slice f1 p.funcs.length f3,.slice t1 p.certs.length t3,.slice g1 f.params.length g3,.int .i64 f.result,.slice g4 f.locals.length g6,.slice g7 f.code.length g9] 85/\Below w.heap.size w u)) ⟨Blk.new _ _ _,below_alloc _ _⟩ ?_
  rintro U E1
  have HR:Hid (Blk U.drew w.heap.size #[.slice r1 p.regions.length r3,.slice k1 p.consts.length k3,.slice f1 p.funcs.length f3,.slice t1 p.certs.length t3,.slice g1 f.params.length g3,.int .i64 f.result,.slice g4 f.locals.length g6,.slice g7 f.code.length g9] 85/\Below w.heap.size w U.drew):=⟨E1.out.1.keep (below_drew1 _),below_on E1.out.2 (Nat.le_refl _) (below_drew1 _)⟩
  clear E1
  have b0:U.drew.cell? ⟨w.heap.size,0,none⟩=some (.slice r1 p.regions.length r3)/\U.drew.cell? ⟨w.heap.size,1,none⟩=some (.slice k1 p.consts.length k3)/\U.drew.cell? ⟨w.heap.size,2,none⟩=some (.slice f1 p.funcs.length f3)/\U.drew.cell? ⟨w.heap.size,3,none⟩=some (.slice t1 p.certs.length t3)/\U.drew.cell? ⟨w.heap.size,4,none⟩=some (.slice g1 f.params.length g3)/\U.drew.cell? ⟨w.heap.size,5,none⟩=some (.int .i64 f.result)/\U.drew.cell? ⟨w.heap.size,6,none⟩=some (.slice g4 f.locals.length g6)/\U.drew.cell? ⟨w.heap.size,7,none⟩=some (.slice g7 f.code.length g9):=by
    obtain⟨q0,q1,q2,q3,q4,q5,q6,q7⟩:=cel8 HR.out.1
    exact⟨q0,q1,q2,q3,q4,q5,q6,q7⟩
  refine wp_region_held_drew (S:=fun w'=>w'.cell? ⟨w.heap.size,0,none⟩=some (.slice r1 p.regions.length r3)/\w'.cell? ⟨w.heap.size,1,none⟩=some (.slice k1 p.consts.length k3)/\w'.cell? ⟨w.heap.size,2,none⟩=some (.slice f1 p.funcs.length f3)/\w'.cell? ⟨w.heap.size,3,none⟩=some (.slice t1 p.certs.length t3)/\w'.cell? ⟨w.heap.size,4,none⟩=some (.slice g1 f.params.length g3)/\w'.cell? ⟨w.heap.size,5,none⟩=some (.int .i64 f.result)/\w'.cell? ⟨w.heap.size,6,none⟩=some (.slice g4 f.locals.length g6)/\w'.cell? ⟨w.heap.size,7,none⟩=some (.slice g7 f.code.length g9)) (by kernel_rfl) b0 (fun hHeld=> ?_)
  clear b0
  generalize U.drew=UD at HR hHeld⊢
  refine wpAnyH_take (i:=0) (v:= ?_) rfl (by kernel_rfl) (by kernel_rfl) (by kernel_rfl) (fun _ _ _ h=>h) (Or.inl ⟨by rfl,?_⟩) (by assumption) ?_
  rotate_left
  . (intro w hSw;(try dsimp only at hSw);go_simp;(try with_reducible rfl))
  refine wpAnyH_take (i:=1) (v:= ?_) rfl (by kernel_rfl) (by kernel_rfl) (by kernel_rfl) (fun _ _ _ h=>h) (Or.inl ⟨by rfl,?_⟩) (by assumption) ?_
  rotate_left
  . (intro w hSw;(try dsimp only at hSw);go_simp;(try with_reducible rfl))
  refine wpAnyH_take (i:=3) (v:= ?_) rfl (by kernel_rfl) (by kernel_rfl) (by kernel_rfl) (fun _ _ _ h=>h) (Or.inl ⟨by rfl,?_⟩) (by assumption) ?_
  rotate_left
  . (intro w hSw;(try dsimp only at hSw);go_simp;(try with_reducible rfl))
  refine wpAnyH_take (i:=4) (v:= ?_) rfl (by kernel_rfl) (by kernel_rfl) (by kernel_rfl) (fun _ _ _ h=>h) (Or.inl ⟨by rfl,?_⟩) (by assumption) ?_
  rotate_left
  . (intro w hSw;(try dsimp only at hSw);go_simp;(try with_reducible rfl))
  refine wpAnyH_take (i:=5) (v:= ?_) rfl (by kernel_rfl) (by kernel_rfl) (by kernel_rfl) (fun _ _ _ h=>h) (Or.inl ⟨by rfl,?_⟩) (by assumption) ?_
  rotate_left
  . (intro w hSw;(try dsimp only at hSw);go_simp;(try with_reducible rfl))
  refine wpAnyH_take (i:=6) (v:= ?_) rfl (by kernel_rfl) (by kernel_rfl) (by kernel_rfl) (fun _ _ _ h=>h) (Or.inl ⟨by rfl,?_⟩) (by assumption) ?_
  rotate_left
  . (intro w hSw;(try dsimp only at hSw);go_simp;(try with_reducible rfl))
  go_simp
  refine wpAnyH_ready (rs:=[2,7]) (by kernel_rfl) (by simp) ?_
  refine AllReadyH.cons rfl (fun KC hKC=> ?_) ?_
  . have hA:=below_alloc UD (.map #[] 0)
    have HN1:Hid (SetAt (UD.alloc (.map #[] 0)) UD.heap.size 0 (.map [])/\Blk (UD.alloc (.map #[] 0)) w.heap.size #[.slice r1 p.regions.length r3,.slice k1 p.consts.length k3,.slice f1 p.funcs.length f3,.slice t1 p.certs.length t3,.slice g1 f.params.length g3,.int .i64 f.result,.slice g4 f.locals.length g6,.slice g7 f.code.length g9] 85/\Below w.heap.size w (UD.alloc (.map #[] 0))):=⟨World.ownsMap_made _ _ _ _,HR.out.1.keep hA,below_on HR.out.2 (Nat.le_refl _) hA⟩
    have b1:(UD.alloc (.map #[] 0)).cell? ⟨w.heap.size,0,none⟩=some (.slice r1 p.regions.length r3)/\(UD.alloc (.map #[] 0)).cell? ⟨w.heap.size,1,none⟩=some (.slice k1 p.consts.length k3)/\(UD.alloc (.map #[] 0)).cell? ⟨w.heap.size,2,none⟩=some (.slice f1 p.funcs.length f3)/\(UD.alloc (.map #[] 0)).cell? ⟨w.heap.size,3,none⟩=some (.slice t1 p.certs.length t3)/\(UD.alloc (.map #[] 0)).cell? ⟨w.heap.size,4,none⟩=some (.slice g1 f.params.length g3)/\(UD.alloc (.map #[] 0)).cell? ⟨w.heap.size,5,none⟩=some (.int .i64 f.result)/\(UD.alloc (.map #[] 0)).cell? ⟨w.heap.size,6,none⟩=some (.slice g4 f.locals.length g6)/\(UD.alloc (.map #[] 0)).cell? ⟨w.heap.size,7,none⟩=some (.slice g7 f.code.length g9):=by
      obtain⟨q0,q1,q2,q3,q4,q5,q6,q7⟩:=cel8 HN1.out.2.1
      exact⟨q0,q1,q2,q3,q4,q5,q6,q7⟩
    go_simp
    refine hKC.out _ _ b1 (fun hHeld=> ?_)
    clear hKC KC b1 hA
    refine wpAnyH_ready (rs:=[7]) (by kernel_rfl) (by simp) ?_
    refine AllReadyH.cons rfl (fun KC hKC=> ?_) AllReadyH.nil
    refine step_make _ rfl _ _ 22 rfl w.heap.size 48 l0 (.slice none 0 0) 1 Tryz.underlying22 hl hl0 hl1 .i64 .i64 f.code.length (by simp[Act.eval]) (by simp[Act.eval]) (by rw[hl2];omega) (by unfold maxLen;omega) HN1.out.2.2.size ?_
    intro w2 hown2 hgrow2
    rw[made_nils]at hown2
    have HN2:Hid (NT w w2 UD.heap.size (UD.heap.size+1) f.code.length/\Blk w2 w.heap.size #[.slice r1 p.regions.length r3,.slice k1 p.consts.length k3,.slice f1 p.funcs.length f3,.slice t1 p.certs.length t3,.slice g1 f.params.length g3,.int .i64 f.result,.slice g4 f.locals.length g6,.slice g7 f.code.length g9] 85):=by
      have b2:=below_none hgrow2
      have lt2:=(hown2.lt _ rfl).2
      have hz:(UD.alloc (.map #[] 0)).heap.size=UD.heap.size+1:=by simp
      simp only[]at lt2
      rw[hz]at hown2 lt2
      exact⟨⟨HN1.out.1.keep b2,hown2,below_on HN1.out.2.2 (Nat.le_refl _) b2,HR.out.2.size,by omega,by have:=HR.out.2.size;omega,lt2,by omega⟩,HN1.out.2.1.keep b2⟩
    have b1:w2.cell? ⟨w.heap.size,0,none⟩=some (.slice r1 p.regions.length r3)/\w2.cell? ⟨w.heap.size,1,none⟩=some (.slice k1 p.consts.length k3)/\w2.cell? ⟨w.heap.size,2,none⟩=some (.slice f1 p.funcs.length f3)/\w2.cell? ⟨w.heap.size,3,none⟩=some (.slice t1 p.certs.length t3)/\w2.cell? ⟨w.heap.size,4,none⟩=some (.slice g1 f.params.length g3)/\w2.cell? ⟨w.heap.size,5,none⟩=some (.int .i64 f.result)/\w2.cell? ⟨w.heap.size,6,none⟩=some (.slice g4 f.locals.length g6)/\w2.cell? ⟨w.heap.size,7,none⟩=some (.slice g7 f.code.length g9):=by
      obtain⟨q0,q1,q2,q3,q4,q5,q6,q7⟩:=cel8 HN2.out.2
      exact⟨q0,q1,q2,q3,q4,q5,q6,q7⟩
    clear hown2 hgrow2 HN1
    go_simp
    refine hKC.out _ _ b1 (fun hHeld=> ?_)
    clear hKC KC b1
    refine wpAnyH_take (i:=8) (v:= ?_) rfl (by kernel_rfl) (by kernel_rfl) (by kernel_rfl) (fun _ _ _ h=>h) (Or.inl ⟨by rfl,?_⟩) (by assumption) ?_
    rotate_left
    . (intro w hSw;(try dsimp only at hSw);go_simp;(try with_reducible rfl))
    refine wpAnyH_ready (rs:=[9]) (by kernel_rfl) (by simp) ?_
    refine AllReadyH.cons rfl (fun KC hKC=> ?_) AllReadyH.nil
    have hzH:w2.heap.size=w2.heap.size:=by first|rfl|simp
    have H3:Hid ((w2.alloc (.cells #[.slice r1 p.regions.length r3,.slice k1 p.consts.length k3,.slice f1 p.funcs.length f3,.slice t1 p.certs.length t3,.slice g1 f.params.length g3,.int .i64 f.result,.slice g4 f.locals.length g6,.slice g7 f.code.length g9,.slice ba bn bc,.map (some UD.heap.size),.slice (some ⟨(UD.heap.size+1),0,none⟩) f.code.length f.code.length,.int .i64 0] 144)).heap.size=w2.heap.size+1/\Blk (w2.alloc (.cells #[.slice r1 p.regions.length r3,.slice k1 p.consts.length k3,.slice f1 p.funcs.length f3,.slice t1 p.certs.length t3,.slice g1 f.params.length g3,.int .i64 f.result,.slice g4 f.locals.length g6,.slice g7 f.code.length g9,.slice ba bn bc,.map (some UD.heap.size),.slice (some ⟨(UD.heap.size+1),0,none⟩) f.code.length f.code.length,.int .i64 0] 144)) w2.heap.size #[.slice r1 p.regions.length r3,.slice k1 p.consts.length k3,.slice f1 p.funcs.length f3,.slice t1 p.certs.length t3,.slice g1 f.params.length g3,.int .i64 f.result,.slice g4 f.locals.length g6,.slice g7 f.code.length g9,.slice ba bn bc,.map (some UD.heap.size),.slice (some ⟨(UD.heap.size+1),0,none⟩) f.code.length f.code.length,.int .i64 0] 144/\NT w (w2.alloc (.cells #[.slice r1 p.regions.length r3,.slice k1 p.consts.length k3,.slice f1 p.funcs.length f3,.slice t1 p.certs.length t3,.slice g1 f.params.length g3,.int .i64 f.result,.slice g4 f.locals.length g6,.slice g7 f.code.length g9,.slice ba bn bc,.map (some UD.heap.size),.slice (some ⟨(UD.heap.size+1),0,none⟩) f.code.length f.code.length,.int .i64 0] 144)) UD.heap.size (UD.heap.size+1) f.code.length/\UD.heap.size<w2.heap.size/\(UD.heap.size+1)<w2.heap.size/\w.heap.size<=w2.heap.size):=⟨by simp,hzH▸Blk.new _ _ _,HN2.out.1.keep (below_alloc _ _),hzH▸HN2.out.1.q2,hzH▸HN2.out.1.g2,hzH▸HN2.out.1.bel.size⟩
    have H3k:(w2.alloc (.cells #[.slice r1 p.regions.length r3,.slice k1 p.consts.length k3,.slice f1 p.funcs.length f3,.slice t1 p.certs.length t3,.slice g1 f.params.length g3,.int .i64 f.result,.slice g4 f.locals.length g6,.slice g7 f.code.length g9,.slice ba bn bc,.map (some UD.heap.size),.slice (some ⟨(UD.heap.size+1),0,none⟩) f.code.length f.code.length,.int .i64 0] 144)).cell? ⟨w.heap.size,0,none⟩=some (.slice r1 p.regions.length r3)/\(w2.alloc (.cells #[.slice r1 p.regions.length r3,.slice k1 p.consts.length k3,.slice f1 p.funcs.length f3,.slice t1 p.certs.length t3,.slice g1 f.params.length g3,.int .i64 f.result,.slice g4 f.locals.length g6,.slice g7 f.code.length g9,.slice ba bn bc,.map (some UD.heap.size),.slice (some ⟨(UD.heap.size+1),0,none⟩) f.code.length f.code.length,.int .i64 0] 144)).cell? ⟨w.heap.size,1,none⟩=some (.slice k1 p.consts.length k3)/\(w2.alloc (.cells #[.slice r1 p.regions.length r3,.slice k1 p.consts.length k3,.slice f1 p.funcs.length f3,.slice t1 p.certs.length t3,.slice g1 f.params.length g3,.int .i64 f.result,.slice g4 f.locals.length g6,.slice g7 f.code.length g9,.slice ba bn bc,.map (some UD.heap.size),.slice (some ⟨(UD.heap.size+1),0,none⟩) f.code.length f.code.length,.int .i64 0] 144)).cell? ⟨w.heap.size,2,none⟩=some (.slice f1 p.funcs.length f3)/\(w2.alloc (.cells #[.slice r1 p.regions.length r3,.slice k1 p.consts.length k3,.slice f1 p.funcs.length f3,.slice t1 p.certs.length t3,.slice g1 f.params.length g3,.int .i64 f.result,.slice g4 f.locals.length g6,.slice g7 f.code.length g9,.slice ba bn bc,.map (some UD.heap.size),.slice (some ⟨(UD.heap.size+1),0,none⟩) f.code.length f.code.length,.int .i64 0] 144)).cell? ⟨w.heap.size,3,none⟩=some (.slice t1 p.certs.length t3)/\(w2.alloc (.cells #[.slice r1 p.regions.length r3,.slice k1 p.consts.length k3,.slice f1 p.funcs.length f3,.slice t1 p.certs.length t3,.slice g1 f.params.length g3,.int .i64 f.result,.slice g4 f.locals.length g6,.slice g7 f.code.length g9,.slice ba bn bc,.map (some UD.heap.size),.slice (some ⟨(UD.heap.size+1),0,none⟩) f.code.length f.code.length,.int .i64 0] 144)).cell? ⟨w.heap.size,4,none⟩=some (.slice g1 f.params.length g3)/\(w2.alloc (.cells #[.slice r1 p.regions.length r3,.slice k1 p.consts.length k3,.slice f1 p.funcs.length f3,.slice t1 p.certs.length t3,.slice g1 f.params.length g3,.int .i64 f.result,.slice g4 f.locals.length g6,.slice g7 f.code.length g9,.slice ba bn bc,.map (some UD.heap.size),.slice (some ⟨(UD.heap.size+1),0,none⟩) f.code.length f.code.length,.int .i64 0] 144)).cell? ⟨w.heap.size,5,none⟩=some (.int .i64 f.result)/\(w2.alloc (.cells #[.slice r1 p.regions.length r3,.slice k1 p.consts.length k3,.slice f1 p.funcs.length f3,.slice t1 p.certs.length t3,.slice g1 f.params.length g3,.int .i64 f.result,.slice g4 f.locals.length g6,.slice g7 f.code.length g9,.slice ba bn bc,.map (some UD.heap.size),.slice (some ⟨(UD.heap.size+1),0,none⟩) f.code.length f.code.length,.int .i64 0] 144)).cell? ⟨w.heap.size,6,none⟩=some (.slice g4 f.locals.length g6)/\(w2.alloc (.cells #[.slice r1 p.regions.length r3,.slice k1 p.consts.length k3,.slice f1 p.funcs.length f3,.slice t1 p.certs.length t3,.slice g1 f.params.length g3,.int .i64 f.result,.slice g4 f.locals.length g6,.slice g7 f.code.length g9,.slice ba bn bc,.map (some UD.heap.size),.slice (some ⟨(UD.heap.size+1),0,none⟩) f.code.length f.code.length,.int .i64 0] 144)).cell? ⟨w.heap.size,7,none⟩=some (.slice g7 f.code.length g9):=by
      obtain⟨q0,q1,q2,q3,q4,q5,q6,q7⟩:=cel8 (HN2.out.2.keep (below_alloc w2 (.cells #[.slice r1 p.regions.length r3,.slice k1 p.consts.length k3,.slice f1 p.funcs.length f3,.slice t1 p.certs.length t3,.slice g1 f.params.length g3,.int .i64 f.result,.slice g4 f.locals.length g6,.slice g7 f.code.length g9,.slice ba bn bc,.map (some UD.heap.size),.slice (some ⟨(UD.heap.size+1),0,none⟩) f.code.length f.code.length,.int .i64 0] 144)))
      exact⟨q0,q1,q2,q3,q4,q5,q6,q7⟩
    go_simp
    refine hKC.out _ _ H3k (fun hHeld=> ?_)
    clear hKC KC
    refine wpAnyH_take (i:=10) (v:= ?_) rfl (by kernel_rfl) (by kernel_rfl) (by kernel_rfl) (fun _ _ _ h=>h) (Or.inl ⟨by rfl,?_⟩) (by assumption) ?_
    rotate_left
    . (intro w hSw;(try dsimp only at hSw);go_simp;(try with_reducible rfl))
    refine wpAnyH_done (by kernel_rfl) ?_ _
    clear hHeld H3k
    go_upto_region 2 with fail
    refine wp_world (fun u=>Hid (TyI w u ⟨.slice r1 p.regions.length r3,.slice k1 p.consts.length k3,.slice f1 p.funcs.length f3,.slice t1 p.certs.length t3⟩ ⟨.slice g1 f.params.length g3,.slice g4 f.locals.length g6,.slice g7 f.code.length g9⟩ f (.slice ba bn bc) w2.heap.size UD.heap.size (UD.heap.size+1) f.code.length (w2.heap.size+1) 0 (List.replicate f.code.length (.slice none 0 0)) ⟨fun _=>false,fun _=>[],0⟩)) (H3.out.2.2.1.ty H3.out.2.1 H3.out.1 H3.out.2.2.2.1 H3.out.2.2.2.2.1 H3.out.2.2.2.2.2) ?_
    rintro U2 E2
    clear H3 HN2 hzH
    generalize w2.heap.size=TB at E2⊢
    have c9:=E2.out.tb.cell 9
    simp only[List.getElem?_toArray,List.getElem?_cons_zero,List.getElem?_cons_succ]at c9
    obtain⟨cnt,D,hset,hcn,hhas⟩:=E2.out.mp
    have HM:Hid (SetAt U2 UD.heap.size cnt D/\cnt<=0/\∀b:Nat,Go.Maps.has D (.int .i64 (b:Int))=false):=⟨hset,hcn,hhas⟩
    clear hset hcn hhas
    go_wp2_with fail
    refine(add_one UD.heap.size cnt U2.heap.size 1 D 0 _ (w64_nat (x:=0) (by omega)) (by have:=HM.out.2.1;omega) (by simp) (by have:=E2.out.ne;have:=E2.out.sz;omega) (HM.out.1.keep (below_alloc _ _))).mono ?_
    rintro e u3 ⟨rfl,hs3,hg3⟩
    have E3:Hid (TyI w u3 ⟨.slice r1 p.regions.length r3,.slice k1 p.consts.length k3,.slice f1 p.funcs.length f3,.slice t1 p.certs.length t3⟩ ⟨.slice g1 f.params.length g3,.slice g4 f.locals.length g6,.slice g7 f.code.length g9⟩ f (.slice ba bn bc) TB UD.heap.size (UD.heap.size+1) f.code.length (TB+1) 1 (List.replicate f.code.length (.slice none 0 0)) wi0):=by
      have hA:=below_alloc U2 (.cells #[.int .i64 0] 2)
      have:=(E2.out.keep hA).put (t:=0) (HM.out.1.keep hA) HM.out.2.1 HM.out.2.2 hs3 hg3
      have ew:(⟨updI (fun _=>false) 0,fun _=>[],0⟩:WI)=wi0:=by
        unfold wi0 updI
        congr 1
      rw[<-ew]
      exact this
    clear hs3 hg3 HM c9
    go_wp2_with fail
    go_ret
    exact⟨TB,_,_,_,_,rfl,E3.out⟩
  . refine AllReadyH.cons rfl (fun KC hKC=> ?_) AllReadyH.nil
    refine step_make _ rfl _ _ 22 rfl w.heap.size 48 l0 (.slice none 0 0) 1 Tryz.underlying22 hl hl0 hl1 .i64 .i64 f.code.length (by simp[Act.eval]) (by simp[Act.eval]) (by rw[hl2];omega) (by unfold maxLen;omega) HR.out.2.size ?_
    intro w1 hown1 hgrow1
    rw[made_nils]at hown1
    have HN1:Hid (w1.ownsRow w.heap.size 48 1 (.slice (some ⟨UD.heap.size,0,none⟩) f.code.length f.code.length) f.code.length (List.replicate f.code.length (.slice none 0 0))/\Blk w1 w.heap.size #[.slice r1 p.regions.length r3,.slice k1 p.consts.length k3,.slice f1 p.funcs.length f3,.slice t1 p.certs.length t3,.slice g1 f.params.length g3,.int .i64 f.result,.slice g4 f.locals.length g6,.slice g7 f.code.length g9] 85/\Below w.heap.size w w1/\UD.heap.size<w1.heap.size):=by
      have b2:=below_none hgrow1
      have lt2:=(hown1.lt _ rfl).2
      exact⟨hown1,HR.out.1.keep b2,below_on HR.out.2 (Nat.le_refl _) b2,lt2⟩
    have b1:w1.cell? ⟨w.heap.size,0,none⟩=some (.slice r1 p.regions.length r3)/\w1.cell? ⟨w.heap.size,1,none⟩=some (.slice k1 p.consts.length k3)/\w1.cell? ⟨w.heap.size,2,none⟩=some (.slice f1 p.funcs.length f3)/\w1.cell? ⟨w.heap.size,3,none⟩=some (.slice t1 p.certs.length t3)/\w1.cell? ⟨w.heap.size,4,none⟩=some (.slice g1 f.params.length g3)/\w1.cell? ⟨w.heap.size,5,none⟩=some (.int .i64 f.result)/\w1.cell? ⟨w.heap.size,6,none⟩=some (.slice g4 f.locals.length g6)/\w1.cell? ⟨w.heap.size,7,none⟩=some (.slice g7 f.code.length g9):=by
      obtain⟨q0,q1,q2,q3,q4,q5,q6,q7⟩:=cel8 HN1.out.2.1
      exact⟨q0,q1,q2,q3,q4,q5,q6,q7⟩
    clear hown1 hgrow1
    go_simp
    refine hKC.out _ _ b1 (fun hHeld=> ?_)
    clear hKC KC b1
    refine wpAnyH_ready (rs:=[2]) (by kernel_rfl) (by simp) ?_
    refine AllReadyH.cons rfl (fun KC hKC=> ?_) AllReadyH.nil
    have hA:=below_alloc w1 (.map #[] 0)
    have HN2:Hid (NT w (w1.alloc (.map #[] 0)) w1.heap.size UD.heap.size f.code.length/\Blk (w1.alloc (.map #[] 0)) w.heap.size #[.slice r1 p.regions.length r3,.slice k1 p.consts.length k3,.slice f1 p.funcs.length f3,.slice t1 p.certs.length t3,.slice g1 f.params.length g3,.int .i64 f.result,.slice g4 f.locals.length g6,.slice g7 f.code.length g9] 85):=by
      have l1:=HN1.out.2.2.2
      have l2:=HN1.out.2.2.1.size
      have l3:=HR.out.2.size
      exact⟨⟨World.ownsMap_made _ _ _ _,own_keep HN1.out.1 hA (Nat.le_refl _),below_on HN1.out.2.2.1 (Nat.le_refl _) hA,l2,by simp,l3,by simp;omega,by omega⟩,HN1.out.2.1.keep hA⟩
    have b1:(w1.alloc (.map #[] 0)).cell? ⟨w.heap.size,0,none⟩=some (.slice r1 p.regions.length r3)/\(w1.alloc (.map #[] 0)).cell? ⟨w.heap.size,1,none⟩=some (.slice k1 p.consts.length k3)/\(w1.alloc (.map #[] 0)).cell? ⟨w.heap.size,2,none⟩=some (.slice f1 p.funcs.length f3)/\(w1.alloc (.map #[] 0)).cell? ⟨w.heap.size,3,none⟩=some (.slice t1 p.certs.length t3)/\(w1.alloc (.map #[] 0)).cell? ⟨w.heap.size,4,none⟩=some (.slice g1 f.params.length g3)/\(w1.alloc (.map #[] 0)).cell? ⟨w.heap.size,5,none⟩=some (.int .i64 f.result)/\(w1.alloc (.map #[] 0)).cell? ⟨w.heap.size,6,none⟩=some (.slice g4 f.locals.length g6)/\(w1.alloc (.map #[] 0)).cell? ⟨w.heap.size,7,none⟩=some (.slice g7 f.code.length g9):=by
      obtain⟨q0,q1,q2,q3,q4,q5,q6,q7⟩:=cel8 HN2.out.2
      exact⟨q0,q1,q2,q3,q4,q5,q6,q7⟩
    go_simp
    refine hKC.out _ _ b1 (fun hHeld=> ?_)
    clear hKC KC b1 hA HN1
    refine wpAnyH_take (i:=8) (v:= ?_) rfl (by kernel_rfl) (by kernel_rfl) (by kernel_rfl) (fun _ _ _ h=>h) (Or.inl ⟨by rfl,?_⟩) (by assumption) ?_
    rotate_left
    . (intro w hSw;(try dsimp only at hSw);go_simp;(try with_reducible rfl))
    refine wpAnyH_ready (rs:=[9]) (by kernel_rfl) (by simp) ?_
    refine AllReadyH.cons rfl (fun KC hKC=> ?_) AllReadyH.nil
    have hzH:(w1.alloc (.map #[] 0)).heap.size=(w1.heap.size+1):=by first|rfl|simp
    have H3:Hid (((w1.alloc (.map #[] 0)).alloc (.cells #[.slice r1 p.regions.length r3,.slice k1 p.consts.length k3,.slice f1 p.funcs.length f3,.slice t1 p.certs.length t3,.slice g1 f.params.length g3,.int .i64 f.result,.slice g4 f.locals.length g6,.slice g7 f.code.length g9,.slice ba bn bc,.map (some w1.heap.size),.slice (some ⟨UD.heap.size,0,none⟩) f.code.length f.code.length,.int .i64 0] 144)).heap.size=(w1.heap.size+1)+1/\Blk ((w1.alloc (.map #[] 0)).alloc (.cells #[.slice r1 p.regions.length r3,.slice k1 p.consts.length k3,.slice f1 p.funcs.length f3,.slice t1 p.certs.length t3,.slice g1 f.params.length g3,.int .i64 f.result,.slice g4 f.locals.length g6,.slice g7 f.code.length g9,.slice ba bn bc,.map (some w1.heap.size),.slice (some ⟨UD.heap.size,0,none⟩) f.code.length f.code.length,.int .i64 0] 144)) (w1.heap.size+1) #[.slice r1 p.regions.length r3,.slice k1 p.consts.length k3,.slice f1 p.funcs.length f3,.slice t1 p.certs.length t3,.slice g1 f.params.length g3,.int .i64 f.result,.slice g4 f.locals.length g6,.slice g7 f.code.length g9,.slice ba bn bc,.map (some w1.heap.size),.slice (some ⟨UD.heap.size,0,none⟩) f.code.length f.code.length,.int .i64 0] 144/\NT w ((w1.alloc (.map #[] 0)).alloc (.cells #[.slice r1 p.regions.length r3,.slice k1 p.consts.length k3,.slice f1 p.funcs.length f3,.slice t1 p.certs.length t3,.slice g1 f.params.length g3,.int .i64 f.result,.slice g4 f.locals.length g6,.slice g7 f.code.length g9,.slice ba bn bc,.map (some w1.heap.size),.slice (some ⟨UD.heap.size,0,none⟩) f.code.length f.code.length,.int .i64 0] 144)) w1.heap.size UD.heap.size f.code.length/\w1.heap.size<(w1.heap.size+1)/\UD.heap.size<(w1.heap.size+1)/\w.heap.size<=(w1.heap.size+1)):=⟨by simp,hzH▸Blk.new _ _ _,HN2.out.1.keep (below_alloc _ _),hzH▸HN2.out.1.q2,hzH▸HN2.out.1.g2,hzH▸HN2.out.1.bel.size⟩
    have H3k:((w1.alloc (.map #[] 0)).alloc (.cells #[.slice r1 p.regions.length r3,.slice k1 p.consts.length k3,.slice f1 p.funcs.length f3,.slice t1 p.certs.length t3,.slice g1 f.params.length g3,.int .i64 f.result,.slice g4 f.locals.length g6,.slice g7 f.code.length g9,.slice ba bn bc,.map (some w1.heap.size),.slice (some ⟨UD.heap.size,0,none⟩) f.code.length f.code.length,.int .i64 0] 144)).cell? ⟨w.heap.size,0,none⟩=some (.slice r1 p.regions.length r3)/\((w1.alloc (.map #[] 0)).alloc (.cells #[.slice r1 p.regions.length r3,.slice k1 p.consts.length k3,.slice f1 p.funcs.length f3,.slice t1 p.certs.length t3,.slice g1 f.params.length g3,.int .i64 f.result,.slice g4 f.locals.length g6,.slice g7 f.code.length g9,.slice ba bn bc,.map (some w1.heap.size),.slice (some ⟨UD.heap.size,0,none⟩) f.code.length f.code.length,.int .i64 0] 144)).cell? ⟨w.heap.size,1,none⟩=some (.slice k1 p.consts.length k3)/\((w1.alloc (.map #[] 0)).alloc (.cells #[.slice r1 p.regions.length r3,.slice k1 p.consts.length k3,.slice f1 p.funcs.length f3,.slice t1 p.certs.length t3,.slice g1 f.params.length g3,.int .i64 f.result,.slice g4 f.locals.length g6,.slice g7 f.code.length g9,.slice ba bn bc,.map (some w1.heap.size),.slice (some ⟨UD.heap.size,0,none⟩) f.code.length f.code.length,.int .i64 0] 144)).cell? ⟨w.heap.size,2,none⟩=some (.slice f1 p.funcs.length f3)/\((w1.alloc (.map #[] 0)).alloc (.cells #[.slice r1 p.regions.length r3,.slice k1 p.consts.length k3,.slice f1 p.funcs.length f3,.slice t1 p.certs.length t3,.slice g1 f.params.length g3,.int .i64 f.result,.slice g4 f.locals.length g6,.slice g7 f.code.length g9,.slice ba bn bc,.map (some w1.heap.size),.slice (some ⟨UD.heap.size,0,none⟩) f.code.length f.code.length,.int .i64 0] 144)).cell? ⟨w.heap.size,3,none⟩=some (.slice t1 p.certs.length t3)/\((w1.alloc (.map #[] 0)).alloc (.cells #[.slice r1 p.regions.length r3,.slice k1 p.consts.length k3,.slice f1 p.funcs.length f3,.slice t1 p.certs.length t3,.slice g1 f.params.length g3,.int .i64 f.result,.slice g4 f.locals.length g6,.slice g7 f.code.length g9,.slice ba bn bc,.map (some w1.heap.size),.slice (some ⟨UD.heap.size,0,none⟩) f.code.length f.code.length,.int .i64 0] 144)).cell? ⟨w.heap.size,4,none⟩=some (.slice g1 f.params.length g3)/\((w1.alloc (.map #[] 0)).alloc (.cells #[.slice r1 p.regions.length r3,.slice k1 p.consts.length k3,.slice f1 p.funcs.length f3,.slice t1 p.certs.length t3,.slice g1 f.params.length g3,.int .i64 f.result,.slice g4 f.locals.length g6,.slice g7 f.code.length g9,.slice ba bn bc,.map (some w1.heap.size),.slice (some ⟨UD.heap.size,0,none⟩) f.code.length f.code.length,.int .i64 0] 144)).cell? ⟨w.heap.size,5,none⟩=some (.int .i64 f.result)/\((w1.alloc (.map #[] 0)).alloc (.cells #[.slice r1 p.regions.length r3,.slice k1 p.consts.length k3,.slice f1 p.funcs.length f3,.slice t1 p.certs.length t3,.slice g1 f.params.length g3,.int .i64 f.result,.slice g4 f.locals.length g6,.slice g7 f.code.length g9,.slice ba bn bc,.map (some w1.heap.size),.slice (some ⟨UD.heap.size,0,none⟩) f.code.length f.code.length,.int .i64 0] 144)).cell? ⟨w.heap.size,6,none⟩=some (.slice g4 f.locals.length g6)/\((w1.alloc (.map #[] 0)).alloc (.cells #[.slice r1 p.regions.length r3,.slice k1 p.consts.length k3,.slice f1 p.funcs.length f3,.slice t1 p.certs.length t3,.slice g1 f.params.length g3,.int .i64 f.result,.slice g4 f.locals.length g6,.slice g7 f.code.length g9,.slice ba bn bc,.map (some w1.heap.size),.slice (some ⟨UD.heap.size,0,none⟩) f.code.length f.code.length,.int .i64 0] 144)).cell? ⟨w.heap.size,7,none⟩=some (.slice g7 f.code.length g9):=by
      obtain⟨q0,q1,q2,q3,q4,q5,q6,q7⟩:=cel8 (HN2.out.2.keep (below_alloc (w1.alloc (.map #[] 0)) (.cells #[.slice r1 p.regions.length r3,.slice k1 p.consts.length k3,.slice f1 p.funcs.length f3,.slice t1 p.certs.length t3,.slice g1 f.params.length g3,.int .i64 f.result,.slice g4 f.locals.length g6,.slice g7 f.code.length g9,.slice ba bn bc,.map (some w1.heap.size),.slice (some ⟨UD.heap.size,0,none⟩) f.code.length f.code.length,.int .i64 0] 144)))
      exact⟨q0,q1,q2,q3,q4,q5,q6,q7⟩
    go_simp
    refine hKC.out _ _ H3k (fun hHeld=> ?_)
    clear hKC KC
    refine wpAnyH_take (i:=10) (v:= ?_) rfl (by kernel_rfl) (by kernel_rfl) (by kernel_rfl) (fun _ _ _ h=>h) (Or.inl ⟨by rfl,?_⟩) (by assumption) ?_
    rotate_left
    . (intro w hSw;(try dsimp only at hSw);go_simp;(try with_reducible rfl))
    refine wpAnyH_done (by kernel_rfl) ?_ _
    clear hHeld H3k
    go_upto_region 2 with fail
    refine wp_world (fun u=>Hid (TyI w u ⟨.slice r1 p.regions.length r3,.slice k1 p.consts.length k3,.slice f1 p.funcs.length f3,.slice t1 p.certs.length t3⟩ ⟨.slice g1 f.params.length g3,.slice g4 f.locals.length g6,.slice g7 f.code.length g9⟩ f (.slice ba bn bc) (w1.heap.size+1) w1.heap.size UD.heap.size f.code.length ((w1.heap.size+1)+1) 0 (List.replicate f.code.length (.slice none 0 0)) ⟨fun _=>false,fun _=>[],0⟩)) (H3.out.2.2.1.ty H3.out.2.1 H3.out.1 H3.out.2.2.2.1 H3.out.2.2.2.2.1 H3.out.2.2.2.2.2) ?_
    rintro U2 E2
    clear H3 HN2 hzH
    generalize (w1.heap.size+1)=TB at E2⊢
    have c9:=E2.out.tb.cell 9
    simp only[List.getElem?_toArray,List.getElem?_cons_zero,List.getElem?_cons_succ]at c9
    obtain⟨cnt,D,hset,hcn,hhas⟩:=E2.out.mp
    have HM:Hid (SetAt U2 w1.heap.size cnt D/\cnt<=0/\∀b:Nat,Go.Maps.has D (.int .i64 (b:Int))=false):=⟨hset,hcn,hhas⟩
    clear hset hcn hhas
    go_wp2_with fail
    refine(add_one w1.heap.size cnt U2.heap.size 1 D 0 _ (w64_nat (x:=0) (by omega)) (by have:=HM.out.2.1;omega) (by simp) (by have:=E2.out.ne;have:=E2.out.sz;omega) (HM.out.1.keep (below_alloc _ _))).mono ?_
    rintro e u3 ⟨rfl,hs3,hg3⟩
    have E3:Hid (TyI w u3 ⟨.slice r1 p.regions.length r3,.slice k1 p.consts.length k3,.slice f1 p.funcs.length f3,.slice t1 p.certs.length t3⟩ ⟨.slice g1 f.params.length g3,.slice g4 f.locals.length g6,.slice g7 f.code.length g9⟩ f (.slice ba bn bc) TB w1.heap.size UD.heap.size f.code.length (TB+1) 1 (List.replicate f.code.length (.slice none 0 0)) wi0):=by
      have hA:=below_alloc U2 (.cells #[.int .i64 0] 2)
      have:=(E2.out.keep hA).put (t:=0) (HM.out.1.keep hA) HM.out.2.1 HM.out.2.2 hs3 hg3
      have ew:(⟨updI (fun _=>false) 0,fun _=>[],0⟩:WI)=wi0:=by
        unfold wi0 updI
        congr 1
      rw[<-ew]
      exact this
    clear hs3 hg3 HM c9
    go_wp2_with fail
    go_ret
    exact⟨TB,_,_,_,_,rfl,E3.out⟩
end Go.Proofs.YtdfmdgbolmbffaaGreat
namespace Go.Proofs.YtdfmdgbolmbffaaGreat
open Go.ChangeShapes Go.WideShapes Go.ChangeAt Go.RowKit
set_option linter.unusedVariables false
theorem runK_len(p:MP)(f:MF)(c:Nat):∀(a:Nat) (sh:List Int) (T:Nat->List Int) (D:Nat),(∀j,(T j).length<=D)->sh.length<=D->∀s2 T2 D2,runK p f c a sh T D=.inr (s2,T2,D2)->(∀j,(T2 j).length<=D2)/\s2.length<=D2:=by
  induction c with
  | zero=>
    intro a sh T D hT hs s2 T2 D2 h
    simp only[runK,Sum.inr.injEq,Prod.mk.injEq]at h
    obtain⟨rfl,rfl,rfl⟩:=h
    exact⟨hT,hs⟩
  | succ c ih=>
    intro a sh T D hT hs s2 T2 D2 h
    cases hx:f.code[a]? with
    | none=>
      simp only[runK,hx,Sum.inr.injEq,Prod.mk.injEq]at h
      obtain⟨rfl,rfl,rfl⟩:=h
      exact⟨hT,hs⟩
    | some x=>
      simp only[runK,hx]at h
      by_cases hc:codeI p f x sh=0
      . rw[if_pos hc]at h
        refine ih _ _ _ _ (fun j=> ?_) (by omega) _ _ _ h
        simp only[updT]
        split
        . omega
        . have:=hT j;omega
      . rw[if_neg hc]at h
        cases h
theorem meetI_len{bs:List MB}{sh:List Int}{D:Nat}(hs:sh.length<=D)(nx:List Nat):∀(C:Nat->Bool) (R:Nat->List Int),(∀j,(R j).length<=D)->∀C2 R2,meetI bs nx sh C R=some (C2,R2)->∀j,(R2 j).length<=D:=by
  induction nx with
  | nil=>
    intro C R hR C2 R2 h
    simp only[meetI,Option.some.injEq,Prod.mk.injEq]at h
    rw[<-h.2]
    exact hR
  | cons t nx ih=>
    intro C R hR C2 R2 h
    rw[meetI]at h
    split at h
    . split at h
      . exact ih _ _ hR _ _ h
      . cases h
    . refine ih _ _ (fun j=> ?_) _ _ h
      simp only[updT]
      split
      . exact hs
      . exact hR j
theorem runBI_len{p:MP}{f:MF}{bs:List MB}{m:MB}{s s':WI}(hs:∀j,(s.r j).length<=s.d)(h:runBI p f bs m s=.inr s'):∀j,(s'.r j).length<=s'.d:=by
  unfold runBI at h
  cases hk:runK p f (m.last-m.first+1).toNat m.first.toNat (s.r m.first.toNat) s.r s.d with
  |inl e=>rw[hk]at h;cases h
  | inr q=>
    obtain⟨sh,R,D⟩:=q
    rw[hk]at h
    obtain⟨h1,h2⟩:=runK_len p f _ _ _ _ _ hs (hs _) _ _ _ hk
    simp only[]at h
    cases hm:meetI bs (m.next.map Int.toNat) sh s.c R with
    |none=>rw[hm]at h;cases h
    | some q=>
      obtain⟨C2,R2⟩:=q
      rw[hm]at h
      simp only[Sum.inr.injEq]at h
      subst h
      exact meetI_len h2 _ _ _ h1 _ _ hm
theorem runOI_at{p:MP}{f:MF}{bs:List MB}{order:List Int}{k b:Nat}{z:Int}{m:MB}{s:WI}{RUN:RunI}(h:runOI p f bs ((order.map Int.toNat).drop k) s=RUN)(hz:order[k]?=some z)(ez:z=(b:Int))(hm:bs[b]?=some m):(match runBI p f bs m s with|.inl e=>Sum.inl e|.inr s'=>runOI p f bs ((order.map Int.toNat).drop (k+1)) s')=RUN:=by
  have e:(order.map Int.toNat)[k]?=some b:=by rw[List.getElem?_map,hz,ez];simp
  rw[drop_at e,runOI,hm]at h
  exact h
theorem ScIn.keep{w w':World}{v:VP}{p:MP}{g:VF}{f:MF}(h:ScIn w v p g f)(hb:Below w.heap.size w w'):ScIn w' v p g f:=⟨h.ps,h.pf,h.fs,h.rp.keep hb (Nat.le_refl _),h.rf.keep hb (Nat.le_refl _),h.c1,h.cl,h.pl,h.ok,h.last⟩
theorem RdFl.keepW{w w':World}{vb vo vi vl:Value}{r:MFl}(h:RdFl w vb vo vi vl r)(hb:Below w.heap.size w w'):RdFl w' vb vo vi vl r:=⟨h.blocks.keep hb (Nat.le_refl _),h.order.keep hb (Nat.le_refl _),h.idom.keep hb (Nat.le_refl _),h.loops.keep hb (Nat.le_refl _)⟩
theorem rdFl_len3{w:World}{vb vo vi vl:Value}{r:MFl}(h:RdFl w vb vo vi vl r):∃v1 c1 v2 c2 v3 c3 v4 c4,vb=.slice v1 r.blocks.length c1/\vo=.slice v2 r.order.length c2/\vi=.slice v3 r.idom.length c3/\vl=.slice v4 r.loops.length c4:=by
  obtain⟨v1,c1,e1⟩:∃a c,vb=.slice a r.blocks.length c:=by obtain⟨_,_,h2,_⟩:=h.blocks;exact h2.is_slice
  obtain⟨v2,c2,e2⟩:=h.order.is_slice
  obtain⟨v3,c3,e3⟩:=h.idom.is_slice
  obtain⟨v4,c4,e4⟩:∃a c,vl=.slice a r.loops.length c:=by obtain⟨_,_,h2,_⟩:=h.loops;exact h2.is_slice
  exact⟨v1,c1,v2,c2,v3,c3,v4,c4,e1,e2,e3,e4⟩
structure OrdW(xs:List MI)(r:MFl):Prop where
  blk:BlkIn xs r.blocks
  nb:r.blocks.length<=1024
  two:∀m∈r.blocks,m.next.length<=2
  len:r.order.length<=1024
  ord:∀z∈r.order,∃b:Nat,z=(b:Int)/\b<r.blocks.length
  nxt:∀(b:Nat) (m:MB),r.blocks[b]?=some m->∀z∈m.next,∃t:Nat,z=(t:Int)/\t<r.blocks.length
theorem FlowOk.ordW{xs:List MI}{r:MFl}(h:FlowOk xs r)(h0:r.code=0):OrdW xs r:=by
  have hi:=h.inn h0
  cases h with
  |none _=>cases h0
  |off _ _ _=>cases h0
  |lost _ _ _ _ _ _ _ _=>cases h0
  |two _ _ _ _ _ _ _ _=>cases h0
  | good g x1 o1 v1 s1 d1 b1 i1 l1=>
    obtain⟨hP,hnd,hlen,hmem,_⟩:=order_place (lds_pos g) (nx_lt g) v1 s1
    refine⟨blkIn_of g,hi.nb,hi.two,?_,fun z hz=> ?_,fun b m hm z hz=> ?_⟩
    . simp only[]
      rw[ints_length,List.length_reverse,hlen]
      exact specL_le g
    . obtain⟨b,hb,rfl⟩:=List.mem_map.1 hz
      exact⟨b,rfl,(hmem b).1 (List.mem_reverse.1 hb)⟩
    . obtain⟨h1,h2⟩:=specL_next g hm hz
      exact⟨z.toNat,(Int.toNat_of_nonneg h1).symm,by simp only[];omega⟩
def TyO(w:World)(y:MTy)(e:Ending)(w':World):Prop:=∃(s:Value) (F:List (List Int×Value)),e=.returned (.agg #[.int .i64 y.code,.int .i64 y.at_,.int .i64 y.depth,s])/\OwTy w' w.heap.size s F/\F.map Prod.fst=y.shapes/\F.length<=1024/\(∀x∈F,x.1.length<=64)/\Below w.heap.size w w'
theorem owTy_nil(u:World)(b:Nat):OwTy u b (.slice none 0 0) []:=⟨World.ownsRow_nil _ _ _ _,⟨fun x hx=>(by cases hx),.nil⟩⟩
theorem TyI.told{w u:World}{v:VP}{g:VF}{f:MF}{bv:Value}{TB QB GS n B N:Nat}{RS:List Value}{s:WI}(h:TyI w u v g f bv TB QB GS n B N RS s){X base:Nat}(hb:base<=w.heap.size)(hX:X<w.heap.size)(x0 x1 x2 x3:Value):OwTy ((((u.setCell ⟨X,0,none⟩ x0).setCell ⟨X,1,none⟩ x1).setCell ⟨X,2,none⟩ x2).setCell ⟨X,3,none⟩ x3) base (.slice (some ⟨GS,0,none⟩) n n) (((List.range n).map s.r).zip RS)/\(((List.range n).map s.r).zip RS).map Prod.fst=(List.range n).map s.r/\(((List.range n).map s.r).zip RS).length=n/\∀x∈((List.range n).map s.r).zip RS,x.1.length<=64:=by
  obtain⟨n1,n2,n3,n4,n5,n6⟩:=h.ne
  obtain⟨l1,l2,l3⟩:=h.lo
  have hl:((List.range n).map s.r).length=RS.length:=by simp[h.sl]
  have hat:∀(j:Nat) (x:List Int×Value),(((List.range n).map s.r).zip RS)[j]?=some x->s.r j=x.1/\RS[j]?=some x.2:=fun j x hj=>by
    obtain⟨e1,e2⟩:((List.range n).map s.r)[j]?=some x.1/\RS[j]?=some x.2:=List.getElem?_zip_eq_some.1 hj
    rw[List.getElem?_map]at e1
    obtain⟨q,hq,hq2⟩:=Option.map_eq_some_iff.1 e1
    obtain⟨i1,i2⟩:=List.getElem?_eq_some_iff.1 hq
    rw[List.getElem_range]at i2
    subst i2
    exact⟨hq2,e2⟩
  have hzl:(((List.range n).map s.r).zip RS).length=n:=by rw[List.length_zip,hl];simp[h.sl]
  refine⟨⟨?_,fun x hx=> ?_,?_⟩,List.map_fst_zip (Nat.le_of_eq hl),hzl,fun x hx=> ?_⟩
  . have e:(((List.range n).map s.r).zip RS).flatMap rCells=RS:=by
      have:∀(A:List (List Int)) (R:List Value),A.length=R.length->(A.zip R).flatMap rCells=R:=by
        intro A
        induction A with
        |nil=>intro R h;cases R with|nil=>rfl|cons _ _=>simp at h
        | cons a A ih=>intro R h;cases R with
          |nil=>simp at h
          |cons v R=>rw[List.zip_cons_cons,List.flatMap_cons,ih R (by simpa using h)];rfl
      exact this _ _ hl
    rw[e,hzl]
    exact own_base (ownsRow_setCell_below (ownsRow_setCell_below (ownsRow_setCell_below (ownsRow_setCell_below h.sa (by simp only[];omega) _) (by simp only[];omega) _) (by simp only[];omega) _) (by simp only[];omega) _) hb
  . obtain⟨y,hy,rfl⟩:=List.mem_map.1 hx
    obtain⟨j,hj⟩:=List.getElem?_of_mem hy
    obtain⟨e1,e2⟩:=hat j y hj
    have hr:=h.rs j y.2 e2
    rw[e1]at hr
    exact own_base ((((hr.set (a:=⟨X,0,none⟩) (by simp only[];omega) _).set (a:=⟨X,1,none⟩) (by simp only[];omega) _).set (a:=⟨X,2,none⟩) (by simp only[];omega) _).set (a:=⟨X,3,none⟩) (by simp only[];omega) _) (by omega)
  . unfold vrows
    rw[List.pairwise_map,List.pairwise_iff_getElem]
    intro i j hi hj hij g hg
    obtain⟨_,e2⟩:=hat i _ (List.getElem?_eq_getElem hi)
    obtain⟨_,e4⟩:=hat j _ (List.getElem?_eq_getElem hj)
    exact h.ap i j _ _ (by omega) e2 e4 g hg
  . obtain⟨j,hj⟩:=List.getElem?_of_mem hx
    rw[<-(hat j x hj).1]
    exact h.rl j
set_option maxHeartbeats 8000000 in
set_option maxRecDepth 100000 in
theorem typesOf_any(w:World)(v:VP)(p:MP)(g:VF)(f:MF)(r:MFl)(fc fa:Int)(vb vo vi vl:Value)(hsc:ScIn w v p g f)(hfl:FlowOk f.code r)(h0:r.code=0)(hrd:RdFl w vb vo vi vl r):
    Calls Tryz.prog 37 #[.agg #[v.r,v.k,v.f,v.t,g.p,.int .i64 f.result,g.l,g.c],.agg #[.int .i64 fc,.int .i64 fa,vb,vo,vi,vl]] w (TyO w (tyOf f.code.length (runO p f r.blocks (r.order.map Int.toNat) ws0))):=by
  obtain⟨r1,r3,k1,k3,t1,t3,f1,f3,rfl⟩:=hsc.rp.sl
  obtain⟨g1,g3,g4,g6,g7,g9,rfl⟩:=rdF_sl hsc.rf
  obtain⟨v1,c1,v2,c2,v3,c3,v4,c4,rfl,rfl,rfl,rfl⟩:=rdFl_len3 hrd
  rw[ty_two hfl h0]
  obtain⟨RUN,hRUN⟩:∃R,R=runOI p f r.blocks (r.order.map Int.toNat) wi0:=⟨_,rfl⟩
  rw[<-hRUN]
  have HRUN:Hid (runOI p f r.blocks (r.order.map Int.toNat) wi0=RUN):=hRUN.symm
  have HO:Hid (OrdW f.code r):=hfl.ordW h0
  have H:Hid (ScIn w ⟨.slice r1 p.regions.length r3,.slice k1 p.consts.length k3,.slice f1 p.funcs.length f3,.slice t1 p.certs.length t3⟩ p ⟨.slice g1 f.params.length g3,.slice g4 f.locals.length g6,.slice g7 f.code.length g9⟩ f/\RdFl w (.slice v1 r.blocks.length c1) (.slice v2 r.order.length c2) (.slice v3 r.idom.length c3) (.slice v4 r.loops.length c4) r):=⟨hsc,hrd⟩
  have hcl:f.code.length<=1024:=hsc.cl
  have hol:r.order.length<=1024:=HO.out.len
  have E0:Blk (((w.alloc (.cells #[.slice r1 p.regions.length r3,.slice k1 p.consts.length k3,.slice f1 p.funcs.length f3,.slice t1 p.certs.length t3,.slice g1 f.params.length g3,.int .i64 f.result,.slice g4 f.locals.length g6,.slice g7 f.code.length g9] 85)).alloc (.cells #[.int .i64 fc,.int .i64 fa,.slice v1 r.blocks.length c1,.slice v2 r.order.length c2,.slice v3 r.idom.length c3,.slice v4 r.loops.length c4] 67)).alloc (.cells #[.int .i64 0,.int .i64 0,.int .i64 0,.slice none 0 0] 30)) w.heap.size #[.slice r1 p.regions.length r3,.slice k1 p.consts.length k3,.slice f1 p.funcs.length f3,.slice t1 p.certs.length t3,.slice g1 f.params.length g3,.int .i64 f.result,.slice g4 f.locals.length g6,.slice g7 f.code.length g9] 85/\Blk (((w.alloc (.cells #[.slice r1 p.regions.length r3,.slice k1 p.consts.length k3,.slice f1 p.funcs.length f3,.slice t1 p.certs.length t3,.slice g1 f.params.length g3,.int .i64 f.result,.slice g4 f.locals.length g6,.slice g7 f.code.length g9] 85)).alloc (.cells #[.int .i64 fc,.int .i64 fa,.slice v1 r.blocks.length c1,.slice v2 r.order.length c2,.slice v3 r.idom.length c3,.slice v4 r.loops.length c4] 67)).alloc (.cells #[.int .i64 0,.int .i64 0,.int .i64 0,.slice none 0 0] 30)) (w.heap.size+1) #[.int .i64 fc,.int .i64 fa,.slice v1 r.blocks.length c1,.slice v2 r.order.length c2,.slice v3 r.idom.length c3,.slice v4 r.loops.length c4] 67/\Blk (((w.alloc (.cells #[.slice r1 p.regions.length r3,.slice k1 p.consts.length k3,.slice f1 p.funcs.length f3,.slice t1 p.certs.length t3,.slice g1 f.params.length g3,.int .i64 f.result,.slice g4 f.locals.length g6,.slice g7 f.code.length g9] 85)).alloc (.cells #[.int .i64 fc,.int .i64 fa,.slice v1 r.blocks.length c1,.slice v2 r.order.length c2,.slice v3 r.idom.length c3,.slice v4 r.loops.length c4] 67)).alloc (.cells #[.int .i64 0,.int .i64 0,.int .i64 0,.slice none 0 0] 30)) (w.heap.size+1+1) #[.int .i64 0,.int .i64 0,.int .i64 0,.slice none 0 0] 30/\Below w.heap.size w (((w.alloc (.cells #[.slice r1 p.regions.length r3,.slice k1 p.consts.length k3,.slice f1 p.funcs.length f3,.slice t1 p.certs.length t3,.slice g1 f.params.length g3,.int .i64 f.result,.slice g4 f.locals.length g6,.slice g7 f.code.length g9] 85)).alloc (.cells #[.int .i64 fc,.int .i64 fa,.slice v1 r.blocks.length c1,.slice v2 r.order.length c2,.slice v3 r.idom.length c3,.slice v4 r.loops.length c4] 67)).alloc (.cells #[.int .i64 0,.int .i64 0,.int .i64 0,.slice none 0 0] 30)):=by
    obtain⟨e1,e2,e3⟩:=two_new w #[.slice r1 p.regions.length r3,.slice k1 p.consts.length k3,.slice f1 p.funcs.length f3,.slice t1 p.certs.length t3,.slice g1 f.params.length g3,.int .i64 f.result,.slice g4 f.locals.length g6,.slice g7 f.code.length g9] #[.int .i64 fc,.int .i64 fa,.slice v1 r.blocks.length c1,.slice v2 r.order.length c2,.slice v3 r.idom.length c3,.slice v4 r.loops.length c4] 85 67
    have hz:((w.alloc (.cells #[.slice r1 p.regions.length r3,.slice k1 p.consts.length k3,.slice f1 p.funcs.length f3,.slice t1 p.certs.length t3,.slice g1 f.params.length g3,.int .i64 f.result,.slice g4 f.locals.length g6,.slice g7 f.code.length g9] 85)).alloc (.cells #[.int .i64 fc,.int .i64 fa,.slice v1 r.blocks.length c1,.slice v2 r.order.length c2,.slice v3 r.idom.length c3,.slice v4 r.loops.length c4] 67)).heap.size=w.heap.size+1+1:=by simp
    have e4:=Blk.new ((w.alloc (.cells #[.slice r1 p.regions.length r3,.slice k1 p.consts.length k3,.slice f1 p.funcs.length f3,.slice t1 p.certs.length t3,.slice g1 f.params.length g3,.int .i64 f.result,.slice g4 f.locals.length g6,.slice g7 f.code.length g9] 85)).alloc (.cells #[.int .i64 fc,.int .i64 fa,.slice v1 r.blocks.length c1,.slice v2 r.order.length c2,.slice v3 r.idom.length c3,.slice v4 r.loops.length c4] 67)) #[.int .i64 0,.int .i64 0,.int .i64 0,.slice none 0 0] 30
    rw[hz]at e4
    exact⟨e1.keep (below_alloc _ _),e2.keep (below_alloc _ _),e4,below_on e3 (Nat.le_refl _) (below_alloc _ _)⟩
  clear hsc hrd hfl hRUN h0
  go_enter Tryz.func37,Tryz.ntmps37
  go_upto_region 1 with fail
  refine wp_world (fun u=>Hid (Blk u w.heap.size #[.slice r1 p.regions.length r3,.slice k1 p.consts.length k3,.slice f1 p.funcs.length f3,.slice t1 p.certs.length t3,.slice g1 f.params.length g3,.int .i64 f.result,.slice g4 f.locals.length g6,.slice g7 f.code.length g9] 85/\Blk u (w.heap.size+1) #[.int .i64 fc,.int .i64 fa,.slice v1 r.blocks.length c1,.slice v2 r.order.length c2,.slice v3 r.idom.length c3,.slice v4 r.loops.length c4] 67/\Blk u (w.heap.size+1+1) #[.int .i64 0,.int .i64 0,.int .i64 0,.slice none 0 0] 30/\Below w.heap.size w u)) E0 ?_
  rintro U E1
  clear E0
  obtain⟨s0,s1,s2,s3,s4,s5,s6,s7⟩:=cel8 E1.out.1
  obtain⟨y0,y1,y2,y3,y4,y5⟩:=cel6 E1.out.2.1
  go_wp2_with fail
  refine(newTyping_any U ⟨.slice r1 p.regions.length r3,.slice k1 p.consts.length k3,.slice f1 p.funcs.length f3,.slice t1 p.certs.length t3⟩ p ⟨.slice g1 f.params.length g3,.slice g4 f.locals.length g6,.slice g7 f.code.length g9⟩ f (.slice v1 r.blocks.length c1) (H.out.1.rp.keep E1.out.2.2.2 (Nat.le_refl _)) (H.out.1.rf.keep E1.out.2.2.2 (Nat.le_refl _)) ⟨_,_,_,rfl⟩ hcl).mono ?_
  rintro e u1 ⟨TB,QB,GS,B,RS,rfl,hty⟩
  have E2:Hid (TyI U u1 ⟨.slice r1 p.regions.length r3,.slice k1 p.consts.length k3,.slice f1 p.funcs.length f3,.slice t1 p.certs.length t3⟩ ⟨.slice g1 f.params.length g3,.slice g4 f.locals.length g6,.slice g7 f.code.length g9⟩ f (.slice v1 r.blocks.length c1) TB QB GS f.code.length B 1 RS wi0):=hty
  have HE:Hid (Blk U w.heap.size #[.slice r1 p.regions.length r3,.slice k1 p.consts.length k3,.slice f1 p.funcs.length f3,.slice t1 p.certs.length t3,.slice g1 f.params.length g3,.int .i64 f.result,.slice g4 f.locals.length g6,.slice g7 f.code.length g9] 85/\Blk U (w.heap.size+1) #[.int .i64 fc,.int .i64 fa,.slice v1 r.blocks.length c1,.slice v2 r.order.length c2,.slice v3 r.idom.length c3,.slice v4 r.loops.length c4] 67/\Blk U (w.heap.size+1+1) #[.int .i64 0,.int .i64 0,.int .i64 0,.slice none 0 0] 30/\Below w.heap.size w U/\ScIn U ⟨.slice r1 p.regions.length r3,.slice k1 p.consts.length k3,.slice f1 p.funcs.length f3,.slice t1 p.certs.length t3⟩ p ⟨.slice g1 f.params.length g3,.slice g4 f.locals.length g6,.slice g7 f.code.length g9⟩ f/\RdFl U (.slice v1 r.blocks.length c1) (.slice v2 r.order.length c2) (.slice v3 r.idom.length c3) (.slice v4 r.loops.length c4) r):=⟨E1.out.1,E1.out.2.1,E1.out.2.2.1,E1.out.2.2.2,H.out.1.keep E1.out.2.2.2,H.out.2.keepW E1.out.2.2.2⟩
  have hX2:w.heap.size+1+1<U.heap.size:=E1.out.2.2.1.lt
  clear hty E1 s0 s1 s2 s3 s4 s5 s6 s7 y0 y1 y2 y3 y4 y5
  obtain⟨y0,y1,y2,y3,y4,y5⟩:=cel6 (HE.out.2.1.keep E2.out.bel)
  go_wp2_with fail
  clear y0 y1 y2 y3 y4 y5
  go_loopw [16] (fun i wr=>∃(k:Nat) (RS:List Value) (s:WI),k<=r.order.length/\i=.int .i64 k/\Hid (runOI p f r.blocks ((r.order.map Int.toNat).drop k) s=RUN/\∀j,(s.r j).length<=s.d)/\Hid (TyI U wr ⟨.slice r1 p.regions.length r3,.slice k1 p.consts.length k3,.slice f1 p.funcs.length f3,.slice t1 p.certs.length t3⟩ ⟨.slice g1 f.params.length g3,.slice g4 f.locals.length g6,.slice g7 f.code.length g9⟩ f (.slice v1 r.blocks.length c1) TB QB GS f.code.length B (2*k+1) RS s)) (fun i _=>r.order.length-(intOf i).toNat)
  case atStart=>exact⟨0,RS,wi0,by omega,rfl,⟨by rw[List.drop_zero];exact HRUN.out,fun j=>by simp[wi0]⟩,E2⟩
  case round=>
  clear E2 HRUN
  clear RS
  obtain⟨k,RS,s,hk,rfl,HS,E⟩:=hrel
  obtain⟨y0,y1,y2,y3,y4,y5⟩:=cel6 (HE.out.2.1.keep E.out.bel)
  by_cases hlt:k<r.order.length
  case pos=>
    obtain⟨z,hz⟩:∃z,r.order[k]?=some z:=⟨_,List.getElem?_eq_getElem hlt⟩
    obtain⟨b,ez,hb⟩:=HO.out.ord z (List.mem_of_getElem? hz)
    subst ez
    obtain⟨m,hm⟩:∃m,r.blocks[b]?=some m:=⟨_,List.getElem?_eq_getElem hb⟩
    obtain⟨ma,me,ema,eme,hme,hmn⟩:=HO.out.blk.part b m hm
    obtain⟨gb,ob,xa,xc,ev,x0,x1,x2,hrb⟩:=blk_atT HE.out.2.2.2.2.2.blocks hm
    subst ev
    rw[ema,<-E.out.bel.cell (block_lt_of_cell x0)]at x0
    rw[eme,<-E.out.bel.cell (block_lt_of_cell x1)]at x1
    rw[<-E.out.bel.cell (block_lt_of_cell x2)]at x2
    rcases HE.out.2.2.2.2.2.order.2 with⟨q0,_⟩|⟨gd,od,cd,q1,hcd⟩
    . omega
    simp only[Value.slice.injEq,true_and]at q1
    obtain⟨q1a,q1b⟩:=q1
    subst q1a
    have z0:=Rd.elem intCell_length hcd k _ hz 0 _ rfl
    rw[Nat.mul_one,Nat.add_zero,<-E.out.bel.cell (block_lt_of_cell z0)]at z0
    have HZ:Hid (r.order[k]?=some (b:Int)/\r.blocks[b]?=some m/\m.first=(ma:Int)/\m.last=(me:Int)/\Rd U 1 (.slice xa m.next.length xc) m.next.length (m.next.flatMap intCell)):=⟨hz,hm,ema,eme,hrb⟩
    have hbI:(b:Int)<(r.blocks.length:Int):=by omega
    have hkI:(k:Int)<(r.order.length:Int):=by omega
    clear hcd hz hm ema eme hrb q1b
    go_wp2_with fail
    refine(through_any U wr ⟨.slice r1 p.regions.length r3,.slice k1 p.consts.length k3,.slice f1 p.funcs.length f3,.slice t1 p.certs.length t3⟩ p ⟨.slice g1 f.params.length g3,.slice g4 f.locals.length g6,.slice g7 f.code.length g9⟩ f (.slice (some ⟨gb,ob,none⟩) r.blocks.length c1) (.slice xa m.next.length xc) TB QB GS B (2*k+1) RS s r.blocks b m ma me E.out HE.out.2.2.2.2.1 HE.out.2.2.2.2.2.blocks HO.out.blk HZ.out.2.1 HZ.out.2.2.1 HZ.out.2.2.2.1 HZ.out.2.2.2.2 (HO.out.two m (List.mem_of_getElem? HZ.out.2.1)) (HO.out.nxt b m HZ.out.2.1) HO.out.nb (by omega) (HS.out.2 ma)).mono ?_
    intro e u2 hth
    have hat:=runOI_at HS.out.1 HZ.out.1 rfl HZ.out.2.1
    clear x0 x1 x2 z0 y0 y1 y2 y3 y4 y5
    cases hrb:runBI p f r.blocks m s with
    | inl q=>
      obtain⟨c,a⟩:=q
      rw[hrb]at hth hat
      obtain⟨rfl,hcz,b2⟩:=hth
      have HEND:Hid (RUN=.inl (c,a)):=hat.symm
      have hcz':(c != 0)=true:=by simpa using hcz
      clear hat hrb E
      go_upto_region 6 with fail
      refine wp_world (fun u=>Hid (Blk u u2.heap.size #[.int .i64 c,.int .i64 (a:Int),.int .i64 0,.slice none 0 0] 30/\Below U.heap.size U u)) ⟨Blk.new _ _ _,below_on b2 (Nat.le_refl _) (below_alloc _ _)⟩ ?_
      rintro U3 E3
      generalize u2.heap.size=Y3 at E3⊢
      clear b2
      obtain⟨x0,x1,x2,x3⟩:=cel4 E3.out.1
      obtain⟨q0,q1,q2,q3⟩:=cel4 (HE.out.2.2.1.keep E3.out.2)
      obtain⟨fz0,fz1,fz2,fz3⟩:=frz4 (HE.out.2.2.1.keep E3.out.2)
      go_wp2_with fail
      have G:Hid _:=((((HE.out.2.2.1.keep E3.out.2).set 0 (.int .i64 (c))).set 1 (.int .i64 ((a:Int)))).set 2 (.int .i64 (0))).set 3 (.slice none 0 0)
      simp only[List.setIfInBounds_toArray,List.set_cons_zero,List.set_cons_succ]at G
      clear q0 q1 q2 q3
      obtain⟨q0,q1,q2,q3⟩:=cel4 G.out
      refine bodyPost_ret (v:=.agg #[.int .i64 (c),.int .i64 ((a:Int)),.int .i64 (0),.slice none 0 0]) (by simp[results,Tryz.results37,go_sem,q0,q1,q2,q3]) rfl ?_
      have hbl0:=below_on HE.out.2.2.2.1 (Nat.le_refl _) E3.out.2
      rw[HEND.out]
      exact⟨.slice none 0 0,[],rfl,owTy_nil _ _,rfl,by simp,fun x hx=>(by cases hx),((((hbl0.setCell (by simp only[];omega) _).setCell (by simp only[];omega) _).setCell (by simp only[];omega) _).setCell (by simp only[];omega) _)⟩
    | inr s'=>
      rw[hrb]at hth hat
      obtain⟨rfl,RS',N',hN',hty⟩:=hth
      have HN:Hid (runOI p f r.blocks ((r.order.map Int.toNat).drop (k+1)) s'=RUN/\∀j,(s'.r j).length<=s'.d):=⟨hat,runBI_len HS.out.2 hrb⟩
      have E3:Hid (TyI U u2 ⟨.slice r1 p.regions.length r3,.slice k1 p.consts.length k3,.slice f1 p.funcs.length f3,.slice t1 p.certs.length t3⟩ ⟨.slice g1 f.params.length g3,.slice g4 f.locals.length g6,.slice g7 f.code.length g9⟩ f (.slice (some ⟨gb,ob,none⟩) r.blocks.length c1) TB QB GS f.code.length B (2*(k+1)+1) RS' s'):=hty.more (by omega)
      clear hat hrb hty E
      go_upto_region 6 with fail
      refine wp_world (fun u=>Hid (Blk u u2.heap.size #[.int .i64 0,.int .i64 0,.int .i64 0,.slice none 0 0] 30/\TyI U u ⟨.slice r1 p.regions.length r3,.slice k1 p.consts.length k3,.slice f1 p.funcs.length f3,.slice t1 p.certs.length t3⟩ ⟨.slice g1 f.params.length g3,.slice g4 f.locals.length g6,.slice g7 f.code.length g9⟩ f (.slice (some ⟨gb,ob,none⟩) r.blocks.length c1) TB QB GS f.code.length B (2*(k+1)+1) RS' s')) ⟨Blk.new _ _ _,E3.out.keep (below_alloc _ _)⟩ ?_
      rintro U3 E4
      generalize u2.heap.size=Y3 at E4⊢
      clear E3
      obtain⟨x0,x1,x2,x3⟩:=cel4 E4.out.1
      go_wp2_with fail
      go_roundw
      case rel=>exact⟨k+1,RS',s',by omega,by go_num,HN,E4.out.2⟩
      case measure=>simp[intOf];omega
  case neg=>
    have hke:k=r.order.length:=by omega
    have HEND:Hid (RUN=.inr s):=by
      have:=HS.out.1
      have hdn:(r.order.map Int.toNat).drop k=[]:=List.drop_eq_nil_of_le (by rw[List.length_map];omega)
      rw[hdn,runOI]at this
      exact this.symm
    have hkI:¬(k:Int)<(r.order.length:Int):=by omega
    go_upto_region 9 with fail
    clear y0 y1 y2 y3 y4 y5
    have HR:Hid (TyI U wr.drew ⟨.slice r1 p.regions.length r3,.slice k1 p.consts.length k3,.slice f1 p.funcs.length f3,.slice t1 p.certs.length t3⟩ ⟨.slice g1 f.params.length g3,.slice g4 f.locals.length g6,.slice g7 f.code.length g9⟩ f (.slice v1 r.blocks.length c1) TB QB GS f.code.length B (2*k+1) RS s):=E.out.keep (below_drew1 _)
    clear E
    have b10:wr.drew.cell? ⟨TB,10,none⟩=some (.slice (some ⟨GS,0,none⟩) f.code.length f.code.length):=HR.out.tb.cell 10
    have b11:wr.drew.cell? ⟨TB,11,none⟩=some (.int .i64 (s.d:Int)):=HR.out.tb.cell 11
    have hTX:¬TB=w.heap.size+1+1:=by have:=HR.out.lo;omega
    have rb:=HE.out.2.2.1.keep HR.out.bel
    obtain⟨q0,q1,q2,q3⟩:=cel4 rb
    obtain⟨fz0,fz1,fz2,fz3⟩:=frz4 rb
    have G:Hid _:=(((rb.set 0 (.int .i64 0)).set 1 (.int .i64 0)).set 2 (.int .i64 (s.d:Int))).set 3 (.slice (some ⟨GS,0,none⟩) f.code.length f.code.length)
    simp only[List.setIfInBounds_toArray,List.set_cons_zero,List.set_cons_succ]at G
    refine wp_region_held_drew (S:=fun w'=>w'.cell? ⟨TB,10,none⟩=some (.slice (some ⟨GS,0,none⟩) f.code.length f.code.length)/\w'.cell? ⟨TB,11,none⟩=some (.int .i64 (s.d:Int))) (by kernel_rfl) ⟨b10,b11⟩ (fun hHeld=> ?_)
    generalize wr.drew=WD at HR hHeld b10 b11 rb q0 q1 q2 q3 fz0 fz1 fz2 fz3 G⊢
    refine wpAnyH_take (i:=0) (v:= ?_) rfl (by kernel_rfl) (by kernel_rfl) (by kernel_rfl) (fun _ _ _ h=>h) (Or.inl ⟨by rfl,?_⟩) (by assumption) ?_
    rotate_left
    . (intro w hSw;(try dsimp only at hSw);go_simp;(try with_reducible rfl))
    refine wpAnyH_take (i:=1) (v:= ?_) rfl (by kernel_rfl) (by kernel_rfl) (by kernel_rfl) (fun _ _ _ h=>h) (Or.inl ⟨by rfl,?_⟩) (by assumption) ?_
    rotate_left
    . (intro w hSw;(try dsimp only at hSw);go_simp;(try with_reducible rfl))
    refine wpAnyH_take (i:=2) (v:= ?_) rfl (by kernel_rfl) (by kernel_rfl) (by kernel_rfl) (fun _ _ _ h=>h) (Or.inl ⟨by rfl,?_⟩) (by assumption) ?_
    rotate_left
    . (intro w hSw;(try dsimp only at hSw);go_simp;(try with_reducible rfl))
    refine wpAnyH_take (i:=3) (v:= ?_) rfl (by kernel_rfl) (by kernel_rfl) (by kernel_rfl) (fun _ _ _ h=>h) (Or.inl ⟨by rfl,?_⟩) (by assumption) ?_
    rotate_left
    . (intro w hSw;(try dsimp only at hSw);go_simp;(try with_reducible rfl))
    refine wpAnyH_take (i:=4) (v:= ?_) rfl (by kernel_rfl) (by kernel_rfl) (by kernel_rfl) (fun _ _ _ h=>h) (Or.inl ⟨by rfl,?_⟩) (by assumption) ?_
    rotate_left
    . (intro w hSw;(try dsimp only at hSw);go_simp;(try with_reducible rfl))
    refine wpAnyH_take (i:=5) (v:= ?_) rfl (by kernel_rfl) (by kernel_rfl) (by kernel_rfl) (fun _ _ _ h=>h) (Or.inl ⟨by rfl,?_⟩) (by assumption) ?_
    rotate_left
    . (intro w hSw;(try dsimp only at hSw);go_simp;(try with_reducible rfl))
    refine wpAnyH_take (i:=6) (v:= ?_) rfl (by kernel_rfl) (by kernel_rfl) (by kernel_rfl) (fun _ _ _ h=>h) (Or.inl ⟨by rfl,?_⟩) (by assumption) ?_
    rotate_left
    . (intro w hSw;(try dsimp only at hSw);go_simp;(try with_reducible rfl))
    refine wpAnyH_take (i:=7) (v:= ?_) rfl (by kernel_rfl) (by kernel_rfl) (by kernel_rfl) (fun _ _ _ h=>h) (Or.inl ⟨by rfl,?_⟩) (by assumption) ?_
    rotate_left
    . (intro w hSw;(try dsimp only at hSw);go_simp;(try with_reducible rfl))
    refine wpAnyH_take (i:=8) (v:= ?_) rfl (by kernel_rfl) (by kernel_rfl) (by kernel_rfl) (fun _ _ _ h=>h) (Or.inl ⟨by rfl,?_⟩) (by assumption) ?_
    rotate_left
    . (intro w hSw;(try dsimp only at hSw);go_simp;(try with_reducible rfl))
    refine wpAnyH_ready (rs:=[9]) (by kernel_rfl) (by simp) ?_
    refine AllReadyH.cons rfl (fun KC hKC=> ?_) AllReadyH.nil
    go_simp
    refine hKC.out _ _ ?_ (fun hHeld=> ?_)
    . constructor
      . repeat rw[World.cell?_setCell_far _ _ _ _ (fun e=>hTX e.symm)]
        exact b10
      . repeat rw[World.cell?_setCell_far _ _ _ _ (fun e=>hTX e.symm)]
        exact b11
    clear hKC KC
    refine wpAnyH_done (by kernel_rfl) ?_ _
    clear hHeld
    clear q0 q1 q2 q3
    obtain⟨q0,q1,q2,q3⟩:=cel4 G.out
    have HT:=HR.out.told (X:=w.heap.size+1+1) (base:=w.heap.size) HE.out.2.2.2.1.size hX2 (.int .i64 0) (.int .i64 0) (.int .i64 (s.d:Int)) (.slice (some ⟨GS,0,none⟩) f.code.length f.code.length)
    have hbl0:=below_on HE.out.2.2.2.1 (Nat.le_refl _) HR.out.bel
    go_wp2_with fail
    refine bodyPost_ret (v:=.agg #[.int .i64 0,.int .i64 0,.int .i64 (s.d:Int),.slice (some ⟨GS,0,none⟩) f.code.length f.code.length]) (by simp[results,Tryz.results37,go_sem,q0,q1,q2,q3]) rfl ?_
    rw[HEND.out]
    exact⟨_,_,rfl,HT.1,HT.2.1,by rw[HT.2.2.1];exact hcl,HT.2.2.2,((((hbl0.setCell (by simp only[];omega) _).setCell (by simp only[];omega) _).setCell (by simp only[];omega) _).setCell (by simp only[];omega) _)⟩
end Go.Proofs.YtdfmdgbolmbffaaGreat
