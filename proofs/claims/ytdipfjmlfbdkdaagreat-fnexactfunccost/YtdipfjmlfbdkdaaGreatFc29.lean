import Derived.Test.YtdipfjmlfbdkdaaGreatFc27
namespace Go.Proofs.YtdipfjmlfbdkdaaGreat
open Go.ChangeShapes Go.WideShapes Go.ChangeAt Go.RowKit
set_option linter.unusedVariables false
set_option maxHeartbeats 4000000
set_option maxRecDepth 100000
def Top(E:Nat->List Nat)(n:Nat)(P:Nat->Bool)(I:List Nat)(f:Nat)(pl:Nat->Nat):Prop:=∀a b x,Da P n a->Da P n b->x∈E b->Da P n x->jf I x≠jf I b->jf I x≠f->jf I x=jf I a->pl b<pl a
structure WQ(E:Nat->List Nat)(n:Nat)(P:Nat->Bool)(I:List Nat)(C:List Int)(f:Nat)(pl:Nat->Nat)(L:List Int)(k q:Nat):Prop where
 len:L.length=n
 cst:∀y∈L,CW y
 hd:cf L f=cf C f
 le:∀t,Pz E (Da P n) (jf I) f (cf C) t->(∀b,Da P n b->0<=t (jf I b))->∀b,Da P n b->cf L (jf I b)<=t (jf I b)
 cl:Top E n P I f pl->∀b x,(pl b<k\/pl b=k/\x∈(E b).take q)->Da P n b->x∈E b->Da P n x->jf I x≠jf I b->jf I x≠f->cf L (jf I b)+cf C (jf I x)<=cf L (jf I x)
section
variable {E:Nat->List Nat} {n:Nat} {P:Nat->Bool} {I:List Nat} {C:List Int} {f:Nat} {pl:Nat->Nat} {L:List Int} {k q b x:Nat}
theorem En(h:∀y∈L,CW y)(c:Nat):CW (cf L c):=by
 unfold cf;rw[aJ];cases e:L[c]? with
 |none=>exact⟨by simp,by simp⟩
 |some y=>exact h y (aE e)
theorem OO(h:x<L.length):L[x]?=some (cf L x):=by
 rw[aA h];exact congrArg some (DI (aA h)).symm
theorem IA{y z:Int}(h:y∈L.set x z):y∈L\/y=z:=dT h
theorem WQ.start(hf:f<n)(hc:CW (cf C f)):WQ E n P I C f pl ((List.replicate n (0:Int)).set f (cf C f)) 0 0:=by
 have h0:(List.replicate n (0:Int))[f]?=some 0:=by rw[List.getElem?_replicate,a8 hf]
 have hz:∀c,cf (List.replicate n (0:Int)) c=0:=fun c=>by
  unfold cf;rw[aJ,List.getElem?_replicate];by_cases e:c<n
  . rw[a8 e];rfl
  . rw[bF e];rfl
 refine⟨by simp,fun y hy=> ?_,by rw[CE h0,a8 rfl],fun t ht hn b hb=> ?_,fun _ b x hp=> ?_⟩
 . rcases IA hy with h|rfl
   . obtain rfl:=(List.mem_replicate.1 h).2
     exact⟨by simp,by simp⟩
   . exact hc
 . rw[CE h0]
   by_cases e:jf I b=f
   . rw[a8 e,e,ht.hd];exact Int.le_refl _
   . rw[bF e,hz];exact hn b hb
 . rcases hp with h|⟨_,h⟩
   . omega
   . simp at h
theorem WQ.skipB(h:WQ E n P I C f pl L k 0)(hb:∀b,b<n->pl b=k->P b=false):WQ E n P I C f pl L (k+1) 0:=
 ⟨h.len,h.cst,h.hd,h.le,fun T b x hp hib=>by
  rcases hp with hp|⟨_,hp⟩
  . by_cases e:pl b=k
    . have:=hb b hib.1 e
      rw[hib.2]at this;cases this
    . exact h.cl T b x (.inl (by omega)) hib
  . simp at hp⟩
theorem WQ.nextB(h:WQ E n P I C f pl L k q)(hb:∀b,b<n->pl b=k->(E b).length<=q):WQ E n P I C f pl L (k+1) 0:=
 ⟨h.len,h.cst,h.hd,h.le,fun T b x hp hib hx=>by
  rcases hp with hp|⟨_,hp⟩
  . by_cases e:pl b=k
    . exact h.cl T b x (.inr ⟨e,by rw[an (hb b hib.1 e)];exact hx⟩) hib hx
    . exact h.cl T b x (.inl (by omega)) hib hx
  . simp at hp⟩
theorem WQ.skipE(h:WQ E n P I C f pl L k q)(hb:∀b',b'<n->pl b'=k->b'=b)(hx:(E b)[q]?=some x)(hn:¬(Da P n x/\jf I x≠jf I b/\jf I x≠f)):WQ E n P I C f pl L k (q+1):=
 ⟨h.len,h.cst,h.hd,h.le,fun T b' y hp hib hy hiy h1 h2=>by
  rcases hp with hp|⟨e,hp⟩
  . exact h.cl T b' y (.inl hp) hib hy hiy h1 h2
  . have:=hb b' hib.1 e
    subst this;rw[List.take_add_one,hx,aU]at hp;rcases hp with hp|hp
    . exact h.cl T b' y (.inr ⟨e,hp⟩) hib hy hiy h1 h2
    . simp at hp
      subst hp;exact absurd ⟨hiy,h1,h2⟩ hn⟩
theorem WQ.over(h:WQ E n P I C f pl L k q)(hb:∀b',b'<n->pl b'=k->b'=b)(hib:Da P n b)(hpb:pl b=k)(hx:(E b)[q]?=some x)(hix:Da P n x)(h1:jf I x≠jf I b)(h2:jf I x≠f)(hj:jf I x<n)(hC:0<=cf C (jf I x))(hs:max (cf L (jf I x)) (cf L (jf I b)+cf C (jf I x))<=4294967295):WQ E n P I C f pl (L.set (jf I x) (max (cf L (jf I x)) (cf L (jf I b)+cf C (jf I x)))) k (q+1):=by
 have hin:=OO (L:=L) (x:=jf I x) (by rw[h.len];exact hj);have hxe:x∈E b:=aE hx;have hc1:=En h.cst (jf I x);refine⟨by simp[h.len],fun y hy=> ?_,by rw[CE hin,bF (Ne.symm h2)];exact h.hd,fun t ht hn b' hb'=> ?_,fun T b' y hp hib' hy hiy g1 g2=> ?_⟩
 . rcases IA hy with e|rfl
   . exact h.cst y e
   . exact⟨by have:=hc1.1;omega,hs⟩
 . rw[CE hin]
   by_cases e:jf I b'=jf I x
   . rw[a8 e,e]
     have i1:=h.le t ht hn b hib;have i2:=ht.ed b x hib hxe hix h1 h2;have i3:=h.le t ht hn x hix;omega
   . rw[bF e];exact h.le t ht hn b' hb'
 . have hold:(pl b'<k\/pl b'=k/\y∈(E b').take q)\/(b'=b/\y=x):=by
    rcases hp with hp|⟨e,hp⟩
    . exact .inl (.inl hp)
    . have e':=hb b' hib'.1 e
      subst e';rw[List.take_add_one,hx,aU]at hp;rcases hp with hp|hp
      . exact .inl (.inr ⟨e,hp⟩)
      . simp at hp
        exact .inr ⟨rfl,hp⟩
   rw[CE hin,CE hin]
   have hne:jf I b'≠jf I x:=fun e=>by
    have:=T b' b x hib' hib hxe hix h1 h2 e.symm;rcases hp with hp|⟨e,_⟩<;>omega
   rw[bF hne];rcases hold with hold|⟨rfl,rfl⟩
   . have:=h.cl T b' y hold hib' hy hiy g1 g2
     by_cases e:jf I y=jf I x
     . rw[a8 e]
       rw[e]at this⊢;omega
     . rw[bF e];exact this
   . rw[a8 rfl]
     omega
theorem WQ.bad(h:WQ E n P I C f pl L k q)(hib:Da P n b)(hx:(E b)[q]?=some x)(hix:Da P n x)(h1:jf I x≠jf I b)(h2:jf I x≠f)(hs:¬max (cf L (jf I x)) (cf L (jf I b)+cf C (jf I x))<=4294967295):∀t,Pz E (Da P n) (jf I) f (cf C) t->(∀b,Da P n b->0<=t (jf I b))->∃b,Da P n b/\4294967295<t (jf I b):=fun t ht hn=>by
 have i1:=h.le t ht hn b hib;have i2:=ht.ed b x hib (aE hx) hix h1 h2;have i3:=En h.cst (jf I x);have i4:=i3.2;exact⟨x,hix,by omega⟩
def QI(E:Nat->List Nat)(n:Nat)(P:Nat->Bool)(I:List Nat)(C:List Int)(f:Nat)(pl:Nat->Nat)(L:List Int)(small:Bool):Prop:=
 (small=true/\∃k,WQ E n P I C f pl L k 0/\∀b,b<n->pl b<k)\/(small=false/\∀t,Pz E (Da P n) (jf I) f (cf C) t->(∀b,Da P n b->0<=t (jf I b))->∃b,Da P n b/\4294967295<t (jf I b))
theorem QI.pass{D:Nat->Nat->Bool}{Dn:Nat->Prop}(g:EF E n pl D)(s:Hf E n D Dn (jf I))(r:NN E n D Dn (jf I) (Da P n) f)(hC:∀c,0<=cf C c)(h:QI E n P I C f pl L true):NL E (Da P n) (jf I) f (cf C) (cf L):=by
 rcases h with⟨_,k,h,hk⟩|⟨e,_⟩
 . have T:Top E n P I f pl:=fun a b x ha hb he hx h1 h2 h3=>r.topo g s ha hb he hx h1 h2 h3
   exact⟨⟨⟨h.hd,fun b x hb he hx h1 h2=>h.cl T b x (.inl (hk b hb.1)) hb he hx h1 h2⟩,fun t ht b hb=>h.le t ht (fun b hb=>ht.nonneg g r hC hb) b hb⟩,fun b hb=>(En h.cst _).2⟩
 . cases e
theorem QI.noPass{D:Nat->Nat->Bool}{Dn:Nat->Prop}(g:EF E n pl D)(r:NN E n D Dn (jf I) (Da P n) f)(hC:∀c,0<=cf C c)(h:QI E n P I C f pl L false):Ho E (Da P n) (jf I) f (cf C):=fun t ht=>by
 rcases h with⟨e,_⟩|⟨_,h⟩
 . cases e
 . exact h t ht fun b hb=>ht.nonneg g r hC hb
end
theorem Jc (v:VP)(p:MP)(w:World)(hs:p.small)(h:Dg w v p)(hfp:Gt w v.f p.funcs):
 Calls Tryz.prog 82 #[.agg #[v.r,v.k,v.f,v.t]] w fun e w'=>Aj e (AY p)/\Below w.heap.size w w':=by
 obtain⟨vr,vk,vf,vt⟩:=v
 have H1:Hid (Rd w 4 vt p.certs.length (p.certs.flatMap MT.cells)/\p.small/\Dg w ⟨vr,vk,vf,vt⟩ p/\Gt w vf p.funcs):=⟨h.certs,hs,h,hfp⟩
 have hn:=hs.certs
 obtain⟨a1,c1,e1⟩:∃a c,vt=.slice a p.certs.length c:=h.certs.is_slice
 subst e1
 clear h hs hfp
 have HI:Hid _:=FQ.of w vr vk vf (.slice a1 p.certs.length c1) 35
 generalize hcs:p.certs.length=n at*
 have HL:Hid (p.certs.length=n):=hcs
 clear hcs
 by_cases q0:64<n
 . have HN:Hid (¬AY p):=fun e=>absurd e.1 (by rw[HL.o];omega)
   have q0':(64:Int)<(n:Int):=by omega
   clear H1
   go_enter Tryz.func82,Tryz.ntmps82
   go_wp2
   go_ret
   exact⟨.no HN.o,HI.o.bel⟩
 have q0':¬(64:Int)<(n:Int):=by omega
 go_enter Tryz.func82,Tryz.ntmps82
 go_wp2
 go_loopw [12] (fun i wr=>∃k:Nat,k<=n/\i=.int .i64 k/\Hid (∀j,j<k->Dr p p.certs j)/\Hid (FQ w wr vr vk vf (.slice a1 n c1))) (fun i _=>n-(intOf i).toNat)
 case atStart=>exact⟨0,by omega,rfl,fun j hj=>by omega,HI⟩
 case round=>
  clear HI
  obtain⟨k,hk,rfl,HT,HI⟩:=hrel
  by_cases hlt:k<n
  . obtain ⟨x,hx⟩:∃x,p.certs[k]?=some x:=⟨_,aA (by rw[HL.o];exact hlt)⟩
    rcases H1.o.1.2 with⟨e0,_⟩|⟨b,o,c,e1,hc1⟩
    . omega
    simp only[aF,aw]at e1
    obtain⟨rfl,rfl⟩:=e1
    have i0:=Rd.elem MT.cells_length hc1 k x hx 0 _ rfl
    have i1:=Rd.elem MT.cells_length hc1 k x hx 1 _ rfl
    have i2:=Rd.elem MT.cells_length hc1 k x hx 2 _ rfl
    have i3:=Rd.elem MT.cells_length hc1 k x hx 3 _ rfl
    rw[<-HI.o.bel.cell (aC i0),aS]at i0
    rw[<-HI.o.bel.cell (aC i1)]at i1
    rw[<-HI.o.bel.cell (aC i2)]at i2
    rw[<-HI.o.bel.cell (aC i3)]at i3
    have HX:Hid (p.certs[k]?=some x):=hx
    have HC:Hid (∀j u,(p.certs.flatMap MT.cells)[j]?=some u->w.cell? ⟨b,o+j,none⟩=some u):=hc1
    clear hc1 hx
    obtain⟨fu,hd,co,ini⟩:=x
    simp only[]at i0 i1 i2 i3
    have nb:¬b=wr.heap.size:=bJ (aC i0)
    have mb:b<wr.heap.size:=aC i0
    have HW0:Hid (Below w.heap.size w (wr.alloc (.cells #[.int .i64 fu,.int .i64 hd,.int .i64 co,.int .u32 ini] 72))/\Cd (wr.alloc (.cells #[.int .i64 fu,.int .i64 hd,.int .i64 co,.int .u32 ini] 72)) w.heap.size vr vk vf (.slice (some ⟨b,o,none⟩) n c1)/\Cd (wr.alloc (.cells #[.int .i64 fu,.int .i64 hd,.int .i64 co,.int .u32 ini] 72)) wr.heap.size (.int .i64 fu) (.int .i64 hd) (.int .i64 co) (.int .u32 ini)):=⟨Ab HI.o.bel lR (Aa _ _),HI.o.prog.alloc _,Cd.new _ _ _ _ _ _⟩
    go_wp2_with fail
    generalize wr.alloc (.cells #[.int .i64 fu,.int .i64 hd,.int .i64 co,.int .u32 ini] 72)=W1 at HW0⊢
    have HW:Hid (Below w.heap.size w W1/\Cd W1 w.heap.size vr vk vf (.slice (some ⟨b,o,none⟩) n c1)/\Cd W1 wr.heap.size (.int .i64 fu) (.int .i64 hd) (.int .i64 co) (.int .u32 ini)):=HW0
    clear HW0 i0 i1 i2 i3 nb mb HI q0'
    obtain⟨p0,p1,p2,p3⟩:=HW.o.2.1
    obtain⟨r0,r1,r2,r3⟩:=HW.o.2.2
    have inst:=Ai.some W1
    have P0:=fun n:Ai W1=>Ai.cell p0 n
    have P1:=fun n:Ai W1=>Ai.cell p1 n
    have P2:=fun n:Ai W1=>Ai.cell p2 n
    have P3:=fun n:Ai W1=>Ai.cell p3 n
    have R0:=fun n:Ai W1=>Ai.cell r0 n
    have R1:=fun n:Ai W1=>Ai.cell r1 n
    have R2:=fun n:Ai W1=>Ai.cell r2 n
    have R3:=fun n:Ai W1=>Ai.cell r3 n
    by_cases hok:C8 p ⟨fu,hd,co,ini⟩
    . have HOK:Hid (C8 p ⟨fu,hd,co,ini⟩):=hok
      clear hok
      by_cases q5:k=0
      . subst q5
        have HA:Hid (Dr p p.certs 0):=fun c hc=>by
         rw[HX.o]at hc
         obtain rfl:=ae hc
         exact⟨HOK.o,fun i d hi=>by omega⟩
        refine At (by kernel_rfl) (by kernel_rfl) ?_
        repeat(go_big_quiet_step ((first|(go_at_call 110;rename_i n';exact(CT ⟨vr,vk,vf,.slice (some ⟨b,o,none⟩) n c1⟩ p fu hd co ini n'.u H1.o.2.1 (H1.o.2.2.1.keep (Ab HW.o.1 lR n'.h) lR) (H1.o.2.2.2.keep (Ab HW.o.1 lR n'.h) lR)).mono fun e w'' h=>⟨h.1.true HOK.o,⟨⟨w'',Ab n'.h lR h.2⟩,rfl⟩⟩))))
        refine wpQuiet_nil ?_
        rintro w'' ⟨n',rfl⟩
        have HI2:Hid (FQ w n'.u vr vk vf (.slice (some ⟨b,o,none⟩) n c1)):=⟨Ab HW.o.1 lR n'.h,HW.o.2.1.keep n'.h⟩
        go_wp2
        go_roundw
        case rel=>exact⟨1,by omega,by go_num,Dw HA.o HT.o,HI2⟩
        case measure=>simp[intOf];omega
      . obtain⟨i,rfl⟩:∃i,k=i+1:=⟨k-1,by omega⟩
        obtain⟨d,hd'⟩:∃d,p.certs[i]?=some d:=⟨_,aA (by rw[HL.o];omega)⟩
        have y0:=Rd.elem MT.cells_length HC.o i d hd' 0 _ rfl
        have y1:=Rd.elem MT.cells_length HC.o i d hd' 1 _ rfl
        have y2:=Rd.elem MT.cells_length HC.o i d hd' 2 _ rfl
        have y3:=Rd.elem MT.cells_length HC.o i d hd' 3 _ rfl
        rw[<-HW.o.1.cell (aC y0),aS]at y0
        rw[<-HW.o.1.cell (aC y1)]at y1
        rw[<-HW.o.1.cell (aC y2)]at y2
        rw[<-HW.o.1.cell (aC y3)]at y3
        obtain⟨dfu,dhd,dco,dini⟩:=d
        simp only[]at y0 y1 y2 y3
        have HD:Hid (p.certs[i]?=some ⟨dfu,dhd,dco,dini⟩):=hd'
        clear hd'
        have Y0:=fun n:Ai W1=>Ai.cell y0 n
        have Y1:=fun n:Ai W1=>Ai.cell y1 n
        have Y2:=fun n:Ai W1=>Ai.cell y2 n
        have Y3:=fun n:Ai W1=>Ai.cell y3 n
        have hki:((i+1:Nat):Int)-1=(i:Int):=by omega
        have hkp:(0:Int)<((i+1:Nat):Int):=by omega
        by_cases hri:Ft ⟨dfu,dhd,dco,dini⟩ ⟨fu,hd,co,ini⟩
        . have HRI:Hid (Ft ⟨dfu,dhd,dco,dini⟩ ⟨fu,hd,co,ini⟩):=hri
          have HA:Hid (Dr p p.certs (i+1)):=fun c hc=>by
           rw[HX.o]at hc
           obtain rfl:=ae hc
           refine⟨HOK.o,fun i' d' hi hd'=> ?_⟩
           obtain rfl:i'=i:=by omega
           rw[HD.o]at hd'
           obtain rfl:=ae hd'
           exact hri
          clear hri
          refine At (by kernel_rfl) (by kernel_rfl) ?_
          repeat(go_big_quiet_step ((first|(go_at_call 110;rename_i n';exact(CT ⟨vr,vk,vf,.slice (some ⟨b,o,none⟩) n c1⟩ p fu hd co ini n'.u H1.o.2.1 (H1.o.2.2.1.keep (Ab HW.o.1 lR n'.h) lR) (H1.o.2.2.2.keep (Ab HW.o.1 lR n'.h) lR)).mono fun e w'' h=>⟨h.1.true HOK.o,⟨⟨w'',Ab n'.h lR h.2⟩,rfl⟩⟩)|(go_at_call 111;rename_i n';exact(JS ⟨dfu,dhd,dco,dini⟩ ⟨fu,hd,co,ini⟩ n'.u).mono fun e w'' h=>⟨h.1.true HRI.o,⟨⟨w'',Ab n'.h lR h.2⟩,rfl⟩⟩))))
          refine wpQuiet_nil ?_
          rintro w'' ⟨n',rfl⟩
          have HI2:Hid (FQ w n'.u vr vk vf (.slice (some ⟨b,o,none⟩) n c1)):=⟨Ab HW.o.1 lR n'.h,HW.o.2.1.keep n'.h⟩
          go_wp2
          go_roundw
          case rel=>exact⟨i+1+1,by omega,by go_num,Dw HA.o HT.o,HI2⟩
          case measure=>simp[intOf];omega
        . have HRI:Hid (¬Ft ⟨dfu,dhd,dco,dini⟩ ⟨fu,hd,co,ini⟩):=hri
          clear hri
          have HN:Hid (¬AY p):=fun e=>by
           exact HRI.o ((e.2 (i+1) (by rw[HL.o];exact hlt) _ HX.o).2 i _ rfl HD.o)
          refine At (by kernel_rfl) (by kernel_rfl) ?_
          repeat(go_big_quiet_step ((first|(go_at_call 110;rename_i n';exact(CT ⟨vr,vk,vf,.slice (some ⟨b,o,none⟩) n c1⟩ p fu hd co ini n'.u H1.o.2.1 (H1.o.2.2.1.keep (Ab HW.o.1 lR n'.h) lR) (H1.o.2.2.2.keep (Ab HW.o.1 lR n'.h) lR)).mono fun e w'' h=>⟨h.1.true HOK.o,⟨⟨w'',Ab n'.h lR h.2⟩,rfl⟩⟩)|(go_at_call 111;rename_i n';exact(JS ⟨dfu,dhd,dco,dini⟩ ⟨fu,hd,co,ini⟩ n'.u).mono fun e w'' h=>⟨h.1.false HRI.o,⟨⟨w'',Ab n'.h lR h.2⟩,rfl⟩⟩))))
          refine wpQuiet_nil ?_
          rintro w'' ⟨n',rfl⟩
          have HI2:Hid (FQ w n'.u vr vk vf (.slice (some ⟨b,o,none⟩) n c1)):=⟨Ab HW.o.1 lR n'.h,HW.o.2.1.keep n'.h⟩
          go_wp2
          go_ret
          exact⟨.no HN.o,HI2.o.bel⟩
    . have HOK:Hid (¬C8 p ⟨fu,hd,co,ini⟩):=hok
      clear hok
      have HN:Hid (¬AY p):=fun e=>by
       exact HOK.o (e.2 k (by rw[HL.o];exact hlt) _ HX.o).1
      refine At (by kernel_rfl) (by kernel_rfl) ?_
      repeat(go_big_quiet_step ((first|(go_at_call 110;rename_i n';exact(CT ⟨vr,vk,vf,.slice (some ⟨b,o,none⟩) n c1⟩ p fu hd co ini n'.u H1.o.2.1 (H1.o.2.2.1.keep (Ab HW.o.1 lR n'.h) lR) (H1.o.2.2.2.keep (Ab HW.o.1 lR n'.h) lR)).mono fun e w'' h=>⟨h.1.false HOK.o,⟨⟨w'',Ab n'.h lR h.2⟩,rfl⟩⟩))))
      refine wpQuiet_nil ?_
      rintro w'' ⟨n',rfl⟩
      have HI2:Hid (FQ w n'.u vr vk vf (.slice (some ⟨b,o,none⟩) n c1)):=⟨Ab HW.o.1 lR n'.h,HW.o.2.1.keep n'.h⟩
      go_wp2
      go_ret
      exact⟨.no HN.o,HI2.o.bel⟩
  . have hkn:n=k:=by omega
    subst hkn
    have HY:Hid (AY p):=⟨by rw[HL.o];omega,by rw[HL.o];exact HT.o⟩
    go_wp2
    go_ret
    exact⟨.yes HY.o,HI.o.bel⟩
def Mf(y:ML×Value×Value):Prop:=(∃a c,y.2.1=.slice a y.1.back.length c)/\∃a c,y.2.2=.slice a y.1.blocks.length c
theorem Lo{ys:List (ML×Value×Value)}(h:∀y∈ys,Mf y):∀u∈ys.flatMap Ba,u.oneCell'=true:=by
 intro u hu;obtain⟨y,hy,hu⟩:=dO.1 hu;obtain⟨⟨a,c,e1⟩,a',c',e2⟩:=h y hy;simp only[Ba,aa,ao,cH]at hu;rcases hu with rfl|rfl|rfl
 . rfl
 . rw[e1];rfl
 . rw[e2];rfl
theorem N5(ty:TypeId)(u:World)(B':Nat)(V:Value)(ys:List (ML×Value×Value))(h:Rd u 3 V ys.length (ys.flatMap Ba))(hS:∀y∈ys,Mf y)(hB:B'<=u.heap.size)(hl:ys.length<=1048576):∃v' w',(Builtin.append_ #[50,50] ty #[.slice (some ⟨u.heap.size,0,none⟩) 0 0,V]).run Tryz.prog (u.alloc (.cells #[] 68))=.ok v' w'/\w'.ownsRow B' 68 3 v' ys.length (ys.flatMap Ba)/\Below u.heap.size u w':=by
 obtain⟨i0,hi,hz0,hz1,hz2⟩:=bQ Kk;have ho:(u.alloc (.cells #[] 68)).ownsRow u.heap.size 68 3 (.slice (some ⟨u.heap.size,0,none⟩) 0 0) 0 []:=⟨rfl,.inr ⟨u.heap.size,0,#[],rfl,Nat.le_refl _,eJ _ _,Nat.le_refl _,dq _,rfl,by simp⟩⟩;obtain⟨a,c,rfl⟩:=Rd.is_slice h;cases a with
 | none=>
   have hz:ys.length=0:=by
    rcases h.2 with⟨e0,_⟩|⟨g,o,c,e1,_⟩
    . exact e0
    . cases e1
   have h0:ys=[]:=dW hz;subst h0;exact⟨_,_,Ht (P:=Tryz.prog) u.heap.size 50 ty 68 i0 3 Tryz.underlying50 hi _ _ _ ho c,AF ho hB,Aa _ _⟩
 | some ad=>
   have hN:∀j v,(ys.flatMap Ba)[j]?=some v->(u.alloc (.cells #[] 68)).cell? (ad.add j)=some v:=fun j v hj=>by
    rcases h.2 with⟨e0,_⟩|⟨g,o,c,e1,hc⟩
    . have:ys=[]:=dW e0
      subst this;simp at hj
    . simp only[aF,aR]at e1
      obtain⟨rfl,_⟩:=e1;have:=hc j v hj;rw[Ej,(Aa u (.cells #[] 68)).cell (aC this)];exact this
   obtain⟨v',w',hr,h2,h3,h4⟩:=run_append_own (P:=Tryz.prog) (u.alloc (.cells #[] 68)) u.heap.size 50 ty 68 i0 (.agg #[.int .i64 0,.slice none 0 0,.slice none 0 0]) 3 56 Tryz.underlying50 hi hz0 hz1 hz2 rfl (by decide) _ 0 [] ho ad ys.length c (ys.flatMap Ba) (by rw[As Ba 3 BG]) hN (Lo hS) (by unfold maxLen;omega) (by omega) (Aa _ _).size;have h5:w'.ownsRow u.heap.size 68 3 v' ys.length (ys.flatMap Ba):=by simpa using h2
   exact⟨_,w',hr,AF h5 hB,(Aa u (.cells #[] 68)).grown h3 (Aa _ _).size (fun j hj=>(ho.lt j hj).1)⟩
theorem KI{ops:Array Oper}{rest:List Oper}{o:Oper}{a:Act}{Q:Exit->Act->World->Prop}(hgd:o.guard=none)(s x:Operand)(ho:o.op=.call {callee:=.builtin .append,args:=#[s,x],argTypes:=#[50,50]})(u:World)(B':Nat)(V:Value)(ys:List (ML×Value×Value))(hs:a.eval s=.slice (some ⟨u.heap.size,0,none⟩) 0 0)(hx:a.eval x=V)(h:Rd u 3 V ys.length (ys.flatMap Ba))(hS:∀y∈ys,Mf y)(hB:B'<=u.heap.size)(hl:ys.length<=1048576)(hK:∀v' w',w'.ownsRow B' 68 3 v' ys.length (ys.flatMap Ba)->Below u.heap.size u w'->wpList Tryz.prog ops Q rest (a.put o.dst v') w'):wpList Tryz.prog ops Q (o::rest) a (u.alloc (.cells #[] 68)):=
 wpList_plain hgd fun _ hK'=>by
  obtain⟨v',w',hr,h1,h2⟩:=N5 o.type u B' V ys h hS hB hl;exact Lib.wp_append_run _ s x 50 50 ho _ _ hs hx v' w' hr (hK' _ _ (hK v' w' h1 h2))
structure Fj(w u:World)(V:Value)(n:Nat)(ys zs:List (ML×Value×Value)):Prop where
 own:u.ownsRow w.heap.size 68 3 V n (zs.flatMap Ba)
 len:zs.length=n
 sub:∀z∈zs,z∈ys
 bel:Below w.heap.size w u
theorem Fj.at_{w u:World}{g n c:Nat}{ys zs:List (ML×Value×Value)}(h:Fj w u (.slice (some ⟨g,0,none⟩) n c) n ys zs)(hS:∀y∈ys,Mf y){k:Nat}(hk:k<n):∃z a b d e,zs[k]?=some z/\z∈ys/\z.2.1=.slice a z.1.back.length b/\z.2.2=.slice d z.1.blocks.length e/\u.cell? ⟨g,k*3,none⟩=some (.int .i64 z.1.head)/\u.cell? ⟨g,k*3+1,none⟩=some (.slice a z.1.back.length b)/\u.cell? ⟨g,k*3+2,none⟩=some (.slice d z.1.blocks.length e):=by
 have hk':k<zs.length:=by rw[h.len];exact hk
 have hz:zs[k]?=some zs[k]:=aA hk';have hm:=h.sub _ (bq hk');obtain⟨⟨a,b,e1⟩,d,e,e2⟩:=hS _ hm;rcases(Rd.of_own h.own).2 with⟨e0,_⟩|⟨g',o',c',e0,hc⟩
 . omega
 . simp only[aF,aR,cR,aw,cw]at e0
   obtain⟨⟨rfl,rfl⟩,rfl⟩:=e0;have q0:=Rd.elem BG hc k _ hz 0 _ rfl;have q1:=Rd.elem BG hc k _ hz 1 _ rfl;have q2:=Rd.elem BG hc k _ hz 2 _ rfl;rw[e1]at q1;rw[e2]at q2;simp only[bt,aS]at q0 q1 q2;exact⟨_,a,b,d,e,hz,hm,e1,e2,q0,q1,q2⟩
theorem Fj.keep{w u u':World}{V:Value}{n:Nat}{ys zs:List (ML×Value×Value)}(h:Fj w u V n ys zs)(hb:Below u.heap.size u u'):Fj w u' V n ys zs:=⟨Ag h.own hb lR,h.len,h.sub,Ab h.bel lR hb⟩
theorem P8{zs:List (ML×Value×Value)}{k:Nat}{z:ML×Value×Value}:(((zs.flatMap Ba).set (k*3) (.int .i64 z.1.head)).set (k*3+1) z.2.1).set (k*3+2) z.2.2=(zs.set k z).flatMap Ba:=by
 induction zs generalizing k with
 |nil=>rfl
 | cons y r ih=>
   cases k with
   |zero=>rfl
   | succ k=>
     rw[bj,bT,bT,<-ih,show(k+1)*3=k*3+1+1+1 by omega];rfl
theorem Fj.put3{w U:World}{g n c k:Nat}{ys zs:List (ML×Value×Value)}(h:Fj w U (.slice (some ⟨g,0,none⟩) n c) n ys zs){z:ML×Value×Value}(hz:z∈ys){v1 v2:Value}(h1:z.2.1=v1)(h2:z.2.2=v2):Fj w (((U.setCell ⟨g,k*3,none⟩ (.int .i64 z.1.head)).setCell ⟨g,k*3+1,none⟩ v1).setCell ⟨g,k*3+2,none⟩ v2) (.slice (some ⟨g,0,none⟩) n c) n ys (zs.set k z):=by
 subst h1 h2;have hg:=(Am h.own).1;have s1:=(cT h.own (k*3) (.int .i64 z.1.head)).1;have s2:=(cT s1 (k*3+1) z.2.1).1;have s3:=(cT s2 (k*3+2) z.2.2).1;rw[P8]at s3;refine⟨s3,by rw[dZ];exact h.len,fun y hy=> ?_,((h.bel.setCell hg _).setCell hg _).setCell hg _⟩;rcases dT hy with e|e
 . exact h.sub y e
 . subst e
   exact hz
theorem Fj.cells2{w U:World}{g n c q r:Nat}{ys zs:List (ML×Value×Value)}(h:Fj w U (.slice (some ⟨g,0,none⟩) n c) n ys zs)(hS:∀y∈ys,Mf y)(hq:q<n)(hr:r<n){z1 z2:ML×Value×Value}{a1 a2 d1 d2:Option Addr}{b1 b2 e1 e2:Nat}(hz1:zs[q]?=some z1)(hz2:zs[r]?=some z2)(f1:z1.2.1=.slice a1 z1.1.back.length b1)(f2:z1.2.2=.slice d1 z1.1.blocks.length e1)(f3:z2.2.1=.slice a2 z2.1.back.length b2)(f4:z2.2.2=.slice d2 z2.1.blocks.length e2):U.cell? ⟨g,q*3,none⟩=some (.int .i64 z1.1.head)/\U.cell? ⟨g,q*3+1,none⟩=some (.slice a1 z1.1.back.length b1)/\U.cell? ⟨g,q*3+2,none⟩=some (.slice d1 z1.1.blocks.length e1)/\U.cell? ⟨g,r*3,none⟩=some (.int .i64 z2.1.head)/\U.cell? ⟨g,r*3+1,none⟩=some (.slice a2 z2.1.back.length b2)/\U.cell? ⟨g,r*3+2,none⟩=some (.slice d2 z2.1.blocks.length e2):=by
 obtain⟨y1,_,_,_,_,k1,_,k2,k3,k4,k5,k6⟩:=h.at_ hS hq;obtain⟨y2,_,_,_,_,l1,_,l2,l3,l4,l5,l6⟩:=h.at_ hS hr;rw[hz1]at k1;rw[hz2]at l1;cases k1
 cases l1
 rw[f1]at k2;rw[f2]at k3;rw[f3]at l2;rw[f4]at l3;cases k2
 cases k3
 cases l2
 cases l3
 exact⟨k4,k5,k6,l4,l5,l6⟩
end Go.Proofs.YtdipfjmlfbdkdaaGreat
