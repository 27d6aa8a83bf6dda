import Derived.Test.YtjcamlobelcepaaGreatDoorCt37
namespace Go.Proofs.YtjcamlobelcepaaGreatDoor
open Go.ChangeShapes Go.WideShapes Go.ChangeAt Go.RowKit
set_option linter.unusedVariables false
set_option maxHeartbeats 8000000
set_option maxRecDepth 100000
theorem Tj{I:List Nat}{k y:Nat}:(nv I).set k (iZ (y:Int))=nv (I.set k y):=by
 unfold nv;rw[List.map_set]
theorem Gr.setI{w u:World}{G n:Nat}{x:GV}{bad:Bool}{I:List Nat}{C:List Int}(h:Gr w u G n x bad I C)(k:Nat){y:Nat}(hy:y<n):Gr w (u.setCell ⟨x.gi,k,none⟩ (iZ (y:Int))) G n x bad (I.set k y) C:=by
 have hs:=(cP h.is_ k (iZ (y:Int))).1;rw[Tj]at hs
 have hib:∀z∈I.set k y,z<n:=fun z hz=>by
  rcases dR hz with e|e
  . exact h.ib z e
  . subst e
    exact hy
 exact{h with blk:=h.blk.other (a:=⟨x.gi,k,none⟩) (fun e=>h.gi_ne.1 e.symm) _,is_:=hs,cost:=BU h.cost h.ne.symm,bel:=h.bel.setCell (AF h.is_).1 _,il:=by rw[cg];exact h.il,ib:=hib}
theorem Gr.setC{w u:World}{G n:Nat}{x:GV}{bad:Bool}{I:List Nat}{C:List Int}(h:Gr w u G n x bad I C)(k:Nat){y:Int}(hy:Kd y):Gr w (u.setCell ⟨x.gc,k,none⟩ (iZ y)) G n x bad I (C.set k y):=by
 have hs:=(cP h.cost k (iZ y)).1;rw[LE]at hs;exact{h with blk:=h.blk.other (a:=⟨x.gc,k,none⟩) (fun e=>h.gi_ne.2 e.symm) _,is_:=BU h.is_ h.ne,cost:=hs,bel:=h.bel.setCell (AF h.cost).1 _,cl:=by rw[cg];exact h.cl,cb:=I5 h.cb hy}
structure Bx(w u0 u:World)(G:Nat)(x:GV)(X hd:Nat)(vb vk:Value):Prop where
 blk:Ap u X #[iZ (hd:Int),vb,vk] 171
 lo:w.heap.size<=X
 up:u0.heap.size<=X
 fr:∀b,b<u0.heap.size->b≠G->b≠x.gi->b≠x.gc->u.heap[b]?=u0.heap[b]?
theorem Bx.keep{w u0 u u':World}{G X hd:Nat}{x:GV}{vb vk:Value}(h:Bx w u0 u G x X hd vb vk)(hb:Below u.heap.size u u'):Bx w u0 u' G x X hd vb vk:=⟨h.blk.keep hb,h.lo,h.up,fun b h1 h2 h3 h4=>by have:=h.blk.lt;have:=h.up;rw[hb.block b (by omega)];exact h.fr b h1 h2 h3 h4⟩
theorem Bx.cells{w u0 u:World}{G X hd:Nat}{x:GV}{vb vk:Value}(h:Bx w u0 u G x X hd vb vk):u.cell? ⟨X,0,none⟩=some (iZ (hd:Int))/\u.cell? ⟨X,1,none⟩=some vb/\u.cell? ⟨X,2,none⟩=some vk:=⟨by rw[h.blk.cell];rfl,by rw[h.blk.cell];rfl,by rw[h.blk.cell];rfl⟩
theorem Bx.row{w u0 u:World}{G X hd B g k n c i:Nat}{x:GV}{e:TypeId}{xs:List Value}{z vb vk:Value}(h:Bx w u0 u G x X hd vb vk)(ho:u.ownsRow B e k (sG g n c) n xs)(hne:e≠171)(hg:u0.heap.size<=g\/g=x.gi\/g=x.gc):Bx w u0 (u.setCell ⟨g,i,none⟩ z) G x X hd vb vk:=by
 refine⟨h.blk.other (a:=⟨g,i,none⟩) (fun e'=> ?_) _,h.lo,h.up,fun b h1 h2 h3 h4=> ?_⟩
 . obtain⟨_,cur,e1⟩:=AF ho
   have e3:=h.blk;unfold Ap at e3;have e4:X=g:=e';rw[<-e4,e3]at e1;injection e1 with e1
   injection e1 with _ e1
   exact hne e1.symm
 . rw[bI u ⟨g,i,none⟩ b _ (by show b≠g;rcases hg with q|q|q<;>omega)]
   exact h.fr b h1 h2 h3 h4
theorem Bx.ne{w u0 u:World}{X hd G n:Nat}{vb vk:Value}{x:GV}{bad:Bool}{I:List Nat}{C:List Int}(h:Bx w u0 u G x X hd vb vk)(hg:Gr w u G n x bad I C):X≠G:=fun e=>by
 have e1:=h.blk;have e2:=hg.blk;unfold Ap at e1 e2;rw[e,e2]at e1;injection e1 with e1
 injection e1 with _ e1
 exact absurd e1 (by decide)
theorem Bx.bad_{w u0 u:World}{X hd G n:Nat}{vb vk:Value}{x:GV}{bad:Bool}{I:List Nat}{C:List Int}(h:Bx w u0 u G x X hd vb vk)(hg:Gr w u G n x bad I C):Bx w u0 (u.setCell ⟨G,8,none⟩ (.bool true)) G x X hd vb vk:=⟨h.blk.other (a:=⟨G,8,none⟩) (h.ne hg) _,h.lo,h.up,fun b h1 h2 h3 h4=>by rw[bI u ⟨G,8,none⟩ b _ h2];exact h.fr b h1 h2 h3 h4⟩
theorem Rc(n:Nat):(madeCells (Value.bool false).cells (n*1)).toList=bv (fun _=>false) n:=by rw[Dj,GD]
theorem Nr{u:World}{B g n c k:Nat}{P:Nat->Bool}{b:Bool}(h:u.ownsRow B 4 1 (sG g n c) n (bv P n)):(u.setCell ⟨g,k,none⟩ (.bool b)).ownsRow B 4 1 (sG g n c) n (bv (fun j=>if j=k then b else P j) n):=by
 have:=(cP h k (.bool b)).1;rw[Qq (Q:=fun j=>if j=k then b else P j) (fun j _=>rfl)]at this;exact this
theorem JQ (w u:World)(G n:Nat)(x:GV)(bad:Bool)(I:List Nat)(C:List Int)(E:Nat->List Nat)(O:List Nat)(hd:Nat)(vb vk:Value)(Bk:List Int)(Ks:List Nat)(t:Int)(h0:n<=1048576)(hh:hd<n)(ht:Kd t)(h:Gr w u G n x bad I C)(hF:GF w n x E O)(hB:Rd w 1 vb Bk.length (Bk.flatMap Ac))(hBl:Bk.length<=1048576)(hK:KP w vk Ks)(hKl:Ks.length<=1048576)(hKb:∀y∈Ks,y<n):
 Calls Tryz.prog 138 #[.pointer (some ⟨G,0,none⟩),.agg #[iZ (hd:Int),vb,vk],iZ t] u fun e u'=>e=.returned (.tuple #[])/\∃bad' I' C',Gr w u' G n x bad' I' C'/\∀b,b<u.heap.size->b≠G->b≠x.gi->b≠x.gc->u'.heap[b]?=u.heap[b]?:=by
 obtain⟨j0,hj,hy0,hy1,hy2⟩:=bJ Dv;obtain⟨ab,cb,eb⟩:=Rd.is_slice hB;obtain⟨ak,ck,ek⟩:=Rd.is_slice hK;subst eb ek;have H:Hid (GF w n x E O/\Rd w 1 (.slice ab Bk.length cb) Bk.length (Bk.flatMap Ac)/\Bk.length<=1048576/\KP w (.slice ak Ks.length ck) Ks/\∀y∈Ks,y<n):=⟨hF,hB,hBl,hK,hKb⟩
 have E0:Hid (Gr w (u.alloc (.cells #[iZ (hd:Int),.slice ab Bk.length cb,.slice ak Ks.length ck] 171)) G n x bad I C/\Bx w u (u.alloc (.cells #[iZ (hd:Int),.slice ab Bk.length cb,.slice ak Ks.length ck] 171)) G x u.heap.size hd (.slice ab Bk.length cb) (.slice ak Ks.length ck)):=⟨h.keep (Aa _ _),Ap.new _ _ _,h.bel.size,Nat.le_refl _,fun b hb _ _ _=>(Aa _ _).block b hb⟩
 go_enter Tryz.func138,Tryz.ntmps138;go_upto_region 1 with fail
 generalize u.heap.size=X at E0⊢;refine An (fun U=>Hid (Gr w U G n x bad I C/\Bx w u U G x X hd (.slice ab Bk.length cb) (.slice ak Ks.length ck))) E0 ?_
 rintro U E0;obtain⟨p2,p3,p6,p7,p8,z8⟩:=E0.o.1.cells;obtain⟨x0,x1,x2⟩:=E0.o.2.cells;have hsz:=E0.o.1.bel.size;go_wp2_with (at_make;refine bu _ rfl _ _ 159 rfl w.heap.size 4 j0 (.bool false) 1 Tryz.underlying159 hj hy0 hy1 .i64 .i64 _ _ n rfl rfl rfl rfl (by rw[hy2];omega) (by unfold maxLen;omega) hsz ?_;intro w3 hown hgrow;rw[Rc]at hown);have hb3:Below U.heap.size U w3:=(aq _ _).grown hgrow lR (fun k hk=>by cases hk);have E1:Hid (Gr w w3 G n x bad I C/\Bx w u w3 G x X hd (.slice ab Bk.length cb) (.slice ak Ks.length ck)/\∃P,w3.ownsRow w.heap.size 4 1 (sG U.heap.size n n) n (bv P n)):=⟨E0.o.1.keep hb3,E0.o.2.keep hb3,_,hown⟩
 have HGn:Hid (u.heap.size<=U.heap.size):=by have:=E0.o.2.blk.lt;have:=E0.o.2.up;show u.heap.size<=U.heap.size;omega
 generalize U.heap.size=gn at E1 HGn⊢;go_loopw [8] (fun i wr=>∃(k:Nat),k<=Ks.length/\i=iZ k/\Hid (Gr w wr G n x bad I C/\Bx w u wr G x X hd (.slice ab Bk.length cb) (.slice ak Ks.length ck)/\∃P,wr.ownsRow w.heap.size 4 1 (sG gn n n) n (bv P n))) (fun i _=>Ks.length-(intOf i).toNat)
 case atStart=>exact⟨0,by omega,rfl,E1⟩
 case round =>
  obtain⟨k,hk',rfl,E1⟩:=hrel;obtain⟨x0,x1,x2⟩:=E1.o.2.1.cells;by_cases hlt:k<Ks.length
  . have hltI:(k:Int)<(Ks.length:Int):=by omega
    obtain⟨P,hP⟩:=E1.o.2.2;obtain⟨ga,oa,ea,_,e0'⟩:=H.o.2.2.2.1.at_ (aA hlt);have e0:=Ad E1.o.1.bel e0';have hto:Ks[k]<n:=H.o.2.2.2.2 _ (be hlt);subst ea;generalize Ks[k]=z at hto e0;have htoI:(z:Int)<(n:Int):=by omega
    have c0:=bF hP z (by omega);rw[JA _ _ _ hto]at c0;have z0:=hP.frozenAt z
    have E2:Hid (Gr w (wr.setCell ⟨gn,z,none⟩ (.bool true)) G n x bad I C/\Bx w u (wr.setCell ⟨gn,z,none⟩ (.bool true)) G x X hd (.slice ab Bk.length cb) (sO ga oa Ks.length ck)/\∃P,(wr.setCell ⟨gn,z,none⟩ (.bool true)).ownsRow w.heap.size 4 1 (sG gn n n) n (bv P n)):=by
     obtain⟨_,cur,e1⟩:=AF hP;obtain⟨_,c2,e2⟩:=AF E1.o.1.is_;obtain⟨_,c3,e3⟩:=AF E1.o.1.cost;have e4:=E1.o.1.blk;unfold Ap at e4;refine⟨E1.o.1.other (AF hP).1 (fun q=> ?_) (fun q=> ?_) (fun q=> ?_),E1.o.2.1.row hP (by decide) (.inl HGn.o),_,Nr hP⟩
     . rw[q,e4]at e1
       cases e1
     . rw[q,e2]at e1
       cases e1
     . rw[q,e3]at e1
       cases e1
    go_wp2_with fail
    go_roundw
    case rel=>exact⟨k+1,by omega,by go_num,E2⟩
    case measure=>simp[intOf];omega
  . go_wp2_with fail
    obtain⟨P,hP⟩:=E1.o.2.2;refine(JR w wr G n x bad I C E O gn n hd P h0 hh E1.o.1 H.o.1 hP).mono ?_;rintro e u2 ⟨gB,bad2,L,rfl,hW⟩
    have E2:Hid (Wy w wr u2 G n x bad2 I C gn n P gB L/\Bx w u u2 G x X hd (.slice ab Bk.length cb) (.slice ak Ks.length ck)):=by
     refine⟨hW,?_,E1.o.2.1.lo,E1.o.2.1.up,fun b h1 h2 h3 h4=>by have:=E1.o.2.1.blk.lt;have:=E1.o.2.1.up;rw[hW.fr b (by omega) h2];exact E1.o.2.1.fr b h1 h2 h3 h4⟩;have q:=E1.o.2.1.blk;have q2:=hW.fr X q.lt (E1.o.2.1.ne E1.o.1);unfold Ap at q⊢;rw[q2,q]
    go_wp2_with fail
    have HBk:Hid (Rd u2 1 (.slice ab Bk.length cb) Bk.length (Bk.flatMap Ac)/\Bk.length<=1048576):=⟨Rd.keep H.o.2.1 E2.o.1.gr.bel lR,H.o.2.2.1⟩
    go_loopw [10,11,12,13,14,15,16] (fun a o i _ _ _ _ wr=>∃(k:Nat) (a0 o0:Int),k<=Ks.length/\a=iZ a0/\o=iZ o0/\i=iZ k/\wr=u2/\Hid (Kd a0/\Kd o0)) (fun _ _ i _ _ _ _ _=>Ks.length-(intOf i).toNat)
    case atStart=>exact⟨0,0,0,by omega,rfl,rfl,rfl,rfl,⟨by omega,by omega⟩,by omega,by omega⟩
    case round=>
     obtain⟨k,a0,o0,hk',rfl,rfl,rfl,rfl,HA⟩:=hrel;obtain⟨x0,x1,x2⟩:=E2.o.2.cells;obtain⟨p2,p3,p6,p7,p8,z8⟩:=E2.o.1.gr.cells;by_cases hlt:k<Ks.length
     . have hltI:(k:Int)<(Ks.length:Int):=by omega
       obtain⟨ga,oa,ea,_,e0'⟩:=H.o.2.2.2.1.at_ (aA hlt);have e0:=Ad E2.o.1.gr.bel e0';have hto:Ks[k]<n:=H.o.2.2.2.2 _ (be hlt);subst ea;generalize Ks[k]=z at hto e0;have htoI:(z:Int)<(n:Int):=by omega
       obtain⟨r,hr,hrk,i0⟩:=E2.o.1.gr.isAt hto;have hrI:(r:Int)<(n:Int):=by omega
       obtain⟨c,_,hc,b0,_⟩:=E2.o.1.at_ hrk;obtain⟨ax,cx,g0',hrr⟩:=H.o.1.gr z hto;have g0:=Ad E2.o.1.gr.bel g0';have HE:Hid (KP wr (.slice ax (E z).length cx) (E z)/\∀y∈E z,y<n):=⟨hrr.keep E2.o.1.gr.bel,H.o.1.eb z hto⟩
       have hE2:=H.o.1.sz z;generalize E z=eb at HE g0 hE2;go_wp2_with fail
       refine(Dx _ Bk (z:Int) wr HBk.o.2 HBk.o.1).mono ?_;rintro e u3 ⟨⟨bb,rfl,hq0⟩,rfl⟩;clear hq0;by_cases hca:c>a0
       . cases bb
         . skip
           go_wp2_with fail
           go_loopw [11,16] (fun o j wr=>∃(q:Nat) (o0:Int),q<=eb.length/\o=iZ o0/\j=iZ q/\wr=u3/\Hid (Kd o0)) (fun _ j _=>eb.length-(intOf j).toNat)
           case atStart=>exact⟨0,o0,by omega,rfl,rfl,rfl,HA.o.2⟩
           case round=>
            obtain⟨q,o1,hq,rfl,rfl,rfl,HO⟩:=hrel;by_cases hlq:q<eb.length
            case neg=>
             go_wp2_with fail
             go_roundw
             case rel=>exact⟨k+1,a0,o1,by omega,by trivial,by trivial,by go_num,by trivial,⟨HA.o.1.1,HA.o.1.2⟩,HO.o⟩
             case measure=>simp[intOf];omega
            have hlqI:(q:Int)<(eb.length:Int):=by omega
            obtain⟨gx,ox,ex,_,v0⟩:=HE.o.1.at_ (aA hlq);have hto2:eb[q]<n:=HE.o.2 _ (be hlq);subst ex;generalize eb[q]=y at hto2 v0;have hto2I:(y:Int)<(n:Int):=by omega
            have n1:=E2.o.1.inAt hto2;cases hPy:P y
            case true=>
             rw[hPy]at n1;go_wp2_with fail
             go_roundw
             case rel=>exact⟨q+1,o1,by omega,by trivial,by go_num,by trivial,HO⟩
             case measure=>simp[intOf];omega
            rw[hPy]at n1;by_cases hco:c>o1
            . go_wp2_with fail
              go_roundw
              case rel=>exact⟨q+1,c,by omega,by trivial,by go_num,by trivial,by have:=HO.o.1;omega,hc.2⟩
              case measure=>simp[intOf];omega
            . go_wp2_with fail
              go_roundw
              case rel=>exact⟨q+1,o1,by omega,by trivial,by go_num,by trivial,HO⟩
              case measure=>simp[intOf];omega
         . skip
           go_wp2_with fail
           go_loopw [11,16] (fun o j wr=>∃(q:Nat) (o0:Int),q<=eb.length/\o=iZ o0/\j=iZ q/\wr=u3/\Hid (Kd o0)) (fun _ j _=>eb.length-(intOf j).toNat)
           case atStart=>exact⟨0,o0,by omega,rfl,rfl,rfl,HA.o.2⟩
           case round=>
            obtain⟨q,o1,hq,rfl,rfl,rfl,HO⟩:=hrel;by_cases hlq:q<eb.length
            case neg=>
             go_wp2_with fail
             go_roundw
             case rel=>exact⟨k+1,c,o1,by omega,by trivial,by trivial,by go_num,by trivial,⟨by have:=HA.o.1.1;omega,hc.2⟩,HO.o⟩
             case measure=>simp[intOf];omega
            have hlqI:(q:Int)<(eb.length:Int):=by omega
            obtain⟨gx,ox,ex,_,v0⟩:=HE.o.1.at_ (aA hlq);have hto2:eb[q]<n:=HE.o.2 _ (be hlq);subst ex;generalize eb[q]=y at hto2 v0;have hto2I:(y:Int)<(n:Int):=by omega
            have n1:=E2.o.1.inAt hto2;cases hPy:P y
            case true=>
             rw[hPy]at n1;go_wp2_with fail
             go_roundw
             case rel=>exact⟨q+1,o1,by omega,by trivial,by go_num,by trivial,HO⟩
             case measure=>simp[intOf];omega
            rw[hPy]at n1;by_cases hco:c>o1
            . go_wp2_with fail
              go_roundw
              case rel=>exact⟨q+1,c,by omega,by trivial,by go_num,by trivial,by have:=HO.o.1;omega,hc.2⟩
              case measure=>simp[intOf];omega
            . go_wp2_with fail
              go_roundw
              case rel=>exact⟨q+1,o1,by omega,by trivial,by go_num,by trivial,HO⟩
              case measure=>simp[intOf];omega
       . cases bb
         . skip
           go_wp2_with fail
           go_loopw [11,16] (fun o j wr=>∃(q:Nat) (o0:Int),q<=eb.length/\o=iZ o0/\j=iZ q/\wr=u3/\Hid (Kd o0)) (fun _ j _=>eb.length-(intOf j).toNat)
           case atStart=>exact⟨0,o0,by omega,rfl,rfl,rfl,HA.o.2⟩
           case round=>
            obtain⟨q,o1,hq,rfl,rfl,rfl,HO⟩:=hrel;by_cases hlq:q<eb.length
            case neg=>
             go_wp2_with fail
             go_roundw
             case rel=>exact⟨k+1,a0,o1,by omega,by trivial,by trivial,by go_num,by trivial,⟨HA.o.1.1,HA.o.1.2⟩,HO.o⟩
             case measure=>simp[intOf];omega
            have hlqI:(q:Int)<(eb.length:Int):=by omega
            obtain⟨gx,ox,ex,_,v0⟩:=HE.o.1.at_ (aA hlq);have hto2:eb[q]<n:=HE.o.2 _ (be hlq);subst ex;generalize eb[q]=y at hto2 v0;have hto2I:(y:Int)<(n:Int):=by omega
            have n1:=E2.o.1.inAt hto2;cases hPy:P y
            case true=>
             rw[hPy]at n1;go_wp2_with fail
             go_roundw
             case rel=>exact⟨q+1,o1,by omega,by trivial,by go_num,by trivial,HO⟩
             case measure=>simp[intOf];omega
            rw[hPy]at n1;by_cases hco:c>o1
            . go_wp2_with fail
              go_roundw
              case rel=>exact⟨q+1,c,by omega,by trivial,by go_num,by trivial,by have:=HO.o.1;omega,hc.2⟩
              case measure=>simp[intOf];omega
            . go_wp2_with fail
              go_roundw
              case rel=>exact⟨q+1,o1,by omega,by trivial,by go_num,by trivial,HO⟩
              case measure=>simp[intOf];omega
         . skip
           go_wp2_with fail
           go_loopw [11,16] (fun o j wr=>∃(q:Nat) (o0:Int),q<=eb.length/\o=iZ o0/\j=iZ q/\wr=u3/\Hid (Kd o0)) (fun _ j _=>eb.length-(intOf j).toNat)
           case atStart=>exact⟨0,o0,by omega,rfl,rfl,rfl,HA.o.2⟩
           case round=>
            obtain⟨q,o1,hq,rfl,rfl,rfl,HO⟩:=hrel;by_cases hlq:q<eb.length
            case neg=>
             go_wp2_with fail
             go_roundw
             case rel=>exact⟨k+1,a0,o1,by omega,by trivial,by trivial,by go_num,by trivial,⟨HA.o.1.1,HA.o.1.2⟩,HO.o⟩
             case measure=>simp[intOf];omega
            have hlqI:(q:Int)<(eb.length:Int):=by omega
            obtain⟨gx,ox,ex,_,v0⟩:=HE.o.1.at_ (aA hlq);have hto2:eb[q]<n:=HE.o.2 _ (be hlq);subst ex;generalize eb[q]=y at hto2 v0;have hto2I:(y:Int)<(n:Int):=by omega
            have n1:=E2.o.1.inAt hto2;cases hPy:P y
            case true=>
             rw[hPy]at n1;go_wp2_with fail
             go_roundw
             case rel=>exact⟨q+1,o1,by omega,by trivial,by go_num,by trivial,HO⟩
             case measure=>simp[intOf];omega
            rw[hPy]at n1;by_cases hco:c>o1
            . go_wp2_with fail
              go_roundw
              case rel=>exact⟨q+1,c,by omega,by trivial,by go_num,by trivial,by have:=HO.o.1;omega,hc.2⟩
              case measure=>simp[intOf];omega
            . go_wp2_with fail
              go_roundw
              case rel=>exact⟨q+1,o1,by omega,by trivial,by go_num,by trivial,HO⟩
              case measure=>simp[intOf];omega
     . obtain⟨⟨a1,a2⟩,⟨o1,o2⟩⟩:=HA.o
       obtain⟨t1,t2⟩:=ht;by_cases ha0:a0>0
       case neg=>
        obtain rfl:a0=0:=by omega
        go_wp2_with fail
        refine(Fj G 0 o0 _ wr ⟨by omega,by omega⟩ ⟨o1,o2⟩ E2.o.1.gr.cells.2.2.2.2.1 E2.o.1.gr.cells.2.2.2.2.2).mono ?_;rintro e u4 ⟨tt,rfl,htt,hU⟩
        have E3:Hid (∃bd I',Gr w u4 G n x bd I' C/\Bx w u u4 G x X hd (.slice ab Bk.length cb) (.slice ak Ks.length ck)):=by
         rcases hU with rfl|rfl
         . exact⟨_,_,E2.o.1.gr,E2.o.2⟩
         . exact⟨_,_,E2.o.1.gr.bad_,E2.o.2.bad_ E2.o.1.gr⟩
        go_wp2_with fail
        go_loopw [18] (fun i wr=>∃k:Nat,k<=Ks.length/\i=iZ k/\Hid (∃bd I',Gr w wr G n x bd I' C/\Bx w u wr G x X hd (.slice ab Bk.length cb) (.slice ak Ks.length ck))) (fun i _=>Ks.length-(intOf i).toNat)
        case atStart=>exact⟨0,by omega,rfl,E3.o⟩
        case round=>
         obtain⟨k,hk',rfl,E4⟩:=hrel;obtain⟨bd,I2,hg4,hx4⟩:=E4.o;have E5:Hid (Gr w wr G n x bd I2 C/\Bx w u wr G x X hd (.slice ab Bk.length cb) (.slice ak Ks.length ck)):=⟨hg4,hx4⟩
         obtain⟨x0,x1,x2⟩:=E5.o.2.cells;by_cases hlt:k<Ks.length
         . have hltI:(k:Int)<(Ks.length:Int):=by omega
           obtain⟨ga,oa,ea,_,e0⟩:=H.o.2.2.2.1.at_ (aA hlt);have hto:Ks[k]<n:=H.o.2.2.2.2 _ (be hlt);subst ea;generalize Ks[k]=z at hto e0;have htoI:(z:Int)<(n:Int):=by omega
           have HC:Hid (∀(W:World) (bd:Bool) (I':List Nat),Gr w W G n x bd I' C/\Bx w u W G x X hd (.slice ab Bk.length cb) (sO ga oa Ks.length ck)->W.cell? ⟨G,6,none⟩=some (sG x.gi n x.ci)/\W.cell? ⟨X,2,none⟩=some (sO ga oa Ks.length ck)/\W.cell? ⟨ga,oa+k,none⟩=some (iZ (z:Int))/\W.cell? ⟨X,0,none⟩=some (iZ (hd:Int))):=fun W bd I' hW=>⟨hW.1.cells.2.2.1,hW.2.cells.2.2,Ad hW.1.bel e0,hW.2.cells.1⟩
           go_upto_region 30 with fail
           have ED:Hid (Gr w wr.drew G n x bd I2 C/\Bx w u wr.drew G x X hd (.slice ab Bk.length cb) (sO ga oa Ks.length ck)):=⟨E5.o.1.keep (Ae _),E5.o.2.keep (Ae _)⟩
           refine wp_region_held_drew (S:=fun W=>W.cell? ⟨G,6,none⟩=some (sG x.gi n x.ci)/\W.cell? ⟨X,2,none⟩=some (sO ga oa Ks.length ck)/\W.cell? ⟨ga,oa+k,none⟩=some (iZ (z:Int))/\W.cell? ⟨X,0,none⟩=some (iZ (hd:Int))) (by kernel_rfl) (by exact HC.o _ _ _ ED.o) (fun hHeld=> ?_)
           generalize wr.drew=UD at ED hHeld⊢;obtain⟨y0,_,_,i0⟩:=ED.o.1.isAt hto;have z0:=ED.o.1.is_.frozenAt z;have EN:Hid (Gr w (UD.setCell ⟨x.gi,z,none⟩ (iZ (hd:Int))) G n x bd (I2.set z hd) C/\Bx w u (UD.setCell ⟨x.gi,z,none⟩ (iZ (hd:Int))) G x X hd (.slice ab Bk.length cb) (sO ga oa Ks.length ck)):=⟨ED.o.1.setI z hh,ED.o.2.row ED.o.1.is_ (by decide) (.inr (.inl rfl))⟩
           refine Ar 0 ?_;refine Ar 1 ?_;refine Ar 2 ?_;refine Ar 3 ?_;refine Ar 4 ?_;refine Ar 5 ?_;refine Ar 6 ?_;refine Ar 7 ?_;refine Ar 8 ?_;refine Ar 9 ?_;refine Ar 10 ?_;refine Ar 11 ?_;refine FL 12 ?_;intro KC hKC;go_simp;refine hKC.o _ _ (by exact HC.o _ _ _ EN.o) (fun hHeld=> ?_);refine wpAnyH_done (by kernel_rfl) ?_ _;generalize UD.setCell ⟨x.gi,z,none⟩ (iZ (hd:Int))=UE at EN⊢;go_wp2_with fail
           go_roundw
           case rel=>exact⟨k+1,by omega,by go_num,bd,_,EN.o⟩
           case measure=>simp[intOf];omega
         . have HC:Hid (∀(W:World) (bd:Bool) (I':List Nat) (C:List Int),Gr w W G n x bd I' C/\Bx w u W G x X hd (.slice ab Bk.length cb) (.slice ak Ks.length ck)->W.cell? ⟨G,7,none⟩=some (sG x.gc n x.cc)/\W.cell? ⟨X,0,none⟩=some (iZ (hd:Int))):=fun W bd I' C hW=>⟨hW.1.cells.2.2.2.1,hW.2.cells.1⟩
           have hhI:(hd:Int)<(n:Int):=by omega
           go_upto_region 31 with fail
           have ED:Hid (Gr w wr.drew G n x bd I2 C/\Bx w u wr.drew G x X hd (.slice ab Bk.length cb) (.slice ak Ks.length ck)):=⟨E5.o.1.keep (Ae _),E5.o.2.keep (Ae _)⟩
           refine wp_region_held_drew (S:=fun W=>W.cell? ⟨G,7,none⟩=some (sG x.gc n x.cc)/\W.cell? ⟨X,0,none⟩=some (iZ (hd:Int))) (by kernel_rfl) (by exact HC.o _ _ _ _ ED.o) (fun hHeld=> ?_)
           generalize wr.drew=UD at ED hHeld⊢;obtain⟨y0,_,_,i0⟩:=ED.o.1.costAt hh;have z0:=ED.o.1.cost.frozenAt hd;have EN:Hid (Gr w (UD.setCell ⟨x.gc,hd,none⟩ (iZ tt)) G n x bd I2 (C.set hd tt)/\Bx w u (UD.setCell ⟨x.gc,hd,none⟩ (iZ tt)) G x X hd (.slice ab Bk.length cb) (.slice ak Ks.length ck)):=⟨ED.o.1.setC hd htt,ED.o.2.row ED.o.1.cost (by decide) (.inr (.inr rfl))⟩
           refine Ar 0 ?_;refine Ar 1 ?_;refine Ar 2 ?_;refine Ar 3 ?_;refine Ar 4 ?_;refine Ar 5 ?_;refine Ar 6 ?_;refine Ar 7 ?_;refine FL 8 ?_;intro KC hKC;go_simp;refine hKC.o _ _ (by exact HC.o _ _ _ _ EN.o) (fun hHeld=> ?_);refine wpAnyH_done (by kernel_rfl) ?_ _;refine dh (v:=.tuple #[]) (by kernel_rfl) rfl ?_;exact⟨rfl,bd,_,_,EN.o.1,EN.o.2.fr⟩
       have hD0:0<=4294967295 / a0:=Int.ediv_nonneg (by omega) (by omega);have hD1:4294967295 / a0<=4294967295:=Int.ediv_le_self _ (by omega);by_cases htd:t>4294967295 / a0
       . have E3:Hid (Gr w (wr.setCell ⟨G,8,none⟩ (.bool true)) G n x true I C/\Bx w u (wr.setCell ⟨G,8,none⟩ (.bool true)) G x X hd (.slice ab Bk.length cb) (.slice ak Ks.length ck)):=⟨E2.o.1.gr.bad_,E2.o.2.bad_ E2.o.1.gr⟩
         go_wp2_with fail
         go_loopw [18] (fun i wr=>∃k:Nat,k<=Ks.length/\i=iZ k/\Hid (∃bd I',Gr w wr G n x bd I' C/\Bx w u wr G x X hd (.slice ab Bk.length cb) (.slice ak Ks.length ck))) (fun i _=>Ks.length-(intOf i).toNat)
         case atStart=>exact⟨0,by omega,rfl,true,_,E3.o⟩
         case round=>
          obtain⟨k,hk',rfl,E4⟩:=hrel;obtain⟨bd,I2,hg4,hx4⟩:=E4.o;have E5:Hid (Gr w wr G n x bd I2 C/\Bx w u wr G x X hd (.slice ab Bk.length cb) (.slice ak Ks.length ck)):=⟨hg4,hx4⟩
          obtain⟨x0,x1,x2⟩:=E5.o.2.cells;by_cases hlt:k<Ks.length
          . have hltI:(k:Int)<(Ks.length:Int):=by omega
            obtain⟨ga,oa,ea,_,e0⟩:=H.o.2.2.2.1.at_ (aA hlt);have hto:Ks[k]<n:=H.o.2.2.2.2 _ (be hlt);subst ea;generalize Ks[k]=z at hto e0;have htoI:(z:Int)<(n:Int):=by omega
            have HC:Hid (∀(W:World) (bd:Bool) (I':List Nat),Gr w W G n x bd I' C/\Bx w u W G x X hd (.slice ab Bk.length cb) (sO ga oa Ks.length ck)->W.cell? ⟨G,6,none⟩=some (sG x.gi n x.ci)/\W.cell? ⟨X,2,none⟩=some (sO ga oa Ks.length ck)/\W.cell? ⟨ga,oa+k,none⟩=some (iZ (z:Int))/\W.cell? ⟨X,0,none⟩=some (iZ (hd:Int))):=fun W bd I' hW=>⟨hW.1.cells.2.2.1,hW.2.cells.2.2,Ad hW.1.bel e0,hW.2.cells.1⟩
            go_upto_region 30 with fail
            have ED:Hid (Gr w wr.drew G n x bd I2 C/\Bx w u wr.drew G x X hd (.slice ab Bk.length cb) (sO ga oa Ks.length ck)):=⟨E5.o.1.keep (Ae _),E5.o.2.keep (Ae _)⟩
            refine wp_region_held_drew (S:=fun W=>W.cell? ⟨G,6,none⟩=some (sG x.gi n x.ci)/\W.cell? ⟨X,2,none⟩=some (sO ga oa Ks.length ck)/\W.cell? ⟨ga,oa+k,none⟩=some (iZ (z:Int))/\W.cell? ⟨X,0,none⟩=some (iZ (hd:Int))) (by kernel_rfl) (by exact HC.o _ _ _ ED.o) (fun hHeld=> ?_)
            generalize wr.drew=UD at ED hHeld⊢;obtain⟨y0,_,_,i0⟩:=ED.o.1.isAt hto;have z0:=ED.o.1.is_.frozenAt z;have EN:Hid (Gr w (UD.setCell ⟨x.gi,z,none⟩ (iZ (hd:Int))) G n x bd (I2.set z hd) C/\Bx w u (UD.setCell ⟨x.gi,z,none⟩ (iZ (hd:Int))) G x X hd (.slice ab Bk.length cb) (sO ga oa Ks.length ck)):=⟨ED.o.1.setI z hh,ED.o.2.row ED.o.1.is_ (by decide) (.inr (.inl rfl))⟩
            refine Ar 0 ?_;refine Ar 1 ?_;refine Ar 2 ?_;refine Ar 3 ?_;refine Ar 4 ?_;refine Ar 5 ?_;refine Ar 6 ?_;refine Ar 7 ?_;refine Ar 8 ?_;refine Ar 9 ?_;refine Ar 10 ?_;refine Ar 11 ?_;refine FL 12 ?_;intro KC hKC;go_simp;refine hKC.o _ _ (by exact HC.o _ _ _ EN.o) (fun hHeld=> ?_);refine wpAnyH_done (by kernel_rfl) ?_ _;generalize UD.setCell ⟨x.gi,z,none⟩ (iZ (hd:Int))=UE at EN⊢;go_wp2_with fail
            go_roundw
            case rel=>exact⟨k+1,by omega,by go_num,bd,_,EN.o⟩
            case measure=>simp[intOf];omega
          . have HC:Hid (∀(W:World) (bd:Bool) (I':List Nat) (C:List Int),Gr w W G n x bd I' C/\Bx w u W G x X hd (.slice ab Bk.length cb) (.slice ak Ks.length ck)->W.cell? ⟨G,7,none⟩=some (sG x.gc n x.cc)/\W.cell? ⟨X,0,none⟩=some (iZ (hd:Int))):=fun W bd I' C hW=>⟨hW.1.cells.2.2.2.1,hW.2.cells.1⟩
            have hhI:(hd:Int)<(n:Int):=by omega
            go_upto_region 31 with fail
            have ED:Hid (Gr w wr.drew G n x bd I2 C/\Bx w u wr.drew G x X hd (.slice ab Bk.length cb) (.slice ak Ks.length ck)):=⟨E5.o.1.keep (Ae _),E5.o.2.keep (Ae _)⟩
            refine wp_region_held_drew (S:=fun W=>W.cell? ⟨G,7,none⟩=some (sG x.gc n x.cc)/\W.cell? ⟨X,0,none⟩=some (iZ (hd:Int))) (by kernel_rfl) (by exact HC.o _ _ _ _ ED.o) (fun hHeld=> ?_)
            generalize wr.drew=UD at ED hHeld⊢;obtain⟨y0,_,_,i0⟩:=ED.o.1.costAt hh;have z0:=ED.o.1.cost.frozenAt hd;have EN:Hid (Gr w (UD.setCell ⟨x.gc,hd,none⟩ (iZ 0)) G n x bd I2 (C.set hd 0)/\Bx w u (UD.setCell ⟨x.gc,hd,none⟩ (iZ 0)) G x X hd (.slice ab Bk.length cb) (.slice ak Ks.length ck)):=⟨ED.o.1.setC hd ⟨by omega,by omega⟩,ED.o.2.row ED.o.1.cost (by decide) (.inr (.inr rfl))⟩
            refine Ar 0 ?_;refine Ar 1 ?_;refine Ar 2 ?_;refine Ar 3 ?_;refine Ar 4 ?_;refine Ar 5 ?_;refine Ar 6 ?_;refine Ar 7 ?_;refine FL 8 ?_;intro KC hKC;go_simp;refine hKC.o _ _ (by exact HC.o _ _ _ _ EN.o) (fun hHeld=> ?_);refine wpAnyH_done (by kernel_rfl) ?_ _;refine dh (v:=.tuple #[]) (by kernel_rfl) rfl ?_;exact⟨rfl,bd,_,_,EN.o.1,EN.o.2.fr⟩
       . have hm:t*a0<=4294967295:=(Int.le_ediv_iff_mul_le ha0).1 (by omega)
         have hm0:0<=t*a0:=Int.mul_nonneg t1 (by omega);go_wp2_with fail
         refine(Fj G (t*a0) o0 _ wr ⟨by omega,by omega⟩ ⟨o1,o2⟩ E2.o.1.gr.cells.2.2.2.2.1 E2.o.1.gr.cells.2.2.2.2.2).mono ?_;rintro e u4 ⟨tt,rfl,htt,hU⟩
         have E3:Hid (∃bd I',Gr w u4 G n x bd I' C/\Bx w u u4 G x X hd (.slice ab Bk.length cb) (.slice ak Ks.length ck)):=by
          rcases hU with rfl|rfl
          . exact⟨_,_,E2.o.1.gr,E2.o.2⟩
          . exact⟨_,_,E2.o.1.gr.bad_,E2.o.2.bad_ E2.o.1.gr⟩
         go_wp2_with fail
         go_loopw [18] (fun i wr=>∃k:Nat,k<=Ks.length/\i=iZ k/\Hid (∃bd I',Gr w wr G n x bd I' C/\Bx w u wr G x X hd (.slice ab Bk.length cb) (.slice ak Ks.length ck))) (fun i _=>Ks.length-(intOf i).toNat)
         case atStart=>exact⟨0,by omega,rfl,E3.o⟩
         case round=>
          obtain⟨k,hk',rfl,E4⟩:=hrel;obtain⟨bd,I2,hg4,hx4⟩:=E4.o;have E5:Hid (Gr w wr G n x bd I2 C/\Bx w u wr G x X hd (.slice ab Bk.length cb) (.slice ak Ks.length ck)):=⟨hg4,hx4⟩
          obtain⟨x0,x1,x2⟩:=E5.o.2.cells;by_cases hlt:k<Ks.length
          . have hltI:(k:Int)<(Ks.length:Int):=by omega
            obtain⟨ga,oa,ea,_,e0⟩:=H.o.2.2.2.1.at_ (aA hlt);have hto:Ks[k]<n:=H.o.2.2.2.2 _ (be hlt);subst ea;generalize Ks[k]=z at hto e0;have htoI:(z:Int)<(n:Int):=by omega
            have HC:Hid (∀(W:World) (bd:Bool) (I':List Nat),Gr w W G n x bd I' C/\Bx w u W G x X hd (.slice ab Bk.length cb) (sO ga oa Ks.length ck)->W.cell? ⟨G,6,none⟩=some (sG x.gi n x.ci)/\W.cell? ⟨X,2,none⟩=some (sO ga oa Ks.length ck)/\W.cell? ⟨ga,oa+k,none⟩=some (iZ (z:Int))/\W.cell? ⟨X,0,none⟩=some (iZ (hd:Int))):=fun W bd I' hW=>⟨hW.1.cells.2.2.1,hW.2.cells.2.2,Ad hW.1.bel e0,hW.2.cells.1⟩
            go_upto_region 30 with fail
            have ED:Hid (Gr w wr.drew G n x bd I2 C/\Bx w u wr.drew G x X hd (.slice ab Bk.length cb) (sO ga oa Ks.length ck)):=⟨E5.o.1.keep (Ae _),E5.o.2.keep (Ae _)⟩
            refine wp_region_held_drew (S:=fun W=>W.cell? ⟨G,6,none⟩=some (sG x.gi n x.ci)/\W.cell? ⟨X,2,none⟩=some (sO ga oa Ks.length ck)/\W.cell? ⟨ga,oa+k,none⟩=some (iZ (z:Int))/\W.cell? ⟨X,0,none⟩=some (iZ (hd:Int))) (by kernel_rfl) (by exact HC.o _ _ _ ED.o) (fun hHeld=> ?_)
            generalize wr.drew=UD at ED hHeld⊢;obtain⟨y0,_,_,i0⟩:=ED.o.1.isAt hto;have z0:=ED.o.1.is_.frozenAt z;have EN:Hid (Gr w (UD.setCell ⟨x.gi,z,none⟩ (iZ (hd:Int))) G n x bd (I2.set z hd) C/\Bx w u (UD.setCell ⟨x.gi,z,none⟩ (iZ (hd:Int))) G x X hd (.slice ab Bk.length cb) (sO ga oa Ks.length ck)):=⟨ED.o.1.setI z hh,ED.o.2.row ED.o.1.is_ (by decide) (.inr (.inl rfl))⟩
            refine Ar 0 ?_;refine Ar 1 ?_;refine Ar 2 ?_;refine Ar 3 ?_;refine Ar 4 ?_;refine Ar 5 ?_;refine Ar 6 ?_;refine Ar 7 ?_;refine Ar 8 ?_;refine Ar 9 ?_;refine Ar 10 ?_;refine Ar 11 ?_;refine FL 12 ?_;intro KC hKC;go_simp;refine hKC.o _ _ (by exact HC.o _ _ _ EN.o) (fun hHeld=> ?_);refine wpAnyH_done (by kernel_rfl) ?_ _;generalize UD.setCell ⟨x.gi,z,none⟩ (iZ (hd:Int))=UE at EN⊢;go_wp2_with fail
            go_roundw
            case rel=>exact⟨k+1,by omega,by go_num,bd,_,EN.o⟩
            case measure=>simp[intOf];omega
          . have HC:Hid (∀(W:World) (bd:Bool) (I':List Nat) (C:List Int),Gr w W G n x bd I' C/\Bx w u W G x X hd (.slice ab Bk.length cb) (.slice ak Ks.length ck)->W.cell? ⟨G,7,none⟩=some (sG x.gc n x.cc)/\W.cell? ⟨X,0,none⟩=some (iZ (hd:Int))):=fun W bd I' C hW=>⟨hW.1.cells.2.2.2.1,hW.2.cells.1⟩
            have hhI:(hd:Int)<(n:Int):=by omega
            go_upto_region 31 with fail
            have ED:Hid (Gr w wr.drew G n x bd I2 C/\Bx w u wr.drew G x X hd (.slice ab Bk.length cb) (.slice ak Ks.length ck)):=⟨E5.o.1.keep (Ae _),E5.o.2.keep (Ae _)⟩
            refine wp_region_held_drew (S:=fun W=>W.cell? ⟨G,7,none⟩=some (sG x.gc n x.cc)/\W.cell? ⟨X,0,none⟩=some (iZ (hd:Int))) (by kernel_rfl) (by exact HC.o _ _ _ _ ED.o) (fun hHeld=> ?_)
            generalize wr.drew=UD at ED hHeld⊢;obtain⟨y0,_,_,i0⟩:=ED.o.1.costAt hh;have z0:=ED.o.1.cost.frozenAt hd;have EN:Hid (Gr w (UD.setCell ⟨x.gc,hd,none⟩ (iZ tt)) G n x bd I2 (C.set hd tt)/\Bx w u (UD.setCell ⟨x.gc,hd,none⟩ (iZ tt)) G x X hd (.slice ab Bk.length cb) (.slice ak Ks.length ck)):=⟨ED.o.1.setC hd htt,ED.o.2.row ED.o.1.cost (by decide) (.inr (.inr rfl))⟩
            refine Ar 0 ?_;refine Ar 1 ?_;refine Ar 2 ?_;refine Ar 3 ?_;refine Ar 4 ?_;refine Ar 5 ?_;refine Ar 6 ?_;refine Ar 7 ?_;refine FL 8 ?_;intro KC hKC;go_simp;refine hKC.o _ _ (by exact HC.o _ _ _ _ EN.o) (fun hHeld=> ?_);refine wpAnyH_done (by kernel_rfl) ?_ _;refine dh (v:=.tuple #[]) (by kernel_rfl) rfl ?_;exact⟨rfl,bd,_,_,EN.o.1,EN.o.2.fr⟩
def Ss(w:World)(ts:List Int)(e:Ending)(w':World):Prop:=∃s,e=.returned s/\Rd w' 1 s ts.length (ts.flatMap Ac)/\Below w.heap.size w w'
theorem Pb{w u:World}(hb:Below w.heap.size w u)(ts:List Int)(n c:Nat)(hn:n=ts.length):Ss w ts (.returned (.slice (some ⟨u.heap.size,0,none⟩) n c)) (u.alloc (.cells (ts.flatMap Ac).toArray 2)):=by
 subst hn;refine⟨_,rfl,⟨by rw[Aq Ac 1 Al],.inr ⟨u.heap.size,0,c,rfl,fun j v hj=> ?_⟩⟩,Ab hb lR (Aa _ _)⟩;rw[cu _ u.heap.size (0+j) _ _ _ (GA u (ts.flatMap Ac).toArray 2),bV];simpa using hj
structure Rt(F:List (List Int×Value))(nc n:Nat)(f:MF):Prop where
 l0:0<f.code.length
 l1:f.code.length<=1024
 wf:∀x∈f.code,Tt x
 ok:∀p:MP,p.regions=F.map Prod.fst->nc<=p.consts.length->p.funcs.length=n->∀x∈f.code,AH p f x
theorem Rt.mono{F:List (List Int×Value)}{nc nc' n:Nat}{f:MF}(h:Rt F nc n f)(hn:nc<=nc'):Rt F nc' n f:=⟨h.l0,h.l1,h.wf,fun p h1 h2 h3=>h.ok p h1 (aR hn h2) h3⟩
structure GQ(F:List (List Int×Value))(nc n i:Nat)(G:List (MF×VF)):Prop where
 len:G.length=n
 fn:∀y∈G,Qb y.1
 m0:∀y,G[0]?=some y->Iv y.1
 cd:∀j y,j<i->G[j]?=some y->Rt F nc n y.1
def TA(i:Nat)(G:List (MF×VF))(c:MT):Prop:=c.wf/\(0<=c.func/\0<=c.head)/\c.func<i/\∃y,G[c.func.toNat]?=some y/\c.head<y.1.code.length/\AA y.1 c.counter=3
structure KQ(i:Nat)(G:List (MF×VF))(cs:List MC)(ts:List MT):Prop where
 cl:cs.length<=64
 cw:∀x∈cs,x.wf/\Cv x
 bk:∀t,Ty t->∃x∈cs,x.type=t
 tl:ts.length<=64
 tw:∀x∈ts,TA i G x
 ri:ts.Pairwise FQ
def FF(F:List (List Int×Value)):Prop:=F.length=3/\(∀x∈F,x.1.length<=100)/\∀x∈F,∀z∈x.1,Ty z
section
variable {w u:World} {s:CR} {p:Int} {v:VP} {F:List (List Int×Value)} {cs:List MC} {G:List (MF×VF)} {ts:List MT} {P:Nat} {E:List As}
theorem GS.new{n i:Nat}{L0:Int}(h:Bs w u s p (Ai v F cs G ts (gb P v::E)))(hF:FF F)(hq:GQ F cs.length n i G)(hk:KQ i G cs ts)(hi:i<n)(hn:n<=4)(hL:0<=L0/\L0<=300):GS w (u.alloc (.cells #[.pointer (some ⟨s.S,0,none⟩),.pointer (some ⟨P,0,none⟩),iZ (i:Int),sN,iZ L0,iZ 0,iZ 0] 81)) s ⟨F,G,P,u.heap.size,i,L0,cs.length,[]⟩ p L0 0 64 E:=by
 have h1:=(h.nil 97 4).box 81 7 [.pointer (some ⟨s.S,0,none⟩),.pointer (some ⟨P,0,none⟩),.int .i64 (i:Int),sN,.int .i64 L0,.int .i64 0,.int .i64 0] rfl;have hl:=hq.len;refine⟨⟨hF.1,hF.2.1,hF.2.2,by show i<G.length;omega,by show G.length<=32;omega,hq.fn,hL⟩,v,sN,⟨[],cs,ts⟩,⟨h1.perm ?_⟩,⟨by simp,hk.cl,Nat.le_refl _,hk.tl,(fun x hx=>by cases hx),hk.cw,hk.bk,fun x hx=> ?_,hk.ri,fun j hj=>by cases hj⟩⟩
 . classical
   rw[dy];intro a;simp only[Ai,Ca,Qd,dD,dJ,dN,bi,bc];omega
 . obtain⟨h1,h2,h3,h4⟩:=hk.tw x hx
   exact⟨h1,h2,.inl ⟨h3,h4⟩⟩
end
section
variable {w u:World} {s:CR} {k:GK} {p left lv:Int} {nt:Nat} {D:List As}
theorem GS.fnr(h:GS w u s k p left lv nt D):∃(gf cf:Nat) (r:Int),u.cell? ⟨k.P,2,none⟩=some (sG gf k.G.length cf)/\u.cell? ⟨gf,k.fi*4+1,none⟩=some (iZ r)/\0<=r/\r<=3:=by
 obtain⟨v,vc,g,h1,h2⟩:=h.ex;obtain⟨y,hy⟩:∃y,k.G[k.fi]?=some y:=⟨_,aA h.ok.fi⟩;obtain⟨gf,cf,ap,cp,al,cl,ac,cc,e1,e2,⟨f0,f1,f2,f3⟩,o1,o2,o3⟩:=h1.bl.fn hy;have hp:=h1.pcells.2.2.1;rw[e1]at hp;exact⟨gf,cf,_,hp,f1,(h.ok.fn y (aF hy)).rs⟩
theorem Rj{G:List (MF×VF)}{i:Nat}{f:MF}{pv lv' c0:Value}(hy:G[i]?=some (f,(⟨pv,lv',c0⟩:VF))):G=G.take i++(f,(⟨pv,lv',c0⟩:VF))::G.drop (i+1)/\(G.take i).length=i:=by
 obtain⟨hlt,e⟩:=aE.1 hy;exact⟨by rw[<-e,List.getElem_cons_drop,dP],by rw[b9];omega⟩
theorem LY{G:List (MF×VF)}{i j:Nat}{y:MF×VF}(hi:i<G.length):(G.take i++y::G.drop (i+1))[j]?=if j=i then some y else G[j]?:=by
 have hl:(G.take i).length=i:=by rw[b9];omega
 by_cases h:j=i
 . rw[bj h,h,bH (by omega),hl];simp
 rw[bX h];by_cases h2:j<i
 . rw[bS (by omega),List.getElem?_take,bj h2]
 . rw[bH (by omega),hl,show j-i=(j-i-1)+1 by omega,aL,eE]
   congr 1
   omega
theorem GQ.set{F:List (List Int×Value)}{nc nc' n i i' q:Nat}{G:List (MF×VF)}{f:MF}{vf:VF}{code:List MI}{pv lv' vc:Value}(h:GQ F nc n i G)(hn:nc<=nc')(hy:G[q]?=some (f,vf))(hc:Rt F nc' n ⟨f.params,f.result,f.locals,code⟩)(hi:i'<=i\/q=i/\i'=i+1):GQ F nc' n i' (G.take q++((⟨f.params,f.result,f.locals,code⟩:MF),(⟨pv,lv',vc⟩:VF))::G.drop (q+1)):=by
 have hlt:=(aE.1 hy).1;have hl:=h.len;refine⟨by rw[aH,bL,b9,cH];omega,fun y hy'=> ?_,fun y hy'=> ?_,fun j y hj hy'=> ?_⟩
 . rcases ah.1 hy' with e|e
   . exact h.fn y (eJ e)
   . rcases bG.1 e with e|e
     . rw[e]
       have hf:=h.fn _ (aF hy);exact⟨hf.pl,hf.pt,hf.rs,hf.lc⟩
     . exact h.fn y (List.mem_of_mem_drop e)
 all_goals
  rw[LY hlt]at hy';split at hy'
 . cases hy'
   have:=h.m0 (f,vf) (by rw[show 0=q by assumption];exact hy);exact this
 . exact h.m0 y hy'
 . cases hy'
   exact hc
 . exact(h.cd j y (by omega) hy').mono hn
theorem TA.set{i i' q:Nat}{G:List (MF×VF)}{f:MF}{vf:VF}{code:List MI}{pv lv' vc:Value}{c:MT}(h:TA i G c)(hy:G[q]?=some (f,vf))(hq:¬c.func=q)(hi:i<=i'):TA i' (G.take q++((⟨f.params,f.result,f.locals,code⟩:MF),(⟨pv,lv',vc⟩:VF))::G.drop (q+1)) c:=by
 obtain⟨h1,h2,h3,y,h4,h5⟩:=h;exact⟨h1,h2,by omega,y,by rw[LY (aE.1 hy).1,bX (by omega)];exact h4,h5⟩
theorem Pf.done{n:Nat}(h:Pf w u s k p left lv 64 D ⟨29,0,0,0⟩)(hq:GQ k.F k.nc n k.fi k.G)(hl:-700<=left):∃(gf cf d:Nat) (c0:Value) (a:Option Addr) (c:Nat),(u.cell? ⟨k.P,2,none⟩=some (sG gf k.G.length cf)/\u.cell? ⟨k.Gb,3,none⟩=some (.slice a d c)/\u.cell? ⟨gf,k.fi*4+3,none⟩=some c0/\u.frozen? ⟨gf,k.fi*4+3,none⟩=false)/\∃v cs G ts,Bs w (u.setCell ⟨gf,k.fi*4+3,none⟩ (.slice a d c)) s p (Ai v k.F cs G ts (gb k.P v::D))/\GQ k.F cs.length n (k.fi+1) G/\KQ (k.fi+1) G cs ts:=by
 obtain⟨hk,v,vc,g,h1,h2⟩:=h;obtain⟨⟨f,pv,lv',c0⟩,hy⟩:∃y,k.G[k.fi]?=some y:=⟨_,aA hk.fi⟩;obtain⟨gf,cf,ap,cp,al,cl,ac,cc,e1,e2,⟨f0,f1,f2,f3⟩,o1,o2,o3⟩:=h1.bl.fn hy;obtain⟨⟨a,c,ev⟩,_⟩:=h1.bl.nrow;obtain⟨hsp,hG1⟩:=Rj hy;have hlen:=h2.len;have hl0:=hk.l0;have hp:=h1.pcells.2.2.1;have hb3:=h1.cells.2.2.2.1;rw[e1]at hp;have hbl:=h1.bl;rw[hsp]at hbl;obtain⟨b1,b2,b3⟩:=hbl.code_ (by rw[e1,<-hsp]);rw[hG1]at b1 b2 b3;rw[ev]at b1 hb3
 have b4:=b1.perm (M:=Ai v k.F g.consts (k.G.take k.fi++((⟨f.params,f.result,f.locals,g.code++[⟨29,0,0,0⟩]⟩:MF),(⟨pv,lv',.slice a (g.code++[(⟨29,0,0,0⟩:MI)]).length c⟩:VF))::k.G.drop (k.fi+1)) g.certs (gb k.P v::D)++[Qd s k (.slice a (g.code++[(⟨29,0,0,0⟩:MI)]).length c) (left-1) lv]) (by
  classical
  rw[dy];intro x;simp only[Ai,dD,dJ,dN];omega)
 have hcode:Rt k.F g.consts.length n ⟨f.params,f.result,f.locals,g.code++[⟨29,0,0,0⟩]⟩:=by
  refine⟨by simp,by simp;omega,fun x hx=> ?_,fun p hp1 hp2 hp3 x hx=> ?_⟩
  . rcases ah.1 hx with e|e
    . exact(h2.wc x e).1
    . rw[bO.1 e]
      exact(ok0 (k:=k) (nc:=0) (len:=0) (op:=29)).1
  . have hln:=hq.len
    rcases ah.1 hx with e|e
    . exact(h2.wc x e).2 p _ ⟨hp1,hp2,by omega,⟨_,hy,rfl,rfl⟩,by simp;omega⟩
    . rw[bO.1 e]
      exact OQ (by omega) (.inl ⟨by kernel_rfl,rfl,rfl,rfl⟩)
 refine⟨gf,cf,_,c0,a,c,⟨hp,hb3,b2,b3⟩,v,_,_,_,b4.sub (dA _ _),hq.set h2.lc hy hcode (.inr ⟨rfl,rfl⟩),⟨h2.nc,h2.wk,h2.bk,h2.nt,fun x hx=> ?_,h2.ri⟩⟩;obtain⟨q1,q2,⟨q3,q4⟩|⟨q3,q4,y,q5,q6⟩⟩:=h2.wt x hx
 . exact TA.set (i:=k.fi) ⟨q1,q2,q3,q4⟩ hy (by omega) (by omega)
 . rw[hy]at q5
   cases q5
   refine⟨q1,q2,by omega,_,(LY (aE.1 hy).1).trans (bj (by omega)),?_,q6⟩;simp only[aH,aP];omega
end
end Go.Proofs.YtjcamlobelcepaaGreatDoor
