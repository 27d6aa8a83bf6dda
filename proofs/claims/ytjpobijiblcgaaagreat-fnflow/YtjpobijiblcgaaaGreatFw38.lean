import Derived.Test.YtjpobijiblcgaaaGreatFw0
import Derived.Test.YtjpobijiblcgaaaGreatFw4
import Derived.Test.YtjpobijiblcgaaaGreatFw29
import Derived.Test.YtjpobijiblcgaaaGreatFw15
namespace Go.Proofs.YtjpobijiblcgaaaGreat
open Go.ChangeShapes Go.WideShapes Go.ChangeAt Go.RowKit
set_option linter.unusedVariables false
set_option maxHeartbeats 8000000
set_option maxRecDepth 100000
theorem QL{I:List Nat}{k y:Nat}:(nv I).set k (iZ (y:Int))=nv (I.set k y):=by
 unfold nv;rw[List.map_set]
theorem Gr.setI{w u:World}{G n:Nat}{x:GV}{bad:Bool}{I:List Nat}{C:List Int}(h:Gr w u G n x bad I C)(k:Nat){y:Nat}(hy:y<n):Gr w (u.setCell ⟨x.gi,k,none⟩ (iZ (y:Int))) G n x bad (I.set k y) C:=by
 have hs:=(dA h.is_ k (iZ (y:Int))).1;rw[QL]at hs
 have hib:∀z∈I.set k y,z<n:=fun z hz=>by
  rcases dK hz with e|e
  . exact h.ib z e
  . subst e
    exact hy
 exact{h with blk:=h.blk.other (a:=⟨x.gi,k,none⟩) (fun e=>h.gi_ne.1 e.symm) _,is_:=hs,cost:=BW h.cost h.ne.symm,bel:=h.bel.setCell (At h.is_).1 _,il:=by rw[dD];exact h.il,ib:=hib}
theorem Gr.setC{w u:World}{G n:Nat}{x:GV}{bad:Bool}{I:List Nat}{C:List Int}(h:Gr w u G n x bad I C)(k:Nat){y:Int}(hy:I5 y):Gr w (u.setCell ⟨x.gc,k,none⟩ (iZ y)) G n x bad I (C.set k y):=by
 have hs:=(dA h.cost k (iZ y)).1;rw[JV]at hs;exact{h with blk:=h.blk.other (a:=⟨x.gc,k,none⟩) (fun e=>h.gi_ne.2 e.symm) _,is_:=BW h.is_ h.ne,cost:=hs,bel:=h.bel.setCell (At h.cost).1 _,cl:=by rw[dD];exact h.cl,cb:=Hv h.cb hy}
structure Bx(w u0 u:World)(G:Nat)(x:GV)(X hd:Nat)(vb vk:Value):Prop where
 blk:An u X #[iZ (hd:Int),vb,vk] 35
 lo:w.heap.size<=X
 up:u0.heap.size<=X
 fr:∀b,b<u0.heap.size->b≠G->b≠x.gi->b≠x.gc->u.heap[b]?=u0.heap[b]?
theorem Bx.keep{w u0 u u':World}{G X hd:Nat}{x:GV}{vb vk:Value}(h:Bx w u0 u G x X hd vb vk)(hb:Below u.heap.size u u'):Bx w u0 u' G x X hd vb vk:=⟨h.blk.keep hb,h.lo,h.up,fun b h1 h2 h3 h4=>by have:=h.blk.lt;have:=h.up;rw[hb.block b (by omega)];exact h.fr b h1 h2 h3 h4⟩
theorem Bx.cells{w u0 u:World}{G X hd:Nat}{x:GV}{vb vk:Value}(h:Bx w u0 u G x X hd vb vk):u.cell? ⟨X,0,none⟩=some (iZ (hd:Int))/\u.cell? ⟨X,1,none⟩=some vb/\u.cell? ⟨X,2,none⟩=some vk:=⟨by rw[h.blk.cell];rfl,by rw[h.blk.cell];rfl,by rw[h.blk.cell];rfl⟩
theorem Bx.row{w u0 u:World}{G X hd B g k n c i:Nat}{x:GV}{e:TypeId}{xs:List Value}{z vb vk:Value}(h:Bx w u0 u G x X hd vb vk)(ho:u.ownsRow B e k (sG g n c) n xs)(hne:e≠35)(hg:u0.heap.size<=g\/g=x.gi\/g=x.gc):Bx w u0 (u.setCell ⟨g,i,none⟩ z) G x X hd vb vk:=by
 refine⟨h.blk.other (a:=⟨g,i,none⟩) (fun e'=> ?_) _,h.lo,h.up,fun b h1 h2 h3 h4=> ?_⟩
 . obtain⟨_,cur,e1⟩:=At ho
   have e3:=h.blk;unfold An at e3;have e4:X=g:=e';rw[<-e4,e3]at e1;injection e1 with e1
   injection e1 with _ e1
   exact hne e1.symm
 . rw[bO u ⟨g,i,none⟩ b _ (by show b≠g;rcases hg with q|q|q<;>omega)]
   exact h.fr b h1 h2 h3 h4
theorem Bx.ne{w u0 u:World}{X hd G n:Nat}{vb vk:Value}{x:GV}{bad:Bool}{I:List Nat}{C:List Int}(h:Bx w u0 u G x X hd vb vk)(hg:Gr w u G n x bad I C):X≠G:=fun e=>by
 have e1:=h.blk;have e2:=hg.blk;unfold An at e1 e2;rw[e,e2]at e1;injection e1 with e1
 injection e1 with _ e1
 exact absurd e1 (by decide)
theorem Bx.bad_{w u0 u:World}{X hd G n:Nat}{vb vk:Value}{x:GV}{bad:Bool}{I:List Nat}{C:List Int}(h:Bx w u0 u G x X hd vb vk)(hg:Gr w u G n x bad I C):Bx w u0 (u.setCell ⟨G,8,none⟩ (.bool true)) G x X hd vb vk:=⟨h.blk.other (a:=⟨G,8,none⟩) (h.ne hg) _,h.lo,h.up,fun b h1 h2 h3 h4=>by rw[bO u ⟨G,8,none⟩ b _ h2];exact h.fr b h1 h2 h3 h4⟩
theorem O8(n:Nat):(madeCells (Value.bool false).cells (n*1)).toList=bv (fun _=>false) n:=by rw[CR,Fb]
theorem Lu{u:World}{B g n c k:Nat}{P:Nat->Bool}{b:Bool}(h:u.ownsRow B 4 1 (sG g n c) n (bv P n)):(u.setCell ⟨g,k,none⟩ (.bool b)).ownsRow B 4 1 (sG g n c) n (bv (fun j=>if j=k then b else P j) n):=by
 have:=(dA h k (.bool b)).1;rw[On (Q:=fun j=>if j=k then b else P j) (fun j _=>rfl)]at this;exact this
theorem ID (w u:World)(G n:Nat)(x:GV)(bad:Bool)(I:List Nat)(C:List Int)(E:Nat->List Nat)(O:List Nat)(hd:Nat)(vb vk:Value)(Bk:List Int)(Ks:List Nat)(t:Int)(h0:n<=1048576)(hh:hd<n)(ht:I5 t)(h:Gr w u G n x bad I C)(hF:GF w n x E O)(hB:Rd w 1 vb Bk.length (Bk.flatMap Ab))(hBl:Bk.length<=1048576)(hK:Gk w vk Ks)(hKl:Ks.length<=1048576)(hKb:∀y∈Ks,y<n):
 Calls Tryz.prog 118 #[.pointer (some ⟨G,0,none⟩),.agg #[iZ (hd:Int),vb,vk],iZ t] u fun e u'=>e=.returned (.tuple #[])/\∃bad' I' C',Gr w u' G n x bad' I' C'/\∀b,b<u.heap.size->b≠G->b≠x.gi->b≠x.gc->u'.heap[b]?=u.heap[b]?:=by
 obtain⟨j0,hj,hy0,hy1,hy2⟩:=bH C5;obtain⟨ab,cb,eb⟩:=Rd.is_slice hB;obtain⟨ak,ck,ek⟩:=Rd.is_slice hK;subst eb ek;have H:Hid (GF w n x E O/\Rd w 1 (.slice ab Bk.length cb) Bk.length (Bk.flatMap Ab)/\Bk.length<=1048576/\Gk w (.slice ak Ks.length ck) Ks/\∀y∈Ks,y<n):=⟨hF,hB,hBl,hK,hKb⟩
 have E0:Hid (Gr w (u.alloc (.cells #[iZ (hd:Int),.slice ab Bk.length cb,.slice ak Ks.length ck] 35)) G n x bad I C/\Bx w u (u.alloc (.cells #[iZ (hd:Int),.slice ab Bk.length cb,.slice ak Ks.length ck] 35)) G x u.heap.size hd (.slice ab Bk.length cb) (.slice ak Ks.length ck)):=⟨h.keep (Aa _ _),An.new _ _ _,h.bel.size,Nat.le_refl _,fun b hb _ _ _=>(Aa _ _).block b hb⟩
 clear hF hB hBl hK hKb h;go_enter Tryz.func118,Tryz.ntmps118;go_upto_region 1 with fail
 generalize u.heap.size=X at E0⊢;refine Al (fun U=>Hid (Gr w U G n x bad I C/\Bx w u U G x X hd (.slice ab Bk.length cb) (.slice ak Ks.length ck))) E0 ?_
 clear E0;rintro U E0;obtain⟨p2,p3,p6,p7,p8,z8⟩:=E0.o.1.cells;obtain⟨x0,x1,x2⟩:=E0.o.2.cells;have hsz:=E0.o.1.bel.size;go_wp2_with (at_make;refine cR _ rfl _ _ 53 rfl w.heap.size 4 j0 (.bool false) 1 Tryz.underlying53 hj hy0 hy1 .i64 .i64 _ _ n rfl rfl rfl rfl (by rw[hy2];omega) (by unfold maxLen;omega) hsz ?_;intro w3 hown hgrow;rw[O8]at hown);have hb3:Below U.heap.size U w3:=(bY _ _).grown hgrow lR (fun k hk=>by cases hk);have E1:Hid (Gr w w3 G n x bad I C/\Bx w u w3 G x X hd (.slice ab Bk.length cb) (.slice ak Ks.length ck)/\∃P,w3.ownsRow w.heap.size 4 1 (sG U.heap.size n n) n (bv P n)):=⟨E0.o.1.keep hb3,E0.o.2.keep hb3,_,hown⟩
 have HGn:Hid (u.heap.size<=U.heap.size):=by have:=E0.o.2.blk.lt;have:=E0.o.2.up;show u.heap.size<=U.heap.size;omega
 clear hown hgrow hb3 p2 p3 p6 p7 p8 z8 x0 x1 x2 hsz E0;generalize U.heap.size=gn at E1 HGn⊢;go_loopw [8] (fun i wr=>∃(k:Nat),k<=Ks.length/\i=iZ k/\Hid (Gr w wr G n x bad I C/\Bx w u wr G x X hd (.slice ab Bk.length cb) (.slice ak Ks.length ck)/\∃P,wr.ownsRow w.heap.size 4 1 (sG gn n n) n (bv P n))) (fun i _=>Ks.length-(intOf i).toNat)
 case atStart=>exact⟨0,by omega,rfl,E1⟩
 case round =>
  clear E1;obtain⟨k,hk',rfl,E1⟩:=hrel;obtain⟨x0,x1,x2⟩:=E1.o.2.1.cells;by_cases hlt:k<Ks.length
  . have hltI:(k:Int)<(Ks.length:Int):=by omega
    obtain⟨P,hP⟩:=E1.o.2.2;obtain⟨ga,oa,ea,_,e0'⟩:=H.o.2.2.2.1.at_ (aA hlt);have e0:=Ac E1.o.1.bel e0';have hto:Ks[k]<n:=H.o.2.2.2.2 _ (bq hlt);subst ea;clear e0';generalize Ks[k]=z at hto e0;have htoI:(z:Int)<(n:Int):=by omega
    have c0:=au hP z (by omega);rw[Ip _ _ _ hto]at c0;have z0:=hP.frozenAt z
    have E2:Hid (Gr w (wr.setCell ⟨gn,z,none⟩ (.bool true)) G n x bad I C/\Bx w u (wr.setCell ⟨gn,z,none⟩ (.bool true)) G x X hd (.slice ab Bk.length cb) (sO ga oa Ks.length ck)/\∃P,(wr.setCell ⟨gn,z,none⟩ (.bool true)).ownsRow w.heap.size 4 1 (sG gn n n) n (bv P n)):=by
     obtain⟨_,cur,e1⟩:=At hP;obtain⟨_,c2,e2⟩:=At E1.o.1.is_;obtain⟨_,c3,e3⟩:=At E1.o.1.cost;have e4:=E1.o.1.blk;unfold An at e4;refine⟨E1.o.1.other (At hP).1 (fun q=> ?_) (fun q=> ?_) (fun q=> ?_),E1.o.2.1.row hP (by decide) (.inl HGn.o),_,Lu hP⟩
     . rw[q,e4]at e1
       cases e1
     . rw[q,e2]at e1
       cases e1
     . rw[q,e3]at e1
       cases e1
    clear hP;go_wp2_with fail
    go_roundw
    case rel=>exact⟨k+1,by omega,by go_num,E2⟩
    case measure=>simp[intOf];omega
  . go_wp2_with fail
    obtain⟨P,hP⟩:=E1.o.2.2;refine(IE w wr G n x bad I C E O gn n hd P h0 hh E1.o.1 H.o.1 hP).mono ?_;rintro e u2 ⟨gB,bad2,L,rfl,hW⟩
    have E2:Hid (Wy w wr u2 G n x bad2 I C gn n P gB L/\Bx w u u2 G x X hd (.slice ab Bk.length cb) (.slice ak Ks.length ck)):=by
     refine⟨hW,?_,E1.o.2.1.lo,E1.o.2.1.up,fun b h1 h2 h3 h4=>by have:=E1.o.2.1.blk.lt;have:=E1.o.2.1.up;rw[hW.fr b (by omega) h2];exact E1.o.2.1.fr b h1 h2 h3 h4⟩;have q:=E1.o.2.1.blk;have q2:=hW.fr X q.lt (E1.o.2.1.ne E1.o.1);unfold An at q⊢;rw[q2,q]
    clear hW hP E1 x0 x1 x2;clear hlt hk';go_wp2_with fail
    have HBk:Hid (Rd u2 1 (.slice ab Bk.length cb) Bk.length (Bk.flatMap Ab)/\Bk.length<=1048576):=⟨Rd.keep H.o.2.1 E2.o.1.gr.bel lR,H.o.2.2.1⟩
    go_loopw [10,11,12,13,14,15,16] (fun a o i _ _ _ _ wr=>∃(k:Nat) (a0 o0:Int),k<=Ks.length/\a=iZ a0/\o=iZ o0/\i=iZ k/\wr=u2/\Hid (I5 a0/\I5 o0)) (fun _ _ i _ _ _ _ _=>Ks.length-(intOf i).toNat)
    case atStart=>exact⟨0,0,0,by omega,rfl,rfl,rfl,rfl,⟨by omega,by omega⟩,by omega,by omega⟩
    case round=>
     obtain⟨k,a0,o0,hk',rfl,rfl,rfl,rfl,HA⟩:=hrel;obtain⟨x0,x1,x2⟩:=E2.o.2.cells;obtain⟨p2,p3,p6,p7,p8,z8⟩:=E2.o.1.gr.cells;by_cases hlt:k<Ks.length
     . have hltI:(k:Int)<(Ks.length:Int):=by omega
       obtain⟨ga,oa,ea,_,e0'⟩:=H.o.2.2.2.1.at_ (aA hlt);have e0:=Ac E2.o.1.gr.bel e0';have hto:Ks[k]<n:=H.o.2.2.2.2 _ (bq hlt);subst ea;clear e0';generalize Ks[k]=z at hto e0;have htoI:(z:Int)<(n:Int):=by omega
       obtain⟨r,hr,hrk,i0⟩:=E2.o.1.gr.isAt hto;have hrI:(r:Int)<(n:Int):=by omega
       obtain⟨c,_,hc,b0,_⟩:=E2.o.1.at_ hrk;obtain⟨ax,cx,g0',hrr⟩:=H.o.1.gr z hto;have g0:=Ac E2.o.1.gr.bel g0';have HE:Hid (Gk wr (.slice ax (E z).length cx) (E z)/\∀y∈E z,y<n):=⟨hrr.keep E2.o.1.gr.bel,H.o.1.eb z hto⟩
       have hE2:=H.o.1.sz z;clear g0' hrr hr;generalize E z=eb at HE g0 hE2;go_wp2_with fail
       refine(Dk _ Bk (z:Int) wr HBk.o.2 HBk.o.1).mono ?_;rintro e u3 ⟨⟨bb,rfl,hq0⟩,rfl⟩;clear hq0;by_cases hca:c>a0
       . cases bb
         . skip
           go_wp2_with fail
           go_loopw [11,16] (fun o j wr=>∃(q:Nat) (o0:Int),q<=eb.length/\o=iZ o0/\j=iZ q/\wr=u3/\Hid (I5 o0)) (fun _ j _=>eb.length-(intOf j).toNat)
           case atStart=>exact⟨0,o0,by omega,rfl,rfl,rfl,HA.o.2⟩
           case round=>
            obtain⟨q,o1,hq,rfl,rfl,rfl,HO⟩:=hrel;by_cases hlq:q<eb.length
            case neg=>
             go_wp2_with fail
             go_roundw
             case rel=>exact⟨k+1,a0,o1,by omega,by trivial,by trivial,by go_num,by trivial,⟨HA.o.1.1,HA.o.1.2⟩,HO.o⟩
             case measure=>simp[intOf];omega
            have hlqI:(q:Int)<(eb.length:Int):=by omega
            obtain⟨gx,ox,ex,_,v0⟩:=HE.o.1.at_ (aA hlq);have hto2:eb[q]<n:=HE.o.2 _ (bq hlq);subst ex;generalize eb[q]=y at hto2 v0;have hto2I:(y:Int)<(n:Int):=by omega
            have n1:=E2.o.1.inAt hto2;cases hPy:P y
            case true=>
             rw[hPy]at n1;go_wp2_with fail
             go_roundw
             case rel=>exact⟨q+1,o1,by omega,by trivial,by go_num,by trivial,HO⟩
             case measure=>simp[intOf];omega
            rw[hPy]at n1;by_cases hco:c>o1
            . go_wp2_with fail
              go_roundw
              case rel=>exact⟨q+1,c,by omega,by trivial,by go_num,by trivial,by have:=HO.o.1;omega,hc.2⟩
              case measure=>simp[intOf];omega
            . go_wp2_with fail
              go_roundw
              case rel=>exact⟨q+1,o1,by omega,by trivial,by go_num,by trivial,HO⟩
              case measure=>simp[intOf];omega
         . skip
           go_wp2_with fail
           go_loopw [11,16] (fun o j wr=>∃(q:Nat) (o0:Int),q<=eb.length/\o=iZ o0/\j=iZ q/\wr=u3/\Hid (I5 o0)) (fun _ j _=>eb.length-(intOf j).toNat)
           case atStart=>exact⟨0,o0,by omega,rfl,rfl,rfl,HA.o.2⟩
           case round=>
            obtain⟨q,o1,hq,rfl,rfl,rfl,HO⟩:=hrel;by_cases hlq:q<eb.length
            case neg=>
             go_wp2_with fail
             go_roundw
             case rel=>exact⟨k+1,c,o1,by omega,by trivial,by trivial,by go_num,by trivial,⟨by have:=HA.o.1.1;omega,hc.2⟩,HO.o⟩
             case measure=>simp[intOf];omega
            have hlqI:(q:Int)<(eb.length:Int):=by omega
            obtain⟨gx,ox,ex,_,v0⟩:=HE.o.1.at_ (aA hlq);have hto2:eb[q]<n:=HE.o.2 _ (bq hlq);subst ex;generalize eb[q]=y at hto2 v0;have hto2I:(y:Int)<(n:Int):=by omega
            have n1:=E2.o.1.inAt hto2;cases hPy:P y
            case true=>
             rw[hPy]at n1;go_wp2_with fail
             go_roundw
             case rel=>exact⟨q+1,o1,by omega,by trivial,by go_num,by trivial,HO⟩
             case measure=>simp[intOf];omega
            rw[hPy]at n1;by_cases hco:c>o1
            . go_wp2_with fail
              go_roundw
              case rel=>exact⟨q+1,c,by omega,by trivial,by go_num,by trivial,by have:=HO.o.1;omega,hc.2⟩
              case measure=>simp[intOf];omega
            . go_wp2_with fail
              go_roundw
              case rel=>exact⟨q+1,o1,by omega,by trivial,by go_num,by trivial,HO⟩
              case measure=>simp[intOf];omega
       . cases bb
         . skip
           go_wp2_with fail
           go_loopw [11,16] (fun o j wr=>∃(q:Nat) (o0:Int),q<=eb.length/\o=iZ o0/\j=iZ q/\wr=u3/\Hid (I5 o0)) (fun _ j _=>eb.length-(intOf j).toNat)
           case atStart=>exact⟨0,o0,by omega,rfl,rfl,rfl,HA.o.2⟩
           case round=>
            obtain⟨q,o1,hq,rfl,rfl,rfl,HO⟩:=hrel;by_cases hlq:q<eb.length
            case neg=>
             go_wp2_with fail
             go_roundw
             case rel=>exact⟨k+1,a0,o1,by omega,by trivial,by trivial,by go_num,by trivial,⟨HA.o.1.1,HA.o.1.2⟩,HO.o⟩
             case measure=>simp[intOf];omega
            have hlqI:(q:Int)<(eb.length:Int):=by omega
            obtain⟨gx,ox,ex,_,v0⟩:=HE.o.1.at_ (aA hlq);have hto2:eb[q]<n:=HE.o.2 _ (bq hlq);subst ex;generalize eb[q]=y at hto2 v0;have hto2I:(y:Int)<(n:Int):=by omega
            have n1:=E2.o.1.inAt hto2;cases hPy:P y
            case true=>
             rw[hPy]at n1;go_wp2_with fail
             go_roundw
             case rel=>exact⟨q+1,o1,by omega,by trivial,by go_num,by trivial,HO⟩
             case measure=>simp[intOf];omega
            rw[hPy]at n1;by_cases hco:c>o1
            . go_wp2_with fail
              go_roundw
              case rel=>exact⟨q+1,c,by omega,by trivial,by go_num,by trivial,by have:=HO.o.1;omega,hc.2⟩
              case measure=>simp[intOf];omega
            . go_wp2_with fail
              go_roundw
              case rel=>exact⟨q+1,o1,by omega,by trivial,by go_num,by trivial,HO⟩
              case measure=>simp[intOf];omega
         . skip
           go_wp2_with fail
           go_loopw [11,16] (fun o j wr=>∃(q:Nat) (o0:Int),q<=eb.length/\o=iZ o0/\j=iZ q/\wr=u3/\Hid (I5 o0)) (fun _ j _=>eb.length-(intOf j).toNat)
           case atStart=>exact⟨0,o0,by omega,rfl,rfl,rfl,HA.o.2⟩
           case round=>
            obtain⟨q,o1,hq,rfl,rfl,rfl,HO⟩:=hrel;by_cases hlq:q<eb.length
            case neg=>
             go_wp2_with fail
             go_roundw
             case rel=>exact⟨k+1,a0,o1,by omega,by trivial,by trivial,by go_num,by trivial,⟨HA.o.1.1,HA.o.1.2⟩,HO.o⟩
             case measure=>simp[intOf];omega
            have hlqI:(q:Int)<(eb.length:Int):=by omega
            obtain⟨gx,ox,ex,_,v0⟩:=HE.o.1.at_ (aA hlq);have hto2:eb[q]<n:=HE.o.2 _ (bq hlq);subst ex;generalize eb[q]=y at hto2 v0;have hto2I:(y:Int)<(n:Int):=by omega
            have n1:=E2.o.1.inAt hto2;cases hPy:P y
            case true=>
             rw[hPy]at n1;go_wp2_with fail
             go_roundw
             case rel=>exact⟨q+1,o1,by omega,by trivial,by go_num,by trivial,HO⟩
             case measure=>simp[intOf];omega
            rw[hPy]at n1;by_cases hco:c>o1
            . go_wp2_with fail
              go_roundw
              case rel=>exact⟨q+1,c,by omega,by trivial,by go_num,by trivial,by have:=HO.o.1;omega,hc.2⟩
              case measure=>simp[intOf];omega
            . go_wp2_with fail
              go_roundw
              case rel=>exact⟨q+1,o1,by omega,by trivial,by go_num,by trivial,HO⟩
              case measure=>simp[intOf];omega
     . obtain⟨⟨a1,a2⟩,⟨o1,o2⟩⟩:=HA.o
       obtain⟨t1,t2⟩:=ht;clear HA HBk;by_cases ha0:a0>0
       case neg=>
        obtain rfl:a0=0:=by omega
        go_wp2_with fail
        refine(Ex G 0 o0 _ wr ⟨by omega,by omega⟩ ⟨o1,o2⟩ E2.o.1.gr.cells.2.2.2.2.1 E2.o.1.gr.cells.2.2.2.2.2).mono ?_;rintro e u4 ⟨tt,rfl,htt,hU⟩
        have E3:Hid (∃bd I',Gr w u4 G n x bd I' C/\Bx w u u4 G x X hd (.slice ab Bk.length cb) (.slice ak Ks.length ck)):=by
         rcases hU with rfl|rfl
         . exact⟨_,_,E2.o.1.gr,E2.o.2⟩
         . exact⟨_,_,E2.o.1.gr.bad_,E2.o.2.bad_ E2.o.1.gr⟩
        clear hU;clear x0 x1 x2 p2 p3 p6 p7 p8 z8 E2;go_wp2_with fail
        go_loopw [18] (fun i wr=>∃k:Nat,k<=Ks.length/\i=iZ k/\Hid (∃bd I',Gr w wr G n x bd I' C/\Bx w u wr G x X hd (.slice ab Bk.length cb) (.slice ak Ks.length ck))) (fun i _=>Ks.length-(intOf i).toNat)
        case atStart=>exact⟨0,by omega,rfl,E3.o⟩
        case round=>
         obtain⟨k,hk',rfl,E4⟩:=hrel;obtain⟨bd,I2,hg4,hx4⟩:=E4.o;have E5:Hid (Gr w wr G n x bd I2 C/\Bx w u wr G x X hd (.slice ab Bk.length cb) (.slice ak Ks.length ck)):=⟨hg4,hx4⟩
         clear hg4 hx4 E4;obtain⟨x0,x1,x2⟩:=E5.o.2.cells;by_cases hlt:k<Ks.length
         . have hltI:(k:Int)<(Ks.length:Int):=by omega
           obtain⟨ga,oa,ea,_,e0⟩:=H.o.2.2.2.1.at_ (aA hlt);have hto:Ks[k]<n:=H.o.2.2.2.2 _ (bq hlt);subst ea;generalize Ks[k]=z at hto e0;have htoI:(z:Int)<(n:Int):=by omega
           have HC:Hid (∀(W:World) (bd:Bool) (I':List Nat),Gr w W G n x bd I' C/\Bx w u W G x X hd (.slice ab Bk.length cb) (sO ga oa Ks.length ck)->W.cell? ⟨G,6,none⟩=some (sG x.gi n x.ci)/\W.cell? ⟨X,2,none⟩=some (sO ga oa Ks.length ck)/\W.cell? ⟨ga,oa+k,none⟩=some (iZ (z:Int))/\W.cell? ⟨X,0,none⟩=some (iZ (hd:Int))):=fun W bd I' hW=>⟨hW.1.cells.2.2.1,hW.2.cells.2.2,Ac hW.1.bel e0,hW.2.cells.1⟩
           clear e0;go_upto_region 30 with fail
           have ED:Hid (Gr w wr.drew G n x bd I2 C/\Bx w u wr.drew G x X hd (.slice ab Bk.length cb) (sO ga oa Ks.length ck)):=⟨E5.o.1.keep (Ad _),E5.o.2.keep (Ad _)⟩
           clear x0 x1 x2;refine wp_region_held_drew (S:=fun W=>W.cell? ⟨G,6,none⟩=some (sG x.gi n x.ci)/\W.cell? ⟨X,2,none⟩=some (sO ga oa Ks.length ck)/\W.cell? ⟨ga,oa+k,none⟩=some (iZ (z:Int))/\W.cell? ⟨X,0,none⟩=some (iZ (hd:Int))) (by kernel_rfl) (by exact HC.o _ _ _ ED.o) (fun hHeld=> ?_)
           clear E5;generalize wr.drew=UD at ED hHeld⊢;obtain⟨y0,_,_,i0⟩:=ED.o.1.isAt hto;have z0:=ED.o.1.is_.frozenAt z;have EN:Hid (Gr w (UD.setCell ⟨x.gi,z,none⟩ (iZ (hd:Int))) G n x bd (I2.set z hd) C/\Bx w u (UD.setCell ⟨x.gi,z,none⟩ (iZ (hd:Int))) G x X hd (.slice ab Bk.length cb) (sO ga oa Ks.length ck)):=⟨ED.o.1.setI z hh,ED.o.2.row ED.o.1.is_ (by decide) (.inr (.inl rfl))⟩
           refine Ak 0 ?_;refine Ak 1 ?_;refine Ak 2 ?_;refine Ak 3 ?_;refine Ak 4 ?_;refine Ak 5 ?_;refine Ak 6 ?_;refine Ak 7 ?_;refine Ak 8 ?_;refine Ak 9 ?_;refine Ak 10 ?_;refine Ak 11 ?_;refine rdH 12 ?_;intro KC hKC;go_simp;refine hKC.o _ _ (by exact HC.o _ _ _ EN.o) (fun hHeld=> ?_);clear hKC KC;refine wpAnyH_done (by kernel_rfl) ?_ _;clear hHeld i0 z0 ED;generalize UD.setCell ⟨x.gi,z,none⟩ (iZ (hd:Int))=UE at EN⊢;go_wp2_with fail
           go_roundw
           case rel=>exact⟨k+1,by omega,by go_num,bd,_,EN.o⟩
           case measure=>simp[intOf];omega
         . have HC:Hid (∀(W:World) (bd:Bool) (I':List Nat) (C:List Int),Gr w W G n x bd I' C/\Bx w u W G x X hd (.slice ab Bk.length cb) (.slice ak Ks.length ck)->W.cell? ⟨G,7,none⟩=some (sG x.gc n x.cc)/\W.cell? ⟨X,0,none⟩=some (iZ (hd:Int))):=fun W bd I' C hW=>⟨hW.1.cells.2.2.2.1,hW.2.cells.1⟩
           have hhI:(hd:Int)<(n:Int):=by omega
           go_upto_region 31 with fail
           have ED:Hid (Gr w wr.drew G n x bd I2 C/\Bx w u wr.drew G x X hd (.slice ab Bk.length cb) (.slice ak Ks.length ck)):=⟨E5.o.1.keep (Ad _),E5.o.2.keep (Ad _)⟩
           clear x0 x1 x2;refine wp_region_held_drew (S:=fun W=>W.cell? ⟨G,7,none⟩=some (sG x.gc n x.cc)/\W.cell? ⟨X,0,none⟩=some (iZ (hd:Int))) (by kernel_rfl) (by exact HC.o _ _ _ _ ED.o) (fun hHeld=> ?_)
           clear E5;generalize wr.drew=UD at ED hHeld⊢;obtain⟨y0,_,_,i0⟩:=ED.o.1.costAt hh;have z0:=ED.o.1.cost.frozenAt hd;have EN:Hid (Gr w (UD.setCell ⟨x.gc,hd,none⟩ (iZ tt)) G n x bd I2 (C.set hd tt)/\Bx w u (UD.setCell ⟨x.gc,hd,none⟩ (iZ tt)) G x X hd (.slice ab Bk.length cb) (.slice ak Ks.length ck)):=⟨ED.o.1.setC hd htt,ED.o.2.row ED.o.1.cost (by decide) (.inr (.inr rfl))⟩
           refine Ak 0 ?_;refine Ak 1 ?_;refine Ak 2 ?_;refine Ak 3 ?_;refine Ak 4 ?_;refine Ak 5 ?_;refine Ak 6 ?_;refine Ak 7 ?_;refine rdH 8 ?_;intro KC hKC;go_simp;refine hKC.o _ _ (by exact HC.o _ _ _ _ EN.o) (fun hHeld=> ?_);clear hKC KC;refine wpAnyH_done (by kernel_rfl) ?_ _;clear hHeld;refine bK (v:=.tuple #[]) (by kernel_rfl) rfl ?_;exact⟨rfl,bd,_,_,EN.o.1,EN.o.2.fr⟩
       have hD0:0<=4294967295 / a0:=Int.ediv_nonneg (by omega) (by omega);have hD1:4294967295 / a0<=4294967295:=Int.ediv_le_self _ (by omega);by_cases htd:t>4294967295 / a0
       . have E3:Hid (Gr w (wr.setCell ⟨G,8,none⟩ (.bool true)) G n x true I C/\Bx w u (wr.setCell ⟨G,8,none⟩ (.bool true)) G x X hd (.slice ab Bk.length cb) (.slice ak Ks.length ck)):=⟨E2.o.1.gr.bad_,E2.o.2.bad_ E2.o.1.gr⟩
         go_wp2_with fail
         clear x0 x1 x2 p2 p3 p6 p7 p8 z8 E2;go_loopw [18] (fun i wr=>∃k:Nat,k<=Ks.length/\i=iZ k/\Hid (∃bd I',Gr w wr G n x bd I' C/\Bx w u wr G x X hd (.slice ab Bk.length cb) (.slice ak Ks.length ck))) (fun i _=>Ks.length-(intOf i).toNat)
         case atStart=>exact⟨0,by omega,rfl,true,_,E3.o⟩
         case round=>
          obtain⟨k,hk',rfl,E4⟩:=hrel;obtain⟨bd,I2,hg4,hx4⟩:=E4.o;have E5:Hid (Gr w wr G n x bd I2 C/\Bx w u wr G x X hd (.slice ab Bk.length cb) (.slice ak Ks.length ck)):=⟨hg4,hx4⟩
          clear hg4 hx4 E4;obtain⟨x0,x1,x2⟩:=E5.o.2.cells;by_cases hlt:k<Ks.length
          . have hltI:(k:Int)<(Ks.length:Int):=by omega
            obtain⟨ga,oa,ea,_,e0⟩:=H.o.2.2.2.1.at_ (aA hlt);have hto:Ks[k]<n:=H.o.2.2.2.2 _ (bq hlt);subst ea;generalize Ks[k]=z at hto e0;have htoI:(z:Int)<(n:Int):=by omega
            have HC:Hid (∀(W:World) (bd:Bool) (I':List Nat),Gr w W G n x bd I' C/\Bx w u W G x X hd (.slice ab Bk.length cb) (sO ga oa Ks.length ck)->W.cell? ⟨G,6,none⟩=some (sG x.gi n x.ci)/\W.cell? ⟨X,2,none⟩=some (sO ga oa Ks.length ck)/\W.cell? ⟨ga,oa+k,none⟩=some (iZ (z:Int))/\W.cell? ⟨X,0,none⟩=some (iZ (hd:Int))):=fun W bd I' hW=>⟨hW.1.cells.2.2.1,hW.2.cells.2.2,Ac hW.1.bel e0,hW.2.cells.1⟩
            clear e0;go_upto_region 30 with fail
            have ED:Hid (Gr w wr.drew G n x bd I2 C/\Bx w u wr.drew G x X hd (.slice ab Bk.length cb) (sO ga oa Ks.length ck)):=⟨E5.o.1.keep (Ad _),E5.o.2.keep (Ad _)⟩
            clear x0 x1 x2;refine wp_region_held_drew (S:=fun W=>W.cell? ⟨G,6,none⟩=some (sG x.gi n x.ci)/\W.cell? ⟨X,2,none⟩=some (sO ga oa Ks.length ck)/\W.cell? ⟨ga,oa+k,none⟩=some (iZ (z:Int))/\W.cell? ⟨X,0,none⟩=some (iZ (hd:Int))) (by kernel_rfl) (by exact HC.o _ _ _ ED.o) (fun hHeld=> ?_)
            clear E5;generalize wr.drew=UD at ED hHeld⊢;obtain⟨y0,_,_,i0⟩:=ED.o.1.isAt hto;have z0:=ED.o.1.is_.frozenAt z;have EN:Hid (Gr w (UD.setCell ⟨x.gi,z,none⟩ (iZ (hd:Int))) G n x bd (I2.set z hd) C/\Bx w u (UD.setCell ⟨x.gi,z,none⟩ (iZ (hd:Int))) G x X hd (.slice ab Bk.length cb) (sO ga oa Ks.length ck)):=⟨ED.o.1.setI z hh,ED.o.2.row ED.o.1.is_ (by decide) (.inr (.inl rfl))⟩
            refine Ak 0 ?_;refine Ak 1 ?_;refine Ak 2 ?_;refine Ak 3 ?_;refine Ak 4 ?_;refine Ak 5 ?_;refine Ak 6 ?_;refine Ak 7 ?_;refine Ak 8 ?_;refine Ak 9 ?_;refine Ak 10 ?_;refine Ak 11 ?_;refine rdH 12 ?_;intro KC hKC;go_simp;refine hKC.o _ _ (by exact HC.o _ _ _ EN.o) (fun hHeld=> ?_);clear hKC KC;refine wpAnyH_done (by kernel_rfl) ?_ _;clear hHeld i0 z0 ED;generalize UD.setCell ⟨x.gi,z,none⟩ (iZ (hd:Int))=UE at EN⊢;go_wp2_with fail
            go_roundw
            case rel=>exact⟨k+1,by omega,by go_num,bd,_,EN.o⟩
            case measure=>simp[intOf];omega
          . have HC:Hid (∀(W:World) (bd:Bool) (I':List Nat) (C:List Int),Gr w W G n x bd I' C/\Bx w u W G x X hd (.slice ab Bk.length cb) (.slice ak Ks.length ck)->W.cell? ⟨G,7,none⟩=some (sG x.gc n x.cc)/\W.cell? ⟨X,0,none⟩=some (iZ (hd:Int))):=fun W bd I' C hW=>⟨hW.1.cells.2.2.2.1,hW.2.cells.1⟩
            have hhI:(hd:Int)<(n:Int):=by omega
            go_upto_region 31 with fail
            have ED:Hid (Gr w wr.drew G n x bd I2 C/\Bx w u wr.drew G x X hd (.slice ab Bk.length cb) (.slice ak Ks.length ck)):=⟨E5.o.1.keep (Ad _),E5.o.2.keep (Ad _)⟩
            clear x0 x1 x2;refine wp_region_held_drew (S:=fun W=>W.cell? ⟨G,7,none⟩=some (sG x.gc n x.cc)/\W.cell? ⟨X,0,none⟩=some (iZ (hd:Int))) (by kernel_rfl) (by exact HC.o _ _ _ _ ED.o) (fun hHeld=> ?_)
            clear E5;generalize wr.drew=UD at ED hHeld⊢;obtain⟨y0,_,_,i0⟩:=ED.o.1.costAt hh;have z0:=ED.o.1.cost.frozenAt hd;have EN:Hid (Gr w (UD.setCell ⟨x.gc,hd,none⟩ (iZ 0)) G n x bd I2 (C.set hd 0)/\Bx w u (UD.setCell ⟨x.gc,hd,none⟩ (iZ 0)) G x X hd (.slice ab Bk.length cb) (.slice ak Ks.length ck)):=⟨ED.o.1.setC hd ⟨by omega,by omega⟩,ED.o.2.row ED.o.1.cost (by decide) (.inr (.inr rfl))⟩
            refine Ak 0 ?_;refine Ak 1 ?_;refine Ak 2 ?_;refine Ak 3 ?_;refine Ak 4 ?_;refine Ak 5 ?_;refine Ak 6 ?_;refine Ak 7 ?_;refine rdH 8 ?_;intro KC hKC;go_simp;refine hKC.o _ _ (by exact HC.o _ _ _ _ EN.o) (fun hHeld=> ?_);clear hKC KC;refine wpAnyH_done (by kernel_rfl) ?_ _;clear hHeld;refine bK (v:=.tuple #[]) (by kernel_rfl) rfl ?_;exact⟨rfl,bd,_,_,EN.o.1,EN.o.2.fr⟩
       . have hm:t*a0<=4294967295:=(Int.le_ediv_iff_mul_le ha0).1 (by omega)
         have hm0:0<=t*a0:=Int.mul_nonneg t1 (by omega);go_wp2_with fail
         refine(Ex G (t*a0) o0 _ wr ⟨by omega,by omega⟩ ⟨o1,o2⟩ E2.o.1.gr.cells.2.2.2.2.1 E2.o.1.gr.cells.2.2.2.2.2).mono ?_;rintro e u4 ⟨tt,rfl,htt,hU⟩
         have E3:Hid (∃bd I',Gr w u4 G n x bd I' C/\Bx w u u4 G x X hd (.slice ab Bk.length cb) (.slice ak Ks.length ck)):=by
          rcases hU with rfl|rfl
          . exact⟨_,_,E2.o.1.gr,E2.o.2⟩
          . exact⟨_,_,E2.o.1.gr.bad_,E2.o.2.bad_ E2.o.1.gr⟩
         clear hU;clear x0 x1 x2 p2 p3 p6 p7 p8 z8 E2;go_wp2_with fail
         go_loopw [18] (fun i wr=>∃k:Nat,k<=Ks.length/\i=iZ k/\Hid (∃bd I',Gr w wr G n x bd I' C/\Bx w u wr G x X hd (.slice ab Bk.length cb) (.slice ak Ks.length ck))) (fun i _=>Ks.length-(intOf i).toNat)
         case atStart=>exact⟨0,by omega,rfl,E3.o⟩
         case round=>
          obtain⟨k,hk',rfl,E4⟩:=hrel;obtain⟨bd,I2,hg4,hx4⟩:=E4.o;have E5:Hid (Gr w wr G n x bd I2 C/\Bx w u wr G x X hd (.slice ab Bk.length cb) (.slice ak Ks.length ck)):=⟨hg4,hx4⟩
          clear hg4 hx4 E4;obtain⟨x0,x1,x2⟩:=E5.o.2.cells;by_cases hlt:k<Ks.length
          . have hltI:(k:Int)<(Ks.length:Int):=by omega
            obtain⟨ga,oa,ea,_,e0⟩:=H.o.2.2.2.1.at_ (aA hlt);have hto:Ks[k]<n:=H.o.2.2.2.2 _ (bq hlt);subst ea;generalize Ks[k]=z at hto e0;have htoI:(z:Int)<(n:Int):=by omega
            have HC:Hid (∀(W:World) (bd:Bool) (I':List Nat),Gr w W G n x bd I' C/\Bx w u W G x X hd (.slice ab Bk.length cb) (sO ga oa Ks.length ck)->W.cell? ⟨G,6,none⟩=some (sG x.gi n x.ci)/\W.cell? ⟨X,2,none⟩=some (sO ga oa Ks.length ck)/\W.cell? ⟨ga,oa+k,none⟩=some (iZ (z:Int))/\W.cell? ⟨X,0,none⟩=some (iZ (hd:Int))):=fun W bd I' hW=>⟨hW.1.cells.2.2.1,hW.2.cells.2.2,Ac hW.1.bel e0,hW.2.cells.1⟩
            clear e0;go_upto_region 30 with fail
            have ED:Hid (Gr w wr.drew G n x bd I2 C/\Bx w u wr.drew G x X hd (.slice ab Bk.length cb) (sO ga oa Ks.length ck)):=⟨E5.o.1.keep (Ad _),E5.o.2.keep (Ad _)⟩
            clear x0 x1 x2;refine wp_region_held_drew (S:=fun W=>W.cell? ⟨G,6,none⟩=some (sG x.gi n x.ci)/\W.cell? ⟨X,2,none⟩=some (sO ga oa Ks.length ck)/\W.cell? ⟨ga,oa+k,none⟩=some (iZ (z:Int))/\W.cell? ⟨X,0,none⟩=some (iZ (hd:Int))) (by kernel_rfl) (by exact HC.o _ _ _ ED.o) (fun hHeld=> ?_)
            clear E5;generalize wr.drew=UD at ED hHeld⊢;obtain⟨y0,_,_,i0⟩:=ED.o.1.isAt hto;have z0:=ED.o.1.is_.frozenAt z;have EN:Hid (Gr w (UD.setCell ⟨x.gi,z,none⟩ (iZ (hd:Int))) G n x bd (I2.set z hd) C/\Bx w u (UD.setCell ⟨x.gi,z,none⟩ (iZ (hd:Int))) G x X hd (.slice ab Bk.length cb) (sO ga oa Ks.length ck)):=⟨ED.o.1.setI z hh,ED.o.2.row ED.o.1.is_ (by decide) (.inr (.inl rfl))⟩
            refine Ak 0 ?_;refine Ak 1 ?_;refine Ak 2 ?_;refine Ak 3 ?_;refine Ak 4 ?_;refine Ak 5 ?_;refine Ak 6 ?_;refine Ak 7 ?_;refine Ak 8 ?_;refine Ak 9 ?_;refine Ak 10 ?_;refine Ak 11 ?_;refine rdH 12 ?_;intro KC hKC;go_simp;refine hKC.o _ _ (by exact HC.o _ _ _ EN.o) (fun hHeld=> ?_);clear hKC KC;refine wpAnyH_done (by kernel_rfl) ?_ _;clear hHeld i0 z0 ED;generalize UD.setCell ⟨x.gi,z,none⟩ (iZ (hd:Int))=UE at EN⊢;go_wp2_with fail
            go_roundw
            case rel=>exact⟨k+1,by omega,by go_num,bd,_,EN.o⟩
            case measure=>simp[intOf];omega
          . have HC:Hid (∀(W:World) (bd:Bool) (I':List Nat) (C:List Int),Gr w W G n x bd I' C/\Bx w u W G x X hd (.slice ab Bk.length cb) (.slice ak Ks.length ck)->W.cell? ⟨G,7,none⟩=some (sG x.gc n x.cc)/\W.cell? ⟨X,0,none⟩=some (iZ (hd:Int))):=fun W bd I' C hW=>⟨hW.1.cells.2.2.2.1,hW.2.cells.1⟩
            have hhI:(hd:Int)<(n:Int):=by omega
            go_upto_region 31 with fail
            have ED:Hid (Gr w wr.drew G n x bd I2 C/\Bx w u wr.drew G x X hd (.slice ab Bk.length cb) (.slice ak Ks.length ck)):=⟨E5.o.1.keep (Ad _),E5.o.2.keep (Ad _)⟩
            clear x0 x1 x2;refine wp_region_held_drew (S:=fun W=>W.cell? ⟨G,7,none⟩=some (sG x.gc n x.cc)/\W.cell? ⟨X,0,none⟩=some (iZ (hd:Int))) (by kernel_rfl) (by exact HC.o _ _ _ _ ED.o) (fun hHeld=> ?_)
            clear E5;generalize wr.drew=UD at ED hHeld⊢;obtain⟨y0,_,_,i0⟩:=ED.o.1.costAt hh;have z0:=ED.o.1.cost.frozenAt hd;have EN:Hid (Gr w (UD.setCell ⟨x.gc,hd,none⟩ (iZ tt)) G n x bd I2 (C.set hd tt)/\Bx w u (UD.setCell ⟨x.gc,hd,none⟩ (iZ tt)) G x X hd (.slice ab Bk.length cb) (.slice ak Ks.length ck)):=⟨ED.o.1.setC hd htt,ED.o.2.row ED.o.1.cost (by decide) (.inr (.inr rfl))⟩
            refine Ak 0 ?_;refine Ak 1 ?_;refine Ak 2 ?_;refine Ak 3 ?_;refine Ak 4 ?_;refine Ak 5 ?_;refine Ak 6 ?_;refine Ak 7 ?_;refine rdH 8 ?_;intro KC hKC;go_simp;refine hKC.o _ _ (by exact HC.o _ _ _ _ EN.o) (fun hHeld=> ?_);clear hKC KC;refine wpAnyH_done (by kernel_rfl) ?_ _;clear hHeld;refine bK (v:=.tuple #[]) (by kernel_rfl) rfl ?_;exact⟨rfl,bd,_,_,EN.o.1,EN.o.2.fr⟩
end Go.Proofs.YtjpobijiblcgaaaGreat
