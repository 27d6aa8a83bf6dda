import Derived.Test.YtdfmdgbolmbffaaGreatTy29
import Derived.Test.YtdfmdgbolmbffaaGreatTy33
import Derived.Shelf.SlicesG.Reverse
import Derived.Shelf.Bits.Mul64
import Derived.Shelf.Lay
import Derived.Laws.CopyOwn
import Derived.Ground.NamesProg
import Derived.Test.YtdfmdgbolmbffaaGreatTy36
import Derived.Deep.LoopGhost
import Derived.Test.YtdfmdgbolmbffaaGreatTy31
import Derived.Sort.OwnSortedInts
namespace Go.Proofs
open Go.Shelf
def Tryz.lReverse_ren:Go.Shelf.Ren:=⟨fun|35=>140|n=>n,fun|22=>48|23=>2|3=>3|4=>4|0=>0|n=>n,fun|n=>n⟩
theorem Tryz.lReverse:Go.Proofs.SlLaysN.n35 Tryz.prog Tryz.lReverse_ren:={
  mixed:=by kernel_rfl
  f35:=⟨Tryz.f140.name,by decide,Tryz.func140.trans (congrArg some (by kernel_rfl))⟩
  t0:=Tryz.underlying0
  a0:=Tryz.isAgg0
  z0:=Tryz.sizeOf0
  v0:=Tryz.zeroValue0
  t3:=Tryz.underlying3
  a3:=Tryz.isAgg3
  z3:=Tryz.sizeOf3
  v3:=Tryz.zeroValue3
  t4:=Tryz.underlying4
  a4:=Tryz.isAgg4
  z4:=Tryz.sizeOf4
  v4:=Tryz.zeroValue4
  t22:=Tryz.underlying48
  a22:=Tryz.isAgg48
  z22:=Tryz.sizeOf48
  v22:=Tryz.zeroValue48
  t23:=Tryz.underlying2
  a23:=Tryz.isAgg2
  z23:=Tryz.sizeOf2
  v23:=Tryz.zeroValue2}
def Tryz.lMul_ren:Go.Shelf.Ren:=⟨fun|212=>165|263=>176|264=>177|n=>n,fun|46=>213|51=>98|146=>226|53=>228|148=>229|n=>n,fun|n=>n⟩
theorem Tryz.lMul:Go.Proofs.Lays.n212 Tryz.prog Tryz.lMul_ren:={
  mixed:=by kernel_rfl
  f212:=Tryz.func165.trans (congrArg some (by kernel_rfl))
  f263:=Tryz.func176.trans (congrArg some (by kernel_rfl))
  f264:=Tryz.func177.trans (congrArg some (by kernel_rfl))
  t46:=Tryz.underlying213
  a46:=Tryz.isAgg213
  z46:=Tryz.sizeOf213
  v46:=Tryz.zeroValue213
  t51:=Tryz.underlying98
  a51:=Tryz.isAgg98
  z51:=Tryz.sizeOf98
  v51:=Tryz.zeroValue98
  t53:=Tryz.underlying228
  a53:=Tryz.isAgg228
  z53:=Tryz.sizeOf228
  v53:=Tryz.zeroValue228
  t146:=Tryz.underlying226
  a146:=Tryz.isAgg226
  z146:=Tryz.sizeOf226
  v146:=Tryz.zeroValue226
  t148:=Tryz.underlying229
  a148:=Tryz.isAgg229
  z148:=Tryz.sizeOf229
  v148:=Tryz.zeroValue229}
end Go.Proofs
namespace Go.Proofs.YtdfmdgbolmbffaaGreat
open Go.ChangeShapes Go.WideShapes Go.ChangeAt Go.RowKit
set_option linter.unusedVariables false
theorem mul_any(x y:Nat)(hx:x<18446744073709551616)(hy:y<18446744073709551616)(w:World):
    Calls Tryz.prog 165 #[.int .u64 x,.int .u64 y] w fun e w'=>e=.returned (.tuple #[.int .u64 ((x*y / 18446744073709551616:Nat):Int),.int .u64 ((x*y % 18446744073709551616:Nat):Int)])/\w'=w:=by
  have h:=Any.bits_Mul Tryz.lMul x y hx hy w
  exact h
theorem reverse_any(g cap:Nat)(zs:List Int)(w:World)(hH:Go.Sort.Holds (Value.int .i64) w g 0 zs.toArray)(hsz:zs.length<=9223372036854775807):
    Calls Tryz.prog 140 #[.slice (some ⟨g,0,none⟩) zs.length cap] w fun e w'=>e=.returned (.tuple #[])/\∃n,w'=Go.Sort.putRow (Value.int .i64) (Go.Sort.ahead w n) g 0 zs.reverse.toArray:=by
  have h:=AnyG.slices_Reverse_int Tryz.lReverse g 0 cap zs w hH hsz
  exact h
def repV(k n:Nat):List Value:=List.replicate k (.int .i64 (-1))++List.replicate (n-k) (.int .i64 0)
theorem repV_length(k n:Nat)(h:k<=n):(repV k n).length=n:=by simp[repV];omega
theorem repV_splice(k c n:Nat)(h:k+c<=n):splice (repV k n) k (List.replicate c (.int .i64 (-1)))=repV (k+c) n:=by
  unfold splice repV
  rw[List.take_left' (by simp),List.length_replicate,List.drop_append,List.drop_of_length_le (by simp),List.nil_append,List.length_replicate,List.drop_replicate,<-List.append_assoc,List.replicate_append_replicate]
  congr 2
  omega
theorem copy_rep(W:World)(G k n dl dc sl sc c:Nat)(ad:Addr)(hg:Blk W G (repV k n).toArray 2)(hc:c=Nat.min sl dl)(hsrc:∀j,j<c->W.cell? (ad.add j)=some (.int .i64 (-1)))(hkc:k+c<=n):
    (Builtin.copy_ #[48,48] 3 #[.slice (some ⟨G,k,none⟩) dl dc,.slice (some ad) sl sc]).run Tryz.prog W=.ok (.int .i64 (c:Int)) (W.setRow G (repV (k+c) n).toArray):=by
  obtain⟨k0,hk,hx0,hx1,hx2⟩:=info_parts info64
  have h:=run_copy_row (P:=Tryz.prog) W 48 48 3 2 G k dl dc ad sl sc (repV k n).toArray 2 (List.replicate c (.int .i64 (-1))) Tryz.underlying48 (by rw[hk];simp[hx1]) hg (by rw[List.length_replicate];exact hc) (fun j v hj=>by
    obtain⟨h1,h2⟩:=List.getElem?_eq_some_iff.1 hj
    rw[List.length_replicate]at h1
    rw[hsrc j h1,<-h2]
    simp) (by rw[List.length_replicate,List.size_toArray,repV_length k n (by omega)];exact hkc) (fun v hv=>by rw[(List.mem_replicate.1 hv).2];rfl)
  rw[h]
  have e:=repV_splice k c n hkc
  unfold splice at e
  simp only[List.length_replicate]at e⊢
  rw[List.append_assoc,e]
  rfl
theorem rep_at(k n i:Nat)(h:i<k)(hk:k<=n):(repV k n).toArray[i]?=some (.int .i64 (-1)):=by
  rw[List.getElem?_toArray]
  unfold repV
  rw[List.getElem?_append_left (by simpa using h)]
  simp[h]
theorem made_rep{W:World}{B G n:Nat}(h:W.ownsRow B 2 1 (.slice (some ⟨G,0,none⟩) n n) n (madeCells (Value.int .i64 0).cells (n*1)).toList):Blk W G (repV 0 n).toArray 2:=by
  rcases h.2 with⟨h',_⟩|⟨g',cap',cur,h',hb,hg,h3,h4,h5,h6⟩
  . cases h'
  . cases h'
    have e:cur=(repV 0 n).toArray:=by
      rw[made_int n (fun _=>[]) []]at h6
      rw[List.take_of_length_le (by simp[h5])]at h6
      apply Array.toList_inj.1
      rw[h6]
      simp[flatTo,repV,List.flatten_replicate_singleton]
    rw[<-e]
    exact hg
theorem setRow_blk{W:World}{G:Nat}{cur new:Array Value}{t:TypeId}(h:Blk W G cur t):Blk (W.setRow G new) G new t:=setRow_heap W G _ _ t _ h
set_option maxHeartbeats 4000000 in
set_option maxRecDepth 100000 in
theorem repeat_any(g n:Nat)(w:World)(h1:1<=n)(hn:n<=1024)(h:w.cell? ⟨g,0,none⟩=some (.int .i64 (-1))):
    Calls Tryz.prog 142 #[.slice (some ⟨g,0,none⟩) 1 1,.int .i64 (n:Int)] w fun e w'=>∃g',e=.returned (.slice (some ⟨g',0,none⟩) n n)/\w'.ownsRow w.heap.size 2 1 (.slice (some ⟨g',0,none⟩) n n) n (List.replicate n (.int .i64 (-1)))/\Below w.heap.size w w':=by
  obtain⟨k0,hk,hx0,hx1,hx2⟩:=info_parts info64
  have hnI:¬(n:Int)<0:=by omega
  have hn2:(n:Int)<=1024:=by omega
  have hm1:1*n / 18446744073709551616=0:=by omega
  have hm2:1*n % 18446744073709551616=n:=by omega
  have HM:Hid (∀U:World,Calls Tryz.prog 165 #[.int .u64 1,.int .u64 (n:Int)] U fun e w'=>e=.returned (.tuple #[.int .u64 0,.int .u64 (n:Int)])/\w'=U):=fun U=>by
    have:=mul_any 1 n (by omega) (by omega) U
    rw[hm1,hm2]at this
    exact this
  clear hm1 hm2
  go_enter Tryz.func142,Tryz.ntmps142
  go_wp2_with fail
  refine(HM.out w).mono ?_
  rintro e u ⟨rfl,rfl⟩
  have hgt:g<u.heap.size:=block_lt_of_cell h
  have HOC:Hid (u.cell? ⟨g,0,none⟩=some (.int .i64 (-1))):=h
  clear h
  go_upto_region 7 with(at_make;refine wpList_make_full _ rfl _ _ 48 rfl u.heap.size 2 k0 (.int .i64 0) 1 Tryz.underlying48 hk hx0 hx1 .i64 .i64 _ _ n rfl rfl rfl rfl (by rw[hx2];omega) (by unfold maxLen;omega) (Nat.le_refl _) ?_;intro w3 hown hgrow)
  have hb3:Below u.heap.size u w3:=(Below.refl _ _).grown hgrow (Nat.le_refl _) (fun k hk=>by cases hk)
  have k3:Blk w3 u.heap.size (repV 0 n).toArray 2:=made_rep hown
  have hcp:=copy_rep w3 u.heap.size 0 n n n 1 1 1 ⟨g,0,none⟩ k3 (by simp[Nat.min_def];omega) (fun j hj=>by
    obtain rfl:j=0:=by omega
    rw[add_at]
    exact bcell_keep hb3 HOC.out) (by omega)
  have HB4:Hid (Blk (w3.setRow u.heap.size (repV (0+1) n).toArray) u.heap.size (repV (0+1) n).toArray 2/\Below u.heap.size u (w3.setRow u.heap.size (repV (0+1) n).toArray)):=⟨setRow_blk k3,below_setRow hb3 (Nat.le_refl _) _⟩
  clear hown hgrow hb3 k3
  rw[Nat.zero_add]at hcp HB4
  obtain⟨W4,hW4⟩:∃W,W=w3.setRow u.heap.size (repV 1 n).toArray:=⟨_,rfl⟩
  rw[<-hW4]at hcp HB4
  clear hW4
  obtain⟨G,hG⟩:∃G,G=u.heap.size:=⟨_,rfl⟩
  rw[<-hG]at hcp HB4⊢
  have HGG:Hid (G=u.heap.size):=hG
  clear hG
  go_wp2
  go_loopw [8] (fun i wr=>∃k:Nat,1<=k/\k<=n/\i=.int .i64 (k:Int)/\Hid (Blk wr G (repV k n).toArray 2/\Below u.heap.size u wr)) (fun i _=>n-(intOf i).toNat)
  case atStart=>exact⟨1,by omega,h1,rfl,by rw[<-HGG.out];exact HB4⟩
  case round=>
    clear HB4 hcp
    obtain⟨k,hk1,hkn,rfl,HL⟩:=hrel
    by_cases hlt:k<n
    . have hltI:(k:Int)<(n:Int):=by omega
      have kD:=HL.out.1.keep (below_drew1 wr)
      have bD:=below_on HL.out.2 (Nat.le_refl _) (below_drew1 wr)
      obtain⟨c,hc⟩:∃c,c=Nat.min k (n-k):=⟨_,rfl⟩
      have hcl:1<=c/\c<=k/\k+c<=n:=by
        have e:c=min k (n-k):=hc
        omega
      have hcp:=copy_rep wr.drew G k n (n-k) (n-k) k n c ⟨G,0,none⟩ kD hc (fun j hj=>by
        rw[add_at,Nat.zero_add,kD.cell j]
        exact rep_at k n j (by omega) (by omega)) (by omega)
      have HN:Hid (Blk (wr.drew.setRow G (repV (k+c) n).toArray) G (repV (k+c) n).toArray 2/\Below u.heap.size u (wr.drew.setRow G (repV (k+c) n).toArray)):=⟨setRow_blk kD,below_setRow bD (by rw[HGG.out];exact Nat.le_refl _) _⟩
      clear kD bD hc
      go_wp2
      go_region
      refine with_world (fun x=>Hid (Blk x G (repV (k+c) n).toArray 2/\Below u.heap.size u x)) HN ?_
      intro U HU
      clear HN hcp
      go_wp2
      go_roundw
      case rel=>exact⟨k+c,by omega,by omega,by go_num,HU⟩
      case measure=>simp[intOf];omega
    . obtain rfl:k=n:=by omega
      have HE:Hid (wr.ownsRow u.heap.size 2 1 (.slice (some ⟨G,0,none⟩) k k) k (List.replicate k (.int .i64 (-1)))):=by
        refine⟨by simp,.inr ⟨G,k,(repV k k).toArray,rfl,by rw[HGG.out];exact Nat.le_refl _,HL.out.1,Nat.le_refl _,by unfold maxLen;omega,by simp[repV],by simp[repV]⟩⟩
      go_wp2
      go_ret
      exact⟨G,rfl,HE.out,HL.out.2⟩
end Go.Proofs.YtdfmdgbolmbffaaGreat
namespace Go.Proofs.YtdfmdgbolmbffaaGreat
open Go.ChangeShapes Go.WideShapes Go.ChangeAt Go.RowKit
set_option linter.unusedVariables false
def zv(I:Nat->Int)(n:Nat):List Value:=(List.range n).map fun i=>Value.int .i64 (I i)
theorem zv_length(I:Nat->Int)(n:Nat):(zv I n).length=n:=by simp[zv]
theorem zv_at(I:Nat->Int)(n i:Nat)(h:i<n):(zv I n)[i]?=some (.int .i64 (I i)):=by simp[zv,h]
theorem zv_set{I J:Nat->Int}{n i:Nat}{x:Int}(h:∀j,J j=if j=i then x else I j):(zv I n).set i (.int .i64 x)=zv J n:=by
  apply List.ext_getElem?
  intro j
  by_cases hj:j<n
  . rw[zv_at _ _ _ hj,h j]
    by_cases e:j=i
    . subst e
      rw[List.getElem?_set_self (by rw[zv_length];exact hj),if_pos rfl]
    . rw[List.getElem?_set_ne (by omega),zv_at _ _ _ hj,if_neg e]
  . rw[List.getElem?_eq_none (by simp[zv_length];omega),List.getElem?_eq_none (by rw[zv_length];omega)]
theorem zv_rep(n:Nat):List.replicate n (Value.int .i64 (-1))=zv (fun _=> -1) n:=by
  apply List.ext_getElem?
  intro j
  by_cases hj:j<n
  . rw[zv_at _ _ _ hj]
    simp[hj]
  . rw[List.getElem?_eq_none (by simp;omega),List.getElem?_eq_none (by rw[zv_length];omega)]
theorem zv_flat(I:Nat->Int)(n:Nat):zv I n=((List.range n).map I).flatMap intCell:=by
  unfold zv
  rw[List.flatMap_map]
  induction List.range n with
  |nil=>rfl
  |cons x r ih=>simp[intCell,ih]
structure DW(w u:World)(G n:Nat)(A:Array Value)(gi:Nat)(I:Nat->Int):Prop where
  blk:∃x0 x1 x2 x3,A=#[x0,x1,x2,x3]/\Blk u G #[x0,x1,x2,x3,.slice (some ⟨gi,0,none⟩) n n] 176
  row:u.ownsRow w.heap.size 2 1 (.slice (some ⟨gi,0,none⟩) n n) n (zv I n)
  fx:∀k,k<w.heap.size->k≠G->u.heap[k]?=w.heap[k]?
  bel:Below G w u
  size:w.heap.size<=u.heap.size
  lt:G<w.heap.size
theorem DW.keep{w u u':World}{G n gi:Nat}{A:Array Value}{I:Nat->Int}(h:DW w u G n A gi I)(hb:Below u.heap.size u u'):DW w u' G n A gi I:=by
  obtain⟨x0,x1,x2,x3,e,k⟩:=h.blk
  exact⟨⟨x0,x1,x2,x3,e,k.keep hb⟩,own_keep h.row hb (Nat.le_refl _),fun k hk hne=>by rw[hb.block k (Nat.lt_of_lt_of_le hk h.size)];exact h.fx k hk hne,h.bel.trans (hb.mono (by have:=h.lt;have:=h.size;omega)),Nat.le_trans h.size hb.size,h.lt⟩
theorem DW.cell{w u:World}{G n gi:Nat}{A:Array Value}{I:Nat->Int}(h:DW w u G n A gi I){a:Addr}{x:Value}(hb:w.cell? a=some x)(hne:a.block≠G):u.cell? a=some x:=by
  have:=h.fx a.block (block_lt_of_cell hb) hne
  unfold World.cell? at*
  rw[this]
  exact hb
theorem DW.set{w u:World}{G n gi:Nat}{A:Array Value}{I J:Nat->Int}(h:DW w u G n A gi I)(b:Nat)(x:Int)(hJ:∀j,J j=if j=b then x else I j):DW w (u.setCell ⟨gi,b,none⟩ (.int .i64 x)) G n A gi J:=by
  obtain⟨x0,x1,x2,x3,e,k⟩:=h.blk
  have hge:=(own_blk h.row).1
  have hlt:=h.lt
  refine⟨⟨x0,x1,x2,x3,e,k.other (by simp only[];omega) _⟩,?_,fun k hk hne=> ?_,h.bel.setCell (by simp only[];omega) _,by rw[World.size_setCell];exact h.size,h.lt⟩
  . have:=(h.row.stored b (.int .i64 x)).1
    rw[zv_set hJ]at this
    exact this
  . rw[heap_setCell_other u _ k _ (by simp only[];omega)]
    exact h.fx k hk hne
structure PassI(E:Nat->List Nat)(n:Nat)(pl:Nat->Nat)(k j:Nat)(I:Nat->Int):Prop where
  dinv:DInv E n pl I
  uinv:UInv E n pl I k j
  kn:∀x,x<n->pl x<j->Kn I x
  all:k=0\/∀x,x<n->Kn I x
  z:I 0=-1
theorem PassI.step{E:Nat->List Nat}{n:Nat}{pl:Nat->Nat}{k j b:Nat}{I J:Nat->Int}{z:Int}(hP:Place E n pl)(h:PassI E n pl k j I)(hb:b<n)(hb0:b≠0)(hj:pl b=j)(hc:CommonIs n I (fromL E n b) z)(hJ:∀y,J y=if y=b then z else I y):PassI E n pl k (j+1) J:=by
  subst hj
  have hps:=fromL_preds E n b
  obtain⟨m,h1,h2,h3,h4,h5⟩:=common_up hP h.dinv hb hb0 hps h.kn hc
  have hJ1:∀y,y≠b->I y=J y:=fun y hy=>by rw[hJ y,if_neg hy]
  have hJb:J b=(m:Int):=by rw[hJ b,if_pos rfl,h1]
  obtain⟨d1,d2,d3,d4⟩:=h.dinv.set hP hb hb0 hps h.kn h2 h3 h4 h5 hJ1 hJb
  refine⟨d1,h.uinv.set hP h.dinv hb hb0 hps h.kn h.all h2 h3 h4 h5 hJ1 hJb,fun x hx hl=> ?_,h.all.imp id fun q x hx=>d2 x (q x hx),?_⟩
  . by_cases e:x=b
    . subst e;exact .inr (by rw[hJb];omega)
    . refine d2 x (h.kn x hx ?_)
      have:=hP.inj x b hx hb
      omega
  . rw[hJ 0,if_neg (Ne.symm hb0)]
    exact h.z
structure DoneI(E:Nat->List Nat)(n:Nat)(pl:Nat->Nat)(I:Nat->Int):Prop where
  dinv:DInv E n pl I
  all:∀x,x<n->Kn I x
  dom:∀d x,x<n->(Anc I d x↔Dom E d x)
  z:I 0=-1
end Go.Proofs.YtdfmdgbolmbffaaGreat
namespace Go.Proofs.YtdfmdgbolmbffaaGreat
open Go.ChangeShapes Go.WideShapes Go.ChangeAt Go.RowKit
set_option linter.unusedVariables false
theorem infoSI:(Tryz.prog.info? 48).map (fun i=>(i.zero,i.size,i.bytes))=some (some (.slice none 0 0),1,24):=by kernel_rfl
theorem made_nils(n:Nat):(madeCells (Value.slice none 0 0).cells (n*1)).toList=List.replicate n (.slice none 0 0):=by
  rw[flatTo_zero (fun b:Bool=>[Value.bool b]) [.slice none 0 0] [] n (.slice none 0 0) 1 rfl rfl (by omega)]
  simp[flatTo,List.flatten_replicate_singleton]
structure NG0(w u:World)(n G gF gP:Nat):Prop where
  blk:Blk u G #[.slice none 0 0,.slice (some ⟨gF,0,none⟩) n n,.slice none 0 0,.slice (some ⟨gP,0,none⟩) n n,.slice none 0 0] 176
  frow:u.ownsRow w.heap.size 48 1 (.slice (some ⟨gF,0,none⟩) n n) n (List.replicate n (.slice none 0 0))
  prow:u.ownsRow w.heap.size 2 1 (.slice (some ⟨gP,0,none⟩) n n) n (iv (fun _=>0) n)
  bel:Below w.heap.size w u
  ge:w.heap.size<=G
theorem NG0.of{w W:World}{n gF gP:Nat}(hf:W.ownsRow w.heap.size 48 1 (.slice (some ⟨gF,0,none⟩) n n) n (List.replicate n (.slice none 0 0)))(hp:W.ownsRow w.heap.size 2 1 (.slice (some ⟨gP,0,none⟩) n n) n (iv (fun _=>0) n))(hb:Below w.heap.size w W):NG0 w (W.alloc (.cells #[.slice none 0 0,.slice (some ⟨gF,0,none⟩) n n,.slice none 0 0,.slice (some ⟨gP,0,none⟩) n n,.slice none 0 0] 176)) n W.heap.size gF gP:=⟨Blk.new _ _ _,own_keep hf (below_alloc _ _) (Nat.le_refl _),own_keep hp (below_alloc _ _) (Nat.le_refl _),below_on hb (Nat.le_refl _) (below_alloc _ _),hb.size⟩
theorem below_none{w w':World}(hg:w.grownBy w' none):Below w.heap.size w w':=(Below.refl _ _).grown hg (Nat.le_refl _) (fun k hk=>by cases hk)
def fromP(E:Nat->List Nat)(b k x:Nat):List Nat:=(((E b).take k).filter fun y=>decide (y=x)).map fun _=>b
theorem fromL_succ(E:Nat->List Nat)(b x:Nat):fromL E (b+1) x=fromL E b x++fromP E b (E b).length x:=by
  unfold fromL fromP
  rw[List.range_succ,List.flatMap_append]
  simp
theorem fromP_zero(E:Nat->List Nat)(b x:Nat):fromP E b 0 x=[]:=by simp[fromP]
theorem fromP_succ{E:Nat->List Nat}{b k y:Nat}(hy:(E b)[k]?=some y)(x:Nat):fromP E b (k+1) x=if x=y then fromP E b k x++[b]else fromP E b k x:=by
  obtain⟨hl,e⟩:=List.getElem?_eq_some_iff.1 hy
  unfold fromP
  rw[List.take_succ_eq_append_getElem hl,List.filter_append,List.map_append,e]
  by_cases q:x=y
  . subst q;simp
  . simp[q,Ne.symm q]
theorem fromP_len(E:Nat->List Nat)(b k x:Nat):(fromP E b k x).length<=(E b).length:=by
  unfold fromP
  rw[List.length_map]
  refine Nat.le_trans (List.length_filter_le _ _) ?_
  rw[List.length_take]
  omega
theorem fromL_len{E:Nat->List Nat}(hsz:∀b,(E b).length<=2)(b x:Nat):(fromL E b x).length<=2*b:=by
  induction b with
  |zero=>simp[fromL]
  | succ b ih=>
    have h1:=fromP_len E b (E b).length x
    have h2:=hsz b
    rw[fromL_succ,List.length_append]
    omega
structure NG(w w2 u:World)(n G gF:Nat)(PV:Value)(NV:Value)(NS:List Value)(FS:List (Value×List Nat)):Prop where
  blk:Blk u G #[NV,.slice (some ⟨gF,0,none⟩) n n,.slice none 0 0,PV,.slice none 0 0] 176
  nrow:u.ownsRow w2.heap.size 48 1 NV NS.length NS
  frow:u.ownsRow w.heap.size 48 1 (.slice (some ⟨gF,0,none⟩) n n) n (FS.map Prod.fst)
  fam:Fam u w2.heap.size (FS.map fun x=>(x.1,ints x.2))
  fx:∀k,k<w2.heap.size->k≠G->k≠gF->u.heap[k]?=w2.heap[k]?
  size:w2.heap.size<=u.heap.size
  bel:Below w.heap.size w u
  lt:w.heap.size<=G/\G<w2.heap.size/\gF<w2.heap.size
theorem NG.keep{w w2 u u':World}{n G gF:Nat}{PV NV:Value}{NS:List Value}{FS:List (Value×List Nat)}(h:NG w w2 u n G gF PV NV NS FS)(hb:Below u.heap.size u u'):NG w w2 u' n G gF PV NV NS FS:=⟨h.blk.keep hb,own_keep h.nrow hb (Nat.le_refl _),own_keep h.frow hb (Nat.le_refl _),h.fam.keepB hb,fun k hk h1 h2=>by rw[hb.block k (Nat.lt_of_lt_of_le hk h.size)];exact h.fx k hk h1 h2,Nat.le_trans h.size hb.size,below_on h.bel (Nat.le_refl _) hb,h.lt⟩
theorem NG.next{w w2 u u':World}{n G gF g cap:Nat}{PV NV x:Value}{NS:List Value}{FS:List (Value×List Nat)}(h:NG w w2 u n G gF PV NV NS FS)(hw:w.heap.size<=w2.heap.size)(hown:u'.ownsRow w2.heap.size 48 1 (.slice (some ⟨g,0,none⟩) (NS.length+1) cap) (NS.length+1) (NS++[x]))(hg:u.grownBy u' NV.ownBlock):Blk u' G #[NV,.slice (some ⟨gF,0,none⟩) n n,.slice none 0 0,PV,.slice none 0 0] 176/\NG w w2 (u'.setCell ⟨G,0,none⟩ (.slice (some ⟨g,0,none⟩) (NS.length+1) cap)) n G gF PV (.slice (some ⟨g,0,none⟩) (NS.length+1) cap) (NS++[x]) FS:=by
  have kb:=h.blk.grown hg h.nrow (by decide)
  have kf:u'.ownsRow w.heap.size 48 1 (.slice (some ⟨gF,0,none⟩) n n) n (FS.map Prod.fst):=own_apart' h.frow hg (fun gg hgg e=>by
    have h1:=(h.nrow.lt gg e.symm).1
    simp only[Value.ownBlock,Option.some.injEq]at hgg
    have:=h.lt.2.2
    omega)
  have km:=h.fam.grown_other hg h.nrow (by decide)
  refine⟨kb,?_,?_,?_,km.other kb (by decide) 0 _,fun k hk h1 h2=> ?_,?_,?_,h.lt⟩
  . have:=kb.set 0 (.slice (some ⟨g,0,none⟩) (NS.length+1) cap)
    simpa using this
  . rw[List.length_append,List.length_singleton]
    exact ownsRow_setCell_other hown (a:=⟨G,0,none⟩) (blk_ne kb hown (by decide)) _
  . exact ownsRow_setCell_other kf (a:=⟨G,0,none⟩) (blk_ne kb kf (by decide)) _
  . rw[heap_setCell_other u' _ k _ h1,hg.block k (Nat.lt_of_lt_of_le hk h.size) (fun e=>by have:=(h.nrow.lt k e.symm).1;omega)]
    exact h.fx k hk h1 h2
  . rw[World.size_setCell]
    exact Nat.le_trans h.size hg.size
  . exact(h.bel.grown hg h.bel.size (fun i hi=>Nat.le_trans hw (h.nrow.lt i hi).1)).setCell h.lt.1 _
theorem set_mid{α:Type}(A B:List α)(x y:α):(A++x::B).set A.length y=A++y::B:=by
  rw[List.set_append_right _ _ (Nat.le_refl _),Nat.sub_self]
  rfl
theorem NG.app{w w2 u u':World}{n G gF g cap y b:Nat}{PV NV V:Value}{NS:List Value}{FS:List (Value×List Nat)}{l:List Nat}(h:NG w w2 u n G gF PV NV NS FS)(hw:w.heap.size<=w2.heap.size)(hy:FS[y]?=some (V,l))(hown:u'.ownsRow w2.heap.size 2 1 (.slice (some ⟨g,0,none⟩) (l.length+1) cap) (l.length+1) (nv l++[.int .i64 (b:Int)]))(hg:u.grownBy u' V.ownBlock)(hat:V.ownBlock=some g\/g=u.heap.size):u'.ownsRow w.heap.size 48 1 (.slice (some ⟨gF,0,none⟩) n n) n (FS.map Prod.fst)/\NG w w2 (u'.setCell ⟨gF,y,none⟩ (.slice (some ⟨g,0,none⟩) (l.length+1) cap)) n G gF PV NV NS (FS.set y (.slice (some ⟨g,0,none⟩) (l.length+1) cap,l++[b])):=by
  obtain⟨hyl,hye⟩:=List.getElem?_eq_some_iff.1 hy
  have hFS:FS=FS.take y++(V,l)::FS.drop (y+1):=by rw[<-hye,<-List.drop_eq_getElem_cons hyl,List.take_append_drop]
  have hlen:(FS.take y).length=y:=by rw[List.length_take];omega
  have oV:=h.fam.own (V,ints l) (List.mem_map.2 ⟨(V,l),List.mem_of_getElem? hy,rfl⟩)
  have kb:=h.blk.grown hg oV (by decide)
  have kn:u'.ownsRow w2.heap.size 48 1 NV NS.length NS:=own_grown h.nrow hg oV (by decide)
  have kf:u'.ownsRow w.heap.size 48 1 (.slice (some ⟨gF,0,none⟩) n n) n (FS.map Prod.fst):=own_grown h.frow hg oV (by decide)
  have hset:FS.set y (.slice (some ⟨g,0,none⟩) (l.length+1) cap,l++[b])=FS.take y++(.slice (some ⟨g,0,none⟩) (l.length+1) cap,l++[b])::FS.drop (y+1):=by
    have:=set_mid (FS.take y) (FS.drop (y+1)) (V,l) (.slice (some ⟨g,0,none⟩) (l.length+1) cap,l++[b])
    rw[hlen,<-hFS]at this
    exact this
  have km:Fam u' w2.heap.size ((FS.set y (.slice (some ⟨g,0,none⟩) (l.length+1) cap,l++[b])).map fun x=>(x.1,ints x.2)):=by
    have h0:=h.fam
    rw[hFS,List.map_append,List.map_cons]at h0
    rw[hset,List.map_append,List.map_cons]
    refine Fam.grow (g:=g) h0 ?_ rfl hg (hat.imp id fun e=>by omega)
    simp only[]
    rw[ints_length,List.length_append,List.length_singleton,<-nv_flat,nv_app]
    exact hown
  have hgF:=h.lt.2.2
  have hFl:gF≠G:=fun e=>blk_ne kb kf (by decide) (by rw[e];rfl)
  have hnn:NV.ownBlock≠some gF:=fun e=>by have:=(kn.lt gF e).1;omega
  refine⟨kf,kb.other (Ne.symm hFl) _,ownsRow_setCell_other kn (a:=⟨gF,y,none⟩) hnn _,?_,⟨fun x hx=> ?_,km.sep⟩,fun k hk h1 h2=> ?_,?_,?_,h.lt⟩
  . have:=(kf.stored y (.slice (some ⟨g,0,none⟩) (l.length+1) cap)).1
    rw[List.map_set]
    exact this
  . refine ownsRow_setCell_other (km.own x hx) (a:=⟨gF,y,none⟩) (fun e=> ?_) _
    have:=((km.own x hx).lt gF e).1
    omega
  . rw[heap_setCell_other u' _ k _ h2,hg.block k (Nat.lt_of_lt_of_le hk h.size) (fun e=>by have:=(oV.lt k e.symm).1;omega)]
    exact h.fx k hk h1 h2
  . rw[World.size_setCell]
    exact Nat.le_trans h.size hg.size
  . exact(h.bel.grown hg h.bel.size (fun i hi=>Nat.le_trans hw (oV.lt i hi).1)).setCell (own_blk kf).1 _
end Go.Proofs.YtdfmdgbolmbffaaGreat
namespace Go.Proofs.YtdfmdgbolmbffaaGreat
open Go.ChangeShapes Go.WideShapes Go.ChangeAt Go.RowKit
set_option linter.unusedVariables false
theorem nv_map(l:List Nat):nv l=(ints l).map (Value.int .i64):=by simp[nv,ints]
theorem ints_rev(l:List Nat):ints l.reverse=(ints l).reverse:=by simp[ints]
theorem reverse_own(g c base:Nat)(O:List Nat)(w:World)(hl:O.length<=1048576)(h:OwN w base (.slice (some ⟨g,0,none⟩) O.length c) O):
    Calls Tryz.prog 140 #[.slice (some ⟨g,0,none⟩) O.length c] w fun e w'=>e=.returned (.tuple #[])/\OwN w' base (.slice (some ⟨g,0,none⟩) O.length c) O.reverse/\w.grownBy w' (some g):=by
  rcases h.2 with⟨h',_⟩|⟨g',cap',cur,h',hb,hg,h3,h4,h5,h6⟩
  . cases h'
  . cases h'
    have hH:Go.Sort.Holds (Value.int .i64) w g 0 (ints O).toArray:=holds_of_blockI hg (by rw[ints_length,<-nv_map];simpa using h6)
    have hc:=reverse_any g c (ints O) w hH (by rw[ints_length];omega)
    rw[ints_length]at hc
    refine hc.mono ?_
    rintro e w' ⟨rfl,n,hw'⟩
    have e1:w'=Go.Sort.grow (Go.Sort.putRow (Value.int .i64) (Go.Sort.ahead w n) g 0 (ints O).reverse.toArray) #[]:=by rw[Go.Sort.grow_empty];exact hw'
    refine⟨rfl,?_,?_⟩
    . have:=ownsRow_sortedI (w:=w) (base:=base) (g:=g) (cap:=c) (n:=n) (os:=#[]) (ss:=ints O) (ts:=(ints O).reverse) (by simp) hb hg (by rw[ints_length];exact h3) h4 h5
      rw[<-e1,ints_length,<-ints_rev,<-nv_map]at this
      unfold OwN
      rw[List.length_reverse]
      exact this
    . rw[e1]
      exact grownBy_sortedI _
theorem sort_own(g c base:Nat)(zs:List Int)(w:World)(hl:zs.length<=1048576)(h:w.ownsRow base 2 1 (.slice (some ⟨g,0,none⟩) zs.length c) zs.length (zs.flatMap intCell)):
    Calls Tryz.prog 145 #[.slice (some ⟨g,0,none⟩) zs.length c] w fun e w'=>e=.returned (.tuple #[])/\w'.ownsRow base 2 1 (.slice (some ⟨g,0,none⟩) zs.length c) zs.length ((zs.mergeSort fun x y=>decide (x<=y)).flatMap intCell)/\w.grownBy w' (some g):=by
  rcases h.2 with⟨h',_⟩|⟨g',cap',cur,h',hb,hg,h3,h4,h5,h6⟩
  . cases h'
  . cases h'
    have hH:Go.Sort.Holds (Value.int .i64) w g 0 zs.toArray:=holds_of_blockI hg (by rw[<-ints_flat];simpa using h6)
    refine(sort_any g c zs w hH (Array.getElem?_eq_some_iff.1 hg).1 (by omega)).mono ?_
    rintro e w' ⟨rfl,n,os,rfl⟩
    refine⟨rfl,?_,grownBy_sortedI _⟩
    rw[ints_flat]
    exact ownsRow_sortedI (List.mergeSort_perm zs _).length_eq hb hg h3 h4 h5
theorem EdAt.fxs{w u:World}{g n:Nat}{E:Nat->List Nat}{X:List Nat}(h:EdAt w g 0 n E)(hf:∀k,k<w.heap.size->k∉X->u.heap[k]?=w.heap[k]?)(hg:g∉X)(hr:∀b a m c,b<n->w.cell? ⟨g,b,none⟩=some (.slice (some a) m c)->0<m->a.block∉X):EdAt u g 0 n E:=fun b hb=>by
  have hc:∀{a:Addr} {x:Value},w.cell? a=some x->a.block∉X->u.cell? a=some x:=fun{a x} q hne=>by
    have:=hf a.block (block_lt_of_cell q) hne
    unfold World.cell? at*
    rw[this]
    exact q
  obtain⟨a,c,h1,h2⟩:=h b hb
  rw[Nat.zero_add]at h1
  refine⟨a,c,by rw[Nat.zero_add];exact hc h1 hg,h2.1,h2.2.imp id ?_⟩
  rintro⟨g',o',c',e,q⟩
  refine⟨g',o',c',e,fun j v hj=>hc (q j v hj) ?_⟩
  simp only[Value.slice.injEq,true_and]at e
  exact hr b ⟨g',o',none⟩ _ c hb (by rw[h1,e.1]) (by have:=(List.getElem?_eq_some_iff.1 hj).1;rw[nv_length]at this;omega)
structure GM(w u:World)(n G gN cN gF gO cO gP:Nat)(E:Nat->List Nat)(S O:List Nat):Prop where
  ge:w.heap.size<=G
  blk:Blk u G #[.slice (some ⟨gN,0,none⟩) n cN,.slice (some ⟨gF,0,none⟩) n n,.slice (some ⟨gO,0,none⟩) O.length cO,.slice (some ⟨gP,0,none⟩) n n,.slice none 0 0] 176
  nx:EdAt u gN 0 n E
  fr:EdAt u gF 0 n (fromL E n)
  vs:Vs E [] [] [0] S O
  ord:OwN u w.heap.size (.slice (some ⟨gO,0,none⟩) O.length cO) O.reverse
  pl:∀x,x∈O->u.cell? ⟨gP,x,none⟩=some (.int .i64 (plO O x:Int))
  bel:Below w.heap.size w u
  ne:gN≠G/\gF≠G/\gO≠G/\gP≠G
  nn:∀b a m c,b<n->u.cell? ⟨gN,b,none⟩=some (.slice (some a) m c)->0<m->a.block≠G
  nf:∀b a m c,b<n->u.cell? ⟨gF,b,none⟩=some (.slice (some a) m c)->a.block≠G
theorem ng_edges{w w2 u:World}{n G gF gN cN gP:Nat}{E:Nat->List Nat}{NS:List Value}{FS:List (Value×List Nat)}(h:NG w w2 u n G gF (.slice (some ⟨gP,0,none⟩) n n) (.slice (some ⟨gN,0,none⟩) n cN) NS FS)(hN:NS.length=n)(hF:FS.length=n)(hfs:∀x,x<n->∃V,FS[x]?=some (V,fromL E n x))(hns:∀x,x<n->∃a c,NS[x]?=some (.slice a (E x).length c)/\RdN w (.slice a (E x).length c) (E x))(hP:w2.ownsRow w.heap.size 2 1 (.slice (some ⟨gP,0,none⟩) n n) n (iv (fun _=>0) n))(hPG:gP≠G)(hPF:gP≠gF):EdAt u gN 0 n E/\EdAt u gF 0 n (fromL E n)/\(gN≠G/\gF≠G/\gP≠G/\gN≠gP/\gF≠gP)/\(∀b a m c,b<n->u.cell? ⟨gN,b,none⟩=some (.slice (some a) m c)->0<m->a.block≠G/\a.block≠gP)/\(∀b a m c,b<n->u.cell? ⟨gF,b,none⟩=some (.slice (some a) m c)->a.block≠G/\a.block≠gP):=by
  have hgP:w.heap.size<=gP/\gP<w2.heap.size:=by
    obtain⟨h1,cur,h2⟩:=own_blk hP
    exact⟨h1,(Array.getElem?_eq_some_iff.1 h2).1⟩
  have hG:=h.lt
  have hr:=h.nrow
  rw[hN]at hr
  have hgN:=(own_blk hr).1
  have cN':∀b,b<n->u.cell? ⟨gN,b,none⟩=NS[b]?:=fun b hb=>by
    have:=hr.cellAt b (by omega)
    exact this
  have cF:∀b,b<n->u.cell? ⟨gF,b,none⟩=(FS.map Prod.fst)[b]?:=fun b hb=>h.frow.cellAt b (by omega)
  have hFG:gF≠G:=fun e=>blk_ne h.blk h.frow (by decide) (by rw[e];rfl)
  refine⟨fun b hb=> ?_,fun b hb=> ?_,⟨by omega,hFG,hPG,by omega,Ne.symm hPF⟩,fun b a m c hb hc hm=> ?_,fun b a m c hb hc=> ?_⟩
  . obtain⟨a,c,h1,h2⟩:=hns b hb
    exact⟨a,c,by rw[Nat.zero_add,cN' b hb];exact h1,Rd.keep h2 h.bel (Nat.le_refl _)⟩
  . obtain⟨V,hV⟩:=hfs b hb
    have ho:=h.fam.own (V,ints (fromL E n b)) (List.mem_map.2 ⟨(V,_),List.mem_of_getElem? hV,rfl⟩)
    obtain⟨a,c,e⟩:=own_slice ho
    simp only[ints_length]at e
    subst e
    refine⟨a,c,by rw[Nat.zero_add,cF b hb,List.getElem?_map,hV];rfl,?_⟩
    have:=Rd.of_own ho
    simp only[ints_length]at this
    rw[<-nv_flat]at this
    exact this
  . rw[cN' b hb]at hc
    obtain⟨a',c',h1,h2⟩:=hns b hb
    rw[h1]at hc
    simp only[Option.some.injEq,Value.slice.injEq]at hc
    obtain⟨rfl,rfl,rfl⟩:=hc
    rcases h2.2 with⟨e0,_⟩|⟨g',o',c',e1,q⟩
    . omega
    . simp only[Value.slice.injEq,Option.some.injEq,true_and]at e1
      obtain⟨rfl,rfl⟩:=e1
      obtain⟨x,hx⟩:∃x,(E b)[0]?=some x:=⟨_,List.getElem?_eq_getElem hm⟩
      have:=block_lt_of_cell (q 0 _ (nv_at hx))
      simp only[]at this⊢
      omega
  . rw[cF b hb]at hc
    obtain⟨V,hV⟩:=hfs b hb
    rw[List.getElem?_map,hV]at hc
    simp only[Option.map_some,Option.some.injEq]at hc
    subst hc
    have ho:=h.fam.own _ (List.mem_map.2 ⟨(_,_),List.mem_of_getElem? hV,rfl⟩)
    have:=(ho.lt a.block rfl).1
    omega
structure NGO(w u3 u:World)(n G gN cN gF gO cO gP:Nat)(R:List Nat):Prop where
  blk:Blk u G #[.slice (some ⟨gN,0,none⟩) n cN,.slice (some ⟨gF,0,none⟩) n n,.slice (some ⟨gO,0,none⟩) R.length cO,.slice (some ⟨gP,0,none⟩) n n,.slice none 0 0] 176
  ord:OwN u u3.heap.size (.slice (some ⟨gO,0,none⟩) R.length cO) R
  prow:u.ownsRow w.heap.size 2 1 (.slice (some ⟨gP,0,none⟩) n n) n (iv (fun _=>0) n)
  fx:∀k,k<u3.heap.size->k≠G->k≠gP->u.heap[k]?=u3.heap[k]?
  size:u3.heap.size<=u.heap.size
  bel:Below w.heap.size w u
theorem NGO.rev{w u3 u u':World}{n G gN cN gF gO cO gP:Nat}{O:List Nat}(h:NGO w u3 u n G gN cN gF gO cO gP O)(hgO:u3.heap.size<=gO)(hG:G<u3.heap.size)(hP:gP<u3.heap.size)(hw:w.heap.size<=u3.heap.size)(ho:OwN u' u3.heap.size (.slice (some ⟨gO,0,none⟩) O.length cO) O.reverse)(hg:u.grownBy u' (some gO)):NGO w u3 u' n G gN cN gF gO cO gP O.reverse:=by
  refine⟨?_,by rw[List.length_reverse];exact ho,own_apart' h.prow hg (fun q hq e=>by simp only[Value.ownBlock,Option.some.injEq]at hq;have:=Option.some.inj e;omega),fun k hk h1 h2=> ?_,Nat.le_trans h.size hg.size,h.bel.grown hg h.bel.size (fun j hj=>by cases hj;omega)⟩
  . rw[List.length_reverse]
    exact h.blk.gb hg (fun e=>by have:=Option.some.inj e;omega)
  . rw[hg.block k (Nat.lt_of_lt_of_le hk h.size) (fun e=>by have:=Option.some.inj e;omega)]
    exact h.fx k hk h1 h2
structure NGP(w u7 u:World)(n gP:Nat)(O:List Nat)(k:Nat):Prop where
  row:u.ownsRow w.heap.size 2 1 (.slice (some ⟨gP,0,none⟩) n n) n (iv (plTo O k) n)
  fx:∀k,k<u7.heap.size->k≠gP->u.heap[k]?=u7.heap[k]?
  bel:Below w.heap.size w u
theorem NGP.set{w u7 u:World}{n gP k x:Nat}{O:List Nat}(h:NGP w u7 u n gP O k)(hd:O.Nodup)(hx:O.reverse[k]?=some x):NGP w u7 (u.setCell ⟨gP,x,none⟩ (.int .i64 (k:Int))) n gP O (k+1):=by
  refine⟨?_,fun k hk hne=>by rw[heap_setCell_other u _ k _ hne];exact h.fx k hk hne,h.bel.setCell (own_blk h.row).1 _⟩
  have:=(h.row.stored x (.int .i64 (k:Int))).1
  rw[iv_set (plTo_next hd hx n)]at this
  exact this
theorem NGP.cell{w u7 u:World}{n gP k:Nat}{O:List Nat}(h:NGP w u7 u n gP O k){a:Addr}{x:Value}(hb:u7.cell? a=some x)(hne:a.block≠gP):u.cell? a=some x:=by
  have:=h.fx a.block (block_lt_of_cell hb) hne
  unfold World.cell? at*
  rw[this]
  exact hb
theorem gm_end{w u3 u7 u:World}{n G gN cN gF gO cO gP:Nat}{E:Nat->List Nat}{S O:List Nat}(h7:NGO w u3 u7 n G gN cN gF gO cO gP O.reverse)(hp:NGP w u7 u n gP O O.length)(hv:Vs E [] [] [0] S O)(hOm:∀x∈O,x<n)(hG:w.heap.size<=G)(hG3:G<u3.heap.size)(hP3:gP<u3.heap.size)(hw3:w.heap.size<=u3.heap.size)(e1:EdAt u3 gN 0 n E)(e2:EdAt u3 gF 0 n (fromL E n))(ne:gN≠G/\gF≠G/\gP≠G/\gN≠gP/\gF≠gP)(n1:∀b a m c,b<n->u3.cell? ⟨gN,b,none⟩=some (.slice (some a) m c)->0<m->a.block≠G/\a.block≠gP)(n2:∀b a m c,b<n->u3.cell? ⟨gF,b,none⟩=some (.slice (some a) m c)->a.block≠G/\a.block≠gP):GM w u n G gN cN gF gO cO gP E S O:=by
  have hgO:=(own_blk h7.ord).1
  have fx:∀k,k<u3.heap.size->k∉[G,gP]->u.heap[k]?=u3.heap[k]?:=fun k hk hne=>by
    simp only[List.mem_cons,List.not_mem_nil,or_false,not_or]at hne
    rw[hp.fx k (Nat.lt_of_lt_of_le hk h7.size) hne.2]
    exact h7.fx k hk hne.1 hne.2
  have hcb:∀(g b:Nat),g∉[G,gP]->g<u3.heap.size->u.cell? ⟨g,b,none⟩=u3.cell? ⟨g,b,none⟩:=fun g b hne hlt=>by
    unfold World.cell?
    rw[fx g hlt hne]
  have hgN:gN<u3.heap.size\/n=0:=by
    by_cases q:n=0
    . exact .inr q
    . obtain⟨a,c,h1,_⟩:=e1 0 (by omega)
      exact .inl (block_lt_of_cell h1)
  have hgF:gF<u3.heap.size\/n=0:=by
    by_cases q:n=0
    . exact .inr q
    . obtain⟨a,c,h1,_⟩:=e2 0 (by omega)
      exact .inl (block_lt_of_cell h1)
  have m1:gN∉[G,gP]:=by simp[ne]
  have m2:gF∉[G,gP]:=by simp[ne]
  have kb:Blk u G #[.slice (some ⟨gN,0,none⟩) n cN,.slice (some ⟨gF,0,none⟩) n n,.slice (some ⟨gO,0,none⟩) O.length cO,.slice (some ⟨gP,0,none⟩) n n,.slice none 0 0] 176:=by
    have h:=h7.blk
    rw[List.length_reverse]at h
    unfold Blk at*
    rw[hp.fx G h7.blk.lt (Ne.symm ne.2.2.1)]
    exact h
  refine⟨hG,kb,e1.fxs fx m1 (fun b a m c hb hc hm=>by have:=n1 b a m c hb hc hm;simp[this]),e2.fxs fx m2 (fun b a m c hb hc _=>by have:=n2 b a m c hb hc;simp[this]),hv,?_,fun x hx=> ?_,hp.bel,⟨ne.1,ne.2.1,by omega,ne.2.2.1⟩,fun b a m c hb hc hm=> ?_,fun b a m c hb hc=> ?_⟩
  . have h:=h7.ord
    have h2:OwN u u3.heap.size (.slice (some ⟨gO,0,none⟩) O.reverse.length cO) O.reverse:=h.fx hp.fx (fun g hg=>by simp only[Value.ownBlock,Option.some.injEq]at hg;omega)
    rw[List.length_reverse]at h2
    exact own_lower h2 hw3
  . have:=hp.row.cellAt x (by have:=hOm x hx;omega)
    rw[iv_at _ _ _ (hOm x hx),plTo_all O x hx]at this
    exact this
  . rw[hcb gN b m1 (hgN.resolve_right (by omega))]at hc
    exact(n1 b a m c hb hc hm).1
  . rw[hcb gF b m2 (hgF.resolve_right (by omega))]at hc
    exact(n2 b a m c hb hc).1
end Go.Proofs.YtdfmdgbolmbffaaGreat
