import Derived.Test.YtdipfjmlfbdkdaaGreatFc0
import Derived.OneCell
namespace Go.Proofs.YtdipfjmlfbdkdaaGreat
open Go.ChangeShapes Go.WideShapes Go.ChangeAt Go.RowKit
set_option linter.unusedVariables false
set_option maxHeartbeats 4000000
set_option maxRecDepth 100000
theorem KE(s:Value)(L:Nat)(ys:List MI)(w:World)(hL:L<=1048576)(h:Rd w 4 s L (ys.flatMap MI.cells))(hlen:ys.length=L):
 Calls Tryz.prog 77 #[s] w fun e w'=>e=.returned (.slice (some ⟨w.heap.size,0,none⟩) L L)/\w'.ownsRow w.heap.size 60 4 (.slice (some ⟨w.heap.size,0,none⟩) L L) L (ys.flatMap MI.cells)/\Below w.heap.size w w':=by
 obtain⟨i0,hi,hz0,hz1,hz2⟩:=bQ Ro;have H1:Hid (Rd w 4 s L (ys.flatMap MI.cells)/\ys.length=L):=⟨h,hlen⟩
 obtain⟨a1,c1,rfl⟩:=h.is_slice;clear h hlen;go_enter Tryz.func77,Tryz.ntmps77;go_wp2_with (at_make;refine bZ _ rfl _ _ 46 rfl w.heap.size 60 i0 (.agg #[.int .i64 0,.int .i64 0,.int .i64 0,.int .i64 0]) 4 Tryz.underlying46 hi hz0 hz1 .i64 .i64 _ _ L rfl rfl rfl rfl (by rw[hz2];omega) (by unfold maxLen;omega) lR ?_;intro w1 hown hgrow);rw[Bu MI.cells [.int .i64 0,.int .i64 0,.int .i64 0,.int .i64 0] ys L (.agg #[.int .i64 0,.int .i64 0,.int .i64 0,.int .i64 0]) 4 rfl rfl (by omega)]at hown;have hB:Below w.heap.size w w1:=(aX _ _).grown hgrow lR (fun k hk=>by cases hk);clear hgrow;go_loopw [4] (fun i wr=>∃k:Nat,k<=L/\i=.int .i64 k/\wr.ownsRow w.heap.size 60 4 (.slice (some ⟨w.heap.size,0,none⟩) L L) L (A7 MI.cells [.int .i64 0,.int .i64 0,.int .i64 0,.int .i64 0] ys k L)/\Below w.heap.size w wr) (fun i _=>L-(intOf i).toNat)
 case atStart=>exact⟨0,by omega,rfl,hown,hB⟩
 case round=>
  clear hown hB;obtain⟨k,hk,rfl,hown,hbel⟩:=hrel;by_cases hlt:k<L
  . obtain⟨x,hx⟩:∃x,ys[k]?=some x:=⟨_,aA (by rw[H1.o.2];exact hlt)⟩
    have hnext:=CX MI.cells [.int .i64 0,.int .i64 0,.int .i64 0,.int .i64 0] ys k L x hx;rw[BN MI.cells [.int .i64 0,.int .i64 0,.int .i64 0,.int .i64 0] ys k L hlt]at hown;have hA:((ys.take k).flatMap MI.cells).length=k*4:=by rw[As MI.cells 4 MI.cells_length,bp,H1.o.2,Nat.min_eq_left hk]
    generalize (ys.take k).flatMap MI.cells=A at hown hnext hA;generalize (List.replicate (L-(k+1)) ([.int .i64 0,.int .i64 0,.int .i64 0,.int .i64 0]:List Value)).flatten=R at hown hnext;rcases H1.o.1.2 with⟨e0,_⟩|⟨g,o,c,e1,hc1⟩
    . omega
    . simp only[aF,aw]at e1
      obtain⟨rfl,rfl⟩:=e1;have i0:=Rd.elem MI.cells_length hc1 k x hx 0 _ rfl;have i1:=Rd.elem MI.cells_length hc1 k x hx 1 _ rfl;have i2:=Rd.elem MI.cells_length hc1 k x hx 2 _ rfl;have i3:=Rd.elem MI.cells_length hc1 k x hx 3 _ rfl;rw[<-hbel.cell (aC i0)]at i0;rw[<-hbel.cell (aC i1)]at i1;rw[<-hbel.cell (aC i2)]at i2;rw[<-hbel.cell (aC i3)]at i3;rw[aS]at i0;have HO:Hid (wr.ownsRow w.heap.size 60 4 (.slice (some ⟨w.heap.size,0,none⟩) L L) L (A++([.int .i64 0,.int .i64 0,.int .i64 0,.int .i64 0]++R))/\A.length=k*4/\A7 MI.cells [.int .i64 0,.int .i64 0,.int .i64 0,.int .i64 0] ys (k+1) L=A++(MI.cells x++R)):=⟨hown,hA,hnext⟩
      clear hown hA hnext hc1 hx;go_wp2_with fail
      refine(LU x wr).mono ?_;rintro e u ⟨rfl,hbu⟩;have hown:=Ag HO.o.1 hbu lR;have hA:=HO.o.2.1;have f0:=hown.frozenAt (k*4);have f1:=hown.frozenAt (k*4+1);have f2:=hown.frozenAt (k*4+2);have f3:=hown.frozenAt (k*4+3);have d0:=hown.cellAt (k*4) (by omega);have d1:=hown.cellAt (k*4+1) (by omega);have d2:=hown.cellAt (k*4+2) (by omega);have d3:=hown.cellAt (k*4+3) (by omega);rw[aW (by omega),hA]at d0 d1 d2 d3;rw[cg]at d0;rw[bg]at d1 d2 d3;simp only[cA,aM,aj]at d0 d1 d2 d3;have HB:Hid (Below w.heap.size w u/\u.ownsRow w.heap.size 60 4 (.slice (some ⟨w.heap.size,0,none⟩) L L) L (A++([.int .i64 0,.int .i64 0,.int .i64 0,.int .i64 0]++R))):=⟨hbel.trans (hbu.mono hbel.size),hown⟩
      clear hown hA hbu hbel i0 i1 i2 i3;go_wp2
      go_roundw
      case rel=>
       refine⟨k+1,by omega,by go_num,?_,(((HB.o.1.setCell lR _).setCell lR _).setCell lR _).setCell lR _⟩;have s0:=(HB.o.2.stored (k*4) (.int .i64 x.op)).1;have s1:=(s0.stored (k*4+1) (.int .i64 x.a)).1;have s2:=(s1.stored (k*4+2) (.int .i64 x.b)).1;have s3:=(s2.stored (k*4+3) (.int .i64 x.c)).1;rw[Q1 A R _ _ _ _ _ _ _ _ (k*4) HO.o.2.1]at s3;rw[HO.o.2.2];exact s3
      case measure=>simp[intOf];omega
  . have hkn:k=L:=by omega
    subst hkn;rw[Dx _ _ _ _ H1.o.2]at hown;have HO:Hid (wr.ownsRow w.heap.size 60 4 (.slice (some ⟨w.heap.size,0,none⟩) k k) k (ys.flatMap MI.cells)):=hown;clear hown;go_wp2
    go_ret
    exact⟨rfl,HO.o,hbel⟩
theorem LQ(s:Value)(L:Nat)(ys:List MT)(w:World)(hL:L<=1048576)(h:Rd w 4 s L (ys.flatMap MT.cells))(hlen:ys.length=L):
 Calls Tryz.prog 27 #[s] w fun e w'=>e=.returned (.slice (some ⟨w.heap.size,0,none⟩) L L)/\w'.ownsRow w.heap.size 72 4 (.slice (some ⟨w.heap.size,0,none⟩) L L) L (ys.flatMap MT.cells)/\Below w.heap.size w w':=by
 obtain⟨i0,hi,hz0,hz1,hz2⟩:=bQ Rq;have H1:Hid (Rd w 4 s L (ys.flatMap MT.cells)/\ys.length=L):=⟨h,hlen⟩
 obtain⟨a1,c1,rfl⟩:=h.is_slice;clear h hlen;go_enter Tryz.func27,Tryz.ntmps27;go_wp2_with (at_make;refine bZ _ rfl _ _ 33 rfl w.heap.size 72 i0 (.agg #[.int .i64 0,.int .i64 0,.int .i64 0,.int .u32 0]) 4 Tryz.underlying33 hi hz0 hz1 .i64 .i64 _ _ L rfl rfl rfl rfl (by rw[hz2];omega) (by unfold maxLen;omega) lR ?_;intro w1 hown hgrow);rw[Bu MT.cells [.int .i64 0,.int .i64 0,.int .i64 0,.int .u32 0] ys L (.agg #[.int .i64 0,.int .i64 0,.int .i64 0,.int .u32 0]) 4 rfl rfl (by omega)]at hown;have hB:Below w.heap.size w w1:=(aX _ _).grown hgrow lR (fun k hk=>by cases hk);clear hgrow;go_loopw [4] (fun i wr=>∃k:Nat,k<=L/\i=.int .i64 k/\wr.ownsRow w.heap.size 72 4 (.slice (some ⟨w.heap.size,0,none⟩) L L) L (A7 MT.cells [.int .i64 0,.int .i64 0,.int .i64 0,.int .u32 0] ys k L)/\Below w.heap.size w wr) (fun i _=>L-(intOf i).toNat)
 case atStart=>exact⟨0,by omega,rfl,hown,hB⟩
 case round=>
  clear hown hB;obtain⟨k,hk,rfl,hown,hbel⟩:=hrel;by_cases hlt:k<L
  . obtain⟨x,hx⟩:∃x,ys[k]?=some x:=⟨_,aA (by rw[H1.o.2];exact hlt)⟩
    have hnext:=CX MT.cells [.int .i64 0,.int .i64 0,.int .i64 0,.int .u32 0] ys k L x hx;rw[BN MT.cells [.int .i64 0,.int .i64 0,.int .i64 0,.int .u32 0] ys k L hlt]at hown;have hA:((ys.take k).flatMap MT.cells).length=k*4:=by rw[As MT.cells 4 MT.cells_length,bp,H1.o.2,Nat.min_eq_left hk]
    generalize (ys.take k).flatMap MT.cells=A at hown hnext hA;generalize (List.replicate (L-(k+1)) ([.int .i64 0,.int .i64 0,.int .i64 0,.int .u32 0]:List Value)).flatten=R at hown hnext;rcases H1.o.1.2 with⟨e0,_⟩|⟨g,o,c,e1,hc1⟩
    . omega
    . simp only[aF,aw]at e1
      obtain⟨rfl,rfl⟩:=e1;have i0:=Rd.elem MT.cells_length hc1 k x hx 0 _ rfl;have i1:=Rd.elem MT.cells_length hc1 k x hx 1 _ rfl;have i2:=Rd.elem MT.cells_length hc1 k x hx 2 _ rfl;have i3:=Rd.elem MT.cells_length hc1 k x hx 3 _ rfl;rw[<-hbel.cell (aC i0)]at i0;rw[<-hbel.cell (aC i1)]at i1;rw[<-hbel.cell (aC i2)]at i2;rw[<-hbel.cell (aC i3)]at i3;rw[aS]at i0;have HO:Hid (wr.ownsRow w.heap.size 72 4 (.slice (some ⟨w.heap.size,0,none⟩) L L) L (A++([.int .i64 0,.int .i64 0,.int .i64 0,.int .u32 0]++R))/\A.length=k*4/\A7 MT.cells [.int .i64 0,.int .i64 0,.int .i64 0,.int .u32 0] ys (k+1) L=A++(MT.cells x++R)):=⟨hown,hA,hnext⟩
      clear hown hA hnext hc1 hx;go_wp2_with fail
      refine(M9 x wr).mono ?_;rintro e u ⟨rfl,hbu⟩;have hown:=Ag HO.o.1 hbu lR;have hA:=HO.o.2.1;have f0:=hown.frozenAt (k*4);have f1:=hown.frozenAt (k*4+1);have f2:=hown.frozenAt (k*4+2);have f3:=hown.frozenAt (k*4+3);have d0:=hown.cellAt (k*4) (by omega);have d1:=hown.cellAt (k*4+1) (by omega);have d2:=hown.cellAt (k*4+2) (by omega);have d3:=hown.cellAt (k*4+3) (by omega);rw[aW (by omega),hA]at d0 d1 d2 d3;rw[cg]at d0;rw[bg]at d1 d2 d3;simp only[cA,aM,aj]at d0 d1 d2 d3;have HB:Hid (Below w.heap.size w u/\u.ownsRow w.heap.size 72 4 (.slice (some ⟨w.heap.size,0,none⟩) L L) L (A++([.int .i64 0,.int .i64 0,.int .i64 0,.int .u32 0]++R))):=⟨hbel.trans (hbu.mono hbel.size),hown⟩
      clear hown hA hbu hbel i0 i1 i2 i3;go_wp2
      go_roundw
      case rel=>
       refine⟨k+1,by omega,by go_num,?_,(((HB.o.1.setCell lR _).setCell lR _).setCell lR _).setCell lR _⟩;have s0:=(HB.o.2.stored (k*4) (.int .i64 x.func)).1;have s1:=(s0.stored (k*4+1) (.int .i64 x.head)).1;have s2:=(s1.stored (k*4+2) (.int .i64 x.counter)).1;have s3:=(s2.stored (k*4+3) (.int .u32 x.init)).1;rw[Q1 A R _ _ _ _ _ _ _ _ (k*4) HO.o.2.1]at s3;rw[HO.o.2.2];exact s3
      case measure=>simp[intOf];omega
  . have hkn:k=L:=by omega
    subst hkn;rw[Dx _ _ _ _ H1.o.2]at hown;have HO:Hid (wr.ownsRow w.heap.size 72 4 (.slice (some ⟨w.heap.size,0,none⟩) k k) k (ys.flatMap MT.cells)):=hown;clear hown;go_wp2
    go_ret
    exact⟨rfl,HO.o,hbel⟩
theorem KA(s:Value)(L:Nat)(ys:List MC)(w:World)(hL:L<=1048576)(h:Rd w 2 s L (ys.flatMap MC.cells))(hlen:ys.length=L):
 Calls Tryz.prog 25 #[s] w fun e w'=>e=.returned (.slice (some ⟨w.heap.size,0,none⟩) L L)/\w'.ownsRow w.heap.size 114 2 (.slice (some ⟨w.heap.size,0,none⟩) L L) L (ys.flatMap MC.cells)/\Below w.heap.size w w':=by
 obtain⟨i0,hi,hz0,hz1,hz2⟩:=bQ Rm;have H1:Hid (Rd w 2 s L (ys.flatMap MC.cells)/\ys.length=L):=⟨h,hlen⟩
 obtain⟨a1,c1,rfl⟩:=h.is_slice;clear h hlen;go_enter Tryz.func25,Tryz.ntmps25;go_wp2_with (at_make;refine bZ _ rfl _ _ 31 rfl w.heap.size 114 i0 (.agg #[.int .i64 0,.int .u32 0]) 2 Tryz.underlying31 hi hz0 hz1 .i64 .i64 _ _ L rfl rfl rfl rfl (by rw[hz2];omega) (by unfold maxLen;omega) lR ?_;intro w1 hown hgrow);rw[Bu MC.cells [.int .i64 0,.int .u32 0] ys L (.agg #[.int .i64 0,.int .u32 0]) 2 rfl rfl (by omega)]at hown;have hB:Below w.heap.size w w1:=(aX _ _).grown hgrow lR (fun k hk=>by cases hk);clear hgrow;go_loopw [4] (fun i wr=>∃k:Nat,k<=L/\i=.int .i64 k/\wr.ownsRow w.heap.size 114 2 (.slice (some ⟨w.heap.size,0,none⟩) L L) L (A7 MC.cells [.int .i64 0,.int .u32 0] ys k L)/\Below w.heap.size w wr) (fun i _=>L-(intOf i).toNat)
 case atStart=>exact⟨0,by omega,rfl,hown,hB⟩
 case round=>
  clear hown hB;obtain⟨k,hk,rfl,hown,hbel⟩:=hrel;by_cases hlt:k<L
  . obtain⟨x,hx⟩:∃x,ys[k]?=some x:=⟨_,aA (by rw[H1.o.2];exact hlt)⟩
    have hnext:=CX MC.cells [.int .i64 0,.int .u32 0] ys k L x hx;rw[BN MC.cells [.int .i64 0,.int .u32 0] ys k L hlt]at hown;have hA:((ys.take k).flatMap MC.cells).length=k*2:=by rw[As MC.cells 2 MC.cells_length,bp,H1.o.2,Nat.min_eq_left hk]
    generalize (ys.take k).flatMap MC.cells=A at hown hnext hA;generalize (List.replicate (L-(k+1)) [Value.int .i64 0,Value.int .u32 0]).flatten=R at hown hnext;rcases H1.o.1.2 with⟨e0,_⟩|⟨g,o,c,e1,hc1⟩
    . omega
    . simp only[aF,aw]at e1
      obtain⟨rfl,rfl⟩:=e1;have i0:=Rd.elem MC.cells_length hc1 k x hx 0 _ rfl;have i1:=Rd.elem MC.cells_length hc1 k x hx 1 _ rfl;rw[<-hbel.cell (aC i0)]at i0;rw[<-hbel.cell (aC i1)]at i1;rw[aS]at i0;have HO:Hid (wr.ownsRow w.heap.size 114 2 (.slice (some ⟨w.heap.size,0,none⟩) L L) L (A++([.int .i64 0,.int .u32 0]++R))/\A.length=k*2/\A7 MC.cells [.int .i64 0,.int .u32 0] ys (k+1) L=A++(MC.cells x++R)):=⟨hown,hA,hnext⟩
      clear hown hA hnext hc1 hx;go_wp2_with fail
      refine(LS x wr).mono ?_;rintro e u ⟨rfl,hbu⟩;have hown:=Ag HO.o.1 hbu lR;have hA:=HO.o.2.1;have f0:=hown.frozenAt (k*2);have f1:=hown.frozenAt (k*2+1);have d0:=hown.cellAt (k*2) (by omega);have d1:=hown.cellAt (k*2+1) (by omega);rw[aW (by omega),hA]at d0 d1;rw[cg]at d0;rw[bg]at d1;simp only[cA,aM,aj]at d0 d1;have HB:Hid (Below w.heap.size w u/\u.ownsRow w.heap.size 114 2 (.slice (some ⟨w.heap.size,0,none⟩) L L) L (A++([.int .i64 0,.int .u32 0]++R))):=⟨hbel.trans (hbu.mono hbel.size),hown⟩
      clear hown hA hbu hbel i0 i1;go_wp2
      go_roundw
      case rel=>
       refine⟨k+1,by omega,by go_num,?_,(HB.o.1.setCell lR _).setCell lR _⟩;have s0:=(HB.o.2.stored (k*2) (.int .i64 x.type)).1;have s1:=(s0.stored (k*2+1) (.int .u32 x.word)).1;rw[set2 A R _ _ _ _ (k*2) HO.o.2.1]at s1;rw[HO.o.2.2];exact s1
      case measure=>simp[intOf];omega
  . have hkn:k=L:=by omega
    subst hkn;rw[Dx _ _ _ _ H1.o.2]at hown;have HO:Hid (wr.ownsRow w.heap.size 114 2 (.slice (some ⟨w.heap.size,0,none⟩) k k) k (ys.flatMap MC.cells)):=hown;clear hown;go_wp2
    go_ret
    exact⟨rfl,HO.o,hbel⟩
def BO(op:Int):Array Value:=if 0<=op/\op<=29 then(Bj op.toNat).toArray else #[.string ⟨#[]⟩,.int .i64 0,.int .i64 0]
theorem JE(k:Nat)(hk:k<30):BO (k:Int)=(Bj k).toArray:=by
 unfold BO;rw[a8 (by omega)];rfl
theorem Io{op:Int}(h:op<0\/29<op):BO op=#[.string ⟨#[]⟩,.int .i64 0,.int .i64 0]:=by
 unfold BO;rw[bF (by omega)]
theorem Gb(k:Nat)(hk:k<30):∃(s:ByteArray) (c f:Int),(Bj k).toArray=#[.string s,.int .i64 c,.int .i64 f]:=by
 have h:k=0\/k=1\/k=2\/k=3\/k=4\/k=5\/k=6\/k=7\/k=8\/k=9\/k=10\/k=11\/k=12\/k=13\/k=14\/k=15\/k=16\/k=17\/k=18\/k=19\/k=20\/k=21\/k=22\/k=23\/k=24\/k=25\/k=26\/k=27\/k=28\/k=29:=by omega
 clear hk;rcases h with rfl|rfl|rfl|rfl|rfl|rfl|rfl|rfl|rfl|rfl|rfl|rfl|rfl|rfl|rfl|rfl|rfl|rfl|rfl|rfl|rfl|rfl|rfl|rfl|rfl|rfl|rfl|rfl|rfl|rfl<;>exact⟨_,_,_,rfl⟩
theorem Lg(op:Int):∃(s:ByteArray) (c f:Int),BO op=#[.string s,.int .i64 c,.int .i64 f]:=by
 by_cases h:0<=op/\op<=29
 . unfold BO
   rw[a8 h];exact Gb _ (by omega)
 . unfold BO
   rw[bF h];exact⟨_,_,_,rfl⟩
theorem Jy(op:Int)(w:World):Calls Tryz.prog 18 #[.int .i64 op] w fun e w'=>e=.returned (.agg (BO op))/\Below w.heap.size w w':=by
 by_cases h:op<0\/29<op
 . rw[Io h]
   exact NO op w h
 . obtain⟨k,rfl⟩:=aT (show 0<=op by omega)
   rw[JE k (by omega)];exact OK k (by omega) w
theorem Mp(k:Nat)(hk:k<30)(w:World):(Instr.field 195 (.agg (BR k)) 0).run Tryz.prog w=.ok (.agg (Bj k).toArray) w:=by
 have h:k=0\/k=1\/k=2\/k=3\/k=4\/k=5\/k=6\/k=7\/k=8\/k=9\/k=10\/k=11\/k=12\/k=13\/k=14\/k=15\/k=16\/k=17\/k=18\/k=19\/k=20\/k=21\/k=22\/k=23\/k=24\/k=25\/k=26\/k=27\/k=28\/k=29:=by omega
 clear hk;rcases h with rfl|rfl|rfl|rfl|rfl|rfl|rfl|rfl|rfl|rfl|rfl|rfl|rfl|rfl|rfl|rfl|rfl|rfl|rfl|rfl|rfl|rfl|rfl|rfl|rfl|rfl|rfl|rfl|rfl|rfl<;>(show Sem.run _ _ _=Result.ok _ _;kernel_rfl)
theorem Mq(w:World):(Instr.field 195 (.agg #[.string ⟨#[]⟩,.int .i64 0,.int .i64 0,.nilFunc]) 0).run Tryz.prog w=.ok (.agg #[.string ⟨#[]⟩,.int .i64 0,.int .i64 0]) w:=by kernel_rfl
theorem Nk(op:Int)(row:Value)(s:ByteArray)(c f:Int)(hi:BO op=#[.string s,.int .i64 c,.int .i64 f])
 (hrow:∀w,Calls Tryz.prog 128 #[.int .i64 op] w fun e w'=>e=.returned row/\Below w.heap.size w w')
 (hf:∀w,(Instr.field 195 row 0).run Tryz.prog w=.ok (.agg #[.string s,.int .i64 c,.int .i64 f]) w) (w:World):
 Calls Tryz.prog 91 #[.int .i64 op] w fun e w'=>e=.returned (.agg (BO op))/\Below w.heap.size w w':=by
 have hz:=GN;rw[hi];clear hi;have H:Hid (∀w,Calls Tryz.prog 128 #[.int .i64 op] w fun e w'=>e=.returned row/\Below w.heap.size w w'):=hrow
 clear hrow;go_enter Tryz.func91,Tryz.ntmps91;go_wp2_with (go_at_call 128;refine(H.o _).mono ?_;rintro e w1 ⟨rfl,hb⟩;have hrow:w1.heap[w.heap.size]?=some (.cells #[.string ⟨#[]⟩,.int .i64 0,.int .i64 0] 63):=(hb.block _ (by simp)).trans (eJ _ _);have hc0:=eL w1 _ 0 _ _ _ hrow;have hc1:=eL w1 _ 1 _ _ _ hrow;have hc2:=eL w1 _ 2 _ _ _ hrow;have hz0:=frozen_of_row w1 _ 0 _ _ hrow;have hz1:=frozen_of_row w1 _ 1 _ _ hrow;have hz2:=frozen_of_row w1 _ 2 _ _ hrow;simp at hc0 hc1 hc2);refine bC (v:=.agg #[.string s,.int .i64 c,.int .i64 f]) (by simp[results,Tryz.results91,go_sem,hc0,hc1,hc2]) rfl ⟨rfl,?_⟩;exact((((((aX _ _).alloc lR _).trans (hb.mono (by simp))).setCell (by simp) _).setCell (by simp) _).setCell (by simp) _)
theorem KP(op:Int)(w:World):Calls Tryz.prog 91 #[.int .i64 op] w fun e w'=>e=.returned (.agg (BO op))/\Below w.heap.size w w':=by
 by_cases h:op<0\/29<op
 . exact Nk op _ _ _ _ (Io h) (fun w=>Oo op w h) Mq w
 . obtain⟨k,rfl⟩:=aT (show 0<=op by omega)
   obtain⟨s,c,f,hs⟩:=Gb k (by omega);exact Nk _ _ s c f ((JE k (by omega)).trans hs) (fun w=>Ps k (by omega) w) (fun w=>by rw[<-hs];exact Mp k (by omega) w) w
structure MF where
 params:List Int
 result:Int
 locals:List Int
 code:List MI
structure VF where
 p:Value
 l:Value
 c:Value
def C9(w:World)(v:VF)(f:MF):Prop:=Rd w 1 v.p f.params.length (f.params.flatMap Ac)/\Rd w 1 v.l f.locals.length (f.locals.flatMap Ac)/\Rd w 4 v.c f.code.length (f.code.flatMap MI.cells)
def Fl(w:World)(base:Nat)(v:VF)(f:MF):Prop:=w.ownsRow base 2 1 v.p f.params.length (f.params.flatMap Ac)/\w.ownsRow base 2 1 v.l f.locals.length (f.locals.flatMap Ac)/\w.ownsRow base 60 4 v.c f.code.length (f.code.flatMap MI.cells)
def MF.small(f:MF):Prop:=f.params.length<=1048576/\f.locals.length<=1048576/\f.code.length<=1048576
theorem Fl.rd{w:World}{base:Nat}{v:VF}{f:MF}(h:Fl w base v f):C9 w v f:=⟨Rd.of_own h.1,Rd.of_own h.2.1,Rd.of_own h.2.2⟩
theorem C9.keep{w w':World}{v:VF}{f:MF}(h:C9 w v f){B:Nat}(hb:Below B w w')(hB:w.heap.size<=B):C9 w' v f:=⟨h.1.keep hb hB,h.2.1.keep hb hB,h.2.2.keep hb hB⟩
theorem Fl.keep{w w':World}{base:Nat}{v:VF}{f:MF}(h:Fl w base v f){B:Nat}(hb:Below B w w')(hB:w.heap.size<=B):Fl w' base v f:=⟨Ag h.1 hb hB,Ag h.2.1 hb hB,Ag h.2.2 hb hB⟩
theorem A6{w:World}{base base':Nat}{e:TypeId}{s:Value}{k n:Nat}{xs:List Value}(h:w.ownsRow base e k s n xs)(hb:base'<=base):w.ownsRow base' e k s n xs:=by
 refine⟨h.1,?_⟩;rcases h.2 with h|⟨g,cap,cur,e1,hb1,hg,hr⟩
 . exact .inl h
 . exact .inr ⟨g,cap,cur,e1,aY hb hb1,hg,hr⟩
theorem Cz{w:World}{base:Nat}{e:TypeId}{g:Nat}{a b c d:Value}(h:w.ownsRow base e 4 (.slice (some ⟨g,0,none⟩) 1 1) 1 [a,b,c,d]):
 w.cell? ⟨g,0,none⟩=some a/\w.cell? ⟨g,1,none⟩=some b/\w.cell? ⟨g,2,none⟩=some c/\w.cell? ⟨g,3,none⟩=some d/\w.frozen? ⟨g,0,none⟩=false/\w.frozen? ⟨g,1,none⟩=false/\w.frozen? ⟨g,2,none⟩=false/\w.frozen? ⟨g,3,none⟩=false:=
 ⟨h.cellAt 0 (by omega),h.cellAt 1 (by omega),h.cellAt 2 (by omega),h.cellAt 3 (by omega),h.frozenAt 0,h.frozenAt 1,h.frozenAt 2,h.frozenAt 3⟩
structure Fr(w u:World)(tp tr:TypeId)(p r o:List Value):Prop where
 par:u.ownsRow w.heap.size tp 4 (.slice (some ⟨w.heap.size,0,none⟩) 1 1) 1 p
 res:u.ownsRow w.heap.size tr 4 (.slice (some ⟨w.heap.size+1,0,none⟩) 1 1) 1 r
 loc:u.ownsRow w.heap.size tr 4 (.slice (some ⟨w.heap.size+1+1,0,none⟩) 1 1) 1 o
 bel:Below w.heap.size w u
 siz:w.heap.size+3<=u.heap.size
theorem Fr.of(w:World)(tp tr:TypeId)(p r o:Array Value)(hp:p.size=4)(hr:r.size=4)(ho:o.size=4):
 Fr w (((w.alloc (.cells p tp)).alloc (.cells r tr)).alloc (.cells o tr)) tp tr p.toList r.toList o.toList:=by
 have b1:Below w.heap.size w (w.alloc (.cells p tp)):=(aX _ _).alloc lR _;have c2:Below (w.alloc (.cells p tp)).heap.size (w.alloc (.cells p tp)) ((w.alloc (.cells p tp)).alloc (.cells r tr)):=(aX _ _).alloc lR _;have c3:Below ((w.alloc (.cells p tp)).alloc (.cells r tr)).heap.size ((w.alloc (.cells p tp)).alloc (.cells r tr)) (((w.alloc (.cells p tp)).alloc (.cells r tr)).alloc (.cells o tr)):=(aX _ _).alloc lR _;have r1:=cX (base:=w.heap.size) (e:=tp) (size:=4) w p 1 lR (by unfold maxLen;omega) (by omega);have r2:=cX (base:=w.heap.size) (e:=tr) (size:=4) (w.alloc (.cells p tp)) r 1 (by simp) (by unfold maxLen;omega) (by omega);have r3:=cX (base:=w.heap.size) (e:=tr) (size:=4) ((w.alloc (.cells p tp)).alloc (.cells r tr)) o 1 (by simp<;>omega) (by unfold maxLen;omega) (by omega);refine⟨Ag (Ag r1 c2 lR) c3 lR,?_,?_,(b1.trans (c2.mono (by simp))).trans (c3.mono (by simp<;>omega)),by simp<;>omega⟩
 . have:=Ag r2 c3 lR
   simpa using this
 . simpa using r3
theorem Fr.keep{w u u':World}{tp tr:TypeId}{p r o:List Value}(h:Fr w u tp tr p r o)(hb:Below u.heap.size u u'):Fr w u' tp tr p r o:=
 ⟨Ag h.par hb lR,Ag h.res hb lR,Ag h.loc hb lR,h.bel.trans (hb.mono (by have:=h.siz;omega)),aY h.siz hb.size⟩
theorem Fr.set{w u:World}{tp tr:TypeId}{p r o:List Value}(h:Fr w u tp tr p r o)(j:Nat)(x:Value):Fr w (u.setCell ⟨w.heap.size+1+1,j,none⟩ x) tp tr p r (o.set j x):=
 ⟨aP h.par (by simp[Value.ownBlock]<;>omega) x,aP h.res (by simp[Value.ownBlock]) x,(h.loc.stored j x).1,h.bel.setCell (by simp<;>omega) x,by have:=h.siz;simpa using this⟩
theorem Fr.set'{w u:World}{tp tr:TypeId}{p r o:List Value}(h:Fr w u tp tr p r o)(j:Nat)(x:Value):Fr w (u.setCell ⟨w.heap.size+1,j,none⟩ x) tp tr p (r.set j x) o:=
 ⟨aP h.par (by simp[Value.ownBlock]<;>omega) x,(h.res.stored j x).1,aP h.loc (by simp[Value.ownBlock]) x,h.bel.setCell (by simp) x,by have:=h.siz;simpa using this⟩
theorem CF{w u:World}{e:TypeId}{s:Value}{k n:Nat}{xs:List Value}(h:u.ownsRow (w.heap.size+3) e k s n xs)(g j:Nat)(hg:g<w.heap.size+3)(x:Value):(u.setCell ⟨g,j,none⟩ x).ownsRow (w.heap.size+3) e k s n xs:=bu h hg x
theorem Es(s:Value)(ys:List Int)(w:World)(hL:ys.length<=1048576)(h:Rd w 1 s ys.length (ys.flatMap Ac)):
 Calls Tryz.prog 7 #[s] w fun e w'=>∃a c,e=.returned (.slice a ys.length c)/\w'.ownsRow w.heap.size 2 1 (.slice a ys.length c) ys.length (ys.flatMap Ac)/\Below w.heap.size w w':=
 (Gm s ys.length ys w hL h rfl).mono fun e w' h=>⟨_,_,h.1,h.2.1,h.2.2⟩
theorem KF(s:Value)(ys:List MI)(w:World)(hL:ys.length<=1048576)(h:Rd w 4 s ys.length (ys.flatMap MI.cells)):
 Calls Tryz.prog 77 #[s] w fun e w'=>∃a c,e=.returned (.slice a ys.length c)/\w'.ownsRow w.heap.size 60 4 (.slice a ys.length c) ys.length (ys.flatMap MI.cells)/\Below w.heap.size w w':=
 (KE s ys.length ys w hL h rfl).mono fun e w' h=>⟨_,_,h.1,h.2.1,h.2.2⟩
theorem KD(s:Value)(ys:List MC)(w:World)(hL:ys.length<=1048576)(h:Rd w 2 s ys.length (ys.flatMap MC.cells)):
 Calls Tryz.prog 25 #[s] w fun e w'=>∃a c,e=.returned (.slice a ys.length c)/\w'.ownsRow w.heap.size 114 2 (.slice a ys.length c) ys.length (ys.flatMap MC.cells)/\Below w.heap.size w w':=
 (KA s ys.length ys w hL h rfl).mono fun e w' h=>⟨_,_,h.1,h.2.1,h.2.2⟩
theorem LR(s:Value)(ys:List MT)(w:World)(hL:ys.length<=1048576)(h:Rd w 4 s ys.length (ys.flatMap MT.cells)):
 Calls Tryz.prog 27 #[s] w fun e w'=>∃a c,e=.returned (.slice a ys.length c)/\w'.ownsRow w.heap.size 72 4 (.slice a ys.length c) ys.length (ys.flatMap MT.cells)/\Below w.heap.size w w':=
 (LQ s ys.length ys w hL h rfl).mono fun e w' h=>⟨_,_,h.1,h.2.1,h.2.2⟩
theorem Na(v:VF)(f:MF)(w:World)(hs:f.small)(h:C9 w v f):
 Calls Tryz.prog 52 #[.agg #[v.p,.int .i64 f.result,v.l,v.c]] w fun e w'=>∃a1 c1 a2 c2 a3 c3,e=.returned (.agg #[.slice a1 f.params.length c1,.int .i64 f.result,.slice a2 f.locals.length c2,.slice a3 f.code.length c3])/\Fl w' w.heap.size ⟨.slice a1 f.params.length c1,.slice a2 f.locals.length c2,.slice a3 f.code.length c3⟩ f/\Below w.heap.size w w':=by
 have H:Hid (C9 w v f/\f.small):=⟨h,hs⟩
 clear h hs;have F0:=Fr.of w 96 48 #[v.p,.int .i64 f.result,v.l,v.c] #[.slice none 0 0,.int .i64 0,.slice none 0 0,.slice none 0 0] #[.slice none 0 0,.int .i64 0,.slice none 0 0,.slice none 0 0] rfl rfl rfl;go_enter Tryz.func52,Tryz.ntmps52;go_wp2_with fail
 refine(Es v.p f.params _ H.o.2.1 (H.o.1.1.keep F0.bel lR)).mono ?_;rintro e u1 ⟨a1,c1,rfl,own1,b1⟩;have O1:Hid (u1.ownsRow (w.heap.size+3) 2 1 (.slice a1 f.params.length c1) f.params.length (f.params.flatMap Ac)):=A6 own1 F0.siz;have F1:=F0.keep b1;clear own1 b1 F0;obtain⟨p0,p1,p2,p3,_⟩:=Cz F1.par;obtain⟨o0,o1,o2,o3,z0,z1,z2,z3⟩:=Cz F1.loc;go_wp2_with fail
 have F2:=(F1.set 0 (.slice a1 f.params.length c1)).set 1 (.int .i64 f.result);have O2:Hid _:=CF (w:=w) (CF (w:=w) O1.o (w.heap.size+1+1) 0 (by omega) (.slice a1 f.params.length c1)) (w.heap.size+1+1) 1 (by omega) (.int .i64 f.result);clear O1 F1 p0 p1 p2 p3 o0 o1 o2 o3 z0 z1 z2 z3;simp only[b7,bj]at F2;refine(Es v.l f.locals _ H.o.2.2.1 (H.o.1.2.1.keep F2.bel lR)).mono ?_;rintro e u2 ⟨a2,c2,rfl,own2,b2⟩;have O3:Hid (u2.ownsRow (w.heap.size+3) 2 1 (.slice a1 f.params.length c1) f.params.length (f.params.flatMap Ac)/\u2.ownsRow (w.heap.size+3) 2 1 (.slice a2 f.locals.length c2) f.locals.length (f.locals.flatMap Ac)):=⟨Ag O2.o b2 lR,A6 own2 F2.siz⟩
 have F3:=F2.keep b2;clear own2 b2 F2 O2;obtain⟨p0,p1,p2,p3,_⟩:=Cz F3.par;obtain⟨o0,o1,o2,o3,z0,z1,z2,z3⟩:=Cz F3.loc;go_wp2_with fail
 have F4:=F3.set 2 (.slice a2 f.locals.length c2);have O4:Hid _:=aq (CF (w:=w) O3.o.1 (w.heap.size+1+1) 2 (by omega) (.slice a2 f.locals.length c2)) (CF (w:=w) O3.o.2 (w.heap.size+1+1) 2 (by omega) (.slice a2 f.locals.length c2));clear O3 F3 p0 p1 p2 p3 o0 o1 o2 o3 z0 z1 z2 z3;simp only[b7,bj]at F4;refine(KF v.c f.code _ H.o.2.2.2 (H.o.1.2.2.keep F4.bel lR)).mono ?_;rintro e u3 ⟨a3,c3,rfl,own3,b3⟩;have O5:Hid (u3.ownsRow (w.heap.size+3) 2 1 (.slice a1 f.params.length c1) f.params.length (f.params.flatMap Ac)/\u3.ownsRow (w.heap.size+3) 2 1 (.slice a2 f.locals.length c2) f.locals.length (f.locals.flatMap Ac)/\u3.ownsRow (w.heap.size+3) 60 4 (.slice a3 f.code.length c3) f.code.length (f.code.flatMap MI.cells)):=⟨Ag O4.o.1 b3 lR,Ag O4.o.2 b3 lR,A6 own3 F4.siz⟩
 have F5:=F4.keep b3;clear own3 b3 F4 O4;obtain⟨p0,p1,p2,p3,_⟩:=Cz F5.par;obtain⟨o0,o1,o2,o3,z0,z1,z2,z3⟩:=Cz F5.loc;obtain⟨q0,q1,q2,q3,y0,y1,y2,y3⟩:=Cz F5.res;go_wp2_with fail
 clear p0 p1 p2 p3 o0 o1 o2 o3 z0 z1 z2 z3 q0 q1 q2 q3 y0 y1 y2 y3;have F6:=((((F5.set 3 (.slice a3 f.code.length c3)).set' 0 (.slice a1 f.params.length c1)).set' 1 (.int .i64 f.result)).set' 2 (.slice a2 f.locals.length c2)).set' 3 (.slice a3 f.code.length c3);simp only[b7,bj]at F6;obtain⟨q0,q1,q2,q3,_⟩:=Cz F6.res
 have hall:∀{e:TypeId} {s:Value} {k n:Nat} {xs:List Value},u3.ownsRow (w.heap.size+3) e k s n xs->(((((u3.setCell ⟨w.heap.size+1+1,3,none⟩ (.slice a3 f.code.length c3)).setCell ⟨w.heap.size+1,0,none⟩ (.slice a1 f.params.length c1)).setCell ⟨w.heap.size+1,1,none⟩ (.int .i64 f.result)).setCell ⟨w.heap.size+1,2,none⟩ (.slice a2 f.locals.length c2)).setCell ⟨w.heap.size+1,3,none⟩ (.slice a3 f.code.length c3)).ownsRow w.heap.size e k s n xs:=fun h=>
  A6 (CF (CF (CF (CF (CF h _ _ (by omega) _) _ _ (by omega) _) _ _ (by omega) _) _ _ (by omega) _) _ _ (by omega) _) (by omega)
 exact bC (v:=.agg #[.slice a1 f.params.length c1,.int .i64 f.result,.slice a2 f.locals.length c2,.slice a3 f.code.length c3]) (by simp[results,Tryz.results52,go_sem,q0,q1,q2,q3]) rfl ⟨a1,c1,a2,c2,a3,c3,rfl,⟨hall O5.o.1,hall O5.o.2.1,hall O5.o.2.2⟩,F6.bel⟩
def Bi(x:MF×VF):List Value:=[x.2.p,.int .i64 x.1.result,x.2.l,x.2.c]
theorem Ah(x:MF×VF):(Bi x).length=4:=rfl
def Bl(x:List Int×Value):List Value:=[x.2]
theorem AW(x:List Int×Value):(Bl x).length=1:=rfl
def Hq(w:World)(s:Value)(fs:List MF):Prop:=∃xs:List (MF×VF),xs.map Prod.fst=fs/\Rd w 4 s fs.length (xs.flatMap Bi)/\∀x∈xs,C9 w x.2 x.1
def CI(w:World)(base:Nat)(s:Value)(fs:List MF):Prop:=∃xs:List (MF×VF),xs.map Prod.fst=fs/\w.ownsRow base 48 4 s fs.length (xs.flatMap Bi)/\∀x∈xs,Fl w base x.2 x.1
def OI(w:World)(s:Value)(rs:List (List Int)):Prop:=∃xs:List (List Int×Value),xs.map Prod.fst=rs/\Rd w 1 s rs.length (xs.flatMap Bl)/\∀x∈xs,Rd w 1 x.2 x.1.length (x.1.flatMap Ac)
def Eh(w:World)(base:Nat)(s:Value)(rs:List (List Int)):Prop:=∃xs:List (List Int×Value),xs.map Prod.fst=rs/\w.ownsRow base 28 1 s rs.length (xs.flatMap Bl)/\∀x∈xs,w.ownsRow base 2 1 x.2 x.1.length (x.1.flatMap Ac)
theorem CI.rd{w:World}{base:Nat}{s:Value}{fs:List MF}(h:CI w base s fs):Hq w s fs:=by
 obtain⟨xs,h1,h2,h3⟩:=h;exact⟨xs,h1,Rd.of_own h2,fun x hx=>(h3 x hx).rd⟩
theorem Eh.rd{w:World}{base:Nat}{s:Value}{rs:List (List Int)}(h:Eh w base s rs):OI w s rs:=by
 obtain⟨xs,h1,h2,h3⟩:=h;exact⟨xs,h1,Rd.of_own h2,fun x hx=>Rd.of_own (h3 x hx)⟩
theorem Hq.keep{w w':World}{s:Value}{fs:List MF}(h:Hq w s fs){B:Nat}(hb:Below B w w')(hB:w.heap.size<=B):Hq w' s fs:=by
 obtain⟨xs,h1,h2,h3⟩:=h;exact⟨xs,h1,h2.keep hb hB,fun x hx=>(h3 x hx).keep hb hB⟩
theorem OI.keep{w w':World}{s:Value}{rs:List (List Int)}(h:OI w s rs){B:Nat}(hb:Below B w w')(hB:w.heap.size<=B):OI w' s rs:=by
 obtain⟨xs,h1,h2,h3⟩:=h;exact⟨xs,h1,h2.keep hb hB,fun x hx=>(h3 x hx).keep hb hB⟩
theorem CI.keep{w w':World}{base:Nat}{s:Value}{fs:List MF}(h:CI w base s fs){B:Nat}(hb:Below B w w')(hB:w.heap.size<=B):CI w' base s fs:=by
 obtain⟨xs,h1,h2,h3⟩:=h;exact⟨xs,h1,Ag h2 hb hB,fun x hx=>(h3 x hx).keep hb hB⟩
theorem Eh.keep{w w':World}{base:Nat}{s:Value}{rs:List (List Int)}(h:Eh w base s rs){B:Nat}(hb:Below B w w')(hB:w.heap.size<=B):Eh w' base s rs:=by
 obtain⟨xs,h1,h2,h3⟩:=h;exact⟨xs,h1,Ag h2 hb hB,fun x hx=>Ag (h3 x hx) hb hB⟩
theorem Fl.base{w:World}{base base':Nat}{v:VF}{f:MF}(h:Fl w base v f)(hb:base'<=base):Fl w base' v f:=⟨A6 h.1 hb,A6 h.2.1 hb,A6 h.2.2 hb⟩
theorem CI.base{w:World}{base base':Nat}{s:Value}{fs:List MF}(h:CI w base s fs)(hb:base'<=base):CI w base' s fs:=by
 obtain⟨xs,h1,h2,h3⟩:=h;exact⟨xs,h1,A6 h2 hb,fun x hx=>(h3 x hx).base hb⟩
theorem Eh.base{w:World}{base base':Nat}{s:Value}{rs:List (List Int)}(h:Eh w base s rs)(hb:base'<=base):Eh w base' s rs:=by
 obtain⟨xs,h1,h2,h3⟩:=h;exact⟨xs,h1,A6 h2 hb,fun x hx=>A6 (h3 x hx) hb⟩
theorem Fl.below{w:World}{base:Nat}{v:VF}{f:MF}(h:Fl w base v f){a:Addr}(ha:a.block<base)(u:Value):Fl (w.setCell a u) base v f:=⟨bu h.1 ha u,bu h.2.1 ha u,bu h.2.2 ha u⟩
theorem CI.below{w:World}{base:Nat}{s:Value}{fs:List MF}(h:CI w base s fs){a:Addr}(ha:a.block<base)(u:Value):CI (w.setCell a u) base s fs:=by
 obtain⟨xs,h1,h2,h3⟩:=h;exact⟨xs,h1,bu h2 ha u,fun x hx=>(h3 x hx).below ha u⟩
theorem Eh.below{w:World}{base:Nat}{s:Value}{rs:List (List Int)}(h:Eh w base s rs){a:Addr}(ha:a.block<base)(u:Value):Eh (w.setCell a u) base s rs:=by
 obtain⟨xs,h1,h2,h3⟩:=h;exact⟨xs,h1,bu h2 ha u,fun x hx=>bu (h3 x hx) ha u⟩
theorem Rn:(Tryz.prog.info? 48).map (fun i=>(i.zero,i.size,i.bytes))=some (some (.agg #[.slice none 0 0,.int .i64 0,.slice none 0 0,.slice none 0 0]),4,80):=by kernel_rfl
theorem Rp:(Tryz.prog.info? 28).map (fun i=>(i.zero,i.size,i.bytes))=some (some (.slice none 0 0),1,24):=by kernel_rfl
theorem BM{α β:Type}{xs:List (α×β)}{fs:List α}(h:xs.map Prod.fst=fs){k:Nat}{x:α×β}(hx:xs[k]?=some x):fs[k]?=some x.1:=by
 rw[<-h,bB,hx];rfl
theorem K9{α β:Type}{ys:List (α×β)}{fs:List α}{k:Nat}(h:ys.map Prod.fst=fs.take k){f:α}(hf:fs[k]?=some f)(b:β):(ys++[(f,b)]).map Prod.fst=fs.take (k+1):=by
 obtain⟨hlt,rfl⟩:=aD.1 hf;rw[bx,h,ah hlt];rfl
def Fx{α:Type}(f:α->List Value)(z:List Value)(ys:List α)(n:Nat):List Value:=ys.flatMap f++(List.replicate (n-ys.length) z).flatten
theorem IC{α:Type}(f:α->List Value)(z:List Value)(n:Nat)(v:Value)(m:Nat)(hv:v.cells=z.toArray)(hm:z.length=m)(h0:0<m):(madeCells v.cells (n*m)).toList=Fx f z [] n:=by
 rw[Bu f z [] n v m hv hm h0];simp[A7,Fx]
theorem DK{α:Type}(f:α->List Value)(z:List Value)(ys:List α)(k n:Nat)(hk:k<n)(hl:ys.length=k):Fx f z ys n=ys.flatMap f++(z++(List.replicate (n-(k+1)) z).flatten):=by
 unfold Fx;have e:n-ys.length=(n-(k+1))+1:=by omega
 rw[e,du,List.flatten_cons]
theorem IB{α:Type}(f:α->List Value)(z:List Value)(ys:List α)(k n:Nat)(y:α)(hl:ys.length=k):Fx f z (ys++[y]) n=ys.flatMap f++(f y++(List.replicate (n-(k+1)) z).flatten):=by
 unfold Fx;rw[bP,dM];simp[hl]
theorem JK{α:Type}(f:α->List Value)(z:List Value)(ys:List α)(n:Nat)(h:ys.length=n):Fx f z ys n=ys.flatMap f:=by simp[Fx,<-h]
theorem Po{w:World}{base:Nat}{e:TypeId}{g k n c:Nat}{xs:List Value}(h:w.ownsRow base e k (.slice (some ⟨g,0,none⟩) n c) n xs):g+1<=w.heap.size:=by
 rcases h.2 with⟨h',_⟩|⟨g',cap',cur,h',_,hg,_⟩
 . cases h'
 . cases h'
   exact(aQ.1 hg).1
structure Qz(w wr:World)(fs:List MF)(L k:Nat)(ys:List (MF×VF)):Prop where
 fst:ys.map Prod.fst=fs.take k
 len:ys.length=k
 row:wr.ownsRow w.heap.size 48 4 (.slice (some ⟨w.heap.size,0,none⟩) L L) L (Fx Bi [.slice none 0 0,.int .i64 0,.slice none 0 0,.slice none 0 0] ys L)
 els:∀y∈ys,Fl wr (w.heap.size+1) y.2 y.1
 bel:Below w.heap.size w wr
 siz:w.heap.size+1<=wr.heap.size
theorem Qz.places{w wr:World}{fs:List MF}{L k:Nat}{ys:List (MF×VF)}(h:Qz w wr fs L k ys)(hk:k<L){u:World}(hb:Below wr.heap.size wr u):
 u.cell? ⟨w.heap.size,k*4,none⟩=some (.slice none 0 0)/\u.cell? ⟨w.heap.size,k*4+1,none⟩=some (.int .i64 0)/\u.cell? ⟨w.heap.size,k*4+2,none⟩=some (.slice none 0 0)/\u.cell? ⟨w.heap.size,k*4+3,none⟩=some (.slice none 0 0)/\u.frozen? ⟨w.heap.size,k*4,none⟩=false/\u.frozen? ⟨w.heap.size,k*4+1,none⟩=false/\u.frozen? ⟨w.heap.size,k*4+2,none⟩=false/\u.frozen? ⟨w.heap.size,k*4+3,none⟩=false:=by
 have hown:=Ag h.row hb lR;rw[DK Bi _ ys k L hk h.len]at hown;have hA:(ys.flatMap Bi).length=k*4:=by rw[As Bi 4 Ah,h.len]
 have d0:=hown.cellAt (k*4) (by omega);have d1:=hown.cellAt (k*4+1) (by omega);have d2:=hown.cellAt (k*4+2) (by omega);have d3:=hown.cellAt (k*4+3) (by omega);rw[aW (by omega),hA]at d0 d1 d2 d3;rw[cg]at d0;rw[bg]at d1 d2 d3;exact⟨d0,d1,d2,d3,hown.frozenAt _,hown.frozenAt _,hown.frozenAt _,hown.frozenAt _⟩
theorem Qz.next{w wr:World}{fs:List MF}{L k:Nat}{ys:List (MF×VF)}(h:Qz w wr fs L k ys)(hk:k<L){u:World}(hb:Below wr.heap.size wr u){f:MF}(hf:fs[k]?=some f){v:VF}(ho:Fl u wr.heap.size v f):
 Qz w ((((u.setCell ⟨w.heap.size,k*4,none⟩ v.p).setCell ⟨w.heap.size,k*4+1,none⟩ (.int .i64 f.result)).setCell ⟨w.heap.size,k*4+2,none⟩ v.l).setCell ⟨w.heap.size,k*4+3,none⟩ v.c) fs L (k+1) (ys++[(f,v)]):=by
 have hown:=Ag h.row hb lR;rw[DK Bi _ ys k L hk h.len]at hown;have hA:(ys.flatMap Bi).length=k*4:=by rw[As Bi 4 Ah,h.len]
 have s0:=(hown.stored (k*4) v.p).1;have s1:=(s0.stored (k*4+1) (.int .i64 f.result)).1;have s2:=(s1.stored (k*4+2) v.l).1;have s3:=(s2.stored (k*4+3) v.c).1;rw[Q1 _ _ _ _ _ _ _ _ _ _ (k*4) hA]at s3;refine⟨K9 h.fst hf v,by simp[h.len],?_,?_,?_,?_⟩
 . rw[IB Bi _ ys k L (f,v) h.len]
   exact s3
 . intro y hy
   have hy':Fl u (w.heap.size+1) y.2 y.1:=by
    rcases aU.1 hy with hy|hy
    . exact(h.els y hy).keep hb lR
    . simp only[dU]at hy
      subst hy;exact ho.base h.siz
   exact(((hy'.below (by simp) _).below (by simp) _).below (by simp) _).below (by simp) _
 . exact((((h.bel.trans (hb.mono (by have:=h.siz;omega))).setCell lR _).setCell lR _).setCell lR _).setCell lR _
 . have:=hb.size
   have:=h.siz;simp;omega
theorem LT(s:Value)(fs:List MF)(w:World)(hL:fs.length<=1048576)(hs:∀f∈fs,f.small)(h:Hq w s fs):
 Calls Tryz.prog 26 #[s] w fun e w'=>∃a c,e=.returned (.slice a fs.length c)/\CI w' w.heap.size (.slice a fs.length c) fs/\Below w.heap.size w w':=by
 obtain⟨i0,hi,hz0,hz1,hz2⟩:=bQ Rn;obtain⟨xs,hxs,hrd,hel⟩:=h;have hxl:xs.length=fs.length:=by rw[<-hxs];simp
 have H1:Hid (Rd w 4 s fs.length (xs.flatMap Bi)/\xs.map Prod.fst=fs/\(∀x∈xs,C9 w x.2 x.1)/\(∀f∈fs,f.small)/\xs.length=fs.length):=⟨hrd,hxs,hel,hs,hxl⟩
 obtain⟨a1,c1,rfl⟩:=hrd.is_slice;clear hrd hxs hel hs hxl;generalize hLL:fs.length=L at hL H1;have HL:Hid (fs.length=L):=hLL;clear hLL;go_enter Tryz.func26,Tryz.ntmps26;go_wp2_with (at_make;refine bZ _ rfl _ _ 32 rfl w.heap.size 48 i0 (.agg #[.slice none 0 0,.int .i64 0,.slice none 0 0,.slice none 0 0]) 4 Tryz.underlying32 hi hz0 hz1 .i64 .i64 _ _ L rfl rfl rfl rfl (by rw[hz2];omega) (by unfold maxLen;omega) lR ?_;intro w1 hown hgrow);rw[IC Bi [.slice none 0 0,.int .i64 0,.slice none 0 0,.slice none 0 0] L (.agg #[.slice none 0 0,.int .i64 0,.slice none 0 0,.slice none 0 0]) 4 rfl rfl (by omega)]at hown;have hB:Below w.heap.size w w1:=(aX _ _).grown hgrow lR (fun k hk=>by cases hk);have hst:Qz w w1 fs L 0 []:=⟨by simp,rfl,hown,(fun y hy=>by cases hy),hB,Po hown⟩;clear hgrow hown hB;go_loopw [4] (fun i wr=>∃k:Nat,k<=L/\i=.int .i64 k/\∃ys,Qz w wr fs L k ys) (fun i _=>L-(intOf i).toNat)
 case atStart=>exact⟨0,by omega,rfl,_,hst⟩
 case round=>
  clear hst;obtain⟨k,hk,rfl,ys,hst⟩:=hrel;by_cases hlt:k<L
  . obtain⟨x,hx⟩:∃x,xs[k]?=some x:=⟨_,aA (by rw[H1.o.2.2.2.2];exact hlt)⟩
    have hfx:=BM H1.o.2.1 hx;have hrx:=H1.o.2.2.1 x (aE hx);have hsm:=H1.o.2.2.2.1 x.1 (aE hfx);rcases H1.o.1.2 with⟨e0,_⟩|⟨g,o,c,e1,hc1⟩
    . omega
    . simp only[aF,aw]at e1
      obtain⟨rfl,rfl⟩:=e1;have i0:=Rd.elem Ah hc1 k x hx 0 _ rfl;have i1:=Rd.elem Ah hc1 k x hx 1 _ rfl;have i2:=Rd.elem Ah hc1 k x hx 2 _ rfl;have i3:=Rd.elem Ah hc1 k x hx 3 _ rfl;rw[<-hst.bel.cell (aC i0)]at i0;rw[<-hst.bel.cell (aC i1)]at i1;rw[<-hst.bel.cell (aC i2)]at i2;rw[<-hst.bel.cell (aC i3)]at i3;rw[aS]at i0;obtain⟨f,v⟩:=x;have HX:Hid (fs[k]?=some f/\C9 wr v f/\f.small):=⟨hfx,hrx.keep hst.bel lR,hsm⟩
      clear hfx hrx hsm hx hc1;simp only[]at i0 i1 i2 i3;go_wp2_with fail
      refine(Na v f wr HX.o.2.2 HX.o.2.1).mono ?_;rintro e u ⟨b1,d1,b2,d2,b3,d3,rfl,hou,hbu⟩;obtain⟨q0,q1,q2,q3,f0,f1,f2,f3⟩:=hst.places hlt hbu;have HN:Hid _:=hst.next hlt hbu HX.o.1 hou;clear hou hbu i0 i1 i2 i3 hst HX;go_wp2
      go_roundw
      case rel=>exact⟨k+1,by omega,by go_num,_,HN.o⟩
      case measure=>simp[intOf];omega
  . have hkn:k=L:=by omega
    subst hkn;go_wp2
    go_ret
    refine⟨some ⟨w.heap.size,0,none⟩,k,rfl,⟨ys,?_,?_,fun y hy=>(hst.els y hy).base (by omega)⟩,hst.bel⟩
    . rw[hst.fst,<-HL.o,List.take_length]
    . have hrow:=hst.row
      rw[JK _ _ _ _ hst.len]at hrow;rw[HL.o];exact hrow
structure QE(w wr:World)(fs:List (List Int))(L k:Nat)(ys:List (List Int×Value)):Prop where
 fst:ys.map Prod.fst=fs.take k
 len:ys.length=k
 row:wr.ownsRow w.heap.size 28 1 (.slice (some ⟨w.heap.size,0,none⟩) L L) L (Fx Bl [.slice none 0 0] ys L)
 els:∀y∈ys,wr.ownsRow (w.heap.size+1) 2 1 y.2 y.1.length (y.1.flatMap Ac)
 bel:Below w.heap.size w wr
 siz:w.heap.size+1<=wr.heap.size
theorem QE.places{w wr:World}{fs:List (List Int)}{L k:Nat}{ys:List (List Int×Value)}(h:QE w wr fs L k ys)(hk:k<L){u:World}(hb:Below wr.heap.size wr u):
 u.cell? ⟨w.heap.size,k,none⟩=some (.slice none 0 0)/\u.frozen? ⟨w.heap.size,k,none⟩=false:=by
 have hown:=Ag h.row hb lR;rw[DK Bl _ ys k L hk h.len]at hown;have hA:(ys.flatMap Bl).length=k:=by rw[As Bl 1 AW,h.len,bf]
 have d0:=hown.cellAt k (by omega);rw[aW (by omega),hA]at d0;rw[cg]at d0;exact⟨d0,hown.frozenAt _⟩
theorem QE.next{w wr:World}{fs:List (List Int)}{L k:Nat}{ys:List (List Int×Value)}(h:QE w wr fs L k ys)(hk:k<L){u:World}(hb:Below wr.heap.size wr u){f:List Int}(hf:fs[k]?=some f){v:Value}(ho:u.ownsRow wr.heap.size 2 1 v f.length (f.flatMap Ac)):
 QE w (u.setCell ⟨w.heap.size,k,none⟩ v) fs L (k+1) (ys++[(f,v)]):=by
 have hown:=Ag h.row hb lR;rw[DK Bl _ ys k L hk h.len]at hown;have hA:(ys.flatMap Bl).length=k:=by rw[As Bl 1 AW,h.len,bf]
 have s0:=(hown.stored k v).1;rw[Qd _ _ _ _ k hA]at s0;refine⟨K9 h.fst hf v,by simp[h.len],?_,?_,?_,?_⟩
 . rw[IB Bl _ ys k L (f,v) h.len]
   exact s0
 . intro y hy
   have hy':u.ownsRow (w.heap.size+1) 2 1 y.2 y.1.length (y.1.flatMap Ac):=by
    rcases aU.1 hy with hy|hy
    . exact Ag (h.els y hy) hb lR
    . simp only[dU]at hy
      subst hy;exact A6 ho h.siz
   exact bu hy' (by simp) _
 . exact(h.bel.trans (hb.mono (by have:=h.siz;omega))).setCell lR _
 . have:=hb.size
   have:=h.siz;simp;omega
theorem Ju(s:Value)(fs:List (List Int))(w:World)(hL:fs.length<=1048576)(hs:∀f∈fs,f.length<=1048576)(h:OI w s fs):
 Calls Tryz.prog 24 #[s] w fun e w'=>∃a c,e=.returned (.slice a fs.length c)/\Eh w' w.heap.size (.slice a fs.length c) fs/\Below w.heap.size w w':=by
 obtain⟨i0,hi,hz0,hz1,hz2⟩:=bQ Rp;obtain⟨xs,hxs,hrd,hel⟩:=h;have hxl:xs.length=fs.length:=by rw[<-hxs];simp
 have H1:Hid (Rd w 1 s fs.length (xs.flatMap Bl)/\xs.map Prod.fst=fs/\(∀x∈xs,Rd w 1 x.2 x.1.length (x.1.flatMap Ac))/\(∀f∈fs,f.length<=1048576)/\xs.length=fs.length):=⟨hrd,hxs,hel,hs,hxl⟩
 obtain⟨a1,c1,rfl⟩:=hrd.is_slice;clear hrd hxs hel hs hxl;generalize hLL:fs.length=L at hL H1;have HL:Hid (fs.length=L):=hLL;clear hLL;go_enter Tryz.func24,Tryz.ntmps24;go_wp2_with (at_make;refine bZ _ rfl _ _ 22 rfl w.heap.size 28 i0 (.slice none 0 0) 1 Tryz.underlying22 hi hz0 hz1 .i64 .i64 _ _ L rfl rfl rfl rfl (by rw[hz2];omega) (by unfold maxLen;omega) lR ?_;intro w1 hown hgrow);rw[IC Bl [.slice none 0 0] L (.slice none 0 0) 1 rfl rfl (by omega)]at hown;have hB:Below w.heap.size w w1:=(aX _ _).grown hgrow lR (fun k hk=>by cases hk);have hst:QE w w1 fs L 0 []:=⟨by simp,rfl,hown,(fun y hy=>by cases hy),hB,Po hown⟩;clear hgrow hown hB;go_loopw [4] (fun i wr=>∃k:Nat,k<=L/\i=.int .i64 k/\∃ys,QE w wr fs L k ys) (fun i _=>L-(intOf i).toNat)
 case atStart=>exact⟨0,by omega,rfl,_,hst⟩
 case round=>
  clear hst;obtain⟨k,hk,rfl,ys,hst⟩:=hrel;by_cases hlt:k<L
  . obtain⟨x,hx⟩:∃x,xs[k]?=some x:=⟨_,aA (by rw[H1.o.2.2.2.2];exact hlt)⟩
    have hfx:=BM H1.o.2.1 hx;have hrx:=H1.o.2.2.1 x (aE hx);have hsm:=H1.o.2.2.2.1 x.1 (aE hfx);rcases H1.o.1.2 with⟨e0,_⟩|⟨g,o,c,e1,hc1⟩
    . omega
    . simp only[aF,aw]at e1
      obtain⟨rfl,rfl⟩:=e1;have i0:=Rd.elem AW hc1 k x hx 0 _ rfl;rw[<-hst.bel.cell (aC i0)]at i0;rw[bf,aS]at i0;obtain⟨f,v⟩:=x;have HX:Hid (fs[k]?=some f/\Rd wr 1 v f.length (f.flatMap Ac)/\f.length<=1048576):=⟨hfx,hrx.keep hst.bel lR,hsm⟩
      clear hfx hrx hsm hx hc1;simp only[]at i0;go_wp2_with fail
      refine(Es v f wr HX.o.2.2 HX.o.2.1).mono ?_;rintro e u ⟨b1,d1,rfl,hou,hbu⟩;obtain⟨q0,f0⟩:=hst.places hlt hbu;have HN:Hid _:=hst.next hlt hbu HX.o.1 hou;clear hou hbu i0 hst HX;go_wp2
      go_roundw
      case rel=>exact⟨k+1,by omega,by go_num,_,HN.o⟩
      case measure=>simp[intOf];omega
  . have hkn:k=L:=by omega
    subst hkn;go_wp2
    go_ret
    refine⟨some ⟨w.heap.size,0,none⟩,k,rfl,⟨ys,?_,?_,fun y hy=>A6 (hst.els y hy) (by omega)⟩,hst.bel⟩
    . rw[hst.fst,<-HL.o,List.take_length]
    . have hrow:=hst.row
      rw[JK _ _ _ _ hst.len]at hrow;rw[HL.o];exact hrow
structure MP where
 regions:List (List Int)
 consts:List MC
 funcs:List MF
 certs:List MT
structure VP where
 r:Value
 k:Value
 f:Value
 t:Value
def VP.val(v:VP):Value:=.agg #[v.r,v.k,v.f,v.t]
structure Dg(w:World)(v:VP)(p:MP):Prop where
 regions:OI w v.r p.regions
 consts:Rd w 2 v.k p.consts.length (p.consts.flatMap MC.cells)
 funcs:Hq w v.f p.funcs
 certs:Rd w 4 v.t p.certs.length (p.certs.flatMap MT.cells)
structure Fm(w:World)(base:Nat)(v:VP)(p:MP):Prop where
 regions:Eh w base v.r p.regions
 consts:w.ownsRow base 114 2 v.k p.consts.length (p.consts.flatMap MC.cells)
 funcs:CI w base v.f p.funcs
 certs:w.ownsRow base 72 4 v.t p.certs.length (p.certs.flatMap MT.cells)
structure MP.small(p:MP):Prop where
 regions:p.regions.length<=1048576
 region:∀r∈p.regions,r.length<=1048576
 consts:p.consts.length<=1048576
 funcs:p.funcs.length<=1048576
 func:∀f∈p.funcs,f.small
 certs:p.certs.length<=1048576
theorem Fm.rd{w:World}{base:Nat}{v:VP}{p:MP}(h:Fm w base v p):Dg w v p:=⟨h.regions.rd,Rd.of_own h.consts,h.funcs.rd,Rd.of_own h.certs⟩
theorem Dg.keep{w w':World}{v:VP}{p:MP}(h:Dg w v p){B:Nat}(hb:Below B w w')(hB:w.heap.size<=B):Dg w' v p:=⟨h.regions.keep hb hB,h.consts.keep hb hB,h.funcs.keep hb hB,h.certs.keep hb hB⟩
theorem Fm.keep{w w':World}{base:Nat}{v:VP}{p:MP}(h:Fm w base v p){B:Nat}(hb:Below B w w')(hB:w.heap.size<=B):Fm w' base v p:=⟨h.regions.keep hb hB,Ag h.consts hb hB,h.funcs.keep hb hB,Ag h.certs hb hB⟩
theorem Fm.base{w:World}{base base':Nat}{v:VP}{p:MP}(h:Fm w base v p)(hb:base'<=base):Fm w base' v p:=⟨h.regions.base hb,A6 h.consts hb,h.funcs.base hb,A6 h.certs hb⟩
theorem Fm.below{w:World}{base:Nat}{v:VP}{p:MP}(h:Fm w base v p){a:Addr}(ha:a.block<base)(u:Value):Fm (w.setCell a u) base v p:=⟨h.regions.below ha u,bu h.consts ha u,h.funcs.below ha u,bu h.certs ha u⟩
theorem DY(v:VP)(p:MP)(w:World)(hs:p.small)(h:Dg w v p):
 Calls Tryz.prog 6 #[.agg #[v.r,v.k,v.f,v.t]] w fun e w'=>∃a1 c1 a2 c2 a3 c3 a4 c4,e=.returned (.agg #[.slice a1 p.regions.length c1,.slice a2 p.consts.length c2,.slice a3 p.funcs.length c3,.slice a4 p.certs.length c4])/\Fm w' w.heap.size ⟨.slice a1 p.regions.length c1,.slice a2 p.consts.length c2,.slice a3 p.funcs.length c3,.slice a4 p.certs.length c4⟩ p/\Below w.heap.size w w':=by
 have F0:=Fr.of w 27 35 #[v.r,v.k,v.f,v.t] #[.slice none 0 0,.slice none 0 0,.slice none 0 0,.slice none 0 0] #[.slice none 0 0,.slice none 0 0,.slice none 0 0,.slice none 0 0] rfl rfl rfl;go_enter Tryz.func6,Tryz.ntmps6;go_wp2_with fail
 refine(Ju v.r p.regions _ hs.regions hs.region (h.regions.keep F0.bel lR)).mono ?_;rintro e u1 ⟨a1,c1,rfl,own1,b1⟩;have O1:Hid (Eh u1 (w.heap.size+3) (.slice a1 p.regions.length c1) p.regions):=own1.base F0.siz;have F1:=F0.keep b1;clear own1 b1 F0;obtain⟨p0,p1,p2,p3,_⟩:=Cz F1.par;obtain⟨o0,o1,o2,o3,z0,z1,z2,z3⟩:=Cz F1.loc;go_wp2_with fail
 have F2:=F1.set 0 (.slice a1 p.regions.length c1);have O2:Hid (Eh (u1.setCell ⟨w.heap.size+1+1,0,none⟩ (.slice a1 p.regions.length c1)) (w.heap.size+3) (.slice a1 p.regions.length c1) p.regions):=O1.o.below (by simp) _;clear O1 F1 p0 p1 p2 p3 o0 o1 o2 o3 z0 z1 z2 z3;simp only[b7]at F2;refine(KD v.k p.consts _ hs.consts (h.consts.keep F2.bel lR)).mono ?_;rintro e u2 ⟨a2,c2,rfl,own2,b2⟩;have O3:Hid (Eh u2 (w.heap.size+3) (.slice a1 p.regions.length c1) p.regions/\u2.ownsRow (w.heap.size+3) 114 2 (.slice a2 p.consts.length c2) p.consts.length (p.consts.flatMap MC.cells)):=⟨O2.o.keep b2 lR,A6 own2 F2.siz⟩
 have F3:=F2.keep b2;clear own2 b2 F2 O2;obtain⟨p0,p1,p2,p3,_⟩:=Cz F3.par;obtain⟨o0,o1,o2,o3,z0,z1,z2,z3⟩:=Cz F3.loc;go_wp2_with fail
 have F4:=F3.set 1 (.slice a2 p.consts.length c2);have O4:Hid _:=aq (O3.o.1.below (a:=⟨w.heap.size+1+1,1,none⟩) (by simp) (.slice a2 p.consts.length c2)) (CF (w:=w) O3.o.2 (w.heap.size+1+1) 1 (by omega) (.slice a2 p.consts.length c2));clear O3 F3 p0 p1 p2 p3 o0 o1 o2 o3 z0 z1 z2 z3;simp only[b7,bj]at F4;refine(LT v.f p.funcs _ hs.funcs hs.func (h.funcs.keep F4.bel lR)).mono ?_;rintro e u3 ⟨a3,c3,rfl,own3,b3⟩;have O5:Hid (Eh u3 (w.heap.size+3) (.slice a1 p.regions.length c1) p.regions/\u3.ownsRow (w.heap.size+3) 114 2 (.slice a2 p.consts.length c2) p.consts.length (p.consts.flatMap MC.cells)/\CI u3 (w.heap.size+3) (.slice a3 p.funcs.length c3) p.funcs):=⟨O4.o.1.keep b3 lR,Ag O4.o.2 b3 lR,own3.base F4.siz⟩
 have F5:=F4.keep b3;clear own3 b3 F4 O4;obtain⟨p0,p1,p2,p3,_⟩:=Cz F5.par;obtain⟨o0,o1,o2,o3,z0,z1,z2,z3⟩:=Cz F5.loc;go_wp2_with fail
 have F6:=F5.set 2 (.slice a3 p.funcs.length c3);have O6:Hid _:=aq (O5.o.1.below (a:=⟨w.heap.size+1+1,2,none⟩) (by simp) (.slice a3 p.funcs.length c3)) (aq (CF (w:=w) O5.o.2.1 (w.heap.size+1+1) 2 (by omega) (.slice a3 p.funcs.length c3)) (O5.o.2.2.below (a:=⟨w.heap.size+1+1,2,none⟩) (by simp) (.slice a3 p.funcs.length c3)));clear O5 F5 p0 p1 p2 p3 o0 o1 o2 o3 z0 z1 z2 z3;simp only[b7,bj]at F6;refine(LR v.t p.certs _ hs.certs (h.certs.keep F6.bel lR)).mono ?_;rintro e u4 ⟨a4,c4,rfl,own4,b4⟩;have O7:Hid (Fm u4 (w.heap.size+3) ⟨.slice a1 p.regions.length c1,.slice a2 p.consts.length c2,.slice a3 p.funcs.length c3,.slice a4 p.certs.length c4⟩ p):=⟨O6.o.1.keep b4 lR,Ag O6.o.2.1 b4 lR,O6.o.2.2.keep b4 lR,A6 own4 F6.siz⟩;have F7:=F6.keep b4;clear own4 b4 F6 O6;obtain⟨p0,p1,p2,p3,_⟩:=Cz F7.par;obtain⟨o0,o1,o2,o3,z0,z1,z2,z3⟩:=Cz F7.loc;obtain⟨q0,q1,q2,q3,y0,y1,y2,y3⟩:=Cz F7.res;go_wp2_with fail
 clear p0 p1 p2 p3 o0 o1 o2 o3 z0 z1 z2 z3 q0 q1 q2 q3 y0 y1 y2 y3;have F8:=((((F7.set 3 (.slice a4 p.certs.length c4)).set' 0 (.slice a1 p.regions.length c1)).set' 1 (.slice a2 p.consts.length c2)).set' 2 (.slice a3 p.funcs.length c3)).set' 3 (.slice a4 p.certs.length c4);simp only[b7,bj]at F8;obtain⟨q0,q1,q2,q3,_⟩:=Cz F8.res;have hall:=((((O7.o.below (a:=⟨w.heap.size+1+1,3,none⟩) (by simp) (.slice a4 p.certs.length c4)).below (a:=⟨w.heap.size+1,0,none⟩) (by simp<;>omega) (.slice a1 p.regions.length c1)).below (a:=⟨w.heap.size+1,1,none⟩) (by simp<;>omega) (.slice a2 p.consts.length c2)).below (a:=⟨w.heap.size+1,2,none⟩) (by simp<;>omega) (.slice a3 p.funcs.length c3)).below (a:=⟨w.heap.size+1,3,none⟩) (by simp<;>omega) (.slice a4 p.certs.length c4);exact bC (v:=.agg #[.slice a1 p.regions.length c1,.slice a2 p.consts.length c2,.slice a3 p.funcs.length c3,.slice a4 p.certs.length c4]) (by simp[results,Tryz.results6,go_sem,q0,q1,q2,q3]) rfl ⟨a1,c1,a2,c2,a3,c3,a4,c4,rfl,hall.base (by omega),F8.bel⟩
end Go.Proofs.YtdipfjmlfbdkdaaGreat
