import Derived.Test.YtlejplpkomddeaaGreatG0
import Derived.Test.YtlejplpkomddeaaGreatG1
import Derived.OneCell
namespace Go.Proofs.YtlejplpkomddeaaGreat
open Go.ChangeShapes Go.WideShapes Go.ChangeAt Go.RowKit
set_option linter.unusedVariables false
set_option maxHeartbeats 4000000
set_option maxRecDepth 100000
theorem Jt(s:Value)(L:Nat)(ys:List MI)(w:World)(hL:L<=1048576)(h:Rd w 4 s L (ys.flatMap MI.cells))(hlen:ys.length=L):
  Calls Tryz.prog 126 #[s] w fun e w'=>e=.returned (.slice (some ⟨w.heap.size,0,none⟩) L L)/\w'.ownsRow w.heap.size 134 4 (.slice (some ⟨w.heap.size,0,none⟩) L L) L (ys.flatMap MI.cells)/\Below w.heap.size w w':=by
 obtain⟨i0,hi,hz0,hz1,hz2⟩:=info_parts PH;have H1:=h2 h hlen;obtain⟨a1,c1,rfl⟩:=h.is_slice;clear h hlen;go_enter Tryz.func126,Tryz.ntmps126;go_wp2_with (at_make;refine wpList_make_full _ rfl _ _ 129 rfl w.heap.size 134 i0 (.agg #[.int .i64 0,.int .i64 0,.int .i64 0,.int .i64 0]) 4 Tryz.underlying129 hi hz0 hz1 .i64 .i64 _ _ L rfl rfl rfl rfl (by rw[hz2];omega) (by unfold maxLen;omega) lR ?_;intro w1 hown hgrow);rw[Cz MI.cells [.int .i64 0,.int .i64 0,.int .i64 0,.int .i64 0] ys L (.agg #[.int .i64 0,.int .i64 0,.int .i64 0,.int .i64 0]) 4 rfl rfl (by omega)]at hown;have hB:Below w.heap.size w w1:=(Below.refl _ _).grown hgrow lR (fun k hk=>by cases hk);clear hgrow;go_loopw [4] (fun i wr=>∃k:Nat,k<=L/\i=.int .i64 k/\wr.ownsRow w.heap.size 134 4 (.slice (some ⟨w.heap.size,0,none⟩) L L) L (CU MI.cells [.int .i64 0,.int .i64 0,.int .i64 0,.int .i64 0] ys k L)/\Below w.heap.size w wr) (fun i _=>L-(intOf i).toNat)
 case atStart=>exact⟨0,by omega,rfl,hown,hB⟩
 case round=>
  clear hown hB;obtain⟨k,hk,rfl,hown,hbel⟩:=hrel;by_cases hlt:k<L
  ·obtain⟨x,hx⟩:∃x,ys[k]?=some x:=⟨_,gE (by rw[H1.out.2];exact hlt)⟩
   have hnext:=CV MI.cells [.int .i64 0,.int .i64 0,.int .i64 0,.int .i64 0] ys k L x hx;rw[CI MI.cells [.int .i64 0,.int .i64 0,.int .i64 0,.int .i64 0] ys k L hlt]at hown;have hA:((ys.take k).flatMap MI.cells).length=k*4:=by rw[Aw MI.cells 4 MI.cells_length,List.length_take,H1.out.2,Nat.min_eq_left hk]
   generalize (ys.take k).flatMap MI.cells=A at hown hnext hA;generalize (List.replicate (L-(k+1)) ([.int .i64 0,.int .i64 0,.int .i64 0,.int .i64 0]:List Value)).flatten=R at hown hnext;rcases H1.out.1.2 with⟨e0,_⟩|⟨g,o,c,e1,hc1⟩
   ·omega
   ·simp only[sJ,true_and]at e1
    obtain⟨rfl,rfl⟩:=e1;have i0:=Rd.elem MI.cells_length hc1 k x hx 0 _ rfl;have i1:=Rd.elem MI.cells_length hc1 k x hx 1 _ rfl;have i2:=Rd.elem MI.cells_length hc1 k x hx 2 _ rfl;have i3:=Rd.elem MI.cells_length hc1 k x hx 3 _ rfl;rw[<-hbel.cell (bL i0)]at i0;rw[<-hbel.cell (bL i1)]at i1;rw[<-hbel.cell (bL i2)]at i2;rw[<-hbel.cell (bL i3)]at i3;rw[Nat.add_zero]at i0;have HO:=h3 hown hA hnext;clear hown hA hnext hc1 hx;go_wp2_with fail
    refine(Kh x wr).mono ?_;rintro e u ⟨rfl,hbu⟩;have hown:=Ai HO.out.1 hbu lR;have hA:=HO.out.2.1;have f0:=hown.frozenAt (k*4);have f1:=hown.frozenAt (k*4+1);have f2:=hown.frozenAt (k*4+2);have f3:=hown.frozenAt (k*4+3);have d0:=hown.cellAt (k*4) (by omega);have d1:=hown.cellAt (k*4+1) (by omega);have d2:=hown.cellAt (k*4+2) (by omega);have d3:=hown.cellAt (k*4+3) (by omega);rw[List.getElem?_append_right (by omega),hA]at d0 d1 d2 d3;rw[Nat.sub_self]at d0;rw[Nat.add_sub_cancel_left]at d1 d2 d3;simp only[List.cons_append,gZ,gS]at d0 d1 d2 d3;have HB:=h2 (hbel.trans (hbu.mono hbel.size)) hown;clear hown hA hbu hbel i0 i1 i2 i3;go_wp2
    go_roundw
    case rel=>
     refine⟨k+1,by omega,by go_num,?_,(((HB.out.1.setCell lR _).setCell lR _).setCell lR _).setCell lR _⟩;have s0:=(HB.out.2.stored (k*4) (.int .i64 x.op)).1;have s1:=(s0.stored (k*4+1) (.int .i64 x.a)).1;have s2:=(s1.stored (k*4+2) (.int .i64 x.b)).1;have s3:=(s2.stored (k*4+3) (.int .i64 x.c)).1;rw[N6 A R _ _ _ _ _ _ _ _ (k*4) HO.out.2.1]at s3;rw[HO.out.2.2];exact s3
    case measure=>simp[intOf];omega
  ·have hkn:k=L:=by omega
   subst hkn;rw[Dj _ _ _ _ H1.out.2]at hown;have HO:=AM hown;clear hown;go_wp2
   go_ret
   exact⟨rfl,HO.out,hbel⟩
theorem JQ(s:Value)(L:Nat)(ys:List MT)(w:World)(hL:L<=1048576)(h:Rd w 4 s L (ys.flatMap MT.cells))(hlen:ys.length=L):
  Calls Tryz.prog 36 #[s] w fun e w'=>e=.returned (.slice (some ⟨w.heap.size,0,none⟩) L L)/\w'.ownsRow w.heap.size 148 4 (.slice (some ⟨w.heap.size,0,none⟩) L L) L (ys.flatMap MT.cells)/\Below w.heap.size w w':=by
 obtain⟨i0,hi,hz0,hz1,hz2⟩:=info_parts PR;have H1:=h2 h hlen;obtain⟨a1,c1,rfl⟩:=h.is_slice;clear h hlen;go_enter Tryz.func36,Tryz.ntmps36;go_wp2_with (at_make;refine wpList_make_full _ rfl _ _ 43 rfl w.heap.size 148 i0 (.agg #[.int .i64 0,.int .i64 0,.int .i64 0,.int .u32 0]) 4 Tryz.underlying43 hi hz0 hz1 .i64 .i64 _ _ L rfl rfl rfl rfl (by rw[hz2];omega) (by unfold maxLen;omega) lR ?_;intro w1 hown hgrow);rw[Cz MT.cells [.int .i64 0,.int .i64 0,.int .i64 0,.int .u32 0] ys L (.agg #[.int .i64 0,.int .i64 0,.int .i64 0,.int .u32 0]) 4 rfl rfl (by omega)]at hown;have hB:Below w.heap.size w w1:=(Below.refl _ _).grown hgrow lR (fun k hk=>by cases hk);clear hgrow;go_loopw [4] (fun i wr=>∃k:Nat,k<=L/\i=.int .i64 k/\wr.ownsRow w.heap.size 148 4 (.slice (some ⟨w.heap.size,0,none⟩) L L) L (CU MT.cells [.int .i64 0,.int .i64 0,.int .i64 0,.int .u32 0] ys k L)/\Below w.heap.size w wr) (fun i _=>L-(intOf i).toNat)
 case atStart=>exact⟨0,by omega,rfl,hown,hB⟩
 case round=>
  clear hown hB;obtain⟨k,hk,rfl,hown,hbel⟩:=hrel;by_cases hlt:k<L
  ·obtain⟨x,hx⟩:∃x,ys[k]?=some x:=⟨_,gE (by rw[H1.out.2];exact hlt)⟩
   have hnext:=CV MT.cells [.int .i64 0,.int .i64 0,.int .i64 0,.int .u32 0] ys k L x hx;rw[CI MT.cells [.int .i64 0,.int .i64 0,.int .i64 0,.int .u32 0] ys k L hlt]at hown;have hA:((ys.take k).flatMap MT.cells).length=k*4:=by rw[Aw MT.cells 4 MT.cells_length,List.length_take,H1.out.2,Nat.min_eq_left hk]
   generalize (ys.take k).flatMap MT.cells=A at hown hnext hA;generalize (List.replicate (L-(k+1)) ([.int .i64 0,.int .i64 0,.int .i64 0,.int .u32 0]:List Value)).flatten=R at hown hnext;rcases H1.out.1.2 with⟨e0,_⟩|⟨g,o,c,e1,hc1⟩
   ·omega
   ·simp only[sJ,true_and]at e1
    obtain⟨rfl,rfl⟩:=e1;have i0:=Rd.elem MT.cells_length hc1 k x hx 0 _ rfl;have i1:=Rd.elem MT.cells_length hc1 k x hx 1 _ rfl;have i2:=Rd.elem MT.cells_length hc1 k x hx 2 _ rfl;have i3:=Rd.elem MT.cells_length hc1 k x hx 3 _ rfl;rw[<-hbel.cell (bL i0)]at i0;rw[<-hbel.cell (bL i1)]at i1;rw[<-hbel.cell (bL i2)]at i2;rw[<-hbel.cell (bL i3)]at i3;rw[Nat.add_zero]at i0;have HO:=h3 hown hA hnext;clear hown hA hnext hc1 hx;go_wp2_with fail
    refine(Lo x wr).mono ?_;rintro e u ⟨rfl,hbu⟩;have hown:=Ai HO.out.1 hbu lR;have hA:=HO.out.2.1;have f0:=hown.frozenAt (k*4);have f1:=hown.frozenAt (k*4+1);have f2:=hown.frozenAt (k*4+2);have f3:=hown.frozenAt (k*4+3);have d0:=hown.cellAt (k*4) (by omega);have d1:=hown.cellAt (k*4+1) (by omega);have d2:=hown.cellAt (k*4+2) (by omega);have d3:=hown.cellAt (k*4+3) (by omega);rw[List.getElem?_append_right (by omega),hA]at d0 d1 d2 d3;rw[Nat.sub_self]at d0;rw[Nat.add_sub_cancel_left]at d1 d2 d3;simp only[List.cons_append,gZ,gS]at d0 d1 d2 d3;have HB:=h2 (hbel.trans (hbu.mono hbel.size)) hown;clear hown hA hbu hbel i0 i1 i2 i3;go_wp2
    go_roundw
    case rel=>
     refine⟨k+1,by omega,by go_num,?_,(((HB.out.1.setCell lR _).setCell lR _).setCell lR _).setCell lR _⟩;have s0:=(HB.out.2.stored (k*4) (.int .i64 x.func)).1;have s1:=(s0.stored (k*4+1) (.int .i64 x.head)).1;have s2:=(s1.stored (k*4+2) (.int .i64 x.counter)).1;have s3:=(s2.stored (k*4+3) (.int .u32 x.init)).1;rw[N6 A R _ _ _ _ _ _ _ _ (k*4) HO.out.2.1]at s3;rw[HO.out.2.2];exact s3
    case measure=>simp[intOf];omega
  ·have hkn:k=L:=by omega
   subst hkn;rw[Dj _ _ _ _ H1.out.2]at hown;have HO:=AM hown;clear hown;go_wp2
   go_ret
   exact⟨rfl,HO.out,hbel⟩
theorem Jc(s:Value)(L:Nat)(ys:List MC)(w:World)(hL:L<=1048576)(h:Rd w 2 s L (ys.flatMap MC.cells))(hlen:ys.length=L):
  Calls Tryz.prog 34 #[s] w fun e w'=>e=.returned (.slice (some ⟨w.heap.size,0,none⟩) L L)/\w'.ownsRow w.heap.size 143 2 (.slice (some ⟨w.heap.size,0,none⟩) L L) L (ys.flatMap MC.cells)/\Below w.heap.size w w':=by
 obtain⟨i0,hi,hz0,hz1,hz2⟩:=info_parts PO;have H1:=h2 h hlen;obtain⟨a1,c1,rfl⟩:=h.is_slice;clear h hlen;go_enter Tryz.func34,Tryz.ntmps34;go_wp2_with (at_make;refine wpList_make_full _ rfl _ _ 41 rfl w.heap.size 143 i0 (.agg #[.int .i64 0,.int .u32 0]) 2 Tryz.underlying41 hi hz0 hz1 .i64 .i64 _ _ L rfl rfl rfl rfl (by rw[hz2];omega) (by unfold maxLen;omega) lR ?_;intro w1 hown hgrow);rw[Cz MC.cells [.int .i64 0,.int .u32 0] ys L (.agg #[.int .i64 0,.int .u32 0]) 2 rfl rfl (by omega)]at hown;have hB:Below w.heap.size w w1:=(Below.refl _ _).grown hgrow lR (fun k hk=>by cases hk);clear hgrow;go_loopw [4] (fun i wr=>∃k:Nat,k<=L/\i=.int .i64 k/\wr.ownsRow w.heap.size 143 2 (.slice (some ⟨w.heap.size,0,none⟩) L L) L (CU MC.cells [.int .i64 0,.int .u32 0] ys k L)/\Below w.heap.size w wr) (fun i _=>L-(intOf i).toNat)
 case atStart=>exact⟨0,by omega,rfl,hown,hB⟩
 case round=>
  clear hown hB;obtain⟨k,hk,rfl,hown,hbel⟩:=hrel;by_cases hlt:k<L
  ·obtain⟨x,hx⟩:∃x,ys[k]?=some x:=⟨_,gE (by rw[H1.out.2];exact hlt)⟩
   have hnext:=CV MC.cells [.int .i64 0,.int .u32 0] ys k L x hx;rw[CI MC.cells [.int .i64 0,.int .u32 0] ys k L hlt]at hown;have hA:((ys.take k).flatMap MC.cells).length=k*2:=by rw[Aw MC.cells 2 MC.cells_length,List.length_take,H1.out.2,Nat.min_eq_left hk]
   generalize (ys.take k).flatMap MC.cells=A at hown hnext hA;generalize (List.replicate (L-(k+1)) [Value.int .i64 0,Value.int .u32 0]).flatten=R at hown hnext;rcases H1.out.1.2 with⟨e0,_⟩|⟨g,o,c,e1,hc1⟩
   ·omega
   ·simp only[sJ,true_and]at e1
    obtain⟨rfl,rfl⟩:=e1;have i0:=Rd.elem MC.cells_length hc1 k x hx 0 _ rfl;have i1:=Rd.elem MC.cells_length hc1 k x hx 1 _ rfl;rw[<-hbel.cell (bL i0)]at i0;rw[<-hbel.cell (bL i1)]at i1;rw[Nat.add_zero]at i0;have HO:=h3 hown hA hnext;clear hown hA hnext hc1 hx;go_wp2_with fail
    refine(JV x wr).mono ?_;rintro e u ⟨rfl,hbu⟩;have hown:=Ai HO.out.1 hbu lR;have hA:=HO.out.2.1;have f0:=hown.frozenAt (k*2);have f1:=hown.frozenAt (k*2+1);have d0:=hown.cellAt (k*2) (by omega);have d1:=hown.cellAt (k*2+1) (by omega);rw[List.getElem?_append_right (by omega),hA]at d0 d1;rw[Nat.sub_self]at d0;rw[Nat.add_sub_cancel_left]at d1;simp only[List.cons_append,gZ,gS]at d0 d1;have HB:=h2 (hbel.trans (hbu.mono hbel.size)) hown;clear hown hA hbu hbel i0 i1;go_wp2
    go_roundw
    case rel=>
     refine⟨k+1,by omega,by go_num,?_,(HB.out.1.setCell lR _).setCell lR _⟩;have s0:=(HB.out.2.stored (k*2) (.int .i64 x.type)).1;have s1:=(s0.stored (k*2+1) (.int .u32 x.word)).1;rw[Oe A R _ _ _ _ (k*2) HO.out.2.1]at s1;rw[HO.out.2.2];exact s1
    case measure=>simp[intOf];omega
  ·have hkn:k=L:=by omega
   subst hkn;rw[Dj _ _ _ _ H1.out.2]at hown;have HO:=AM hown;clear hown;go_wp2
   go_ret
   exact⟨rfl,HO.out,hbel⟩
theorem AW(s:ByteArray)(c f:Int)(w:World):(Instr.field 85 (.agg #[.string s,.int .i64 c,.int .i64 f]) 2).run Tryz.prog w=.ok (.int .i64 f) w:=by kernel_rfl
theorem Kw(t x y:Int)(w:World):Calls Tryz.prog 125 #[.int .i64 17,.int .i64 t,.int .u32 x,.int .u32 y] w fun e w'=>e=.returned (.int .u32 (On t x y))/\Below w.heap.size w w':=by
 have h31:=EP y;go_enter Tryz.func125,Tryz.ntmps125;go_wp2
 go_ret
 exact⟨rfl,Below.refl _ _⟩
theorem Lk(t x y:Int)(w:World):Calls Tryz.prog 125 #[.int .i64 18,.int .i64 t,.int .u32 x,.int .u32 y] w fun e w'=>e=.returned (.int .u32 (Ot t x y))/\Below w.heap.size w w':=by
 have h31:=EP y;go_enter Tryz.func125,Tryz.ntmps125;go_wp2
 go_ret
 exact⟨rfl,Below.refl _ _⟩
theorem K8(t x y:Int)(w:World):Calls Tryz.prog 125 #[.int .i64 19,.int .i64 t,.int .u32 x,.int .u32 y] w fun e w'=>e=.returned (.int .u32 (N7 t x y))/\Below w.heap.size w w':=by
 have h31:=EP y;go_enter Tryz.func125,Tryz.ntmps125;go_wp2
 go_ret
 exact⟨rfl,Below.refl _ _⟩
theorem AG(op t x y:Int)(w:World)(s:ByteArray)(c f:Int)(hi:Bo op=#[.string s,.int .i64 c,.int .i64 f])(h1:(op==17)=false)(h2:(op==18)=false)(h3:(op==19)=false)(ht:AX f t=false):
  Calls Tryz.prog 125 #[.int .i64 op,.int .i64 t,.int .u32 x,.int .u32 y] w fun e w'=>e=.returned (.int .u32 0)/\Below w.heap.size w w':=by
 have hfl:=AW;have hS:Hid (∀w,Calls Tryz.prog 75 #[.int .i64 op] w fun e w'=>e=.returned (.agg #[.string s,.int .i64 c,.int .i64 f])/\Below w.heap.size w w'):=fun w=>by rw[<-hi];exact AZ op w
 clear hi;go_enter Tryz.func125,Tryz.ntmps125
 go_wp2_with (first
  |(go_at_call 75;refine(hS.out _).mono ?_;rintro e w1 ⟨rfl,hb1⟩)
  |(go_at_call 182;refine(Bk _ _ _).mono ?_;rintro e w' ⟨rfl,rfl⟩))
 go_ret
 exact⟨rfl,hb1⟩
theorem LT(t x y:Int)(w:World)(ht:AX 5 t=true):Calls Tryz.prog 125 #[.int .i64 8,.int .i64 t,.int .u32 x,.int .u32 y] w fun e w'=>e=.returned (.int .u32 (Nh t x y))/\Below w.heap.size w w':=by
 have hi:Bo 8=#[.string ⟨#[97,100,100]⟩,.int .i64 1,.int .i64 5]:=by kernel_rfl
 have hfl:=AW;have hS:Hid (∀w,Calls Tryz.prog 75 #[.int .i64 8] w fun e w'=>e=.returned (.agg #[.string ⟨#[97,100,100]⟩,.int .i64 1,.int .i64 5])/\Below w.heap.size w w'):=fun w=>by rw[<-hi];exact AZ 8 w
 clear hi;go_enter Tryz.func125,Tryz.ntmps125
 go_wp2_with (first
  |(go_at_call 75;refine(hS.out _).mono ?_;rintro e w1 ⟨rfl,hb1⟩)
  |(go_at_call 182;refine(Bk _ _ _).mono ?_;rintro e w' ⟨rfl,rfl⟩)
  |(go_at_call 176;refine(Bn _ _).mono ?_;rintro e w' ⟨rfl,rfl⟩))
 go_ret
 exact⟨rfl,hb1⟩
theorem LM(t x y:Int)(w:World)(ht:AX 5 t=true):Calls Tryz.prog 125 #[.int .i64 9,.int .i64 t,.int .u32 x,.int .u32 y] w fun e w'=>e=.returned (.int .u32 (Nn t x y))/\Below w.heap.size w w':=by
 have hi:Bo 9=#[.string ⟨#[115,117,98]⟩,.int .i64 1,.int .i64 5]:=by kernel_rfl
 have hfl:=AW;have hS:Hid (∀w,Calls Tryz.prog 75 #[.int .i64 9] w fun e w'=>e=.returned (.agg #[.string ⟨#[115,117,98]⟩,.int .i64 1,.int .i64 5])/\Below w.heap.size w w'):=fun w=>by rw[<-hi];exact AZ 9 w
 clear hi;go_enter Tryz.func125,Tryz.ntmps125
 go_wp2_with (first
  |(go_at_call 75;refine(hS.out _).mono ?_;rintro e w1 ⟨rfl,hb1⟩)
  |(go_at_call 182;refine(Bk _ _ _).mono ?_;rintro e w' ⟨rfl,rfl⟩)
  |(go_at_call 176;refine(Bn _ _).mono ?_;rintro e w' ⟨rfl,rfl⟩))
 go_ret
 exact⟨rfl,hb1⟩
theorem KA(t x y:Int)(w:World)(ht:AX 5 t=true):Calls Tryz.prog 125 #[.int .i64 10,.int .i64 t,.int .u32 x,.int .u32 y] w fun e w'=>e=.returned (.int .u32 (Nx t x y))/\Below w.heap.size w w':=by
 have hi:Bo 10=#[.string ⟨#[109,117,108]⟩,.int .i64 3,.int .i64 5]:=by kernel_rfl
 have hfl:=AW;have hS:Hid (∀w,Calls Tryz.prog 75 #[.int .i64 10] w fun e w'=>e=.returned (.agg #[.string ⟨#[109,117,108]⟩,.int .i64 3,.int .i64 5])/\Below w.heap.size w w'):=fun w=>by rw[<-hi];exact AZ 10 w
 clear hi;go_enter Tryz.func125,Tryz.ntmps125
 go_wp2_with (first
  |(go_at_call 75;refine(hS.out _).mono ?_;rintro e w1 ⟨rfl,hb1⟩)
  |(go_at_call 182;refine(Bk _ _ _).mono ?_;rintro e w' ⟨rfl,rfl⟩)
  |(go_at_call 176;refine(Bn _ _).mono ?_;rintro e w' ⟨rfl,rfl⟩))
 go_ret
 exact⟨rfl,hb1⟩
theorem KN(t x y:Int)(w:World)(ht:AX 6 t=true):Calls Tryz.prog 125 #[.int .i64 13,.int .i64 t,.int .u32 x,.int .u32 y] w fun e w'=>e=.returned (.int .u32 (Ny t x y))/\Below w.heap.size w w':=by
 have hi:Bo 13=#[.string ⟨#[97,110,100]⟩,.int .i64 1,.int .i64 6]:=by kernel_rfl
 have hfl:=AW;have hS:Hid (∀w,Calls Tryz.prog 75 #[.int .i64 13] w fun e w'=>e=.returned (.agg #[.string ⟨#[97,110,100]⟩,.int .i64 1,.int .i64 6])/\Below w.heap.size w w'):=fun w=>by rw[<-hi];exact AZ 13 w
 clear hi;go_enter Tryz.func125,Tryz.ntmps125
 go_wp2_with (first
  |(go_at_call 75;refine(hS.out _).mono ?_;rintro e w1 ⟨rfl,hb1⟩)
  |(go_at_call 182;refine(Bk _ _ _).mono ?_;rintro e w' ⟨rfl,rfl⟩)
  |(go_at_call 176;refine(Bn _ _).mono ?_;rintro e w' ⟨rfl,rfl⟩))
 go_ret
 exact⟨rfl,hb1⟩
theorem J9(t x y:Int)(w:World)(ht:AX 6 t=true):Calls Tryz.prog 125 #[.int .i64 14,.int .i64 t,.int .u32 x,.int .u32 y] w fun e w'=>e=.returned (.int .u32 (PP t x y))/\Below w.heap.size w w':=by
 have hi:Bo 14=#[.string ⟨#[111,114]⟩,.int .i64 1,.int .i64 6]:=by kernel_rfl
 have hfl:=AW;have hS:Hid (∀w,Calls Tryz.prog 75 #[.int .i64 14] w fun e w'=>e=.returned (.agg #[.string ⟨#[111,114]⟩,.int .i64 1,.int .i64 6])/\Below w.heap.size w w'):=fun w=>by rw[<-hi];exact AZ 14 w
 clear hi;go_enter Tryz.func125,Tryz.ntmps125
 go_wp2_with (first
  |(go_at_call 75;refine(hS.out _).mono ?_;rintro e w1 ⟨rfl,hb1⟩)
  |(go_at_call 182;refine(Bk _ _ _).mono ?_;rintro e w' ⟨rfl,rfl⟩)
  |(go_at_call 176;refine(Bn _ _).mono ?_;rintro e w' ⟨rfl,rfl⟩))
 go_ret
 exact⟨rfl,hb1⟩
theorem KH(t x y:Int)(w:World)(ht:AX 6 t=true):Calls Tryz.prog 125 #[.int .i64 15,.int .i64 t,.int .u32 x,.int .u32 y] w fun e w'=>e=.returned (.int .u32 (NB t x y))/\Below w.heap.size w w':=by
 have hi:Bo 15=#[.string ⟨#[120,111,114]⟩,.int .i64 1,.int .i64 6]:=by kernel_rfl
 have hfl:=AW;have hS:Hid (∀w,Calls Tryz.prog 75 #[.int .i64 15] w fun e w'=>e=.returned (.agg #[.string ⟨#[120,111,114]⟩,.int .i64 1,.int .i64 6])/\Below w.heap.size w w'):=fun w=>by rw[<-hi];exact AZ 15 w
 clear hi;go_enter Tryz.func125,Tryz.ntmps125
 go_wp2_with (first
  |(go_at_call 75;refine(hS.out _).mono ?_;rintro e w1 ⟨rfl,hb1⟩)
  |(go_at_call 182;refine(Bk _ _ _).mono ?_;rintro e w' ⟨rfl,rfl⟩)
  |(go_at_call 176;refine(Bn _ _).mono ?_;rintro e w' ⟨rfl,rfl⟩))
 go_ret
 exact⟨rfl,hb1⟩
theorem KO(t x y:Int)(w:World)(ht:AX 7 t=true):Calls Tryz.prog 125 #[.int .i64 20,.int .i64 t,.int .u32 x,.int .u32 y] w fun e w'=>e=.returned (.int .u32 (PI t x y))/\Below w.heap.size w w':=by
 have hi:Bo 20=#[.string ⟨#[101,113]⟩,.int .i64 1,.int .i64 7]:=by kernel_rfl
 have hfl:=AW;have hS:Hid (∀w,Calls Tryz.prog 75 #[.int .i64 20] w fun e w'=>e=.returned (.agg #[.string ⟨#[101,113]⟩,.int .i64 1,.int .i64 7])/\Below w.heap.size w w'):=fun w=>by rw[<-hi];exact AZ 20 w
 clear hi;go_enter Tryz.func125,Tryz.ntmps125
 go_wp2_with (first
  |(go_at_call 75;refine(hS.out _).mono ?_;rintro e w1 ⟨rfl,hb1⟩)
  |(go_at_call 182;refine(Bk _ _ _).mono ?_;rintro e w' ⟨rfl,rfl⟩)
  |(go_at_call 176;refine(Bn _ _).mono ?_;rintro e w' ⟨rfl,rfl⟩))
 go_ret
 exact⟨rfl,hb1⟩
theorem Lb(t x y:Int)(w:World)(ht:AX 6 t=true):Calls Tryz.prog 125 #[.int .i64 16,.int .i64 t,.int .u32 x,.int .u32 y] w fun e w'=>e=.returned (.int .u32 (JN t x y))/\Below w.heap.size w w':=by
 have hi:Bo 16=#[.string ⟨#[110,111,116]⟩,.int .i64 1,.int .i64 6]:=by kernel_rfl
 have hfl:=AW;have hS:Hid (∀w,Calls Tryz.prog 75 #[.int .i64 16] w fun e w'=>e=.returned (.agg #[.string ⟨#[110,111,116]⟩,.int .i64 1,.int .i64 6])/\Below w.heap.size w w'):=fun w=>by rw[<-hi];exact AZ 16 w
 clear hi;cases h2:(t==1)
 ·have hr:JN t x y=_:=if_neg (by rw[h2];simp)
  rw[hr];clear hr;go_enter Tryz.func125,Tryz.ntmps125
  go_wp2_with (first
   |(go_at_call 75;refine(hS.out _).mono ?_;rintro e w1 ⟨rfl,hb1⟩)
   |(go_at_call 182;refine(Bk _ _ _).mono ?_;rintro e w' ⟨rfl,rfl⟩)
   |(go_at_call 176;refine(Bn _ _).mono ?_;rintro e w' ⟨rfl,rfl⟩))
  go_ret
  exact⟨rfl,hb1⟩
 ·have hr:JN t x y=_:=if_pos h2
  rw[hr];clear hr;go_enter Tryz.func125,Tryz.ntmps125
  go_wp2_with (first
   |(go_at_call 75;refine(hS.out _).mono ?_;rintro e w1 ⟨rfl,hb1⟩)
   |(go_at_call 182;refine(Bk _ _ _).mono ?_;rintro e w' ⟨rfl,rfl⟩)
   |(go_at_call 176;refine(Bn _ _).mono ?_;rintro e w' ⟨rfl,rfl⟩))
  go_ret
  exact⟨rfl,hb1⟩
theorem Kq(t x y:Int)(w:World)(ht:AX 5 t=true):Calls Tryz.prog 125 #[.int .i64 21,.int .i64 t,.int .u32 x,.int .u32 y] w fun e w'=>e=.returned (.int .u32 (Gj t x y))/\Below w.heap.size w w':=by
 have hi:Bo 21=#[.string ⟨#[108,101,115,115]⟩,.int .i64 1,.int .i64 5]:=by kernel_rfl
 have hfl:=AW;have hS:Hid (∀w,Calls Tryz.prog 75 #[.int .i64 21] w fun e w'=>e=.returned (.agg #[.string ⟨#[108,101,115,115]⟩,.int .i64 1,.int .i64 5])/\Below w.heap.size w w'):=fun w=>by rw[<-hi];exact AZ 21 w
 clear hi;cases h2:(t==2)
 ·have hr:Gj t x y=_:=if_neg (by rw[h2];simp)
  rw[hr];clear hr;go_enter Tryz.func125,Tryz.ntmps125
  go_wp2_with (first
   |(go_at_call 75;refine(hS.out _).mono ?_;rintro e w1 ⟨rfl,hb1⟩)
   |(go_at_call 182;refine(Bk _ _ _).mono ?_;rintro e w' ⟨rfl,rfl⟩)
   |(go_at_call 176;refine(Bn _ _).mono ?_;rintro e w' ⟨rfl,rfl⟩))
  go_ret
  exact⟨rfl,hb1⟩
 ·have hr:Gj t x y=_:=if_pos h2
  rw[hr];clear hr;go_enter Tryz.func125,Tryz.ntmps125
  go_wp2_with (first
   |(go_at_call 75;refine(hS.out _).mono ?_;rintro e w1 ⟨rfl,hb1⟩)
   |(go_at_call 182;refine(Bk _ _ _).mono ?_;rintro e w' ⟨rfl,rfl⟩)
   |(go_at_call 176;refine(Bn _ _).mono ?_;rintro e w' ⟨rfl,rfl⟩))
  go_ret
  exact⟨rfl,hb1⟩
theorem JS(t x y:Int)(w:World)(ht:AX 5 t=true)(hy:0<=y)(hy':y<4294967296):Calls Tryz.prog 125 #[.int .i64 11,.int .i64 t,.int .u32 x,.int .u32 y] w fun e w'=>e=.returned (.int .u32 (Gu t x y))/\Below w.heap.size w w':=by
 have hi:Bo 11=#[.string ⟨#[100,105,118]⟩,.int .i64 8,.int .i64 5]:=by kernel_rfl
 have hfl:=AW;have hS:Hid (∀w,Calls Tryz.prog 75 #[.int .i64 11] w fun e w'=>e=.returned (.agg #[.string ⟨#[100,105,118]⟩,.int .i64 8,.int .i64 5])/\Below w.heap.size w w'):=fun w=>by rw[<-hi];exact AZ 11 w
 have hD:Hid (∀w,Calls Tryz.prog 183 #[.int .i64 t,.int .u32 x,.int .u32 y] w fun e w'=>e=.returned (.tuple #[.int .u32 (Gu t x y),.int .u32 (Gt t x y)])/\Below w.heap.size w w'):=fun w=>IH t x y w (by
  have:(t==2||t==3)=true:=ht;simpa using this) hy hy'
 clear hi;go_enter Tryz.func125,Tryz.ntmps125
 go_wp2_with (first
  |(go_at_call 75;refine(hS.out _).mono ?_;rintro e w1 ⟨rfl,hb1⟩)
  |(go_at_call 182;refine(Bk _ _ _).mono ?_;rintro e w' ⟨rfl,rfl⟩)
  |(go_at_call 183;refine(hD.out _).mono ?_;rintro e w2 ⟨rfl,hb2⟩))
 go_ret
 exact⟨rfl,hb1.trans (hb2.mono hb1.size)⟩
theorem Kv(t x y:Int)(w:World)(ht:AX 5 t=true)(hy:0<=y)(hy':y<4294967296):Calls Tryz.prog 125 #[.int .i64 12,.int .i64 t,.int .u32 x,.int .u32 y] w fun e w'=>e=.returned (.int .u32 (Gt t x y))/\Below w.heap.size w w':=by
 have hi:Bo 12=#[.string ⟨#[109,111,100]⟩,.int .i64 8,.int .i64 5]:=by kernel_rfl
 have hfl:=AW;have hS:Hid (∀w,Calls Tryz.prog 75 #[.int .i64 12] w fun e w'=>e=.returned (.agg #[.string ⟨#[109,111,100]⟩,.int .i64 8,.int .i64 5])/\Below w.heap.size w w'):=fun w=>by rw[<-hi];exact AZ 12 w
 have hD:Hid (∀w,Calls Tryz.prog 183 #[.int .i64 t,.int .u32 x,.int .u32 y] w fun e w'=>e=.returned (.tuple #[.int .u32 (Gu t x y),.int .u32 (Gt t x y)])/\Below w.heap.size w w'):=fun w=>IH t x y w (by
  have:(t==2||t==3)=true:=ht;simpa using this) hy hy'
 clear hi;go_enter Tryz.func125,Tryz.ntmps125
 go_wp2_with (first
  |(go_at_call 75;refine(hS.out _).mono ?_;rintro e w1 ⟨rfl,hb1⟩)
  |(go_at_call 182;refine(Bk _ _ _).mono ?_;rintro e w' ⟨rfl,rfl⟩)
  |(go_at_call 183;refine(hD.out _).mono ?_;rintro e w2 ⟨rfl,hb2⟩))
 go_ret
 exact⟨rfl,hb1.trans (hb2.mono hb1.size)⟩
structure MF where
 params:List Int
 result:Int
 locals:List Int
 code:List MI
structure VF where
 p:Value
 l:Value
 c:Value
def CK(w:World)(v:VF)(f:MF):Prop:=Rd w 1 v.p f.params.length (f.params.flatMap Af)/\Rd w 1 v.l f.locals.length (f.locals.flatMap Af)/\Rd w 4 v.c f.code.length (f.code.flatMap MI.cells)
def EY(w:World)(base:Nat)(v:VF)(f:MF):Prop:=w.ownsRow base 2 1 v.p f.params.length (f.params.flatMap Af)/\w.ownsRow base 2 1 v.l f.locals.length (f.locals.flatMap Af)/\w.ownsRow base 134 4 v.c f.code.length (f.code.flatMap MI.cells)
def MF.small(f:MF):Prop:=f.params.length<=1048576/\f.locals.length<=1048576/\f.code.length<=1048576
theorem EY.rd{w:World}{base:Nat}{v:VF}{f:MF}(h:EY w base v f):CK w v f:=⟨Rd.of_own h.1,Rd.of_own h.2.1,Rd.of_own h.2.2⟩
theorem CK.keep{w w':World}{v:VF}{f:MF}(h:CK w v f){B:Nat}(hb:Below B w w')(hB:w.heap.size<=B):CK w' v f:=⟨h.1.keep hb hB,h.2.1.keep hb hB,h.2.2.keep hb hB⟩
theorem EY.keep{w w':World}{base:Nat}{v:VF}{f:MF}(h:EY w base v f){B:Nat}(hb:Below B w w')(hB:w.heap.size<=B):EY w' base v f:=⟨Ai h.1 hb hB,Ai h.2.1 hb hB,Ai h.2.2 hb hB⟩
theorem AA{w:World}{base base':Nat}{e:TypeId}{s:Value}{k n:Nat}{xs:List Value}(h:w.ownsRow base e k s n xs)(hb:base'<=base):w.ownsRow base' e k s n xs:=by
 refine⟨h.1,?_⟩;rcases h.2 with h|⟨g,cap,cur,e1,hb1,hg,hr⟩
 ·exact .inl h
 ·exact .inr ⟨g,cap,cur,e1,Nat.le_trans hb hb1,hg,hr⟩
theorem CE{w:World}{base:Nat}{e:TypeId}{g:Nat}{a b c d:Value}(h:w.ownsRow base e 4 (.slice (some ⟨g,0,none⟩) 1 1) 1 [a,b,c,d]):
  w.cell? ⟨g,0,none⟩=some a/\w.cell? ⟨g,1,none⟩=some b/\w.cell? ⟨g,2,none⟩=some c/\w.cell? ⟨g,3,none⟩=some d/\w.frozen? ⟨g,0,none⟩=false/\w.frozen? ⟨g,1,none⟩=false/\w.frozen? ⟨g,2,none⟩=false/\w.frozen? ⟨g,3,none⟩=false:=
 ⟨h.cellAt 0 (by omega),h.cellAt 1 (by omega),h.cellAt 2 (by omega),h.cellAt 3 (by omega),h.frozenAt 0,h.frozenAt 1,h.frozenAt 2,h.frozenAt 3⟩
structure Fr(w u:World)(tp tr:TypeId)(p r o:List Value):Prop where
 par:u.ownsRow w.heap.size tp 4 (.slice (some ⟨w.heap.size,0,none⟩) 1 1) 1 p
 res:u.ownsRow w.heap.size tr 4 (.slice (some ⟨w.heap.size+1,0,none⟩) 1 1) 1 r
 loc:u.ownsRow w.heap.size tr 4 (.slice (some ⟨w.heap.size+1+1,0,none⟩) 1 1) 1 o
 bel:Below w.heap.size w u
 siz:w.heap.size+3<=u.heap.size
theorem Fr.of(w:World)(tp tr:TypeId)(p r o:Array Value)(hp:p.size=4)(hr:r.size=4)(ho:o.size=4):
  Fr w (((w.alloc (.cells p tp)).alloc (.cells r tr)).alloc (.cells o tr)) tp tr p.toList r.toList o.toList:=by
 have b1:Below w.heap.size w (w.alloc (.cells p tp)):=(Below.refl _ _).alloc lR _;have c2:Below (w.alloc (.cells p tp)).heap.size (w.alloc (.cells p tp)) ((w.alloc (.cells p tp)).alloc (.cells r tr)):=(Below.refl _ _).alloc lR _;have c3:Below ((w.alloc (.cells p tp)).alloc (.cells r tr)).heap.size ((w.alloc (.cells p tp)).alloc (.cells r tr)) (((w.alloc (.cells p tp)).alloc (.cells r tr)).alloc (.cells o tr)):=(Below.refl _ _).alloc lR _;have r1:=World.ownsRow_lit (base:=w.heap.size) (e:=tp) (size:=4) w p 1 lR (by unfold maxLen;omega) (by omega);have r2:=World.ownsRow_lit (base:=w.heap.size) (e:=tr) (size:=4) (w.alloc (.cells p tp)) r 1 (by simp) (by unfold maxLen;omega) (by omega);have r3:=World.ownsRow_lit (base:=w.heap.size) (e:=tr) (size:=4) ((w.alloc (.cells p tp)).alloc (.cells r tr)) o 1 (by simp<;>omega) (by unfold maxLen;omega) (by omega);refine⟨Ai (Ai r1 c2 lR) c3 lR,?_,?_,(b1.trans (c2.mono (by simp))).trans (c3.mono (by simp<;>omega)),by simp<;>omega⟩
 ·have:=Ai r2 c3 lR
  simpa using this
 ·simpa using r3
theorem Fr.keep{w u u':World}{tp tr:TypeId}{p r o:List Value}(h:Fr w u tp tr p r o)(hb:Below u.heap.size u u'):Fr w u' tp tr p r o:=
 ⟨Ai h.par hb lR,Ai h.res hb lR,Ai h.loc hb lR,h.bel.trans (hb.mono (by have:=h.siz;omega)),Nat.le_trans h.siz hb.size⟩
theorem Fr.set{w u:World}{tp tr:TypeId}{p r o:List Value}(h:Fr w u tp tr p r o)(j:Nat)(x:Value):Fr w (u.setCell ⟨w.heap.size+1+1,j,none⟩ x) tp tr p r (o.set j x):=
 ⟨ownsRow_setCell_other h.par (by simp[Value.ownBlock]<;>omega) x,ownsRow_setCell_other h.res (by simp[Value.ownBlock]) x,(h.loc.stored j x).1,h.bel.setCell (by simp<;>omega) x,by have:=h.siz;simpa using this⟩
theorem Fr.set'{w u:World}{tp tr:TypeId}{p r o:List Value}(h:Fr w u tp tr p r o)(j:Nat)(x:Value):Fr w (u.setCell ⟨w.heap.size+1,j,none⟩ x) tp tr p (r.set j x) o:=
 ⟨ownsRow_setCell_other h.par (by simp[Value.ownBlock]<;>omega) x,(h.res.stored j x).1,ownsRow_setCell_other h.loc (by simp[Value.ownBlock]) x,h.bel.setCell (by simp) x,by have:=h.siz;simpa using this⟩
theorem Cc{w u:World}{e:TypeId}{s:Value}{k n:Nat}{xs:List Value}(h:u.ownsRow (w.heap.size+3) e k s n xs)(g j:Nat)(hg:g<w.heap.size+3)(x:Value):(u.setCell ⟨g,j,none⟩ x).ownsRow (w.heap.size+3) e k s n xs:=ownsRow_setCell_below h hg x
theorem EL(s:Value)(ys:List Int)(w:World)(hL:ys.length<=1048576)(h:Rd w 1 s ys.length (ys.flatMap Af)):
  Calls Tryz.prog 80 #[s] w fun e w'=>∃a c,e=.returned (.slice a ys.length c)/\w'.ownsRow w.heap.size 2 1 (.slice a ys.length c) ys.length (ys.flatMap Af)/\Below w.heap.size w w':=
 (I6 s ys.length ys w hL h rfl).mono fun e w' h=>⟨_,_,h.1,h.2.1,h.2.2⟩
theorem JL(s:Value)(ys:List MI)(w:World)(hL:ys.length<=1048576)(h:Rd w 4 s ys.length (ys.flatMap MI.cells)):
  Calls Tryz.prog 126 #[s] w fun e w'=>∃a c,e=.returned (.slice a ys.length c)/\w'.ownsRow w.heap.size 134 4 (.slice a ys.length c) ys.length (ys.flatMap MI.cells)/\Below w.heap.size w w':=
 (Jt s ys.length ys w hL h rfl).mono fun e w' h=>⟨_,_,h.1,h.2.1,h.2.2⟩
theorem Jd(s:Value)(ys:List MC)(w:World)(hL:ys.length<=1048576)(h:Rd w 2 s ys.length (ys.flatMap MC.cells)):
  Calls Tryz.prog 34 #[s] w fun e w'=>∃a c,e=.returned (.slice a ys.length c)/\w'.ownsRow w.heap.size 143 2 (.slice a ys.length c) ys.length (ys.flatMap MC.cells)/\Below w.heap.size w w':=
 (Jc s ys.length ys w hL h rfl).mono fun e w' h=>⟨_,_,h.1,h.2.1,h.2.2⟩
theorem Ke(s:Value)(ys:List MT)(w:World)(hL:ys.length<=1048576)(h:Rd w 4 s ys.length (ys.flatMap MT.cells)):
  Calls Tryz.prog 36 #[s] w fun e w'=>∃a c,e=.returned (.slice a ys.length c)/\w'.ownsRow w.heap.size 148 4 (.slice a ys.length c) ys.length (ys.flatMap MT.cells)/\Below w.heap.size w w':=
 (JQ s ys.length ys w hL h rfl).mono fun e w' h=>⟨_,_,h.1,h.2.1,h.2.2⟩
theorem L5(v:VF)(f:MF)(w:World)(hs:f.small)(h:CK w v f):
  Calls Tryz.prog 82 #[.agg #[v.p,.int .i64 f.result,v.l,v.c]] w fun e w'=>∃a1 c1 a2 c2 a3 c3,e=.returned (.agg #[.slice a1 f.params.length c1,.int .i64 f.result,.slice a2 f.locals.length c2,.slice a3 f.code.length c3])/\EY w' w.heap.size ⟨.slice a1 f.params.length c1,.slice a2 f.locals.length c2,.slice a3 f.code.length c3⟩ f/\Below w.heap.size w w':=by
 have H:=h2 h hs;clear h hs;have F0:=Fr.of w 117 131 #[v.p,.int .i64 f.result,v.l,v.c] #[.slice none 0 0,.int .i64 0,.slice none 0 0,.slice none 0 0] #[.slice none 0 0,.int .i64 0,.slice none 0 0,.slice none 0 0] rfl rfl rfl;go_enter Tryz.func82,Tryz.ntmps82;go_wp2_with fail
 refine(EL v.p f.params _ H.out.2.1 (H.out.1.1.keep F0.bel lR)).mono ?_;rintro e u1 ⟨a1,c1,rfl,own1,b1⟩;have O1:=AM (AA own1 F0.siz);have F1:=F0.keep b1;clear own1 b1 F0;obtain⟨p0,p1,p2,p3,_⟩:=CE F1.par;obtain⟨o0,o1,o2,o3,z0,z1,z2,z3⟩:=CE F1.loc;go_wp2_with fail
 have F2:=(F1.set 0 (.slice a1 f.params.length c1)).set 1 (.int .i64 f.result);have O2:Hid _:=Cc (w:=w) (Cc (w:=w) O1.out (w.heap.size+1+1) 0 (by omega) (.slice a1 f.params.length c1)) (w.heap.size+1+1) 1 (by omega) (.int .i64 f.result);clear O1 F1 p0 p1 p2 p3 o0 o1 o2 o3 z0 z1 z2 z3;simp only[List.set_cons_zero,List.set_cons_succ]at F2;refine(EL v.l f.locals _ H.out.2.2.1 (H.out.1.2.1.keep F2.bel lR)).mono ?_;rintro e u2 ⟨a2,c2,rfl,own2,b2⟩;have O3:=h2 (Ai O2.out b2 lR) (AA own2 F2.siz);have F3:=F2.keep b2;clear own2 b2 F2 O2;obtain⟨p0,p1,p2,p3,_⟩:=CE F3.par;obtain⟨o0,o1,o2,o3,z0,z1,z2,z3⟩:=CE F3.loc;go_wp2_with fail
 have F4:=F3.set 2 (.slice a2 f.locals.length c2);have O4:Hid _:=And.intro (Cc (w:=w) O3.out.1 (w.heap.size+1+1) 2 (by omega) (.slice a2 f.locals.length c2)) (Cc (w:=w) O3.out.2 (w.heap.size+1+1) 2 (by omega) (.slice a2 f.locals.length c2));clear O3 F3 p0 p1 p2 p3 o0 o1 o2 o3 z0 z1 z2 z3;simp only[List.set_cons_zero,List.set_cons_succ]at F4;refine(JL v.c f.code _ H.out.2.2.2 (H.out.1.2.2.keep F4.bel lR)).mono ?_;rintro e u3 ⟨a3,c3,rfl,own3,b3⟩;have O5:=h3 (Ai O4.out.1 b3 lR) (Ai O4.out.2 b3 lR) (AA own3 F4.siz);have F5:=F4.keep b3;clear own3 b3 F4 O4;obtain⟨p0,p1,p2,p3,_⟩:=CE F5.par;obtain⟨o0,o1,o2,o3,z0,z1,z2,z3⟩:=CE F5.loc;obtain⟨q0,q1,q2,q3,y0,y1,y2,y3⟩:=CE F5.res;go_wp2_with fail
 clear p0 p1 p2 p3 o0 o1 o2 o3 z0 z1 z2 z3 q0 q1 q2 q3 y0 y1 y2 y3;have F6:=((((F5.set 3 (.slice a3 f.code.length c3)).set' 0 (.slice a1 f.params.length c1)).set' 1 (.int .i64 f.result)).set' 2 (.slice a2 f.locals.length c2)).set' 3 (.slice a3 f.code.length c3);simp only[List.set_cons_zero,List.set_cons_succ]at F6;obtain⟨q0,q1,q2,q3,_⟩:=CE F6.res
 have hall:∀{e:TypeId} {s:Value} {k n:Nat} {xs:List Value},u3.ownsRow (w.heap.size+3) e k s n xs->(((((u3.setCell ⟨w.heap.size+1+1,3,none⟩ (.slice a3 f.code.length c3)).setCell ⟨w.heap.size+1,0,none⟩ (.slice a1 f.params.length c1)).setCell ⟨w.heap.size+1,1,none⟩ (.int .i64 f.result)).setCell ⟨w.heap.size+1,2,none⟩ (.slice a2 f.locals.length c2)).setCell ⟨w.heap.size+1,3,none⟩ (.slice a3 f.code.length c3)).ownsRow w.heap.size e k s n xs:=fun h=>
  AA (Cc (Cc (Cc (Cc (Cc h _ _ (by omega) _) _ _ (by omega) _) _ _ (by omega) _) _ _ (by omega) _) _ _ (by omega) _) (by omega)
 exact bodyPost_ret (v:=.agg #[.slice a1 f.params.length c1,.int .i64 f.result,.slice a2 f.locals.length c2,.slice a3 f.code.length c3]) (by simp[results,Tryz.results82,go_sem,q0,q1,q2,q3]) rfl ⟨a1,c1,a2,c2,a3,c3,rfl,⟨hall O5.out.1,hall O5.out.2.1,hall O5.out.2.2⟩,F6.bel⟩
theorem DB(op t x y:Int)(w:World)(hy:0<=y)(hy':y<4294967296):Calls Tryz.prog 125 #[.int .i64 op,.int .i64 t,.int .u32 x,.int .u32 y] w fun e w'=>e=.returned (.int .u32 (AF op t x y))/\Below w.heap.size w w':=by
 by_cases ho:op<0\/29<op
 ·rw[Mz (by omega)]
  exact AG op t x y w _ _ _ (FM ho) (by simp;omega) (by simp;omega) (by simp;omega) rfl
 ·have h:op=0\/op=1\/op=2\/op=3\/op=4\/op=5\/op=6\/op=7\/op=8\/op=9\/op=10\/op=11\/op=12\/op=13\/op=14\/op=15\/op=16\/op=17\/op=18\/op=19\/op=20\/op=21\/op=22\/op=23\/op=24\/op=25\/op=26\/op=27\/op=28\/op=29:=by omega
  clear ho;rcases h with rfl|rfl|rfl|rfl|rfl|rfl|rfl|rfl|rfl|rfl|rfl|rfl|rfl|rfl|rfl|rfl|rfl|rfl|rfl|rfl|rfl|rfl|rfl|rfl|rfl|rfl|rfl|rfl|rfl|rfl
  ·exact AG 0 t x y w ⟨#[110,111,112]⟩ 1 0 (by kernel_rfl) rfl rfl rfl rfl
  ·exact AG 1 t x y w ⟨#[99,111,110,115,116]⟩ 1 1 (by kernel_rfl) rfl rfl rfl rfl
  ·exact AG 2 t x y w ⟨#[108,111,97,100,108,111,99,97,108]⟩ 1 2 (by kernel_rfl) rfl rfl rfl rfl
  ·exact AG 3 t x y w ⟨#[115,116,111,114,101,108,111,99,97,108]⟩ 1 2 (by kernel_rfl) rfl rfl rfl rfl
  ·exact AG 4 t x y w ⟨#[108,111,97,100]⟩ 2 3 (by kernel_rfl) rfl rfl rfl rfl
  ·exact AG 5 t x y w ⟨#[115,116,111,114,101]⟩ 2 3 (by kernel_rfl) rfl rfl rfl rfl
  ·exact AG 6 t x y w ⟨#[108,111,97,100,97,116]⟩ 3 4 (by kernel_rfl) rfl rfl rfl rfl
  ·exact AG 7 t x y w ⟨#[115,116,111,114,101,97,116]⟩ 3 4 (by kernel_rfl) rfl rfl rfl rfl
  ·show Calls _ _ _ _ fun e w'=>e=.returned (.int .u32 (if AX 5 t then Nh t x y else 0))/\Below w.heap.size w w'
   cases ht:AX 5 t
   ·exact AG 8 t x y w ⟨#[97,100,100]⟩ 1 5 (by kernel_rfl) rfl rfl rfl ht
   ·exact LT t x y w ht
  ·show Calls _ _ _ _ fun e w'=>e=.returned (.int .u32 (if AX 5 t then Nn t x y else 0))/\Below w.heap.size w w'
   cases ht:AX 5 t
   ·exact AG 9 t x y w ⟨#[115,117,98]⟩ 1 5 (by kernel_rfl) rfl rfl rfl ht
   ·exact LM t x y w ht
  ·show Calls _ _ _ _ fun e w'=>e=.returned (.int .u32 (if AX 5 t then Nx t x y else 0))/\Below w.heap.size w w'
   cases ht:AX 5 t
   ·exact AG 10 t x y w ⟨#[109,117,108]⟩ 3 5 (by kernel_rfl) rfl rfl rfl ht
   ·exact KA t x y w ht
  ·show Calls _ _ _ _ fun e w'=>e=.returned (.int .u32 (if AX 5 t then Gu t x y else 0))/\Below w.heap.size w w'
   cases ht:AX 5 t
   ·exact AG 11 t x y w ⟨#[100,105,118]⟩ 8 5 (by kernel_rfl) rfl rfl rfl ht
   ·exact JS t x y w ht hy hy'
  ·show Calls _ _ _ _ fun e w'=>e=.returned (.int .u32 (if AX 5 t then Gt t x y else 0))/\Below w.heap.size w w'
   cases ht:AX 5 t
   ·exact AG 12 t x y w ⟨#[109,111,100]⟩ 8 5 (by kernel_rfl) rfl rfl rfl ht
   ·exact Kv t x y w ht hy hy'
  ·show Calls _ _ _ _ fun e w'=>e=.returned (.int .u32 (if AX 6 t then Ny t x y else 0))/\Below w.heap.size w w'
   cases ht:AX 6 t
   ·exact AG 13 t x y w ⟨#[97,110,100]⟩ 1 6 (by kernel_rfl) rfl rfl rfl ht
   ·exact KN t x y w ht
  ·show Calls _ _ _ _ fun e w'=>e=.returned (.int .u32 (if AX 6 t then PP t x y else 0))/\Below w.heap.size w w'
   cases ht:AX 6 t
   ·exact AG 14 t x y w ⟨#[111,114]⟩ 1 6 (by kernel_rfl) rfl rfl rfl ht
   ·exact J9 t x y w ht
  ·show Calls _ _ _ _ fun e w'=>e=.returned (.int .u32 (if AX 6 t then NB t x y else 0))/\Below w.heap.size w w'
   cases ht:AX 6 t
   ·exact AG 15 t x y w ⟨#[120,111,114]⟩ 1 6 (by kernel_rfl) rfl rfl rfl ht
   ·exact KH t x y w ht
  ·show Calls _ _ _ _ fun e w'=>e=.returned (.int .u32 (if AX 6 t then JN t x y else 0))/\Below w.heap.size w w'
   cases ht:AX 6 t
   ·exact AG 16 t x y w ⟨#[110,111,116]⟩ 1 6 (by kernel_rfl) rfl rfl rfl ht
   ·exact Lb t x y w ht
  ·exact Kw t x y w
  ·exact Lk t x y w
  ·exact K8 t x y w
  ·show Calls _ _ _ _ fun e w'=>e=.returned (.int .u32 (if AX 7 t then PI t x y else 0))/\Below w.heap.size w w'
   cases ht:AX 7 t
   ·exact AG 20 t x y w ⟨#[101,113]⟩ 1 7 (by kernel_rfl) rfl rfl rfl ht
   ·exact KO t x y w ht
  ·show Calls _ _ _ _ fun e w'=>e=.returned (.int .u32 (if AX 5 t then Gj t x y else 0))/\Below w.heap.size w w'
   cases ht:AX 5 t
   ·exact AG 21 t x y w ⟨#[108,101,115,115]⟩ 1 5 (by kernel_rfl) rfl rfl rfl ht
   ·exact Kq t x y w ht
  ·exact AG 22 t x y w ⟨#[99,111,110,118]⟩ 1 8 (by kernel_rfl) rfl rfl rfl rfl
  ·exact AG 23 t x y w ⟨#[100,117,112]⟩ 1 0 (by kernel_rfl) rfl rfl rfl rfl
  ·exact AG 24 t x y w ⟨#[100,114,111,112]⟩ 1 0 (by kernel_rfl) rfl rfl rfl rfl
  ·exact AG 25 t x y w ⟨#[106,117,109,112]⟩ 2 9 (by kernel_rfl) rfl rfl rfl rfl
  ·exact AG 26 t x y w ⟨#[106,117,109,112,122,101,114,111]⟩ 2 9 (by kernel_rfl) rfl rfl rfl rfl
  ·exact AG 27 t x y w ⟨#[103,117,97,114,100]⟩ 2 10 (by kernel_rfl) rfl rfl rfl rfl
  ·exact AG 28 t x y w ⟨#[99,97,108,108]⟩ 4 11 (by kernel_rfl) rfl rfl rfl rfl
  ·exact AG 29 t x y w ⟨#[114,101,116,117,114,110]⟩ 2 0 (by kernel_rfl) rfl rfl rfl rfl
def BC(x:MF×VF):List Value:=[x.2.p,.int .i64 x.1.result,x.2.l,x.2.c]
theorem Ah(x:MF×VF):(BC x).length=4:=rfl
def Cm(x:List Int×Value):List Value:=[x.2]
theorem AK(x:List Int×Value):(Cm x).length=1:=rfl
def FN(w:World)(s:Value)(fs:List MF):Prop:=∃xs:List (MF×VF),xs.map Prod.fst=fs/\Rd w 4 s fs.length (xs.flatMap BC)/\∀x∈xs,CK w x.2 x.1
def Dr(w:World)(base:Nat)(s:Value)(fs:List MF):Prop:=∃xs:List (MF×VF),xs.map Prod.fst=fs/\w.ownsRow base 131 4 s fs.length (xs.flatMap BC)/\∀x∈xs,EY w base x.2 x.1
def Lm(w:World)(s:Value)(rs:List (List Int)):Prop:=∃xs:List (List Int×Value),xs.map Prod.fst=rs/\Rd w 1 s rs.length (xs.flatMap Cm)/\∀x∈xs,Rd w 1 x.2 x.1.length (x.1.flatMap Af)
def ES(w:World)(base:Nat)(s:Value)(rs:List (List Int)):Prop:=∃xs:List (List Int×Value),xs.map Prod.fst=rs/\w.ownsRow base 113 1 s rs.length (xs.flatMap Cm)/\∀x∈xs,w.ownsRow base 2 1 x.2 x.1.length (x.1.flatMap Af)
theorem Dr.rd{w:World}{base:Nat}{s:Value}{fs:List MF}(h:Dr w base s fs):FN w s fs:=by
 obtain⟨xs,h1,h2,h3⟩:=h;exact⟨xs,h1,Rd.of_own h2,fun x hx=>(h3 x hx).rd⟩
theorem ES.rd{w:World}{base:Nat}{s:Value}{rs:List (List Int)}(h:ES w base s rs):Lm w s rs:=by
 obtain⟨xs,h1,h2,h3⟩:=h;exact⟨xs,h1,Rd.of_own h2,fun x hx=>Rd.of_own (h3 x hx)⟩
theorem FN.keep{w w':World}{s:Value}{fs:List MF}(h:FN w s fs){B:Nat}(hb:Below B w w')(hB:w.heap.size<=B):FN w' s fs:=by
 obtain⟨xs,h1,h2,h3⟩:=h;exact⟨xs,h1,h2.keep hb hB,fun x hx=>(h3 x hx).keep hb hB⟩
theorem Lm.keep{w w':World}{s:Value}{rs:List (List Int)}(h:Lm w s rs){B:Nat}(hb:Below B w w')(hB:w.heap.size<=B):Lm w' s rs:=by
 obtain⟨xs,h1,h2,h3⟩:=h;exact⟨xs,h1,h2.keep hb hB,fun x hx=>(h3 x hx).keep hb hB⟩
theorem Dr.keep{w w':World}{base:Nat}{s:Value}{fs:List MF}(h:Dr w base s fs){B:Nat}(hb:Below B w w')(hB:w.heap.size<=B):Dr w' base s fs:=by
 obtain⟨xs,h1,h2,h3⟩:=h;exact⟨xs,h1,Ai h2 hb hB,fun x hx=>(h3 x hx).keep hb hB⟩
theorem ES.keep{w w':World}{base:Nat}{s:Value}{rs:List (List Int)}(h:ES w base s rs){B:Nat}(hb:Below B w w')(hB:w.heap.size<=B):ES w' base s rs:=by
 obtain⟨xs,h1,h2,h3⟩:=h;exact⟨xs,h1,Ai h2 hb hB,fun x hx=>Ai (h3 x hx) hb hB⟩
theorem EY.base{w:World}{base base':Nat}{v:VF}{f:MF}(h:EY w base v f)(hb:base'<=base):EY w base' v f:=⟨AA h.1 hb,AA h.2.1 hb,AA h.2.2 hb⟩
theorem Dr.base{w:World}{base base':Nat}{s:Value}{fs:List MF}(h:Dr w base s fs)(hb:base'<=base):Dr w base' s fs:=by
 obtain⟨xs,h1,h2,h3⟩:=h;exact⟨xs,h1,AA h2 hb,fun x hx=>(h3 x hx).base hb⟩
theorem ES.base{w:World}{base base':Nat}{s:Value}{rs:List (List Int)}(h:ES w base s rs)(hb:base'<=base):ES w base' s rs:=by
 obtain⟨xs,h1,h2,h3⟩:=h;exact⟨xs,h1,AA h2 hb,fun x hx=>AA (h3 x hx) hb⟩
theorem EY.below{w:World}{base:Nat}{v:VF}{f:MF}(h:EY w base v f){a:Addr}(ha:a.block<base)(u:Value):EY (w.setCell a u) base v f:=⟨ownsRow_setCell_below h.1 ha u,ownsRow_setCell_below h.2.1 ha u,ownsRow_setCell_below h.2.2 ha u⟩
theorem Dr.below{w:World}{base:Nat}{s:Value}{fs:List MF}(h:Dr w base s fs){a:Addr}(ha:a.block<base)(u:Value):Dr (w.setCell a u) base s fs:=by
 obtain⟨xs,h1,h2,h3⟩:=h;exact⟨xs,h1,ownsRow_setCell_below h2 ha u,fun x hx=>(h3 x hx).below ha u⟩
theorem ES.below{w:World}{base:Nat}{s:Value}{rs:List (List Int)}(h:ES w base s rs){a:Addr}(ha:a.block<base)(u:Value):ES (w.setCell a u) base s rs:=by
 obtain⟨xs,h1,h2,h3⟩:=h;exact⟨xs,h1,ownsRow_setCell_below h2 ha u,fun x hx=>ownsRow_setCell_below (h3 x hx) ha u⟩
theorem PN:(Tryz.prog.info? 131).map (fun i=>(i.zero,i.size,i.bytes))=some (some (.agg #[.slice none 0 0,.int .i64 0,.slice none 0 0,.slice none 0 0]),4,80):=by kernel_rfl
theorem PJ:(Tryz.prog.info? 113).map (fun i=>(i.zero,i.size,i.bytes))=some (some (.slice none 0 0),1,24):=by kernel_rfl
theorem AO{α β:Type}{xs:List (α×β)}{fs:List α}(h:xs.map Prod.fst=fs){k:Nat}{x:α×β}(hx:xs[k]?=some x):fs[k]?=some x.1:=by
 rw[<-h,List.getElem?_map,hx];rfl
theorem G6{α β:Type}{ys:List (α×β)}{fs:List α}{k:Nat}(h:ys.map Prod.fst=fs.take k){f:α}(hf:fs[k]?=some f)(b:β):(ys++[(f,b)]).map Prod.fst=fs.take (k+1):=by
 obtain⟨hlt,rfl⟩:=gI.1 hf;rw[List.map_append,h,List.take_succ_eq_append_getElem hlt];rfl
def EQ{α:Type}(f:α->List Value)(z:List Value)(ys:List α)(n:Nat):List Value:=ys.flatMap f++(List.replicate (n-ys.length) z).flatten
theorem EG{α:Type}(f:α->List Value)(z:List Value)(n:Nat)(v:Value)(m:Nat)(hv:v.cells=z.toArray)(hm:z.length=m)(h0:0<m):(madeCells v.cells (n*m)).toList=EQ f z [] n:=by
 rw[Cz f z [] n v m hv hm h0];simp[CU,EQ]
theorem Cp{α:Type}(f:α->List Value)(z:List Value)(ys:List α)(k n:Nat)(hk:k<n)(hl:ys.length=k):EQ f z ys n=ys.flatMap f++(z++(List.replicate (n-(k+1)) z).flatten):=by
 unfold EQ;have e:n-ys.length=(n-(k+1))+1:=by omega
 rw[e,List.replicate_succ,List.flatten_cons]
theorem Ew{α:Type}(f:α->List Value)(z:List Value)(ys:List α)(k n:Nat)(y:α)(hl:ys.length=k):EQ f z (ys++[y]) n=ys.flatMap f++(f y++(List.replicate (n-(k+1)) z).flatten):=by
 unfold EQ;rw[List.flatMap_append,List.append_assoc];simp[hl]
theorem Fs{α:Type}(f:α->List Value)(z:List Value)(ys:List α)(n:Nat)(h:ys.length=n):EQ f z ys n=ys.flatMap f:=by simp[EQ,<-h]
theorem JK{w:World}{base:Nat}{e:TypeId}{g k n c:Nat}{xs:List Value}(h:w.ownsRow base e k (.slice (some ⟨g,0,none⟩) n c) n xs):g+1<=w.heap.size:=by
 rcases h.2 with⟨h',_⟩|⟨g',cap',cur,h',_,hg,_⟩
 ·cases h'
 ·cases h'
  exact(Array.getElem?_eq_some_iff.1 hg).1
structure Pv(w wr:World)(fs:List MF)(L k:Nat)(ys:List (MF×VF)):Prop where
 fst:ys.map Prod.fst=fs.take k
 len:ys.length=k
 row:wr.ownsRow w.heap.size 131 4 (.slice (some ⟨w.heap.size,0,none⟩) L L) L (EQ BC [.slice none 0 0,.int .i64 0,.slice none 0 0,.slice none 0 0] ys L)
 els:∀y∈ys,EY wr (w.heap.size+1) y.2 y.1
 bel:Below w.heap.size w wr
 siz:w.heap.size+1<=wr.heap.size
theorem Pv.places{w wr:World}{fs:List MF}{L k:Nat}{ys:List (MF×VF)}(h:Pv w wr fs L k ys)(hk:k<L){u:World}(hb:Below wr.heap.size wr u):
  u.cell? ⟨w.heap.size,k*4,none⟩=some (.slice none 0 0)/\u.cell? ⟨w.heap.size,k*4+1,none⟩=some (.int .i64 0)/\u.cell? ⟨w.heap.size,k*4+2,none⟩=some (.slice none 0 0)/\u.cell? ⟨w.heap.size,k*4+3,none⟩=some (.slice none 0 0)/\u.frozen? ⟨w.heap.size,k*4,none⟩=false/\u.frozen? ⟨w.heap.size,k*4+1,none⟩=false/\u.frozen? ⟨w.heap.size,k*4+2,none⟩=false/\u.frozen? ⟨w.heap.size,k*4+3,none⟩=false:=by
 have hown:=Ai h.row hb lR;rw[Cp BC _ ys k L hk h.len]at hown;have hA:(ys.flatMap BC).length=k*4:=by rw[Aw BC 4 Ah,h.len]
 have d0:=hown.cellAt (k*4) (by omega);have d1:=hown.cellAt (k*4+1) (by omega);have d2:=hown.cellAt (k*4+2) (by omega);have d3:=hown.cellAt (k*4+3) (by omega);rw[List.getElem?_append_right (by omega),hA]at d0 d1 d2 d3;rw[Nat.sub_self]at d0;rw[Nat.add_sub_cancel_left]at d1 d2 d3;exact⟨d0,d1,d2,d3,hown.frozenAt _,hown.frozenAt _,hown.frozenAt _,hown.frozenAt _⟩
theorem Pv.next{w wr:World}{fs:List MF}{L k:Nat}{ys:List (MF×VF)}(h:Pv w wr fs L k ys)(hk:k<L){u:World}(hb:Below wr.heap.size wr u){f:MF}(hf:fs[k]?=some f){v:VF}(ho:EY u wr.heap.size v f):
  Pv w ((((u.setCell ⟨w.heap.size,k*4,none⟩ v.p).setCell ⟨w.heap.size,k*4+1,none⟩ (.int .i64 f.result)).setCell ⟨w.heap.size,k*4+2,none⟩ v.l).setCell ⟨w.heap.size,k*4+3,none⟩ v.c) fs L (k+1) (ys++[(f,v)]):=by
 have hown:=Ai h.row hb lR;rw[Cp BC _ ys k L hk h.len]at hown;have hA:(ys.flatMap BC).length=k*4:=by rw[Aw BC 4 Ah,h.len]
 have s0:=(hown.stored (k*4) v.p).1;have s1:=(s0.stored (k*4+1) (.int .i64 f.result)).1;have s2:=(s1.stored (k*4+2) v.l).1;have s3:=(s2.stored (k*4+3) v.c).1;rw[N6 _ _ _ _ _ _ _ _ _ _ (k*4) hA]at s3;refine⟨G6 h.fst hf v,by simp[h.len],?_,?_,?_,?_⟩
 ·rw[Ew BC _ ys k L (f,v) h.len]
  exact s3
 ·intro y hy
  have hy':EY u (w.heap.size+1) y.2 y.1:=by
   rcases List.mem_append.1 hy with hy|hy
   ·exact(h.els y hy).keep hb lR
   ·simp only[List.mem_singleton]at hy
    subst hy;exact ho.base h.siz
  exact(((hy'.below (by simp) _).below (by simp) _).below (by simp) _).below (by simp) _
 ·exact((((h.bel.trans (hb.mono (by have:=h.siz;omega))).setCell lR _).setCell lR _).setCell lR _).setCell lR _
 ·have:=hb.size
  have:=h.siz;simp;omega
theorem Kg(s:Value)(fs:List MF)(w:World)(hL:fs.length<=1048576)(hs:∀f∈fs,f.small)(h:FN w s fs):
  Calls Tryz.prog 35 #[s] w fun e w'=>∃a c,e=.returned (.slice a fs.length c)/\Dr w' w.heap.size (.slice a fs.length c) fs/\Below w.heap.size w w':=by
 obtain⟨i0,hi,hz0,hz1,hz2⟩:=info_parts PN;obtain⟨xs,hxs,hrd,hel⟩:=h;have hxl:xs.length=fs.length:=by rw[<-hxs];simp
 have H1:=h5 hrd hxs hel hs hxl;obtain⟨a1,c1,rfl⟩:=hrd.is_slice;clear hrd hxs hel hs hxl;generalize hLL:fs.length=L at hL H1;have HL:Hid (fs.length=L):=hLL;clear hLL;go_enter Tryz.func35,Tryz.ntmps35;go_wp2_with (at_make;refine wpList_make_full _ rfl _ _ 42 rfl w.heap.size 131 i0 (.agg #[.slice none 0 0,.int .i64 0,.slice none 0 0,.slice none 0 0]) 4 Tryz.underlying42 hi hz0 hz1 .i64 .i64 _ _ L rfl rfl rfl rfl (by rw[hz2];omega) (by unfold maxLen;omega) lR ?_;intro w1 hown hgrow);rw[EG BC [.slice none 0 0,.int .i64 0,.slice none 0 0,.slice none 0 0] L (.agg #[.slice none 0 0,.int .i64 0,.slice none 0 0,.slice none 0 0]) 4 rfl rfl (by omega)]at hown;have hB:Below w.heap.size w w1:=(Below.refl _ _).grown hgrow lR (fun k hk=>by cases hk);have hst:Pv w w1 fs L 0 []:=⟨by simp,rfl,hown,(fun y hy=>by cases hy),hB,JK hown⟩;clear hgrow hown hB;go_loopw [4] (fun i wr=>∃k:Nat,k<=L/\i=.int .i64 k/\∃ys,Pv w wr fs L k ys) (fun i _=>L-(intOf i).toNat)
 case atStart=>exact⟨0,by omega,rfl,_,hst⟩
 case round=>
  clear hst;obtain⟨k,hk,rfl,ys,hst⟩:=hrel;by_cases hlt:k<L
  ·obtain⟨x,hx⟩:∃x,xs[k]?=some x:=⟨_,gE (by rw[H1.out.2.2.2.2];exact hlt)⟩
   have hfx:=AO H1.out.2.1 hx;have hrx:=H1.out.2.2.1 x (mG hx);have hsm:=H1.out.2.2.2.1 x.1 (mG hfx);rcases H1.out.1.2 with⟨e0,_⟩|⟨g,o,c,e1,hc1⟩
   ·omega
   ·simp only[sJ,true_and]at e1
    obtain⟨rfl,rfl⟩:=e1;have i0:=Rd.elem Ah hc1 k x hx 0 _ rfl;have i1:=Rd.elem Ah hc1 k x hx 1 _ rfl;have i2:=Rd.elem Ah hc1 k x hx 2 _ rfl;have i3:=Rd.elem Ah hc1 k x hx 3 _ rfl;rw[<-hst.bel.cell (bL i0)]at i0;rw[<-hst.bel.cell (bL i1)]at i1;rw[<-hst.bel.cell (bL i2)]at i2;rw[<-hst.bel.cell (bL i3)]at i3;rw[Nat.add_zero]at i0;obtain⟨f,v⟩:=x;have HX:=h3 hfx (hrx.keep hst.bel lR) hsm;clear hfx hrx hsm hx hc1;simp only[]at i0 i1 i2 i3;go_wp2_with fail
    refine(L5 v f wr HX.out.2.2 HX.out.2.1).mono ?_;rintro e u ⟨b1,d1,b2,d2,b3,d3,rfl,hou,hbu⟩;obtain⟨q0,q1,q2,q3,f0,f1,f2,f3⟩:=hst.places hlt hbu;have HN:Hid _:=hst.next hlt hbu HX.out.1 hou;clear hou hbu i0 i1 i2 i3 hst HX;go_wp2
    go_roundw
    case rel=>exact⟨k+1,by omega,by go_num,_,HN.out⟩
    case measure=>simp[intOf];omega
  ·have hkn:k=L:=by omega
   subst hkn;go_wp2
   go_ret
   refine⟨some ⟨w.heap.size,0,none⟩,k,rfl,⟨ys,?_,?_,fun y hy=>(hst.els y hy).base (by omega)⟩,hst.bel⟩
   ·rw[hst.fst,<-HL.out,List.take_length]
   ·have hrow:=hst.row
    rw[Fs _ _ _ _ hst.len]at hrow;rw[HL.out];exact hrow
structure O0(w wr:World)(fs:List (List Int))(L k:Nat)(ys:List (List Int×Value)):Prop where
 fst:ys.map Prod.fst=fs.take k
 len:ys.length=k
 row:wr.ownsRow w.heap.size 113 1 (.slice (some ⟨w.heap.size,0,none⟩) L L) L (EQ Cm [.slice none 0 0] ys L)
 els:∀y∈ys,wr.ownsRow (w.heap.size+1) 2 1 y.2 y.1.length (y.1.flatMap Af)
 bel:Below w.heap.size w wr
 siz:w.heap.size+1<=wr.heap.size
theorem O0.places{w wr:World}{fs:List (List Int)}{L k:Nat}{ys:List (List Int×Value)}(h:O0 w wr fs L k ys)(hk:k<L){u:World}(hb:Below wr.heap.size wr u):
  u.cell? ⟨w.heap.size,k,none⟩=some (.slice none 0 0)/\u.frozen? ⟨w.heap.size,k,none⟩=false:=by
 have hown:=Ai h.row hb lR;rw[Cp Cm _ ys k L hk h.len]at hown;have hA:(ys.flatMap Cm).length=k:=by rw[Aw Cm 1 AK,h.len,Nat.mul_one]
 have d0:=hown.cellAt k (by omega);rw[List.getElem?_append_right (by omega),hA]at d0;rw[Nat.sub_self]at d0;exact⟨d0,hown.frozenAt _⟩
theorem O0.next{w wr:World}{fs:List (List Int)}{L k:Nat}{ys:List (List Int×Value)}(h:O0 w wr fs L k ys)(hk:k<L){u:World}(hb:Below wr.heap.size wr u){f:List Int}(hf:fs[k]?=some f){v:Value}(ho:u.ownsRow wr.heap.size 2 1 v f.length (f.flatMap Af)):
  O0 w (u.setCell ⟨w.heap.size,k,none⟩ v) fs L (k+1) (ys++[(f,v)]):=by
 have hown:=Ai h.row hb lR;rw[Cp Cm _ ys k L hk h.len]at hown;have hA:(ys.flatMap Cm).length=k:=by rw[Aw Cm 1 AK,h.len,Nat.mul_one]
 have s0:=(hown.stored k v).1;rw[Pz _ _ _ _ k hA]at s0;refine⟨G6 h.fst hf v,by simp[h.len],?_,?_,?_,?_⟩
 ·rw[Ew Cm _ ys k L (f,v) h.len]
  exact s0
 ·intro y hy
  have hy':u.ownsRow (w.heap.size+1) 2 1 y.2 y.1.length (y.1.flatMap Af):=by
   rcases List.mem_append.1 hy with hy|hy
   ·exact Ai (h.els y hy) hb lR
   ·simp only[List.mem_singleton]at hy
    subst hy;exact AA ho h.siz
  exact ownsRow_setCell_below hy' (by simp) _
 ·exact(h.bel.trans (hb.mono (by have:=h.siz;omega))).setCell lR _
 ·have:=hb.size
  have:=h.siz;simp;omega
theorem H9(s:Value)(fs:List (List Int))(w:World)(hL:fs.length<=1048576)(hs:∀f∈fs,f.length<=1048576)(h:Lm w s fs):
  Calls Tryz.prog 33 #[s] w fun e w'=>∃a c,e=.returned (.slice a fs.length c)/\ES w' w.heap.size (.slice a fs.length c) fs/\Below w.heap.size w w':=by
 obtain⟨i0,hi,hz0,hz1,hz2⟩:=info_parts PJ;obtain⟨xs,hxs,hrd,hel⟩:=h;have hxl:xs.length=fs.length:=by rw[<-hxs];simp
 have H1:=h5 hrd hxs hel hs hxl;obtain⟨a1,c1,rfl⟩:=hrd.is_slice;clear hrd hxs hel hs hxl;generalize hLL:fs.length=L at hL H1;have HL:Hid (fs.length=L):=hLL;clear hLL;go_enter Tryz.func33,Tryz.ntmps33;go_wp2_with (at_make;refine wpList_make_full _ rfl _ _ 22 rfl w.heap.size 113 i0 (.slice none 0 0) 1 Tryz.underlying22 hi hz0 hz1 .i64 .i64 _ _ L rfl rfl rfl rfl (by rw[hz2];omega) (by unfold maxLen;omega) lR ?_;intro w1 hown hgrow);rw[EG Cm [.slice none 0 0] L (.slice none 0 0) 1 rfl rfl (by omega)]at hown;have hB:Below w.heap.size w w1:=(Below.refl _ _).grown hgrow lR (fun k hk=>by cases hk);have hst:O0 w w1 fs L 0 []:=⟨by simp,rfl,hown,(fun y hy=>by cases hy),hB,JK hown⟩;clear hgrow hown hB;go_loopw [4] (fun i wr=>∃k:Nat,k<=L/\i=.int .i64 k/\∃ys,O0 w wr fs L k ys) (fun i _=>L-(intOf i).toNat)
 case atStart=>exact⟨0,by omega,rfl,_,hst⟩
 case round=>
  clear hst;obtain⟨k,hk,rfl,ys,hst⟩:=hrel;by_cases hlt:k<L
  ·obtain⟨x,hx⟩:∃x,xs[k]?=some x:=⟨_,gE (by rw[H1.out.2.2.2.2];exact hlt)⟩
   have hfx:=AO H1.out.2.1 hx;have hrx:=H1.out.2.2.1 x (mG hx);have hsm:=H1.out.2.2.2.1 x.1 (mG hfx);rcases H1.out.1.2 with⟨e0,_⟩|⟨g,o,c,e1,hc1⟩
   ·omega
   ·simp only[sJ,true_and]at e1
    obtain⟨rfl,rfl⟩:=e1;have i0:=Rd.elem AK hc1 k x hx 0 _ rfl;rw[<-hst.bel.cell (bL i0)]at i0;rw[Nat.mul_one,Nat.add_zero]at i0;obtain⟨f,v⟩:=x;have HX:=h3 hfx (hrx.keep hst.bel lR) hsm;clear hfx hrx hsm hx hc1;simp only[]at i0;go_wp2_with fail
    refine(EL v f wr HX.out.2.2 HX.out.2.1).mono ?_;rintro e u ⟨b1,d1,rfl,hou,hbu⟩;obtain⟨q0,f0⟩:=hst.places hlt hbu;have HN:Hid _:=hst.next hlt hbu HX.out.1 hou;clear hou hbu i0 hst HX;go_wp2
    go_roundw
    case rel=>exact⟨k+1,by omega,by go_num,_,HN.out⟩
    case measure=>simp[intOf];omega
  ·have hkn:k=L:=by omega
   subst hkn;go_wp2
   go_ret
   refine⟨some ⟨w.heap.size,0,none⟩,k,rfl,⟨ys,?_,?_,fun y hy=>AA (hst.els y hy) (by omega)⟩,hst.bel⟩
   ·rw[hst.fst,<-HL.out,List.take_length]
   ·have hrow:=hst.row
    rw[Fs _ _ _ _ hst.len]at hrow;rw[HL.out];exact hrow
end Go.Proofs.YtlejplpkomddeaaGreat
