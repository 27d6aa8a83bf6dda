import Derived.Test.YtlejplpkomddeaaGreatG0
import Derived.Test.YtlejplpkomddeaaGreatG9
import Derived.Test.YtlejplpkomddeaaGreatG6
import Derived.WalkSpells
import Derived.Maps.AppendAt
namespace Go.Proofs.YtlejplpkomddeaaGreat
open Go.ChangeShapes Go.WideShapes Go.ChangeAt Go.RowKit
set_option linter.unusedVariables false
set_option maxHeartbeats 2000000
set_option maxRecDepth 100000
theorem Dd{α:Type}(xs:List α)(k:Nat)(x:α)(h:xs[k]?=some x):xs.take (k+1)=xs.take k++[x]:=by
 obtain⟨hlt,rfl⟩:=gI.1 h;exact List.take_succ_eq_append_getElem hlt
theorem Bs(x:MC):∀u∈x.cells,u.oneCell'=true:=by
 intro u hu;simp[MC.cells]at hu;rcases hu with rfl|rfl<;>rfl
theorem Cr(w:World)(cs:Array Value)(t:TypeId):(w.alloc (.cells cs t)).heap[w.heap.size]?=some (.cells cs t (0,0)):=Array.getElem?_push_size
theorem DE(w:World)(x:MC)(t:TypeId):∀j u,x.cells[j]?=some u->(w.alloc (.cells x.cells.toArray t)).cell? ((⟨w.heap.size,0,none⟩:Addr).add j)=some u:=fun j u hj=>by
 rw[CB,Nat.zero_add,cell_of_row _ _ _ _ _ _ (Cr w x.cells.toArray t)];simpa using hj
theorem DL(t:Int)(w:World):Calls Tryz.prog 178 #[.int .i64 t] w fun e w'=>e=.returned (.agg #[.int .i64 t,.int .u32 0])/\Below w.heap.size w w':=by
 go_enter Tryz.func178,Tryz.ntmps178;go_wp2
 exact bodyPost_ret (v:=.agg #[.int .i64 t,.int .u32 0]) (by simp[results,Tryz.results178,go_sem]) rfl ⟨rfl,(Below.refl _ _).alloc lR _⟩
theorem Kf(t:Value)(ts:List Int)(w:World)(hn:ts.length<=4194304)(h':Rd w 1 t ts.length (ts.flatMap Af)):
  Calls Tryz.prog 113 #[t] w fun e w'=>∃a c,e=.returned (.slice a ts.length c)/\w'.ownsRow w.heap.size 128 2 (.slice a ts.length c) ts.length ((ts.map fun t=>(⟨t,0⟩:MC)).flatMap MC.cells)/\Below w.heap.size w w':=by
 obtain⟨i0,hi,hz0,hz1,hz2⟩:=info_parts DP;have H:=AM h';obtain⟨a2,c2,rfl⟩:=h'.is_slice;clear h';generalize hLL:ts.length=L at hn H⊢;have HL:Hid (ts.length=L):=hLL;clear hLL;go_enter Tryz.func113,Tryz.ntmps113;go_wp2_with (at_make;refine wpList_make_full _ rfl _ _ 36 rfl w.heap.size 128 i0 (.agg #[.int .i64 0,.int .u32 0]) 2 Tryz.underlying36 hi hz0 hz1 .i64 .i64 _ _ L rfl rfl rfl rfl (by rw[hz2];omega) (by unfold maxLen;omega) lR ?_;intro w1 hown hgrow);rw[Cz MC.cells [.int .i64 0,.int .u32 0] (ts.map fun t=>(⟨t,0⟩:MC)) L (.agg #[.int .i64 0,.int .u32 0]) 2 rfl rfl (by omega)]at hown;have hB:Below w.heap.size w w1:=(Below.refl _ _).grown hgrow lR (fun k hk=>by cases hk);clear hgrow;go_loopw [11] (fun i wr=>∃k:Nat,k<=L/\i=.int .i64 k/\wr.ownsRow w.heap.size 128 2 (.slice (some ⟨w.heap.size,0,none⟩) L L) L (CU MC.cells [.int .i64 0,.int .u32 0] (ts.map fun t=>(⟨t,0⟩:MC)) k L)/\Below w.heap.size w wr) (fun i _=>L-(intOf i).toNat)
 case atStart=>exact⟨0,by omega,rfl,hown,hB⟩
 case round=>
  clear hown hB;obtain⟨k,hk,rfl,hown,hbel⟩:=hrel;by_cases hlt:k<L
  ·obtain⟨t,ht⟩:∃t,ts[k]?=some t:=⟨_,gE (by rw[HL.out];exact hlt)⟩
   have hcx:(ts.map fun t=>(⟨t,0⟩:MC))[k]?=some ⟨t,0⟩:=by simp[ht]
   have hnext:=CV MC.cells [.int .i64 0,.int .u32 0] (ts.map fun t=>(⟨t,0⟩:MC)) k L _ hcx;rw[CI MC.cells [.int .i64 0,.int .u32 0] (ts.map fun t=>(⟨t,0⟩:MC)) k L hlt]at hown;have hA:(((ts.map fun t=>(⟨t,0⟩:MC)).take k).flatMap MC.cells).length=k*2:=by rw[Aw MC.cells 2 MC.cells_length,List.length_take,List.length_map,HL.out,Nat.min_eq_left hk]
   generalize ((ts.map fun t=>(⟨t,0⟩:MC)).take k).flatMap MC.cells=A at hown hnext hA;generalize (List.replicate (L-(k+1)) [Value.int .i64 0,Value.int .u32 0]).flatten=R at hown hnext;rcases H.out.2 with⟨e0,_⟩|⟨g',o',c',e2,hc2⟩
   ·omega
   simp only[sJ,true_and]at e2;obtain⟨rfl,rfl⟩:=e2;have j0:=Rd.elem Ap hc2 k t ht 0 _ rfl;rw[Nat.mul_one,Nat.add_zero]at j0;rw[<-hbel.cell (bL j0)]at j0;have hkL:(k:Int)<(L:Int):=by omega
   have HO:=h4 hown hA hnext hbel;clear hown hA hnext hc2 ht hcx hbel;go_wp2_with fail
   refine(DL t _).mono ?_;rintro e u ⟨rfl,hbu⟩;have hown:=Ai HO.out.1 hbu lR;have hA:=HO.out.2.1;have f0:=hown.frozenAt (k*2);have f1:=hown.frozenAt (k*2+1);have d0:=hown.cellAt (k*2) (by omega);have d1:=hown.cellAt (k*2+1) (by omega);rw[List.getElem?_append_right (by omega),hA]at d0 d1;rw[Nat.sub_self]at d0;rw[Nat.add_sub_cancel_left]at d1;simp only[List.cons_append,gZ,gS]at d0 d1;have HB:=h2 (HO.out.2.2.2.trans (hbu.mono HO.out.2.2.2.size)) hown;clear hown hA hbu j0;go_wp2
   go_roundw
   case rel=>
    refine⟨k+1,by omega,by go_num,?_,(HB.out.1.setCell lR _).setCell lR _⟩;have s0:=(HB.out.2.stored (k*2) (.int .i64 t)).1;have s1:=(s0.stored (k*2+1) (.int .u32 0)).1;rw[Oe A R _ _ _ _ (k*2) HO.out.2.1]at s1;rw[HO.out.2.2.1];exact s1
   case measure=>simp[intOf];omega
  ·have hkn:k=L:=by omega
   subst hkn;rw[Dj _ _ _ _ (by rw[List.length_map];exact HL.out)]at hown;have HO:=AM hown;clear hown;go_wp2;go_ret;exact⟨_,_,rfl,HO.out,hbel⟩
def Ky(rs:List (List MC))(gs:List (List Int)):Prop:=rs.length=gs.length/\∀j,j<rs.length->∀r,rs[j]?=some r->∀g,gs[j]?=some g->Cw Gz r g
theorem Iu(s s':Value)(fs:List (List MC))(gs:List (List Int))(w:World)(hL:fs.length<=1048576)(hL':gs.length<=1048576)(hs:∀f∈fs,f.length<=1048576)(hs':∀f∈gs,f.length<=1048576)(hw:∀f∈fs,∀x∈f,0<=x.word)(h:Ie w s fs)(h':Lm w s' gs):
  Calls Tryz.prog 91 #[s,s',.func (.func 92) #[] #[]] w fun e w'=>Ao e (Ky fs gs)/\Below w.heap.size w w':=by
 obtain⟨xs,hxs,hrd,hel⟩:=h;obtain⟨ys,hys,hrd',hel'⟩:=h';have hxl:xs.length=fs.length:=by rw[<-hxs];simp
 have hyl:ys.length=gs.length:=by rw[<-hys];simp
 have H1:Hid (Rd w 1 s fs.length (xs.flatMap Ce)/\xs.map Prod.fst=fs/\(∀x∈xs,Rd w 2 x.2 x.1.length (x.1.flatMap MC.cells))/\(∀f∈fs,f.length<=1048576/\∀x∈f,0<=x.word)/\xs.length=fs.length):=⟨hrd,hxs,hel,fun f hf=>⟨hs f hf,hw f hf⟩,hxl⟩
 have H2:=h5 hrd' hys hel' hs' hyl;obtain⟨a1,c1,rfl⟩:=hrd.is_slice;obtain⟨a2,c2,rfl⟩:=hrd'.is_slice;clear hrd hxs hel hs hxl hrd' hys hel' hs' hyl hw;by_cases hll:fs.length=gs.length
 ·rw [← hll]at H2⊢
  clear hL';generalize hLL:fs.length=n at hL H1 H2 hll;have HL:=h2 hLL hll.symm;clear hLL hll;go_enter Tryz.func91,Tryz.ntmps91;go_wp2
  go_loopw [17] (fun i wr=>∃k:Nat,k<=n/\i=.int .i64 k/\Hid (∀j,j<k->∀r,fs[j]?=some r->∀g,gs[j]?=some g->Cw Gz r g)/\Hid (Below w.heap.size w wr)) (fun i _=>n-(intOf i).toNat)
  case atStart=>exact⟨0,by omega,rfl,fun j hj=>by omega,Below.refl _ _⟩
  case round=>
   obtain⟨k,hk,rfl,HT,HB⟩:=hrel;by_cases hlt:k<n
   ·obtain⟨⟨f,v⟩,hx⟩:∃x,xs[k]?=some x:=⟨_,gE (by rw[H1.out.2.2.2.2];exact hlt)⟩
    obtain⟨⟨g,v'⟩,hy⟩:∃x,ys[k]?=some x:=⟨_,gE (by rw[H2.out.2.2.2.2];exact hlt)⟩;have e1:=AO H1.out.2.1 hx;have e2:=AO H2.out.2.1 hy;have hfm:=H1.out.2.2.2.1 f (mG e1);have HX:Hid (Rd wr 2 v f.length (f.flatMap MC.cells)/\Rd wr 1 v' g.length (g.flatMap Af)/\f.length<=1048576/\g.length<=1048576/\fs[k]?=some f/\gs[k]?=some g/\∀x∈f,0<=x.word):=⟨(H1.out.2.2.1 _ (mG hx)).keep HB.out lR,(H2.out.2.2.1 _ (mG hy)).keep HB.out lR,hfm.1,H2.out.2.2.2.1 g (mG e2),e1,e2,hfm.2⟩
    clear e1 e2 hfm;rcases H1.out.1.2 with⟨e0,_⟩|⟨b,o,c,e1,hc1⟩
    ·omega
    ·rcases H2.out.1.2 with⟨e0,_⟩|⟨b',o',c',e2,hc2⟩
     ·omega
     ·simp only[sJ,true_and]at e1 e2
      obtain⟨rfl,rfl⟩:=e1;obtain⟨rfl,rfl⟩:=e2;have i0:=Rd.elem Bf hc1 k _ hx 0 _ rfl;have j0:=Rd.elem AK hc2 k _ hy 0 _ rfl;rw[<-HB.out.cell (bL i0)]at i0;rw[<-HB.out.cell (bL j0)]at j0;rw[Nat.mul_one,Nat.add_zero]at i0 j0;clear hc1 hc2 hx hy;simp only[]at i0 j0;go_wp2_with fail
      refine(Fd v v' f g _ HX.out.2.2.1 HX.out.2.2.2.1 HX.out.2.2.2.2.2.2 (by exact HX.out.1) (by exact HX.out.2.1)).mono ?_;rintro e u ⟨⟨b0,rfl,hb0⟩,hbu⟩;have HB2:Hid (Below w.heap.size w u):=Ac HB.out lR hbu;clear hbu HB i0 j0;cases b0
      ·have HN:Hid (¬Ky fs gs):=fun e=>absurd (hb0.2 (e.2 k (by rw[HL.out.1];exact hlt) f HX.out.2.2.2.2.1 g HX.out.2.2.2.2.2.1)) Bool.false_ne_true
       clear hb0;go_wp2
       go_ret
       exact⟨.no HN.out,HB2.out⟩
      ·have HC:Hid (Cw Gz f g):=hb0.1 rfl
       clear hb0
       have HT2:Hid (∀j,j<k+1->∀r,fs[j]?=some r->∀g,gs[j]?=some g->Cw Gz r g):=fun j hj r hr g' hg'=>by
        by_cases e:j=k
        ·subst e
         rw[HX.out.2.2.2.2.1]at hr;rw[HX.out.2.2.2.2.2.1]at hg';obtain rfl:=Option.some.inj hr;obtain rfl:=Option.some.inj hg';exact HC.out
        ·exact HT.out j (by omega) r hr g' hg'
       go_wp2
       go_roundw
       case rel=>exact⟨k+1,by omega,by go_num,HT2,HB2⟩
       case measure=>simp[intOf];omega
   ·have hkn:n=k:=by omega
    subst hkn;have HY:Hid (Ky fs gs):=⟨by rw[HL.out.1,HL.out.2],by rw[HL.out.1];exact HT.out⟩;go_wp2;go_ret;exact⟨.yes HY.out,HB.out⟩
 ·have HN:Hid (¬Ky fs gs):=fun e=>hll e.1
  have hne:¬(fs.length:Int)=(gs.length:Int):=by omega
  go_enter Tryz.func91,Tryz.ntmps91;go_wp2
  go_ret
  exact⟨.no HN.out,Below.refl _ _⟩
theorem K5(v:VS)(s:MS)(left:Int)(w:World)(hf:s.fits)(h:Fc w v s)(h0:0<=left)(h1:left<=1048576):
  Calls Tryz.prog 6 #[.agg #[.int .i64 s.trap,.bool s.done,.int .i64 s.cost,.int .i64 s.steps,v.c,v.k,v.f],.int .i64 left] w fun e w'=>∃r:Int,e=.returned (.int .i64 r)/\(r=-1\/0<=r/\r<=left/\s.small)/\Below w.heap.size w w':=by
 obtain⟨a2,c2,e2⟩:=h.stack.is_slice;obtain⟨vc,vk,vf⟩:=v;simp only[]at e2;subst e2;have F0:w.alloc (.cells #[.int .i64 s.trap,.bool s.done,.int .i64 s.cost,.int .i64 s.steps,vc,.slice a2 s.stack.length c2,vf] 32)|>.ownsRow w.heap.size 32 7 (.slice (some ⟨w.heap.size,0,none⟩) 1 1) 1 [.int .i64 s.trap,.bool s.done,.int .i64 s.cost,.int .i64 s.steps,vc,.slice a2 s.stack.length c2,vf]:=World.ownsRow_lit (base:=w.heap.size) (e:=32) (size:=7) w #[.int .i64 s.trap,.bool s.done,.int .i64 s.cost,.int .i64 s.steps,vc,.slice a2 s.stack.length c2,vf] 1 lR (by unfold maxLen;omega) (by simp);have HB:Hid (Below w.heap.size w (w.alloc (.cells #[.int .i64 s.trap,.bool s.done,.int .i64 s.cost,.int .i64 s.steps,vc,.slice a2 s.stack.length c2,vf] 32))):=(Below.refl _ _).alloc lR _;have HF:=h2 hf h;clear hf h;go_enter Tryz.func6,Tryz.ntmps6;go_wp2_with fail;refine(Ic vc s.cells left _ HF.out.1.cells HF.out.1.cell (HF.out.2.cells.keep HB.out lR) h0 h1).mono ?_;rintro e u1 ⟨r1,rfl,hr,rfl⟩;rcases hr with rfl|⟨r10,r11,r12,r13⟩
 ·go_wp2
  go_ret
  exact⟨-1,rfl,.inl rfl,HB.out⟩
 have HR:=AM r13;clear r13;go_wp2_with fail
 refine(DA a2 s.stack.length c2 r1 _ HF.out.1.stack r10 (by omega)).mono ?_;rintro e u2 ⟨rfl,rfl⟩;have hz:=Fv (n:=s.stack.length) r10 (by omega);generalize Fx r1 s.stack.length=r2 at hz;rcases hz with rfl|⟨r20,r21,r22⟩
 ·go_wp2
  go_ret
  exact⟨-1,rfl,.inl rfl,HB.out⟩
 go_wp2_with fail
 refine(JB vf s.frames r2 _ HF.out.1.frames HF.out.1.frame (HF.out.2.frames.keep HB.out lR) r20 (by omega)).mono ?_;rintro e u3 ⟨r3,rfl,hr,b3⟩;have HB3:Hid (Below w.heap.size w u3):=HB.out.trans (b3.mono HB.out.size);clear b3;rcases hr with rfl|⟨r30,r31,r32,r33⟩
 ·go_wp2
  go_ret
  exact⟨-1,rfl,.inl rfl,HB3.out⟩
 have HS:Hid (∀f∈s.frames,f.small):=r33;clear r33;go_wp2
 go_ret
 refine⟨r3,rfl,.inr ⟨r30,by omega,⟨by omega,fun f hf=> ?_,by omega,by omega,HS.out⟩⟩,HB3.out⟩;have:=HR.out f hf;omega
instance:Inhabited MG:=⟨⟨0,0,0,[]⟩⟩
instance:Inhabited Value:=⟨.bool true⟩
theorem Me:Tryz.prog.cellsOf 152=2:=by kernel_rfl
theorem Ma:Tryz.prog.cellsOf 120=4:=by kernel_rfl
theorem Oz:Tryz.prog.cellsOf 32=7:=by kernel_rfl
theorem Ps:Tryz.prog.cellsOf 4=1:=by kernel_rfl
theorem IZ:Tryz.prog.cellsOf 29=1:=by kernel_rfl
theorem NK:Tryz.prog.cellsOf 28=1:=by kernel_rfl
theorem NU:Tryz.prog.cellsOf 30=1:=by kernel_rfl
section
variable {H:Type} {enc:TypeId×Value->H} {w:World} {spare:Nat->Bool} {held:Bool} {fuel:Nat} {cs:List Value} {x:DataW H×List MemPlace}
theorem seven{cs:List Value}(h:cs.length=7):∃a b c d e f g,cs=[a,b,c,d,e,f,g]:=by
 match cs,h with
 |[a,b,c,d,e,f,g],_=>exact⟨a,b,c,d,e,f,g,rfl⟩
theorem Jm{P:Program}{base:Nat}{t:TypeId}{f0 f1 f2 f3 f4 f5 f6:Field}(ht:P.underlying t=some (.struct #[f0,f1,f2,f3,f4,f5,f6]))(h:DataW.trod enc P w base spare held fuel t cs=some x):
  ∃y0 y1 y2 y3 y4 y5 y6 n,cs.length=P.cellsOf t/\DataW.trod enc P w base spare held n f0.type ((cs.drop f0.offset).take (P.cellsOf f0.type))=some y0/\DataW.trod enc P w base spare held n f1.type ((cs.drop f1.offset).take (P.cellsOf f1.type))=some y1/\DataW.trod enc P w base spare held n f2.type ((cs.drop f2.offset).take (P.cellsOf f2.type))=some y2/\
   DataW.trod enc P w base spare held n f3.type ((cs.drop f3.offset).take (P.cellsOf f3.type))=some y3/\DataW.trod enc P w base spare held n f4.type ((cs.drop f4.offset).take (P.cellsOf f4.type))=some y4/\DataW.trod enc P w base spare held n f5.type ((cs.drop f5.offset).take (P.cellsOf f5.type))=some y5/\DataW.trod enc P w base spare held n f6.type ((cs.drop f6.offset).take (P.cellsOf f6.type))=some y6:=by
 obtain⟨xs,n,_,rfl,hl,hlen,hf⟩:=DataW.trod_struct ht h;match xs,hlen with
 |[y0,y1,y2,y3,y4,y5,y6],_=>exact⟨y0,y1,y2,y3,y4,y5,y6,n,hl,by simpa using hf 0 f0 rfl,by simpa using hf 1 f1 rfl,by simpa using hf 2 f2 rfl,by simpa using hf 3 f3 rfl,by simpa using hf 4 f4 rfl,by simpa using hf 5 f5 rfl,by simpa using hf 6 f6 rfl⟩
theorem Ms(h:DataW.trod enc Tryz.prog w 0 spare held fuel 4 cs=some x):∃b,cs=[.bool b]:=by
 obtain⟨b,h1,_⟩:=DataW.trod_bool Tryz.underlying4 h;exact⟨b,h1⟩
theorem LH(h:DataW.trod enc Tryz.prog w 0 spare held fuel 152 cs=some x):∃y:MC,cs=y.cells/\y.wf:=by
 obtain⟨y0,y1,n,_,hl,g0,g1⟩:=trod_struct2 Tryz.underlying152 h;rw[Me]at hl;obtain⟨a,b,rfl⟩:=two hl;simp only[Ea,IV,List.drop_zero,List.drop_succ_cons,List.take_succ_cons,List.take_zero]at g0 g1;obtain⟨z0,e0,w0⟩:=Bx g0;obtain⟨z1,e1,w1⟩:=G5 g1;simp only[Af,List.cons.injEq,and_true]at e0 e1;subst e0 e1;exact⟨⟨z0,z1⟩,rfl,w0,w1⟩
theorem Fm(h:DataW.trod enc Tryz.prog w 0 spare held fuel 29 cs=some x):∃y:List MC×Value,cs=Ce y/\Rd w 2 y.2 y.1.length (y.1.flatMap MC.cells)/\y.1.length<=9223372036854775807/\∀z∈y.1,z.wf:=by
 obtain⟨s,ys,e,h1,h2,h3⟩:=CH MC.cells MC.wf 2 MC.cells_length (by omega) Tryz.underlying29 Me (fun _ _ _=>LH) h;exact⟨(ys,s),e,h1,by simp[maxLen]at h2;exact h2,h3⟩
theorem Ln(h:DataW.trod enc Tryz.prog w 0 spare held fuel 120 cs=some x):∃y:MG×Value,cs=As y/\Ju w y.2 y.1/\y.1.fits/\y.1.wf:=by
 obtain⟨y0,y1,y2,y3,n,_,hl,g0,g1,g2,g3⟩:=Go.Joins.trod_struct4 Tryz.underlying120 h;rw[Ma]at hl;obtain⟨a,b,c,d,rfl⟩:=Nq hl;simp only[Ea,IZ,List.drop_zero,List.drop_succ_cons,List.take_succ_cons,List.take_zero]at g0 g1 g2 g3;obtain⟨z0,e0,w0⟩:=Bx g0;obtain⟨z1,e1,w1⟩:=Bx g1;obtain⟨z2,e2,w2⟩:=Bx g2;obtain⟨⟨l3,s3⟩,e3,w3,m3,k3⟩:=Fm g3;simp only[Af,Ce,List.cons.injEq,and_true]at e0 e1 e2 e3;subst e0 e1 e2 e3;exact⟨(⟨z0,z1,z2,l3⟩,d),rfl,w3,m3,⟨w0,w1,w2,k3⟩⟩
theorem L4(h:DataW.trod enc Tryz.prog w 0 spare held fuel 32 cs=some x):∃(p:MS) (v:VS),cs=[.int .i64 p.trap,.bool p.done,.int .i64 p.cost,.int .i64 p.steps,v.c,v.k,v.f]/\Fc w v p/\p.fits/\p.wf:=by
 obtain⟨y0,y1,y2,y3,y4,y5,y6,n,hl,g0,g1,g2,g3,g4,g5,g6⟩:=Jm Tryz.underlying32 h;rw[Oz]at hl;obtain⟨c0,c1,c2,c3,c4,c5,c6,rfl⟩:=seven hl;simp only[Ea,Ps,NK,IZ,NU,List.drop_zero,List.drop_succ_cons,List.take_succ_cons,List.take_zero]at g0 g1 g2 g3 g4 g5 g6;obtain⟨z0,e0,w0⟩:=Bx g0;obtain⟨z1,e1⟩:=Ms g1;obtain⟨z2,e2,w2⟩:=Bx g2;obtain⟨z3,e3,w3⟩:=Bx g3;obtain⟨s4,l4,e4,w4,m4,k4⟩:=CH Ce (fun y=>Rd w 2 y.2 y.1.length (y.1.flatMap MC.cells)/\y.1.length<=9223372036854775807/\∀z∈y.1,z.wf) 1 Bf (by omega) Tryz.underlying28 IZ (fun _ _ _=>Fm) g4
 obtain⟨⟨l5,s5⟩,e5,w5,m5,k5⟩:=Fm g5;obtain⟨s6,l6,e6,w6,m6,k6⟩:=CH As (fun y=>Ju w y.2 y.1/\y.1.fits/\y.1.wf) 4 Al (by omega) Tryz.underlying30 Ma (fun _ _ _=>Ln) g6
 simp only[Af,Ce,List.cons.injEq,and_true]at e0 e1 e2 e3 e4 e5 e6;subst e0 e1 e2 e3 e4 e5 e6;have hm:∀n:Nat,n<=maxLen->n<=9223372036854775807:=fun n h=>by simp[maxLen]at h;exact h
 refine⟨⟨z0,z1,z2,z3,l4.map Prod.fst,l5,l6.map Prod.fst⟩,⟨c4,c5,c6⟩,rfl,⟨⟨l4,rfl,by simpa using w4,fun y hy=>(k4 y hy).1⟩,w5,⟨l6,rfl,by simpa using w6,fun y hy=>(k6 y hy).1⟩⟩,⟨by simpa using hm _ m4,?_,m5,by simpa using hm _ m6,?_⟩,⟨w0,w2,w3,?_,k5,?_⟩⟩
 ·intro r hr
  obtain⟨y,hy,rfl⟩:=List.mem_map.1 hr;exact(k4 y hy).2.1
 ·intro r hr
  obtain⟨y,hy,rfl⟩:=List.mem_map.1 hr;exact(k6 y hy).2.1
 ·intro r hr
  obtain⟨y,hy,rfl⟩:=List.mem_map.1 hr;exact(k4 y hy).2.2
 ·intro r hr
  obtain⟨y,hy,rfl⟩:=List.mem_map.1 hr;exact(k6 y hy).2.2
end
theorem Cn(s:Value)(cs:List MC)(w:World)(hn:cs.length<=1048576)(h:Rd w 2 s cs.length (cs.flatMap MC.cells)):
  Calls Tryz.prog 71 #[s] w fun e w'=>∃a c,e=.returned (.slice a cs.length c)/\w'.ownsRow w.heap.size 128 2 (.slice a cs.length c) cs.length (cs.flatMap MC.cells)/\Below w.heap.size w w':=by
 obtain⟨i0,hi,hz0,hz1,hz2⟩:=info_parts DP;have HB:Hid (Below w.heap.size w (w.alloc (.cells #[] 128))):=Aa _ _;have HO:Hid ((w.alloc (.cells #[] 128)).ownsRow w.heap.size 128 2 (.slice (some ⟨w.heap.size,0,none⟩) 0 0) 0 []):=⟨rfl,.inr ⟨w.heap.size,0,#[],rfl,Nat.le_refl _,heap_alloc_new _ _,Nat.le_refl _,Nat.zero_le _,rfl,by simp⟩⟩;obtain⟨a1,c1,rfl⟩:=h.is_slice;cases a1 with
 | none=>
  have hz:cs=[]:=by
   rcases h.2 with⟨e0,_⟩|⟨g,o,c,e1,_⟩
   ·exact List.eq_nil_of_length_eq_zero e0
   ·cases e1
  subst hz;clear h;go_enter Tryz.func71,Tryz.ntmps71;go_wp2
  go_ret
  exact⟨_,_,rfl,HO.out,HB.out⟩
 | some ad=>
  have HN:Hid (∀j u,(cs.flatMap MC.cells)[j]?=some u->(w.alloc (.cells #[] 128)).cell? (ad.add j)=some u):=fun j u hj=>by
   rcases h.2 with⟨e0,_⟩|⟨g,o,c,e1,hc⟩
   ·obtain rfl:=List.eq_nil_of_length_eq_zero e0
    simp at hj
   ·simp only[sJ,Option.some.injEq]at e1
    obtain⟨rfl,_,_⟩:=e1;have:=hc j u hj;rw[CB,HB.out.cell (bL this)];exact this
  have hl:(cs.flatMap MC.cells).length=cs.length*2:=Aw MC.cells 2 MC.cells_length cs
  have h1:∀u∈cs.flatMap MC.cells,u.oneCell'=true:=fun u hu=>by
   obtain⟨x,_,hx⟩:=List.mem_flatMap.1 hu;exact Bs x u hx
  have HL:=h2 hl h1;clear h hl h1;generalize hC:cs.flatMap MC.cells=xs at HN HL⊢;generalize hM:cs.length=m at hn HL⊢;clear hC hM;go_enter Tryz.func71,Tryz.ntmps71;go_wp2_with (at_builtin;refine wpList_append_own _ rfl _ _ 36 rfl w.heap.size 128 i0 (.agg #[.int .i64 0,.int .u32 0]) 2 16 Tryz.underlying36 hi hz0 hz1 hz2 rfl (by decide) _ 0 [] rfl HO.out ad m c1 xs rfl ?c1 ?c2 ?c3 ?c4 ?c5 ?c6 ?_)
  case c1=>exact HL.out.1
  case c2=>exact HN.out
  case c3=>exact HL.out.2
  case c4=>unfold maxLen;omega
  case c5=>omega
  case c6=>exact HB.out.size
  intro v' w' hown' hgrow' hnil';obtain⟨a2,c2,rfl⟩:=(Rd.of_own hown').is_slice;have HE:Hid (w'.ownsRow w.heap.size 128 2 (.slice a2 m c2) m xs/\Below w.heap.size w w'):=⟨hown',HB.out.grown hgrow' HB.out.size (fun j hj=>(HO.out.lt j hj).1)⟩
  clear hown' hgrow' hnil';go_wp2
  go_ret
  exact⟨_,_,rfl,HE.out.1,HE.out.2⟩
def Ba(k:Int)(n:Nat):List MC:=(List.range n).map fun(i:Nat)=>⟨k+2*(i:Int),(k+2*(i:Int)+1) % 4294967296⟩
theorem BI(k:Int)(n:Nat):(Ba k n).length=n:=by simp[Ba]
theorem J6(k:Int)(n:Nat):Ba k (n+1)=Ba k n++[⟨k+2*(n:Int),(k+2*(n:Int)+1) % 4294967296⟩]:=by simp[Ba,List.range_succ]
def CS(k:Int)(cs:List MC)(j:Nat):List MC:=Ba k j++cs.drop j
theorem Ja(k:Int)(cs:List MC):CS k cs 0=cs:=by simp[CS,Ba]
theorem Li(k:Int)(cs:List MC)(n:Nat)(h:cs.length=n):CS k cs n=Ba k n:=by simp[CS,<-h]
theorem FH(k:Int)(cs:List MC)(j:Nat)(x:MC)(h:cs[j]?=some x):(CS k cs j).flatMap MC.cells=(Ba k j).flatMap MC.cells++(x.cells++(cs.drop (j+1)).flatMap MC.cells):=by
 obtain⟨hlt,rfl⟩:=gI.1 h;unfold CS;rw[List.flatMap_append,List.drop_eq_getElem_cons hlt,List.flatMap_cons]
theorem Jh(k:Int)(cs:List MC)(j:Nat)(x:MC)(h:cs[j]?=some x):(((CS k cs j).flatMap MC.cells).set (j*2) (.int .i64 (k+2*(j:Int)))).set (j*2+1) (.int .u32 ((k+2*(j:Int)+1) % 4294967296))=(CS k cs (j+1)).flatMap MC.cells:=by
 have hA:((Ba k j).flatMap MC.cells).length=j*2:=by rw[Aw MC.cells 2 MC.cells_length,BI]
 rw[FH k cs j x h];have:=Oe ((Ba k j).flatMap MC.cells) ((cs.drop (j+1)).flatMap MC.cells) (.int .i64 x.type) (.int .u32 x.word) (.int .i64 (k+2*(j:Int))) (.int .u32 ((k+2*(j:Int)+1) % 4294967296)) (j*2) hA;refine this.trans ?_;unfold CS;rw[J6,List.flatMap_append,List.flatMap_append,List.append_assoc];simp[MC.cells]
theorem Hw{w wr:World}{g:Nat}(h:w.grownBy wr (some g))(i:Nat)(x:Value):w.grownBy (wr.setCell ⟨g,i,none⟩ x) (some g):=
 ⟨h.os,h.tape,h.output,by rw[World.size_setCell];exact h.size,fun k hk hne=>(heap_setCell_other wr _ k x (fun e=>hne (by rw[e]))).trans (h.block k hk hne)⟩
theorem Ed(base:Nat)(s:Value)(cs:List MC)(k0:Int)(w:World)(hn:cs.length<=1048576)(h0:0<=k0)(h1:k0<=1152921504606846976)(h:w.ownsRow base 128 2 s cs.length (cs.flatMap MC.cells)):
  Calls Tryz.prog 57 #[s,.int .i64 k0] w fun e w'=>e=.returned (.int .i64 (k0+2*(cs.length:Int)))/\w'.ownsRow base 128 2 s cs.length ((Ba k0 cs.length).flatMap MC.cells)/\w.grownBy w' s.ownBlock:=by
 have H:Hid (w.ownsRow base 128 2 s cs.length ((CS k0 cs 0).flatMap MC.cells)):=by show World.ownsRow _ _ _ _ _ _ _;rw[Ja];exact h
 rcases Au h with⟨rfl,hz⟩|⟨g,c,rfl⟩
 ·clear h
  rw[hz]at H⊢;have hfin:Hid (w.ownsRow base 128 2 (.slice none 0 0) 0 ((Ba k0 0).flatMap MC.cells)):=World.ownsRow_nil _ _ _ _;go_enter Tryz.func57,Tryz.ntmps57;go_wp2
  go_loopw [1,5] (fun q i wr=>q=.int .i64 k0/\i=.int .i64 0/\wr=w) (fun _ _ _=>0)
  case atStart=>exact⟨rfl,rfl,rfl⟩
  case round=>
   obtain⟨rfl,rfl,rfl⟩:=hrel;go_wp2
   go_ret
   exact⟨by simp,hfin.out,⟨rfl,rfl,rfl,Nat.le_refl _,fun _ _ _=>rfl⟩⟩
 ·clear h
  generalize hLL:cs.length=n at hn H⊢;have HL:Hid (cs.length=n):=hLL;clear hLL;go_enter Tryz.func57,Tryz.ntmps57;go_wp2
  go_loopw [1,5] (fun q i wr=>∃k:Nat,k<=n/\q=.int .i64 (k0+2*k)/\i=.int .i64 k/\Hid (wr.ownsRow base 128 2 (.slice (some ⟨g,0,none⟩) n c) n ((CS k0 cs k).flatMap MC.cells)/\w.grownBy wr (some g))) (fun _ i _=>n-(intOf i).toNat)
  case atStart=>exact⟨0,by omega,by simp,rfl,H.out,⟨rfl,rfl,rfl,Nat.le_refl _,fun _ _ _=>rfl⟩⟩
  case round=>
   obtain⟨k,hk,rfl,rfl,HM⟩:=hrel;by_cases hlt:k<n
   ·obtain⟨x,hx⟩:∃x,cs[k]?=some x:=⟨_,gE (by rw[HL.out];exact hlt)⟩
    have hA:((Ba k0 k).flatMap MC.cells).length=k*2:=by rw[Aw MC.cells 2 MC.cells_length,BI]
    have d0:=HM.out.1.cellAt (k*2) (by omega);have d1:=HM.out.1.cellAt (k*2+1) (by omega);rw[FH k0 cs k x hx,List.getElem?_append_right (by omega),hA]at d0 d1;rw[Nat.sub_self]at d0;rw[Nat.add_sub_cancel_left]at d1;simp only[MC.cells,List.cons_append,gZ,gS]at d0 d1;have z0:=HM.out.1.frozenAt (k*2);have z1:=HM.out.1.frozenAt (k*2+1)
    have HN:Hid (((wr.setCell ⟨g,k*2,none⟩ (.int .i64 (k0+2*k))).setCell ⟨g,k*2+1,none⟩ (.int .u32 ((k0+2*k+1) % 4294967296))).ownsRow base 128 2 (.slice (some ⟨g,0,none⟩) n c) n ((CS k0 cs (k+1)).flatMap MC.cells)/\w.grownBy ((wr.setCell ⟨g,k*2,none⟩ (.int .i64 (k0+2*k))).setCell ⟨g,k*2+1,none⟩ (.int .u32 ((k0+2*k+1) % 4294967296))) (some g)):=by
     refine⟨?_,Hw (Hw HM.out.2 _ _) _ _⟩;have s1:=((HM.out.1.stored (k*2) (.int .i64 (k0+2*k))).1.stored (k*2+1) (.int .u32 ((k0+2*k+1) % 4294967296))).1;rw[Jh k0 cs k x hx]at s1;exact s1
    clear hA hx;go_wp2
    go_roundw
    case rel=>exact⟨k+1,by omega,by go_num,by go_num,HN⟩
    case measure=>simp[intOf];omega
   ·have hkn:k=n:=by omega
    subst hkn
    have HE:Hid (wr.ownsRow base 128 2 (.slice (some ⟨g,0,none⟩) k c) k ((Ba k0 k).flatMap MC.cells)/\w.grownBy wr (some g)):=by
     have:=HM.out;rw[Li k0 cs k HL.out]at this;exact this
    go_wp2
    go_ret
    exact⟨rfl,HE.out.1,HE.out.2⟩
theorem Ek(s:Value)(n:Nat)(k0:Int)(w:World)(hn:n<=1048576)(h0:0<=k0)(h1:k0<=1152921504606846976)(h:Rd w 2 s n ((Ba k0 n).flatMap MC.cells)):
  Calls Tryz.prog 60 #[s,.int .i64 k0] w fun e w'=>e=.returned (.int .i64 (k0+2*(n:Int)))/\w'=w:=by
 have H1:=AM h;obtain⟨a1,c1,rfl⟩:=h.is_slice;clear h;go_enter Tryz.func60,Tryz.ntmps60;go_wp2
 go_loopw [1,5] (fun q i wr=>∃k:Nat,k<=n/\q=.int .i64 (k0+2*k)/\i=.int .i64 k/\wr=w) (fun _ i _=>n-(intOf i).toNat)
 case atStart=>exact⟨0,by omega,by simp,rfl,rfl⟩
 case round=>
  obtain⟨k,hk,rfl,rfl,rfl⟩:=hrel;by_cases hlt:k<n
  ·have hz:(Ba k0 n)[k]?=some ⟨k0+2*(k:Int),(k0+2*(k:Int)+1) % 4294967296⟩:=by simp[Ba,hlt]
   rcases H1.out.2 with⟨e0,_⟩|⟨g,o,c,e1,hc1⟩
   ·omega
   simp only[sJ,true_and]at e1;obtain⟨rfl,rfl⟩:=e1;have j0:=Rd.elem MC.cells_length hc1 k _ hz 0 _ rfl;have j1:=Rd.elem MC.cells_length hc1 k _ hz 1 _ rfl;rw[Nat.add_zero]at j0;clear hc1 hz;go_wp2
   go_roundw
   case rel=>exact⟨k+1,by omega,by go_num,by go_num,by trivial⟩
   case measure=>simp[intOf];omega
  ·have hkn:k=n:=by omega
   subst hkn;go_wp2
   go_ret
   exact⟨rfl,rfl⟩
theorem La:(Tryz.prog.info? 128).map (fun i=>(i.zero,i.size,i.bytes))=some (some (.agg #[.int .i64 0,.int .u32 0]),2,16):=by kernel_rfl
theorem Lz(c:Nat)(w:World):(binOp .eql 36 (.slice none 0 c) (.slice none 0 0)).run Tryz.prog w=.ok (.bool true) w:=by kernel_rfl
theorem Kz(ad:Addr)(m c:Nat)(w:World):(binOp .eql 36 (.slice (some ad) m c) (.slice none 0 0)).run Tryz.prog w=.ok (.bool false) w:=by kernel_rfl
theorem FP(s:Value)(m:Nat)(xs:List Value)(w:World)(hn:m<=1048576)(h1:∀u∈xs,u.oneCell'=true)(h:Rd w 2 s m xs):
  Calls Tryz.prog 87 #[s] w fun e w'=>∃a c,e=.returned (.slice a m c)/\w'.ownsRow w.heap.size 128 2 (.slice a m c) m xs/\Below w.heap.size w w':=by
 obtain⟨i0,hi,hz0,hz1,hz2⟩:=info_parts La;have HB:Hid (Below w.heap.size w (w.alloc (.cells #[] 128))):=Aa _ _;have HO:Hid ((w.alloc (.cells #[] 128)).ownsRow w.heap.size 128 2 (.slice (some ⟨w.heap.size,0,none⟩) 0 0) 0 []):=⟨rfl,.inr ⟨w.heap.size,0,#[],rfl,Nat.le_refl _,heap_alloc_new _ _,Nat.le_refl _,Nat.zero_le _,rfl,by simp⟩⟩;obtain⟨a1,c1,rfl⟩:=h.is_slice;cases a1 with
 | none=>
  have hz:m=0:=by
   rcases h.2 with⟨e0,_⟩|⟨g,o,c,e1,_⟩
   ·exact e0
   ·cases e1
  subst hz;have hx:xs=[]:=List.eq_nil_of_length_eq_zero (by have:=h.1;simpa using this);subst hx;have HZ:Hid (w.ownsRow w.heap.size 128 2 (.slice none 0 0) 0 []):=World.ownsRow_nil _ _ _ _;have en:∀w,_:=fun w=>Lz c1 w
  clear h;go_enter Tryz.func87,Tryz.ntmps87;go_wp2
  go_ret
  exact⟨_,_,rfl,HZ.out,Below.refl _ _⟩
 | some ad=>
  have HN:Hid (∀j u,xs[j]?=some u->(w.alloc (.cells #[] 128)).cell? (ad.add j)=some u):=fun j u hj=>by
   rcases h.2 with⟨e0,_⟩|⟨g,o,c,e1,hc⟩
   ·have hx:xs=[]:=List.eq_nil_of_length_eq_zero (by have:=h.1;rw[e0]at this;simpa using this)
    rw[hx]at hj;simp at hj
   ·simp only[sJ,Option.some.injEq]at e1
    obtain⟨rfl,_,_⟩:=e1;have:=hc j u hj;rw[CB,HB.out.cell (bL this)];exact this
  have HL:=h2 h.1 h1;have en:∀w,_:=fun w=>Kz ad m c1 w
  clear h h1;go_enter Tryz.func87,Tryz.ntmps87;go_wp2_with (at_builtin;refine wpList_append_own _ rfl _ _ 36 rfl w.heap.size 128 i0 (.agg #[.int .i64 0,.int .u32 0]) 2 16 Tryz.underlying36 hi hz0 hz1 hz2 rfl (by decide) _ 0 [] rfl HO.out ad m c1 xs rfl ?c1 ?c2 ?c3 ?c4 ?c5 ?c6 ?_)
  case c1=>exact HL.out.1
  case c2=>exact HN.out
  case c3=>exact HL.out.2
  case c4=>unfold maxLen;omega
  case c5=>omega
  case c6=>exact HB.out.size
  intro v' w' hown' hgrow' hnil'
  obtain⟨a2,c2,rfl⟩:∃a c,v'=.slice a m c:=by
   have:=(Rd.of_own hown').is_slice;simpa using this
  have HE:Hid (w'.ownsRow w.heap.size 128 2 (.slice a2 m c2) m xs/\Below w.heap.size w w'):=⟨by simpa using hown',HB.out.grown hgrow' HB.out.size (fun j hj=>(HO.out.lt j hj).1)⟩
  clear hown' hgrow' hnil';go_wp2
  go_ret
  exact⟨_,_,rfl,HE.out.1,HE.out.2⟩
theorem Jb:(Tryz.prog.info? 36).map (fun i=>(i.zero,i.size,i.bytes))=some (some (.slice none 0 0),1,24):=by kernel_rfl
theorem Kj(c:Nat)(w:World):(binOp .eql 35 (.slice none 0 c) (.slice none 0 0)).run Tryz.prog w=.ok (.bool true) w:=by kernel_rfl
theorem JH(ad:Addr)(m c:Nat)(w:World):(binOp .eql 35 (.slice (some ad) m c) (.slice none 0 0)).run Tryz.prog w=.ok (.bool false) w:=by kernel_rfl
theorem J8(s:Value)(m:Nat)(xs:List Value)(w:World)(hn:m<=1048576)(h1:∀u∈xs,u.oneCell'=true)(h:Rd w 1 s m xs):
  Calls Tryz.prog 86 #[s] w fun e w'=>∃a c,e=.returned (.slice a m c)/\w'.ownsRow w.heap.size 36 1 (.slice a m c) m xs/\Below w.heap.size w w':=by
 obtain⟨i0,hi,hz0,hz1,hz2⟩:=info_parts Jb;have HB:Hid (Below w.heap.size w (w.alloc (.cells #[] 36))):=Aa _ _;have HO:Hid ((w.alloc (.cells #[] 36)).ownsRow w.heap.size 36 1 (.slice (some ⟨w.heap.size,0,none⟩) 0 0) 0 []):=⟨rfl,.inr ⟨w.heap.size,0,#[],rfl,Nat.le_refl _,heap_alloc_new _ _,Nat.le_refl _,Nat.zero_le _,rfl,by simp⟩⟩;obtain⟨a1,c1,rfl⟩:=h.is_slice;cases a1 with
 | none=>
  have hz:m=0:=by
   rcases h.2 with⟨e0,_⟩|⟨g,o,c,e1,_⟩
   ·exact e0
   ·cases e1
  subst hz;have hx:xs=[]:=List.eq_nil_of_length_eq_zero (by have:=h.1;simpa using this);subst hx;have HZ:Hid (w.ownsRow w.heap.size 36 1 (.slice none 0 0) 0 []):=World.ownsRow_nil _ _ _ _;have en:∀w,_:=fun w=>Kj c1 w
  clear h;go_enter Tryz.func86,Tryz.ntmps86;go_wp2
  go_ret
  exact⟨_,_,rfl,HZ.out,Below.refl _ _⟩
 | some ad=>
  have HN:Hid (∀j u,xs[j]?=some u->(w.alloc (.cells #[] 36)).cell? (ad.add j)=some u):=fun j u hj=>by
   rcases h.2 with⟨e0,_⟩|⟨g,o,c,e1,hc⟩
   ·have hx:xs=[]:=List.eq_nil_of_length_eq_zero (by have:=h.1;rw[e0]at this;simpa using this)
    rw[hx]at hj;simp at hj
   ·simp only[sJ,Option.some.injEq]at e1
    obtain⟨rfl,_,_⟩:=e1;have:=hc j u hj;rw[CB,HB.out.cell (bL this)];exact this
  have HL:=h2 h.1 h1;have en:∀w,_:=fun w=>JH ad m c1 w
  clear h h1;go_enter Tryz.func86,Tryz.ntmps86;go_wp2_with (at_builtin;refine wpList_append_own _ rfl _ _ 35 rfl w.heap.size 36 i0 (.slice none 0 0) 1 24 Tryz.underlying35 hi hz0 hz1 hz2 rfl (by decide) _ 0 [] rfl HO.out ad m c1 xs rfl ?c1 ?c2 ?c3 ?c4 ?c5 ?c6 ?_)
  case c1=>exact HL.out.1
  case c2=>exact HN.out
  case c3=>exact HL.out.2
  case c4=>unfold maxLen;omega
  case c5=>omega
  case c6=>exact HB.out.size
  intro v' w' hown' hgrow' hnil'
  obtain⟨a2,c2,rfl⟩:∃a c,v'=.slice a m c:=by
   have:=(Rd.of_own hown').is_slice;simpa using this
  have HE:Hid (w'.ownsRow w.heap.size 36 1 (.slice a2 m c2) m xs/\Below w.heap.size w w'):=⟨by simpa using hown',HB.out.grown hgrow' HB.out.size (fun j hj=>(HO.out.lt j hj).1)⟩
  clear hown' hgrow' hnil';go_wp2
  go_ret
  exact⟨_,_,rfl,HE.out.1,HE.out.2⟩
theorem Lf:(Tryz.prog.info? 123).map (fun i=>(i.zero,i.size,i.bytes))=some (some (.agg #[.int .i64 0,.int .i64 0,.int .i64 0,.slice none 0 0]),4,48):=by kernel_rfl
theorem LV(c:Nat)(w:World):(binOp .eql 37 (.slice none 0 c) (.slice none 0 0)).run Tryz.prog w=.ok (.bool true) w:=by kernel_rfl
theorem JP(ad:Addr)(m c:Nat)(w:World):(binOp .eql 37 (.slice (some ad) m c) (.slice none 0 0)).run Tryz.prog w=.ok (.bool false) w:=by kernel_rfl
theorem Ls(s:Value)(m:Nat)(xs:List Value)(w:World)(hn:m<=1048576)(h1:∀u∈xs,u.oneCell'=true)(h:Rd w 4 s m xs):
  Calls Tryz.prog 88 #[s] w fun e w'=>∃a c,e=.returned (.slice a m c)/\w'.ownsRow w.heap.size 123 4 (.slice a m c) m xs/\Below w.heap.size w w':=by
 obtain⟨i0,hi,hz0,hz1,hz2⟩:=info_parts Lf;have HB:Hid (Below w.heap.size w (w.alloc (.cells #[] 123))):=Aa _ _;have HO:Hid ((w.alloc (.cells #[] 123)).ownsRow w.heap.size 123 4 (.slice (some ⟨w.heap.size,0,none⟩) 0 0) 0 []):=⟨rfl,.inr ⟨w.heap.size,0,#[],rfl,Nat.le_refl _,heap_alloc_new _ _,Nat.le_refl _,Nat.zero_le _,rfl,by simp⟩⟩;obtain⟨a1,c1,rfl⟩:=h.is_slice;cases a1 with
 | none=>
  have hz:m=0:=by
   rcases h.2 with⟨e0,_⟩|⟨g,o,c,e1,_⟩
   ·exact e0
   ·cases e1
  subst hz;have hx:xs=[]:=List.eq_nil_of_length_eq_zero (by have:=h.1;simpa using this);subst hx;have HZ:Hid (w.ownsRow w.heap.size 123 4 (.slice none 0 0) 0 []):=World.ownsRow_nil _ _ _ _;have en:∀w,_:=fun w=>LV c1 w
  clear h;go_enter Tryz.func88,Tryz.ntmps88;go_wp2
  go_ret
  exact⟨_,_,rfl,HZ.out,Below.refl _ _⟩
 | some ad=>
  have HN:Hid (∀j u,xs[j]?=some u->(w.alloc (.cells #[] 123)).cell? (ad.add j)=some u):=fun j u hj=>by
   rcases h.2 with⟨e0,_⟩|⟨g,o,c,e1,hc⟩
   ·have hx:xs=[]:=List.eq_nil_of_length_eq_zero (by have:=h.1;rw[e0]at this;simpa using this)
    rw[hx]at hj;simp at hj
   ·simp only[sJ,Option.some.injEq]at e1
    obtain⟨rfl,_,_⟩:=e1;have:=hc j u hj;rw[CB,HB.out.cell (bL this)];exact this
  have HL:=h2 h.1 h1;have en:∀w,_:=fun w=>JP ad m c1 w
  clear h h1;go_enter Tryz.func88,Tryz.ntmps88;go_wp2_with (at_builtin;refine wpList_append_own _ rfl _ _ 37 rfl w.heap.size 123 i0 (.agg #[.int .i64 0,.int .i64 0,.int .i64 0,.slice none 0 0]) 4 48 Tryz.underlying37 hi hz0 hz1 hz2 rfl (by decide) _ 0 [] rfl HO.out ad m c1 xs rfl ?c1 ?c2 ?c3 ?c4 ?c5 ?c6 ?_)
  case c1=>exact HL.out.1
  case c2=>exact HN.out
  case c3=>exact HL.out.2
  case c4=>unfold maxLen;omega
  case c5=>omega
  case c6=>exact HB.out.size
  intro v' w' hown' hgrow' hnil'
  obtain⟨a2,c2,rfl⟩:∃a c,v'=.slice a m c:=by
   have:=(Rd.of_own hown').is_slice;simpa using this
  have HE:Hid (w'.ownsRow w.heap.size 123 4 (.slice a2 m c2) m xs/\Below w.heap.size w w'):=⟨by simpa using hown',HB.out.grown hgrow' HB.out.size (fun j hj=>(HO.out.lt j hj).1)⟩
  clear hown' hgrow' hnil';go_wp2
  go_ret
  exact⟨_,_,rfl,HE.out.1,HE.out.2⟩
theorem Bl{w w':World}{base:Nat}{e:TypeId}{s:Value}{k n:Nat}{xs:List Value}{row:Option Nat}(h:w.ownsRow base e k s n xs)(hg:w.grownBy w' row)(hne:∀g,s.ownBlock=some g->some g≠row):w'.ownsRow base e k s n xs:=by
 refine⟨h.1,?_⟩;rcases h.2 with h|⟨g,cap,cur,rfl,hb1,hgg,hr⟩
 ·exact .inl h
 ·refine .inr ⟨g,cap,cur,rfl,hb1,?_,hr⟩
  rw[hg.block g (Array.getElem?_eq_some_iff.1 hgg).1 (hne g rfl)];exact hgg
def FW(x y:Value×List MC):Prop:=∀g,x.1.ownBlock=some g->y.1.ownBlock≠some g
theorem FW.symm{x y:Value×List MC}(h:FW x y):FW y x:=fun g hg e=>h g e hg
structure Et(w:World)(base:Nat)(L:List (Value×List MC)):Prop where
 own:∀x∈L,w.ownsRow base 128 2 x.1 x.2.length (x.2.flatMap MC.cells)
 sep:L.Pairwise FW
structure Wv(base:Nat)(w w':World):Prop where
 bel:Below base w w'
 blk:∀(k:Nat) (cur:Array Value) (t:TypeId),w.heap[k]?=some (Obj.cells cur t (0,0))->t≠128->w'.heap[k]?=some (Obj.cells cur t (0,0))
theorem Wv.refl(base:Nat)(w:World):Wv base w w:=⟨Below.refl _ _,fun _ _ _ h _=>h⟩
theorem Wv.trans{base:Nat}{u v w:World}(h:Wv base u v)(h':Wv base v w):Wv base u w:=⟨h.bel.trans h'.bel,fun k cur t hk h1=>h'.blk k cur t (h.blk k cur t hk h1) h1⟩
theorem Wv.of_row{base n:Nat}{w w':World}{s:Value}{xs:List Value}(ho:w.ownsRow base 128 2 s n xs)(hg:w.grownBy w' s.ownBlock)(hB:base<=w.heap.size):Wv base w w':=by
 refine⟨⟨hg.os,hg.tape,hg.output,hg.size,fun k hk=>hg.block k (by omega) (fun e=>by have:=(ho.lt k e.symm).1;omega)⟩,fun k cur t hk h1=> ?_⟩;rw[hg.block k (Array.getElem?_eq_some_iff.1 hk).1 ?_]
 ·exact hk
 ·intro e
  rcases ho.2 with⟨rfl,_⟩|⟨g',cap',cur',rfl,_,hg',_⟩
  ·cases e
  ·simp only[Value.ownBlock,Option.some.injEq]at e
   subst e;rw[hk]at hg';simp only[Option.some.injEq,Obj.cells.injEq]at hg';exact h1 hg'.2.1
theorem Wv.own{base b:Nat}{w w':World}(h:Wv base w w'){e:TypeId}{s:Value}{k n:Nat}{xs:List Value}(ho:w.ownsRow b e k s n xs)(h1:e≠128):w'.ownsRow b e k s n xs:=by
 refine⟨ho.1,?_⟩;rcases ho.2 with h'|⟨g,cap,cur,e1,hb1,hg,hr⟩
 ·exact .inl h'
 ·exact .inr ⟨g,cap,cur,e1,hb1,h.blk g cur e hg h1,hr⟩
theorem Et.put{w w':World}{base:Nat}{A B:List (Value×List MC)}{v:Value}{c c':List MC}(h:Et w base (A++(v,c)::B))(hl:c'.length=c.length)(ho:w'.ownsRow base 128 2 v c.length (c'.flatMap MC.cells))(hg:w.grownBy w' v.ownBlock):Et w' base (A++(v,c')::B):=by
 obtain⟨pA,pB,pAB⟩:=List.pairwise_append.1 h.sep;obtain⟨pv,pB'⟩:=List.pairwise_cons.1 pB;refine⟨fun x hx=> ?_,List.pairwise_append.2 ⟨pA,List.pairwise_cons.2 ⟨fun y hy=>pv y hy,pB'⟩,fun a ha b hb=> ?_⟩⟩
 ·rcases List.mem_append.1 hx with hx|hx
  ·exact Bl (h.own x (List.mem_append.2 (.inl hx))) hg (fun g hgx e=>pAB x hx (v,c) (by simp) g hgx e.symm)
  ·rcases List.mem_cons.1 hx with rfl|hx
   ·simp only[]
    rw[hl];exact ho
   ·exact Bl (h.own x (List.mem_append.2 (.inr (List.mem_cons_of_mem _ hx)))) hg (fun g hgx e=>pv x hx g e.symm hgx)
 ·rcases List.mem_cons.1 hb with rfl|hb
  ·exact fun g hga=>pAB a ha (v,c) (by simp) g hga
  ·exact pAB a ha b (List.mem_cons_of_mem _ hb)
def AU:Int->List (Value×List MC)->List (Value×List MC)
 |_,[]=>[]
 |k,(v,c)::r=>(v,Ba k c.length)::AU (k+2*(c.length:Int)) r
def Ct:Int->List (Value×List MC)->Int
 |k,[]=>k
 |k,(_,c)::r=>Ct (k+2*(c.length:Int)) r
theorem EO(k:Int)(L:List (Value×List MC)):(AU k L).length=L.length:=by
 induction L generalizing k with
 |nil=>rfl
 |cons x r ih=>simp[AU,ih]
theorem ID(k:Int)(L:List (Value×List MC))(x:Value×List MC):Ct k (L++[x])=Ct k L+2*(x.2.length:Int):=by
 induction L generalizing k with
 |nil=>rfl
 |cons y r ih=>simp only[List.cons_append,Ct];exact ih _
theorem FE(k:Int)(L:List (Value×List MC))(x:Value×List MC):AU k (L++[x])=AU k L++[(x.1,Ba (Ct k L) x.2.length)]:=by
 induction L generalizing k with
 |nil=>rfl
 |cons y r ih=>simp only[List.cons_append,AU,Ct];rw[ih]
theorem Ji(k:Int)(L M:List (Value×List MC)):AU k (L++M)=AU k L++AU (Ct k L) M:=by
 induction L generalizing k with
 |nil=>rfl
 |cons y r ih=>simp only[List.cons_append,AU,Ct];rw[ih]
theorem Gh(k:Int)(L:List (Value×List MC))(h:∀x∈L,x.2.length<=1048576):k<=Ct k L/\Ct k L<=k+2097152*(L.length:Int):=by
 induction L generalizing k with
 |nil=>simp[Ct]
 |cons x r ih=>
  have h1:=h x (by simp);have h2:=ih (k+2*(x.2.length:Int)) (fun y hy=>h y (by simp[hy]));simp only[Ct,List.length_cons];omega
end Go.Proofs.YtlejplpkomddeaaGreat
