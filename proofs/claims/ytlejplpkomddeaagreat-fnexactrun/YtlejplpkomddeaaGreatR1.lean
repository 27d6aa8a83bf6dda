import Derived.Test.YtlejplpkomddeaaGreatR0
import Derived.Deep.MidRow
import Derived.Outline
import Derived.Laws.CopyOwn
import Derived.Below
import Derived.Deep.Cut
namespace Go.Proofs.YtlejplpkomddeaaGreat
open Go.ChangeShapes Go.WideShapes Go.ChangeAt Go.RowKit
set_option linter.unusedVariables false
set_option maxHeartbeats 2000000
set_option maxRecDepth 100000
def Di:Array Value:=#[.string ⟨#[110,111,112]⟩,.int .i64 1,.int .i64 0,
 .string ⟨#[99,111,110,115,116]⟩,.int .i64 1,.int .i64 1,
 .string ⟨#[108,111,97,100,108,111,99,97,108]⟩,.int .i64 1,.int .i64 2,
 .string ⟨#[115,116,111,114,101,108,111,99,97,108]⟩,.int .i64 1,.int .i64 2,
 .string ⟨#[108,111,97,100]⟩,.int .i64 2,.int .i64 3,
 .string ⟨#[115,116,111,114,101]⟩,.int .i64 2,.int .i64 3,
 .string ⟨#[108,111,97,100,97,116]⟩,.int .i64 3,.int .i64 4,
 .string ⟨#[115,116,111,114,101,97,116]⟩,.int .i64 3,.int .i64 4,
 .string ⟨#[97,100,100]⟩,.int .i64 1,.int .i64 5,
 .string ⟨#[115,117,98]⟩,.int .i64 1,.int .i64 5,
 .string ⟨#[109,117,108]⟩,.int .i64 3,.int .i64 5,
 .string ⟨#[100,105,118]⟩,.int .i64 8,.int .i64 5,
 .string ⟨#[109,111,100]⟩,.int .i64 8,.int .i64 5,
 .string ⟨#[97,110,100]⟩,.int .i64 1,.int .i64 6,
 .string ⟨#[111,114]⟩,.int .i64 1,.int .i64 6,
 .string ⟨#[120,111,114]⟩,.int .i64 1,.int .i64 6,
 .string ⟨#[110,111,116]⟩,.int .i64 1,.int .i64 6,
 .string ⟨#[115,104,108]⟩,.int .i64 1,.int .i64 0,
 .string ⟨#[115,104,114]⟩,.int .i64 1,.int .i64 0,
 .string ⟨#[110,101,103]⟩,.int .i64 1,.int .i64 0,
 .string ⟨#[101,113]⟩,.int .i64 1,.int .i64 7,
 .string ⟨#[108,101,115,115]⟩,.int .i64 1,.int .i64 5,
 .string ⟨#[99,111,110,118]⟩,.int .i64 1,.int .i64 8,
 .string ⟨#[100,117,112]⟩,.int .i64 1,.int .i64 0,
 .string ⟨#[100,114,111,112]⟩,.int .i64 1,.int .i64 0,
 .string ⟨#[106,117,109,112]⟩,.int .i64 2,.int .i64 9,
 .string ⟨#[106,117,109,112,122,101,114,111]⟩,.int .i64 2,.int .i64 9,
 .string ⟨#[103,117,97,114,100]⟩,.int .i64 2,.int .i64 10,
 .string ⟨#[99,97,108,108]⟩,.int .i64 4,.int .i64 11,
 .string ⟨#[114,101,116,117,114,110]⟩,.int .i64 2,.int .i64 0]
theorem Lg(w:World):Calls Tryz.prog 123 #[] w fun e w'=>e=.returned (.slice (some ⟨w.heap.size,0,none⟩) 30 30)/\w'=w.alloc (.cells Di 85):=by
 go_enter Tryz.func123,Tryz.ntmps123;go_wp2_with (show wpList _ _ _ ({dst:=some 1,op:=Op.build _ _,type:=_,pos:=_,after:=_,guard:=_}::_) _ _;refine Gx 30 195 85 30 #[(0,.tmp 1),(1,.tmp 2),(2,.tmp 3),(3,.tmp 4),(4,.tmp 5),(5,.tmp 6),(6,.tmp 7),(7,.tmp 8),(8,.tmp 9),(9,.tmp 10),(10,.tmp 11),(11,.tmp 12),(12,.tmp 13),(13,.tmp 14),(14,.tmp 15),(15,.tmp 16),(16,.tmp 17),(17,.tmp 18),(18,.tmp 19),(19,.tmp 20),(20,.tmp 21),(21,.tmp 22),(22,.tmp 23),(23,.tmp 24),(24,.tmp 25),(25,.tmp 26),(26,.tmp 27),(27,.tmp 28),(28,.tmp 29),(29,.tmp 30)] 31 0 32 Di ((Tryz.prog.info? 85).getD default) (.agg #[.string ⟨#[]⟩,.int .i64 0,.int .i64 0]) (by kernel_rfl) rfl (by decide) (by decide) Tryz.underlying195 (by kernel_rfl) (by kernel_rfl) (of_decide_eq_true (by kernel_rfl)) (of_decide_eq_true (by kernel_rfl)) ?_;intro a' hp hd);refine bodyPost_ret (v:=.slice (some ⟨w.heap.size,0,none⟩) 30 30) ?_ hd ⟨rfl,rfl⟩;rw[<-hp];exact results_tmp Tryz.results123 _ _ _
def Cq(k:Nat):List Value:=(Di.extract (3*k) (3*k+3)).toList
theorem Ih(k:Nat)(hk:k<30):(Cq k).length=3:=by
 have h0:Di.size=90:=by kernel_rfl
 simp[Cq,h0];omega
theorem Ks(k:Nat)(hk:k<30):(Cq k).toArray.all (·.oneCell')=true:=by
 have h0:Di.all (·.oneCell')=true:=by kernel_rfl
 rw[Array.all_eq_true_iff_forall_mem]at h0⊢;intro v hv;simp only[Cq,Array.toArray_toList]at hv;obtain⟨i,hi,rfl⟩:=Array.mem_iff_getElem.1 hv;rw[Array.getElem_extract];exact h0 _ (Array.getElem_mem _)
theorem Ix(w:World)(b k:Nat)(hk:k<30)(h:w.heap[b]?=some (.cells Di 85)):w.rangeAt b (k*3) (Cq k):=by
 intro j v hv;have h0:Di.size=90:=by kernel_rfl
 rw[cell_of_row w b _ Di _ _ h];simp only[Cq,Array.getElem?_toList]at hv;rw[Array.getElem?_extract]at hv;split at hv
 ·rw[<-hv,Nat.mul_comm]
 ·cases hv
theorem GK(w:World):(zeroValue 85).run Tryz.prog w=.ok (.agg #[.string ⟨#[]⟩,.int .i64 0,.int .i64 0]) w:=by kernel_rfl
theorem MN(op:Int)(w:World)(h:op<0\/29<op):Calls Tryz.prog 75 #[.int .i64 op] w fun e w'=>e=.returned (.agg #[.string ⟨#[]⟩,.int .i64 0,.int .i64 0])/\Below w.heap.size w w':=by
 have hz:=GK;rcases h with h|h
 ·go_enter Tryz.func75,Tryz.ntmps75
  go_wp2
  exact bodyPost_ret (v:=.agg #[.string ⟨#[]⟩,.int .i64 0,.int .i64 0]) (by simp[results,Tryz.results75,go_sem]) rfl ⟨rfl,(Below.refl _ _).alloc lR _⟩
 ·have h0:decide (op<0)=false:=by simp;omega
  have h1:decide (29<op)=true:=by simp;omega
  go_enter Tryz.func75,Tryz.ntmps75;go_wp2
  exact bodyPost_ret (v:=.agg #[.string ⟨#[]⟩,.int .i64 0,.int .i64 0]) (by simp[results,Tryz.results75,go_sem]) rfl ⟨rfl,(Below.refl _ _).alloc lR _⟩
theorem NR(k:Nat)(hk:k<30)(w:World):Calls Tryz.prog 75 #[.int .i64 (k:Int)] w fun e w'=>e=.returned (.agg (Cq k).toArray)/\Below w.heap.size w w':=by
 have hz:=GK;have h0:decide ((k:Int)<0)=false:=by simp
 have h1:decide (29<(k:Int))=false:=by simp;omega
 have HS:=h2 (Ih k hk) (Ks k hk);go_enter Tryz.func75,Tryz.ntmps75
 go_wp2_with (first
  |(go_at_call 123;refine(Lg _).mono ?_;rintro e w1 ⟨rfl,rfl⟩)
  |(show wpList _ _ _ ({dst:=some 13,op:=Op.load 85 _,type:=_,pos:=_,after:=_,guard:=_}::_) _ _;refine wpList_load_mid rfl 85 (.tmp 12) rfl (w.heap.size+1) (k*3) rfl (Cq k) _ (Ix _ _ _ hk (heap_alloc2_new _ _ _)) Tryz.underlying85 rfl (by rw[HS.out.1];kernel_rfl) ?_)
  |(show wpList _ _ _ ({dst:=none,op:=Op.store 85 _ _,type:=_,pos:=_,after:=_,guard:=_}::_) _ _;refine wpList_store_row rfl 85 (.tmp 2) (.tmp 13) rfl w.heap.size (Cq k).toArray rfl rfl 85 #[.string ⟨#[]⟩,.int .i64 0,.int .i64 0] (heap_alloc2_old _ _ _) (by rw[List.size_toArray,HS.out.1];kernel_rfl) (by show 3=(Cq k).length;rw[HS.out.1]) HS.out.2 ?_))
 refine bodyPost_ret (v:=.agg (Cq k).toArray) (results_cell_row Tryz.results75 _ _ w.heap.size 85 (Cq k).toArray (0,0) _ rfl (setRow_heap _ _ _ _ _ _ (heap_alloc2_old _ _ _)) Tryz.underlying85 rfl (by rw[List.size_toArray,HS.out.1];kernel_rfl)) rfl ⟨rfl,?_⟩;exact below_setRow (((Below.refl _ _).alloc lR _).alloc (by simp) _) lR _
structure MI where
 op:Int
 a:Int
 b:Int
 c:Int
structure MC where
 type:Int
 word:Int
structure MT where
 func:Int
 head:Int
 counter:Int
 init:Int
def MI.cells(x:MI):List Value:=[.int .i64 x.op,.int .i64 x.a,.int .i64 x.b,.int .i64 x.c]
def MC.cells(x:MC):List Value:=[.int .i64 x.type,.int .u32 x.word]
def MT.cells(x:MT):List Value:=[.int .i64 x.func,.int .i64 x.head,.int .i64 x.counter,.int .u32 x.init]
theorem MI.cells_length(x:MI):x.cells.length=4:=rfl
theorem MC.cells_length(x:MC):x.cells.length=2:=rfl
theorem MT.cells_length(x:MT):x.cells.length=4:=rfl
def Ae(z:Int):List Value:=[.int .i64 z]
theorem An(z:Int):(Ae z).length=1:=rfl
theorem Jw:(Tryz.prog.info? 2).map (fun i=>(i.zero,i.size,i.bytes))=some (some (.int .i64 0),1,8):=by kernel_rfl
theorem Qj:(Tryz.prog.info? 134).map (fun i=>(i.zero,i.size,i.bytes))=some (some (.agg #[.int .i64 0,.int .i64 0,.int .i64 0,.int .i64 0]),4,32):=by kernel_rfl
theorem Qs:(Tryz.prog.info? 143).map (fun i=>(i.zero,i.size,i.bytes))=some (some (.agg #[.int .i64 0,.int .u32 0]),2,16):=by kernel_rfl
theorem Qt:(Tryz.prog.info? 148).map (fun i=>(i.zero,i.size,i.bytes))=some (some (.agg #[.int .i64 0,.int .i64 0,.int .i64 0,.int .u32 0]),4,32):=by kernel_rfl
theorem KO(x:MI)(w:World):
 Calls Tryz.prog 184 #[.agg #[.int .i64 x.op,.int .i64 x.a,.int .i64 x.b,.int .i64 x.c]] w fun e w'=>e=.returned (.agg #[.int .i64 x.op,.int .i64 x.a,.int .i64 x.b,.int .i64 x.c])/\Below w.heap.size w w':=by
 go_enter Tryz.func184,Tryz.ntmps184;go_wp2
 exact bodyPost_ret (v:=.agg #[.int .i64 x.op,.int .i64 x.a,.int .i64 x.b,.int .i64 x.c]) (by simp[results,Tryz.results184,go_sem]) rfl ⟨rfl,(((Below.refl _ _).alloc lR _).alloc (by simp) _).alloc (by simp;omega) _⟩
theorem Ky(x:MC)(w:World):
 Calls Tryz.prog 81 #[.agg #[.int .i64 x.type,.int .u32 x.word]] w fun e w'=>e=.returned (.agg #[.int .i64 x.type,.int .u32 x.word])/\Below w.heap.size w w':=by
 go_enter Tryz.func81,Tryz.ntmps81;go_wp2
 exact bodyPost_ret (v:=.agg #[.int .i64 x.type,.int .u32 x.word]) (by simp[results,Tryz.results81,go_sem]) rfl ⟨rfl,(((Below.refl _ _).alloc lR _).alloc (by simp) _).alloc (by simp;omega) _⟩
theorem LH(x:MT)(w:World):
 Calls Tryz.prog 83 #[.agg #[.int .i64 x.func,.int .i64 x.head,.int .i64 x.counter,.int .u32 x.init]] w fun e w'=>e=.returned (.agg #[.int .i64 x.func,.int .i64 x.head,.int .i64 x.counter,.int .u32 x.init])/\Below w.heap.size w w':=by
 go_enter Tryz.func83,Tryz.ntmps83;go_wp2
 exact bodyPost_ret (v:=.agg #[.int .i64 x.func,.int .i64 x.head,.int .i64 x.counter,.int .u32 x.init]) (by simp[results,Tryz.results83,go_sem]) rfl ⟨rfl,(((Below.refl _ _).alloc lR _).alloc (by simp) _).alloc (by simp;omega) _⟩
theorem JJ(s:Value)(L:Nat)(ys:List Int)(w:World)(hL:L<=1048576)(h:Rd w 1 s L (ys.flatMap Ae))(hlen:ys.length=L):
 Calls Tryz.prog 80 #[s] w fun e w'=>e=.returned (.slice (some ⟨w.heap.size,0,none⟩) L L)/\w'.ownsRow w.heap.size 2 1 (.slice (some ⟨w.heap.size,0,none⟩) L L) L (ys.flatMap Ae)/\Below w.heap.size w w':=by
 obtain⟨i0,hi,hz0,hz1,hz2⟩:=info_parts Jw;have H1:=h2 h hlen;obtain⟨a1,c1,rfl⟩:=h.is_slice;clear h hlen;go_enter Tryz.func80,Tryz.ntmps80;go_wp2_with (at_make;refine wpList_make_full _ rfl _ _ 113 rfl w.heap.size 2 i0 (.int .i64 0) 1 Tryz.underlying113 hi hz0 hz1 .i64 .i64 _ _ L rfl rfl rfl rfl (by rw[hz2];omega) (by unfold maxLen;omega) lR ?_;intro w1 hown hgrow);rw[Cv Ae [.int .i64 0] ys L (.int .i64 0) 1 rfl rfl (by omega)]at hown;have hB:Below w.heap.size w w1:=(Below.refl _ _).grown hgrow lR (fun k hk=>by cases hk);clear hgrow;go_loopw [4] (fun i wr=>∃k:Nat,k<=L/\i=.int .i64 k/\wr.ownsRow w.heap.size 2 1 (.slice (some ⟨w.heap.size,0,none⟩) L L) L (CK Ae [.int .i64 0] ys k L)/\Below w.heap.size w wr) (fun i _=>L-(intOf i).toNat)
 case atStart=>exact⟨0,by omega,rfl,hown,hB⟩
 case round=>
  clear hown hB;obtain⟨k,hk,rfl,hown,hbel⟩:=hrel;by_cases hlt:k<L
  ·obtain⟨x,hx⟩:∃x,ys[k]?=some x:=⟨_,gE (by rw[H1.out.2];exact hlt)⟩
   have hnext:=CN Ae [.int .i64 0] ys k L x hx;rw[Cw Ae [.int .i64 0] ys k L hlt]at hown;have hA:((ys.take k).flatMap Ae).length=k*1:=by rw[Az Ae 1 An,List.length_take,H1.out.2,Nat.min_eq_left hk]
   generalize (ys.take k).flatMap Ae=A at hown hnext hA;generalize (List.replicate (L-(k+1)) [Value.int .i64 0]).flatten=R at hown hnext;rcases H1.out.1.2 with⟨e0,_⟩|⟨g,o,c,e1,hc1⟩
   ·omega
   ·simp only[sJ,true_and]at e1
    obtain⟨rfl,rfl⟩:=e1;have i0:=Rd.elem An hc1 k x hx 0 _ rfl;rw[<-hbel.cell (bL i0)]at i0;rw[Nat.mul_one,Nat.add_zero]at i0;have f0:=hown.frozenAt k;have d0:=hown.cellAt k (by omega);rw[Nat.mul_one]at hA;rw[List.getElem?_append_right (by omega),hA,Nat.sub_self]at d0;have HO:=h3 hown hA hnext;clear hown hA hnext hc1 hx;simp only[List.cons_append,gZ]at d0;go_wp2
    go_roundw
    case rel=>
     refine⟨k+1,by omega,by go_num,?_,hbel.setCell lR _⟩;have hst:=(HO.out.1.stored k (.int .i64 x)).1;rw[PA A R _ _ k HO.out.2.1]at hst;rw[HO.out.2.2];exact hst
    case measure=>simp[intOf];omega
  ·have hkn:k=L:=by omega
   subst hkn;rw[Dc _ _ _ _ H1.out.2]at hown;have HO:=AS hown;clear hown;go_wp2
   go_ret
   exact⟨rfl,HO.out,hbel⟩
def Ci(f t:Int):Bool:=if f==5 then(t==2||t==3)else if f==6 then(t==1||t==3)else if f==7 then CE t else true
def AD(op t x y:Int):Int:=
 if op=8 then(if Ci 5 t then MA t x y else 0)else
 if op=9 then(if Ci 5 t then MQ t x y else 0)else
 if op=10 then(if Ci 5 t then MU t x y else 0)else
 if op=11 then(if Ci 5 t then Gq t x y else 0)else
 if op=12 then(if Ci 5 t then Gn t x y else 0)else
 if op=13 then(if Ci 6 t then Nv t x y else 0)else
 if op=14 then(if Ci 6 t then Qo t x y else 0)else
 if op=15 then(if Ci 6 t then N4 t x y else 0)else
 if op=16 then(if Ci 6 t then IQ t x y else 0)else
 if op=17 then(if Ci 0 t then N3 t x y else 0)else
 if op=18 then(if Ci 0 t then Nw t x y else 0)else
 if op=19 then(if Ci 0 t then NE t x y else 0)else
 if op=20 then(if Ci 7 t then Qd t x y else 0)else
 if op=21 then(if Ci 5 t then FQ t x y else 0)else
 0
theorem ML{op:Int}(h:op<8\/21<op)(t x y:Int):AD op t x y=0:=by
 unfold AD;repeat rw[if_neg (by omega)]
theorem OI(t x y:Int)(w:World)(hy:(y==0)=true):Calls Tryz.prog 183 #[.int .i64 t,.int .u32 x,.int .u32 y] w fun e w'=>e=.returned (.tuple #[.int .u32 0,.int .u32 0])/\w'=w:=by
 go_enter Tryz.func183,Tryz.ntmps183;go_wp2
 go_ret2
 exact⟨rfl,rfl⟩
theorem OC(t x y:Int)(w:World)(hy:(y==0)=false)(ht:(t==3)=true):Calls Tryz.prog 183 #[.int .i64 t,.int .u32 x,.int .u32 y] w fun e w'=>e=.returned (.tuple #[.int .u32 (K5 x y),.int .u32 (KB x y)])/\Below w.heap.size w w':=by
 have hn:¬y=0:=by simpa using hy
 have hq:K5 x y=x.tdiv y % 4294967296:=by unfold K5;rw[hy];rfl
 have hr:KB x y=x.tmod y:=by unfold KB;rw[hy];rfl
 have HQ:=h2 hq hr;clear hq hr;go_enter Tryz.func183,Tryz.ntmps183;go_wp2
 go_region
 go_wp2
 go_ret2
 exact⟨by rw[HQ.out.1,HQ.out.2];rfl,(Below.refl _ _).drew⟩
theorem Qc{n:Int}(h:-9223372036854775808<=n)(h':n<9223372036854775808):wrap64 n=n:=by unfold wrap64;omega
theorem NH(n:Int):-2147483648<=wrap32 n/\wrap32 n<2147483648:=by unfold wrap32;omega
theorem Pb{a b:Int}(h:-2147483648<=a)(h':a<2147483648):-2147483648<=a.tdiv b/\a.tdiv b<=2147483648:=by
 have h1:(a.tdiv b).natAbs<=a.natAbs:=by rw[Int.natAbs_tdiv];exact Nat.div_le_self _ _
 omega
theorem Qn(n:Int):IntKind.u32.wrap n=n % 4294967296:=rfl
theorem PK(x y:Int)(hy:(y==0)=false)(h:0<=y)(h':y<4294967296):Gq 2 x y=wrap64 ((wrap64 (wrap32 x)).tdiv (wrap64 (wrap32 y))) % 4294967296:=by
 have hx:=NH x;have hy2:=NH y;have hn:y≠0:=by simpa using hy
 have hw:(wrap32 y==0)=false:=by unfold wrap32;simp;omega
 have hd:=Pb (b:=wrap32 y) hx.1 hx.2;show IntKind.u32.wrap (LJ (wrap32 x) (wrap32 y))=_;unfold LJ;rw[hw,Qn,Qc (n:=wrap32 x) (by omega) (by omega),Qc (n:=wrap32 y) (by omega) (by omega),Qc (by omega) (by omega)];show wrap32 _ % _=_;generalize (wrap32 x).tdiv (wrap32 y)=q;unfold wrap32;omega
theorem PL(x y:Int)(hy:(y==0)=false)(h:0<=y)(h':y<4294967296):Gn 2 x y=(wrap64 (wrap32 x)).tmod (wrap64 (wrap32 y)) % 4294967296:=by
 have hx:=NH x;have hy2:=NH y;have hn:y≠0:=by simpa using hy
 have hw:(wrap32 y==0)=false:=by unfold wrap32;simp;omega
 show IntKind.u32.wrap (KB (wrap32 x) (wrap32 y))=_;unfold KB;rw[hw,Qn,Qc (n:=wrap32 x) (by omega) (by omega),Qc (n:=wrap32 y) (by omega) (by omega)];rfl
theorem Oq(x y:Int)(w:World)(hy:(y==0)=false)(hb:0<=y)(hb':y<4294967296):Calls Tryz.prog 183 #[.int .i64 2,.int .u32 x,.int .u32 y] w fun e w'=>e=.returned (.tuple #[.int .u32 (Gq 2 x y),.int .u32 (Gn 2 x y)])/\Below w.heap.size w w':=by
 have hn:¬wrap64 (wrap32 y)=0:=by
  have hy2:=NH y;have hn:y≠0:=by simpa using hy
  rw[Qc (by omega) (by omega)];unfold wrap32;omega
 have HQ:=h2 (PK x y hy hb hb') (PL x y hy hb hb');clear hb hb';go_enter Tryz.func183,Tryz.ntmps183;go_wp2
 go_region
 go_wp2
 go_ret2
 exact⟨by rw[HQ.out.1,HQ.out.2];rfl,(Below.refl _ _).drew⟩
theorem Jj(t x y:Int)(w:World)(ht:t=2\/t=3)(hb:0<=y)(hb':y<4294967296):Calls Tryz.prog 183 #[.int .i64 t,.int .u32 x,.int .u32 y] w fun e w'=>e=.returned (.tuple #[.int .u32 (Gq t x y),.int .u32 (Gn t x y)])/\Below w.heap.size w w':=by
 cases hy:(y==0)
 ·rcases ht with rfl|rfl
  ·exact Oq x y w hy hb hb'
  ·exact OC 3 x y w hy rfl
 ·have h0:y=0:=by simpa using hy
  subst h0;have hw:wrap32 0=0:=by unfold wrap32;omega
  have h1:Gq t x 0=0:=by
   rcases ht with rfl|rfl
   ·show IntKind.u32.wrap (LJ (wrap32 x) (wrap32 0))=0
    rw[hw];rfl
   ·rfl
  have h2:Gn t x 0=0:=by
   rcases ht with rfl|rfl
   ·show IntKind.u32.wrap (KB (wrap32 x) (wrap32 0))=0
    rw[hw];rfl
   ·rfl
  rw[h1,h2];refine(OI t x 0 w hy).mono ?_;rintro e w' ⟨rfl,rfl⟩;exact⟨rfl,Below.refl _ _⟩
def AX(f t:Int):Bool:=if f==5 then(t==2||t==3)else if f==6 then(t==1||t==3)else if f==7 then CE t else false
theorem Br(f t:Int)(w:World):Calls Tryz.prog 182 #[.int .i64 f,.int .i64 t] w fun e w'=>e=.returned (.bool (AX f t))/\w'=w:=by
 cases h5:(f==5)
 ·cases h6:(f==6)
  ·cases h7:(f==7)
   ·have hr:AX f t=false:=by simp only[AX,h5,h6,h7];rfl
    rw[hr];go_enter Tryz.func182,Tryz.ntmps182;go_wp2
    go_ret
    exact⟨rfl,rfl⟩
   ·have hr:AX f t=CE t:=by simp only[AX,h5,h6,h7];rfl
    rw[hr];go_enter Tryz.func182,Tryz.ntmps182;go_wp2_with (go_at_call 122;refine(BH _ _).mono ?_;rintro e w' ⟨rfl,rfl⟩);go_ret;exact⟨rfl,rfl⟩
  ·have hr:AX f t=(t==1||t==3):=by simp only[AX,h5,h6];rfl
   rw[hr];cases h1:(t==1)<;>
   ·go_enter Tryz.func182,Tryz.ntmps182
    go_wp2
    go_ret
    exact⟨rfl,rfl⟩
 ·have hr:AX f t=(t==2||t==3):=by simp only[AX,h5];rfl
  rw[hr];cases h1:(t==2)<;>
  ·go_enter Tryz.func182,Tryz.ntmps182
   go_wp2
   go_ret
   exact⟨rfl,rfl⟩
def BM(M:Nat):Array Value:=#[.func (.func 150) #[.pointer (some ⟨M,0,none⟩)] #[],.func (.func 151) #[.pointer (some ⟨M,0,none⟩)] #[],.func (.func 152) #[.pointer (some ⟨M,0,none⟩)] #[],.func (.func 153) #[.pointer (some ⟨M,0,none⟩)] #[],.func (.func 154) #[.pointer (some ⟨M,0,none⟩)] #[],.func (.func 155) #[.pointer (some ⟨M,0,none⟩)] #[],.func (.func 156) #[.pointer (some ⟨M,0,none⟩)] #[],.func (.func 157) #[.pointer (some ⟨M,0,none⟩)] #[],.func (.func 158) #[.pointer (some ⟨M,0,none⟩)] #[],.func (.func 158) #[.pointer (some ⟨M,0,none⟩)] #[],.func (.func 158) #[.pointer (some ⟨M,0,none⟩)] #[],.func (.func 158) #[.pointer (some ⟨M,0,none⟩)] #[],.func (.func 158) #[.pointer (some ⟨M,0,none⟩)] #[],.func (.func 158) #[.pointer (some ⟨M,0,none⟩)] #[],.func (.func 158) #[.pointer (some ⟨M,0,none⟩)] #[],.func (.func 158) #[.pointer (some ⟨M,0,none⟩)] #[],.func (.func 159) #[.pointer (some ⟨M,0,none⟩)] #[],.func (.func 158) #[.pointer (some ⟨M,0,none⟩)] #[],.func (.func 158) #[.pointer (some ⟨M,0,none⟩)] #[],.func (.func 159) #[.pointer (some ⟨M,0,none⟩)] #[],.func (.func 160) #[.pointer (some ⟨M,0,none⟩)] #[],.func (.func 160) #[.pointer (some ⟨M,0,none⟩)] #[],.func (.func 161) #[.pointer (some ⟨M,0,none⟩)] #[],.func (.func 162) #[.pointer (some ⟨M,0,none⟩)] #[],.func (.func 163) #[.pointer (some ⟨M,0,none⟩)] #[],.func (.func 164) #[.pointer (some ⟨M,0,none⟩)] #[],.func (.func 165) #[.pointer (some ⟨M,0,none⟩)] #[],.func (.func 166) #[.pointer (some ⟨M,0,none⟩)] #[],.func (.func 167) #[.pointer (some ⟨M,0,none⟩)] #[],.func (.func 168) #[.pointer (some ⟨M,0,none⟩)] #[]]
def GC:Array Value:=#[.nilFunc,.nilFunc,.nilFunc,.nilFunc,.nilFunc,.nilFunc,.nilFunc,.nilFunc,.nilFunc,.nilFunc,.nilFunc,.nilFunc,.nilFunc,.nilFunc,.nilFunc,.nilFunc,.nilFunc,.nilFunc,.nilFunc,.nilFunc,.nilFunc,.nilFunc,.nilFunc,.nilFunc,.nilFunc,.nilFunc,.nilFunc,.nilFunc,.nilFunc,.nilFunc]
set_option maxRecDepth 100000 in
theorem Ng(w:World):(zeroValue 92).run Tryz.prog w=.ok (.agg GC) w:=by kernel_rfl
set_option maxRecDepth 100000 in
set_option maxHeartbeats 1000000 in
theorem Hj(M:Nat)(w:World):Calls Tryz.prog 97 #[.pointer (some ⟨M,0,none⟩)] w fun e w'=>e=.returned (.agg (BM M))/\Below w.heap.size w w':=by
 have hz:=Ng;go_enter Tryz.func97,Tryz.ntmps97;go_upto_region 1 with fail
 refine wp_region_lit ?_;refine IK 61 92 92 (.tmp 2) (.tmp 63) w.heap.size (BM M) GC 2 (by kernel_rfl) rfl (heap_alloc_new _ _) (by kernel_rfl) (by kernel_rfl) (by kernel_rfl) ?_;intro a' hp hd;go_wp2_with fail
 rw[World.setRow_alloc_new];exact bodyPost_ret (v:=.agg (BM M)) (results_cell_row Tryz.results97 _ _ w.heap.size 92 (BM M) (0,0) _ hp (heap_alloc_new _ _) Tryz.underlying92 rfl (by kernel_rfl)) hd ⟨rfl,(Below.refl _ _).alloc (Nat.le_refl _) _⟩
def Bt(op:Int):Array Value:=if 0<=op/\op<=29 then(Cq op.toNat).toArray else #[.string ⟨#[]⟩,.int .i64 0,.int .i64 0]
theorem Jh(k:Nat)(hk:k<30):Bt (k:Int)=(Cq k).toArray:=by
 unfold Bt;rw[if_pos (by omega)];rfl
theorem Ge{op:Int}(h:op<0\/29<op):Bt op=#[.string ⟨#[]⟩,.int .i64 0,.int .i64 0]:=by
 unfold Bt;rw[if_neg (by omega)]
theorem Gr(k:Nat)(hk:k<30):∃(s:ByteArray) (c f:Int),(Cq k).toArray=#[.string s,.int .i64 c,.int .i64 f]:=by
 have h:k=0\/k=1\/k=2\/k=3\/k=4\/k=5\/k=6\/k=7\/k=8\/k=9\/k=10\/k=11\/k=12\/k=13\/k=14\/k=15\/k=16\/k=17\/k=18\/k=19\/k=20\/k=21\/k=22\/k=23\/k=24\/k=25\/k=26\/k=27\/k=28\/k=29:=by omega
 clear hk;rcases h with rfl|rfl|rfl|rfl|rfl|rfl|rfl|rfl|rfl|rfl|rfl|rfl|rfl|rfl|rfl|rfl|rfl|rfl|rfl|rfl|rfl|rfl|rfl|rfl|rfl|rfl|rfl|rfl|rfl|rfl<;>exact⟨_,_,_,rfl⟩
theorem GQ(op:Int):∃(s:ByteArray) (c f:Int),Bt op=#[.string s,.int .i64 c,.int .i64 f]:=by
 by_cases h:0<=op/\op<=29
 ·unfold Bt
  rw[if_pos h];exact Gr _ (by omega)
 ·unfold Bt
  rw[if_neg h];exact⟨_,_,_,rfl⟩
theorem AZ(op:Int)(w:World):Calls Tryz.prog 75 #[.int .i64 op] w fun e w'=>e=.returned (.agg (Bt op))/\Below w.heap.size w w':=by
 by_cases h:op<0\/29<op
 ·rw[Ge h]
  exact MN op w h
 ·obtain⟨k,rfl⟩:=Int.eq_ofNat_of_zero_le (show 0<=op by omega)
  rw[Jh k (by omega)];exact NR k (by omega) w
theorem LP(k:Nat)(hk:k<30)(w:World):(Instr.field 88 (.agg (Cy k)) 0).run Tryz.prog w=.ok (.agg (Cq k).toArray) w:=by
 have h:k=0\/k=1\/k=2\/k=3\/k=4\/k=5\/k=6\/k=7\/k=8\/k=9\/k=10\/k=11\/k=12\/k=13\/k=14\/k=15\/k=16\/k=17\/k=18\/k=19\/k=20\/k=21\/k=22\/k=23\/k=24\/k=25\/k=26\/k=27\/k=28\/k=29:=by omega
 clear hk;rcases h with rfl|rfl|rfl|rfl|rfl|rfl|rfl|rfl|rfl|rfl|rfl|rfl|rfl|rfl|rfl|rfl|rfl|rfl|rfl|rfl|rfl|rfl|rfl|rfl|rfl|rfl|rfl|rfl|rfl|rfl<;>(show Sem.run _ _ _=Result.ok _ _;kernel_rfl)
theorem L3(w:World):(Instr.field 88 (.agg #[.string ⟨#[]⟩,.int .i64 0,.int .i64 0,.nilFunc]) 0).run Tryz.prog w=.ok (.agg #[.string ⟨#[]⟩,.int .i64 0,.int .i64 0]) w:=by kernel_rfl
theorem Mi(op:Int)(row:Value)(s:ByteArray)(c f:Int)(hi:Bt op=#[.string s,.int .i64 c,.int .i64 f])
 (hrow:∀w,Calls Tryz.prog 209 #[.int .i64 op] w fun e w'=>e=.returned row/\Below w.heap.size w w')
 (hf:∀w,(Instr.field 88 row 0).run Tryz.prog w=.ok (.agg #[.string s,.int .i64 c,.int .i64 f]) w) (w:World):
 Calls Tryz.prog 204 #[.int .i64 op] w fun e w'=>e=.returned (.agg (Bt op))/\Below w.heap.size w w':=by
 have hz:=GK;rw[hi];clear hi;have H:=AS hrow;clear hrow;go_enter Tryz.func204,Tryz.ntmps204;go_wp2_with (go_at_call 209;refine(H.out _).mono ?_;rintro e w1 ⟨rfl,hb⟩;have hrow:w1.heap[w.heap.size]?=some (.cells #[.string ⟨#[]⟩,.int .i64 0,.int .i64 0] 85):=(hb.block _ (by simp)).trans (heap_alloc_new _ _);have hc0:=cell_of_row w1 _ 0 _ _ _ hrow;have hc1:=cell_of_row w1 _ 1 _ _ _ hrow;have hc2:=cell_of_row w1 _ 2 _ _ _ hrow;have hz0:=frozen_of_row w1 _ 0 _ _ hrow;have hz1:=frozen_of_row w1 _ 1 _ _ hrow;have hz2:=frozen_of_row w1 _ 2 _ _ hrow;simp at hc0 hc1 hc2);refine bodyPost_ret (v:=.agg #[.string s,.int .i64 c,.int .i64 f]) (by simp[results,Tryz.results204,go_sem,hc0,hc1,hc2]) rfl ⟨rfl,?_⟩;exact((((((Below.refl _ _).alloc lR _).trans (hb.mono (by simp))).setCell (by simp) _).setCell (by simp) _).setCell (by simp) _)
theorem ND(op:Int)(w:World):Calls Tryz.prog 204 #[.int .i64 op] w fun e w'=>e=.returned (.agg (Bt op))/\Below w.heap.size w w':=by
 by_cases h:op<0\/29<op
 ·exact Mi op _ _ _ _ (Ge h) (fun w=>Na op w h) L3 w
 ·obtain⟨k,rfl⟩:=Int.eq_ofNat_of_zero_le (show 0<=op by omega)
  obtain⟨s,c,f,hs⟩:=Gr k (by omega);exact Mi _ _ s c f ((Jh k (by omega)).trans hs) (fun w=>NP k (by omega) w) (fun w=>by rw[<-hs];exact LP k (by omega) w) w
theorem Jt(s:Value)(L:Nat)(ys:List MI)(w:World)(hL:L<=1048576)(h:Rd w 4 s L (ys.flatMap MI.cells))(hlen:ys.length=L):
 Calls Tryz.prog 126 #[s] w fun e w'=>e=.returned (.slice (some ⟨w.heap.size,0,none⟩) L L)/\w'.ownsRow w.heap.size 134 4 (.slice (some ⟨w.heap.size,0,none⟩) L L) L (ys.flatMap MI.cells)/\Below w.heap.size w w':=by
 obtain⟨i0,hi,hz0,hz1,hz2⟩:=info_parts Qj;have H1:=h2 h hlen;obtain⟨a1,c1,rfl⟩:=h.is_slice;clear h hlen;go_enter Tryz.func126,Tryz.ntmps126;go_wp2_with (at_make;refine wpList_make_full _ rfl _ _ 129 rfl w.heap.size 134 i0 (.agg #[.int .i64 0,.int .i64 0,.int .i64 0,.int .i64 0]) 4 Tryz.underlying129 hi hz0 hz1 .i64 .i64 _ _ L rfl rfl rfl rfl (by rw[hz2];omega) (by unfold maxLen;omega) lR ?_;intro w1 hown hgrow);rw[Cv MI.cells [.int .i64 0,.int .i64 0,.int .i64 0,.int .i64 0] ys L (.agg #[.int .i64 0,.int .i64 0,.int .i64 0,.int .i64 0]) 4 rfl rfl (by omega)]at hown;have hB:Below w.heap.size w w1:=(Below.refl _ _).grown hgrow lR (fun k hk=>by cases hk);clear hgrow;go_loopw [4] (fun i wr=>∃k:Nat,k<=L/\i=.int .i64 k/\wr.ownsRow w.heap.size 134 4 (.slice (some ⟨w.heap.size,0,none⟩) L L) L (CK MI.cells [.int .i64 0,.int .i64 0,.int .i64 0,.int .i64 0] ys k L)/\Below w.heap.size w wr) (fun i _=>L-(intOf i).toNat)
 case atStart=>exact⟨0,by omega,rfl,hown,hB⟩
 case round=>
  clear hown hB;obtain⟨k,hk,rfl,hown,hbel⟩:=hrel;by_cases hlt:k<L
  ·obtain⟨x,hx⟩:∃x,ys[k]?=some x:=⟨_,gE (by rw[H1.out.2];exact hlt)⟩
   have hnext:=CN MI.cells [.int .i64 0,.int .i64 0,.int .i64 0,.int .i64 0] ys k L x hx;rw[Cw MI.cells [.int .i64 0,.int .i64 0,.int .i64 0,.int .i64 0] ys k L hlt]at hown;have hA:((ys.take k).flatMap MI.cells).length=k*4:=by rw[Az MI.cells 4 MI.cells_length,List.length_take,H1.out.2,Nat.min_eq_left hk]
   generalize (ys.take k).flatMap MI.cells=A at hown hnext hA;generalize (List.replicate (L-(k+1)) ([.int .i64 0,.int .i64 0,.int .i64 0,.int .i64 0]:List Value)).flatten=R at hown hnext;rcases H1.out.1.2 with⟨e0,_⟩|⟨g,o,c,e1,hc1⟩
   ·omega
   ·simp only[sJ,true_and]at e1
    obtain⟨rfl,rfl⟩:=e1;have i0:=Rd.elem MI.cells_length hc1 k x hx 0 _ rfl;have i1:=Rd.elem MI.cells_length hc1 k x hx 1 _ rfl;have i2:=Rd.elem MI.cells_length hc1 k x hx 2 _ rfl;have i3:=Rd.elem MI.cells_length hc1 k x hx 3 _ rfl;rw[<-hbel.cell (bL i0)]at i0;rw[<-hbel.cell (bL i1)]at i1;rw[<-hbel.cell (bL i2)]at i2;rw[<-hbel.cell (bL i3)]at i3;rw[Nat.add_zero]at i0;have HO:=h3 hown hA hnext;clear hown hA hnext hc1 hx;go_wp2_with fail
    refine(KO x wr).mono ?_;rintro e u ⟨rfl,hbu⟩;have hown:=Ag HO.out.1 hbu lR;have hA:=HO.out.2.1;have f0:=hown.frozenAt (k*4);have f1:=hown.frozenAt (k*4+1);have f2:=hown.frozenAt (k*4+2);have f3:=hown.frozenAt (k*4+3);have d0:=hown.cellAt (k*4) (by omega);have d1:=hown.cellAt (k*4+1) (by omega);have d2:=hown.cellAt (k*4+2) (by omega);have d3:=hown.cellAt (k*4+3) (by omega);rw[List.getElem?_append_right (by omega),hA]at d0 d1 d2 d3;rw[Nat.sub_self]at d0;rw[Nat.add_sub_cancel_left]at d1 d2 d3;simp only[List.cons_append,gZ,gS]at d0 d1 d2 d3;have HB:=h2 (hbel.trans (hbu.mono hbel.size)) hown;clear hown hA hbu hbel i0 i1 i2 i3;go_wp2
    go_roundw
    case rel=>
     refine⟨k+1,by omega,by go_num,?_,(((HB.out.1.setCell lR _).setCell lR _).setCell lR _).setCell lR _⟩;have s0:=(HB.out.2.stored (k*4) (.int .i64 x.op)).1;have s1:=(s0.stored (k*4+1) (.int .i64 x.a)).1;have s2:=(s1.stored (k*4+2) (.int .i64 x.b)).1;have s3:=(s2.stored (k*4+3) (.int .i64 x.c)).1;rw[Qa A R _ _ _ _ _ _ _ _ (k*4) HO.out.2.1]at s3;rw[HO.out.2.2];exact s3
    case measure=>simp[intOf];omega
  ·have hkn:k=L:=by omega
   subst hkn;rw[Dc _ _ _ _ H1.out.2]at hown;have HO:=AS hown;clear hown;go_wp2
   go_ret
   exact⟨rfl,HO.out,hbel⟩
theorem K8(s:Value)(L:Nat)(ys:List MT)(w:World)(hL:L<=1048576)(h:Rd w 4 s L (ys.flatMap MT.cells))(hlen:ys.length=L):
 Calls Tryz.prog 36 #[s] w fun e w'=>e=.returned (.slice (some ⟨w.heap.size,0,none⟩) L L)/\w'.ownsRow w.heap.size 148 4 (.slice (some ⟨w.heap.size,0,none⟩) L L) L (ys.flatMap MT.cells)/\Below w.heap.size w w':=by
 obtain⟨i0,hi,hz0,hz1,hz2⟩:=info_parts Qt;have H1:=h2 h hlen;obtain⟨a1,c1,rfl⟩:=h.is_slice;clear h hlen;go_enter Tryz.func36,Tryz.ntmps36;go_wp2_with (at_make;refine wpList_make_full _ rfl _ _ 43 rfl w.heap.size 148 i0 (.agg #[.int .i64 0,.int .i64 0,.int .i64 0,.int .u32 0]) 4 Tryz.underlying43 hi hz0 hz1 .i64 .i64 _ _ L rfl rfl rfl rfl (by rw[hz2];omega) (by unfold maxLen;omega) lR ?_;intro w1 hown hgrow);rw[Cv MT.cells [.int .i64 0,.int .i64 0,.int .i64 0,.int .u32 0] ys L (.agg #[.int .i64 0,.int .i64 0,.int .i64 0,.int .u32 0]) 4 rfl rfl (by omega)]at hown;have hB:Below w.heap.size w w1:=(Below.refl _ _).grown hgrow lR (fun k hk=>by cases hk);clear hgrow;go_loopw [4] (fun i wr=>∃k:Nat,k<=L/\i=.int .i64 k/\wr.ownsRow w.heap.size 148 4 (.slice (some ⟨w.heap.size,0,none⟩) L L) L (CK MT.cells [.int .i64 0,.int .i64 0,.int .i64 0,.int .u32 0] ys k L)/\Below w.heap.size w wr) (fun i _=>L-(intOf i).toNat)
 case atStart=>exact⟨0,by omega,rfl,hown,hB⟩
 case round=>
  clear hown hB;obtain⟨k,hk,rfl,hown,hbel⟩:=hrel;by_cases hlt:k<L
  ·obtain⟨x,hx⟩:∃x,ys[k]?=some x:=⟨_,gE (by rw[H1.out.2];exact hlt)⟩
   have hnext:=CN MT.cells [.int .i64 0,.int .i64 0,.int .i64 0,.int .u32 0] ys k L x hx;rw[Cw MT.cells [.int .i64 0,.int .i64 0,.int .i64 0,.int .u32 0] ys k L hlt]at hown;have hA:((ys.take k).flatMap MT.cells).length=k*4:=by rw[Az MT.cells 4 MT.cells_length,List.length_take,H1.out.2,Nat.min_eq_left hk]
   generalize (ys.take k).flatMap MT.cells=A at hown hnext hA;generalize (List.replicate (L-(k+1)) ([.int .i64 0,.int .i64 0,.int .i64 0,.int .u32 0]:List Value)).flatten=R at hown hnext;rcases H1.out.1.2 with⟨e0,_⟩|⟨g,o,c,e1,hc1⟩
   ·omega
   ·simp only[sJ,true_and]at e1
    obtain⟨rfl,rfl⟩:=e1;have i0:=Rd.elem MT.cells_length hc1 k x hx 0 _ rfl;have i1:=Rd.elem MT.cells_length hc1 k x hx 1 _ rfl;have i2:=Rd.elem MT.cells_length hc1 k x hx 2 _ rfl;have i3:=Rd.elem MT.cells_length hc1 k x hx 3 _ rfl;rw[<-hbel.cell (bL i0)]at i0;rw[<-hbel.cell (bL i1)]at i1;rw[<-hbel.cell (bL i2)]at i2;rw[<-hbel.cell (bL i3)]at i3;rw[Nat.add_zero]at i0;have HO:=h3 hown hA hnext;clear hown hA hnext hc1 hx;go_wp2_with fail
    refine(LH x wr).mono ?_;rintro e u ⟨rfl,hbu⟩;have hown:=Ag HO.out.1 hbu lR;have hA:=HO.out.2.1;have f0:=hown.frozenAt (k*4);have f1:=hown.frozenAt (k*4+1);have f2:=hown.frozenAt (k*4+2);have f3:=hown.frozenAt (k*4+3);have d0:=hown.cellAt (k*4) (by omega);have d1:=hown.cellAt (k*4+1) (by omega);have d2:=hown.cellAt (k*4+2) (by omega);have d3:=hown.cellAt (k*4+3) (by omega);rw[List.getElem?_append_right (by omega),hA]at d0 d1 d2 d3;rw[Nat.sub_self]at d0;rw[Nat.add_sub_cancel_left]at d1 d2 d3;simp only[List.cons_append,gZ,gS]at d0 d1 d2 d3;have HB:=h2 (hbel.trans (hbu.mono hbel.size)) hown;clear hown hA hbu hbel i0 i1 i2 i3;go_wp2
    go_roundw
    case rel=>
     refine⟨k+1,by omega,by go_num,?_,(((HB.out.1.setCell lR _).setCell lR _).setCell lR _).setCell lR _⟩;have s0:=(HB.out.2.stored (k*4) (.int .i64 x.func)).1;have s1:=(s0.stored (k*4+1) (.int .i64 x.head)).1;have s2:=(s1.stored (k*4+2) (.int .i64 x.counter)).1;have s3:=(s2.stored (k*4+3) (.int .u32 x.init)).1;rw[Qa A R _ _ _ _ _ _ _ _ (k*4) HO.out.2.1]at s3;rw[HO.out.2.2];exact s3
    case measure=>simp[intOf];omega
  ·have hkn:k=L:=by omega
   subst hkn;rw[Dc _ _ _ _ H1.out.2]at hown;have HO:=AS hown;clear hown;go_wp2
   go_ret
   exact⟨rfl,HO.out,hbel⟩
theorem JY(s:Value)(L:Nat)(ys:List MC)(w:World)(hL:L<=1048576)(h:Rd w 2 s L (ys.flatMap MC.cells))(hlen:ys.length=L):
 Calls Tryz.prog 34 #[s] w fun e w'=>e=.returned (.slice (some ⟨w.heap.size,0,none⟩) L L)/\w'.ownsRow w.heap.size 143 2 (.slice (some ⟨w.heap.size,0,none⟩) L L) L (ys.flatMap MC.cells)/\Below w.heap.size w w':=by
 obtain⟨i0,hi,hz0,hz1,hz2⟩:=info_parts Qs;have H1:=h2 h hlen;obtain⟨a1,c1,rfl⟩:=h.is_slice;clear h hlen;go_enter Tryz.func34,Tryz.ntmps34;go_wp2_with (at_make;refine wpList_make_full _ rfl _ _ 41 rfl w.heap.size 143 i0 (.agg #[.int .i64 0,.int .u32 0]) 2 Tryz.underlying41 hi hz0 hz1 .i64 .i64 _ _ L rfl rfl rfl rfl (by rw[hz2];omega) (by unfold maxLen;omega) lR ?_;intro w1 hown hgrow);rw[Cv MC.cells [.int .i64 0,.int .u32 0] ys L (.agg #[.int .i64 0,.int .u32 0]) 2 rfl rfl (by omega)]at hown;have hB:Below w.heap.size w w1:=(Below.refl _ _).grown hgrow lR (fun k hk=>by cases hk);clear hgrow;go_loopw [4] (fun i wr=>∃k:Nat,k<=L/\i=.int .i64 k/\wr.ownsRow w.heap.size 143 2 (.slice (some ⟨w.heap.size,0,none⟩) L L) L (CK MC.cells [.int .i64 0,.int .u32 0] ys k L)/\Below w.heap.size w wr) (fun i _=>L-(intOf i).toNat)
 case atStart=>exact⟨0,by omega,rfl,hown,hB⟩
 case round=>
  clear hown hB;obtain⟨k,hk,rfl,hown,hbel⟩:=hrel;by_cases hlt:k<L
  ·obtain⟨x,hx⟩:∃x,ys[k]?=some x:=⟨_,gE (by rw[H1.out.2];exact hlt)⟩
   have hnext:=CN MC.cells [.int .i64 0,.int .u32 0] ys k L x hx;rw[Cw MC.cells [.int .i64 0,.int .u32 0] ys k L hlt]at hown;have hA:((ys.take k).flatMap MC.cells).length=k*2:=by rw[Az MC.cells 2 MC.cells_length,List.length_take,H1.out.2,Nat.min_eq_left hk]
   generalize (ys.take k).flatMap MC.cells=A at hown hnext hA;generalize (List.replicate (L-(k+1)) [Value.int .i64 0,Value.int .u32 0]).flatten=R at hown hnext;rcases H1.out.1.2 with⟨e0,_⟩|⟨g,o,c,e1,hc1⟩
   ·omega
   ·simp only[sJ,true_and]at e1
    obtain⟨rfl,rfl⟩:=e1;have i0:=Rd.elem MC.cells_length hc1 k x hx 0 _ rfl;have i1:=Rd.elem MC.cells_length hc1 k x hx 1 _ rfl;rw[<-hbel.cell (bL i0)]at i0;rw[<-hbel.cell (bL i1)]at i1;rw[Nat.add_zero]at i0;have HO:=h3 hown hA hnext;clear hown hA hnext hc1 hx;go_wp2_with fail
    refine(Ky x wr).mono ?_;rintro e u ⟨rfl,hbu⟩;have hown:=Ag HO.out.1 hbu lR;have hA:=HO.out.2.1;have f0:=hown.frozenAt (k*2);have f1:=hown.frozenAt (k*2+1);have d0:=hown.cellAt (k*2) (by omega);have d1:=hown.cellAt (k*2+1) (by omega);rw[List.getElem?_append_right (by omega),hA]at d0 d1;rw[Nat.sub_self]at d0;rw[Nat.add_sub_cancel_left]at d1;simp only[List.cons_append,gZ,gS]at d0 d1;have HB:=h2 (hbel.trans (hbu.mono hbel.size)) hown;clear hown hA hbu hbel i0 i1;go_wp2
    go_roundw
    case rel=>
     refine⟨k+1,by omega,by go_num,?_,(HB.out.1.setCell lR _).setCell lR _⟩;have s0:=(HB.out.2.stored (k*2) (.int .i64 x.type)).1;have s1:=(s0.stored (k*2+1) (.int .u32 x.word)).1;rw[Mu A R _ _ _ _ (k*2) HO.out.2.1]at s1;rw[HO.out.2.2];exact s1
    case measure=>simp[intOf];omega
  ·have hkn:k=L:=by omega
   subst hkn;rw[Dc _ _ _ _ H1.out.2]at hown;have HO:=AS hown;clear hown;go_wp2
   go_ret
   exact⟨rfl,HO.out,hbel⟩
theorem AW(s:ByteArray)(c f:Int)(w:World):(Instr.field 85 (.agg #[.string s,.int .i64 c,.int .i64 f]) 2).run Tryz.prog w=.ok (.int .i64 f) w:=by kernel_rfl
theorem K7(t x y:Int)(w:World):Calls Tryz.prog 125 #[.int .i64 17,.int .i64 t,.int .u32 x,.int .u32 y] w fun e w'=>e=.returned (.int .u32 (N3 t x y))/\Below w.heap.size w w':=by
 have h31:=Fg y;go_enter Tryz.func125,Tryz.ntmps125;go_wp2
 go_ret
 exact⟨rfl,Below.refl _ _⟩
theorem Ll(t x y:Int)(w:World):Calls Tryz.prog 125 #[.int .i64 18,.int .i64 t,.int .u32 x,.int .u32 y] w fun e w'=>e=.returned (.int .u32 (Nw t x y))/\Below w.heap.size w w':=by
 have h31:=Fg y;go_enter Tryz.func125,Tryz.ntmps125;go_wp2
 go_ret
 exact⟨rfl,Below.refl _ _⟩
theorem Lf(t x y:Int)(w:World):Calls Tryz.prog 125 #[.int .i64 19,.int .i64 t,.int .u32 x,.int .u32 y] w fun e w'=>e=.returned (.int .u32 (NE t x y))/\Below w.heap.size w w':=by
 have h31:=Fg y;go_enter Tryz.func125,Tryz.ntmps125;go_wp2
 go_ret
 exact⟨rfl,Below.refl _ _⟩
theorem AG(op t x y:Int)(w:World)(s:ByteArray)(c f:Int)(hi:Bt op=#[.string s,.int .i64 c,.int .i64 f])(h1:(op==17)=false)(h2:(op==18)=false)(h3:(op==19)=false)(ht:AX f t=false):
 Calls Tryz.prog 125 #[.int .i64 op,.int .i64 t,.int .u32 x,.int .u32 y] w fun e w'=>e=.returned (.int .u32 0)/\Below w.heap.size w w':=by
 have hfl:=AW;have hS:Hid (∀w,Calls Tryz.prog 75 #[.int .i64 op] w fun e w'=>e=.returned (.agg #[.string s,.int .i64 c,.int .i64 f])/\Below w.heap.size w w'):=fun w=>by rw[<-hi];exact AZ op w
 clear hi;go_enter Tryz.func125,Tryz.ntmps125
 go_wp2_with (first
  |(go_at_call 75;refine(hS.out _).mono ?_;rintro e w1 ⟨rfl,hb1⟩)
  |(go_at_call 182;refine(Br _ _ _).mono ?_;rintro e w' ⟨rfl,rfl⟩))
 go_ret
 exact⟨rfl,hb1⟩
theorem LU(t x y:Int)(w:World)(ht:AX 5 t=true):Calls Tryz.prog 125 #[.int .i64 8,.int .i64 t,.int .u32 x,.int .u32 y] w fun e w'=>e=.returned (.int .u32 (MA t x y))/\Below w.heap.size w w':=by
 have hi:Bt 8=#[.string ⟨#[97,100,100]⟩,.int .i64 1,.int .i64 5]:=by kernel_rfl
 have hfl:=AW;have hS:Hid (∀w,Calls Tryz.prog 75 #[.int .i64 8] w fun e w'=>e=.returned (.agg #[.string ⟨#[97,100,100]⟩,.int .i64 1,.int .i64 5])/\Below w.heap.size w w'):=fun w=>by rw[<-hi];exact AZ 8 w
 clear hi;go_enter Tryz.func125,Tryz.ntmps125
 go_wp2_with (first
  |(go_at_call 75;refine(hS.out _).mono ?_;rintro e w1 ⟨rfl,hb1⟩)
  |(go_at_call 182;refine(Br _ _ _).mono ?_;rintro e w' ⟨rfl,rfl⟩)
  |(go_at_call 176;refine(Bj _ _).mono ?_;rintro e w' ⟨rfl,rfl⟩))
 go_ret
 exact⟨rfl,hb1⟩
theorem LG(t x y:Int)(w:World)(ht:AX 5 t=true):Calls Tryz.prog 125 #[.int .i64 9,.int .i64 t,.int .u32 x,.int .u32 y] w fun e w'=>e=.returned (.int .u32 (MQ t x y))/\Below w.heap.size w w':=by
 have hi:Bt 9=#[.string ⟨#[115,117,98]⟩,.int .i64 1,.int .i64 5]:=by kernel_rfl
 have hfl:=AW;have hS:Hid (∀w,Calls Tryz.prog 75 #[.int .i64 9] w fun e w'=>e=.returned (.agg #[.string ⟨#[115,117,98]⟩,.int .i64 1,.int .i64 5])/\Below w.heap.size w w'):=fun w=>by rw[<-hi];exact AZ 9 w
 clear hi;go_enter Tryz.func125,Tryz.ntmps125
 go_wp2_with (first
  |(go_at_call 75;refine(hS.out _).mono ?_;rintro e w1 ⟨rfl,hb1⟩)
  |(go_at_call 182;refine(Br _ _ _).mono ?_;rintro e w' ⟨rfl,rfl⟩)
  |(go_at_call 176;refine(Bj _ _).mono ?_;rintro e w' ⟨rfl,rfl⟩))
 go_ret
 exact⟨rfl,hb1⟩
theorem KI(t x y:Int)(w:World)(ht:AX 5 t=true):Calls Tryz.prog 125 #[.int .i64 10,.int .i64 t,.int .u32 x,.int .u32 y] w fun e w'=>e=.returned (.int .u32 (MU t x y))/\Below w.heap.size w w':=by
 have hi:Bt 10=#[.string ⟨#[109,117,108]⟩,.int .i64 3,.int .i64 5]:=by kernel_rfl
 have hfl:=AW;have hS:Hid (∀w,Calls Tryz.prog 75 #[.int .i64 10] w fun e w'=>e=.returned (.agg #[.string ⟨#[109,117,108]⟩,.int .i64 3,.int .i64 5])/\Below w.heap.size w w'):=fun w=>by rw[<-hi];exact AZ 10 w
 clear hi;go_enter Tryz.func125,Tryz.ntmps125
 go_wp2_with (first
  |(go_at_call 75;refine(hS.out _).mono ?_;rintro e w1 ⟨rfl,hb1⟩)
  |(go_at_call 182;refine(Br _ _ _).mono ?_;rintro e w' ⟨rfl,rfl⟩)
  |(go_at_call 176;refine(Bj _ _).mono ?_;rintro e w' ⟨rfl,rfl⟩))
 go_ret
 exact⟨rfl,hb1⟩
theorem Kp(t x y:Int)(w:World)(ht:AX 6 t=true):Calls Tryz.prog 125 #[.int .i64 13,.int .i64 t,.int .u32 x,.int .u32 y] w fun e w'=>e=.returned (.int .u32 (Nv t x y))/\Below w.heap.size w w':=by
 have hi:Bt 13=#[.string ⟨#[97,110,100]⟩,.int .i64 1,.int .i64 6]:=by kernel_rfl
 have hfl:=AW;have hS:Hid (∀w,Calls Tryz.prog 75 #[.int .i64 13] w fun e w'=>e=.returned (.agg #[.string ⟨#[97,110,100]⟩,.int .i64 1,.int .i64 6])/\Below w.heap.size w w'):=fun w=>by rw[<-hi];exact AZ 13 w
 clear hi;go_enter Tryz.func125,Tryz.ntmps125
 go_wp2_with (first
  |(go_at_call 75;refine(hS.out _).mono ?_;rintro e w1 ⟨rfl,hb1⟩)
  |(go_at_call 182;refine(Br _ _ _).mono ?_;rintro e w' ⟨rfl,rfl⟩)
  |(go_at_call 176;refine(Bj _ _).mono ?_;rintro e w' ⟨rfl,rfl⟩))
 go_ret
 exact⟨rfl,hb1⟩
theorem Km(t x y:Int)(w:World)(ht:AX 6 t=true):Calls Tryz.prog 125 #[.int .i64 14,.int .i64 t,.int .u32 x,.int .u32 y] w fun e w'=>e=.returned (.int .u32 (Qo t x y))/\Below w.heap.size w w':=by
 have hi:Bt 14=#[.string ⟨#[111,114]⟩,.int .i64 1,.int .i64 6]:=by kernel_rfl
 have hfl:=AW;have hS:Hid (∀w,Calls Tryz.prog 75 #[.int .i64 14] w fun e w'=>e=.returned (.agg #[.string ⟨#[111,114]⟩,.int .i64 1,.int .i64 6])/\Below w.heap.size w w'):=fun w=>by rw[<-hi];exact AZ 14 w
 clear hi;go_enter Tryz.func125,Tryz.ntmps125
 go_wp2_with (first
  |(go_at_call 75;refine(hS.out _).mono ?_;rintro e w1 ⟨rfl,hb1⟩)
  |(go_at_call 182;refine(Br _ _ _).mono ?_;rintro e w' ⟨rfl,rfl⟩)
  |(go_at_call 176;refine(Bj _ _).mono ?_;rintro e w' ⟨rfl,rfl⟩))
 go_ret
 exact⟨rfl,hb1⟩
theorem KQ(t x y:Int)(w:World)(ht:AX 6 t=true):Calls Tryz.prog 125 #[.int .i64 15,.int .i64 t,.int .u32 x,.int .u32 y] w fun e w'=>e=.returned (.int .u32 (N4 t x y))/\Below w.heap.size w w':=by
 have hi:Bt 15=#[.string ⟨#[120,111,114]⟩,.int .i64 1,.int .i64 6]:=by kernel_rfl
 have hfl:=AW;have hS:Hid (∀w,Calls Tryz.prog 75 #[.int .i64 15] w fun e w'=>e=.returned (.agg #[.string ⟨#[120,111,114]⟩,.int .i64 1,.int .i64 6])/\Below w.heap.size w w'):=fun w=>by rw[<-hi];exact AZ 15 w
 clear hi;go_enter Tryz.func125,Tryz.ntmps125
 go_wp2_with (first
  |(go_at_call 75;refine(hS.out _).mono ?_;rintro e w1 ⟨rfl,hb1⟩)
  |(go_at_call 182;refine(Br _ _ _).mono ?_;rintro e w' ⟨rfl,rfl⟩)
  |(go_at_call 176;refine(Bj _ _).mono ?_;rintro e w' ⟨rfl,rfl⟩))
 go_ret
 exact⟨rfl,hb1⟩
theorem Kb(t x y:Int)(w:World)(ht:AX 7 t=true):Calls Tryz.prog 125 #[.int .i64 20,.int .i64 t,.int .u32 x,.int .u32 y] w fun e w'=>e=.returned (.int .u32 (Qd t x y))/\Below w.heap.size w w':=by
 have hi:Bt 20=#[.string ⟨#[101,113]⟩,.int .i64 1,.int .i64 7]:=by kernel_rfl
 have hfl:=AW;have hS:Hid (∀w,Calls Tryz.prog 75 #[.int .i64 20] w fun e w'=>e=.returned (.agg #[.string ⟨#[101,113]⟩,.int .i64 1,.int .i64 7])/\Below w.heap.size w w'):=fun w=>by rw[<-hi];exact AZ 20 w
 clear hi;go_enter Tryz.func125,Tryz.ntmps125
 go_wp2_with (first
  |(go_at_call 75;refine(hS.out _).mono ?_;rintro e w1 ⟨rfl,hb1⟩)
  |(go_at_call 182;refine(Br _ _ _).mono ?_;rintro e w' ⟨rfl,rfl⟩)
  |(go_at_call 176;refine(Bj _ _).mono ?_;rintro e w' ⟨rfl,rfl⟩))
 go_ret
 exact⟨rfl,hb1⟩
theorem Kc(t x y:Int)(w:World)(ht:AX 6 t=true):Calls Tryz.prog 125 #[.int .i64 16,.int .i64 t,.int .u32 x,.int .u32 y] w fun e w'=>e=.returned (.int .u32 (IQ t x y))/\Below w.heap.size w w':=by
 have hi:Bt 16=#[.string ⟨#[110,111,116]⟩,.int .i64 1,.int .i64 6]:=by kernel_rfl
 have hfl:=AW;have hS:Hid (∀w,Calls Tryz.prog 75 #[.int .i64 16] w fun e w'=>e=.returned (.agg #[.string ⟨#[110,111,116]⟩,.int .i64 1,.int .i64 6])/\Below w.heap.size w w'):=fun w=>by rw[<-hi];exact AZ 16 w
 clear hi;cases h2:(t==1)
 ·have hr:IQ t x y=_:=if_neg (by rw[h2];simp)
  rw[hr];clear hr;go_enter Tryz.func125,Tryz.ntmps125
  go_wp2_with (first
   |(go_at_call 75;refine(hS.out _).mono ?_;rintro e w1 ⟨rfl,hb1⟩)
   |(go_at_call 182;refine(Br _ _ _).mono ?_;rintro e w' ⟨rfl,rfl⟩)
   |(go_at_call 176;refine(Bj _ _).mono ?_;rintro e w' ⟨rfl,rfl⟩))
  go_ret
  exact⟨rfl,hb1⟩
 ·have hr:IQ t x y=_:=if_pos h2
  rw[hr];clear hr;go_enter Tryz.func125,Tryz.ntmps125
  go_wp2_with (first
   |(go_at_call 75;refine(hS.out _).mono ?_;rintro e w1 ⟨rfl,hb1⟩)
   |(go_at_call 182;refine(Br _ _ _).mono ?_;rintro e w' ⟨rfl,rfl⟩)
   |(go_at_call 176;refine(Bj _ _).mono ?_;rintro e w' ⟨rfl,rfl⟩))
  go_ret
  exact⟨rfl,hb1⟩
theorem Kz(t x y:Int)(w:World)(ht:AX 5 t=true):Calls Tryz.prog 125 #[.int .i64 21,.int .i64 t,.int .u32 x,.int .u32 y] w fun e w'=>e=.returned (.int .u32 (FQ t x y))/\Below w.heap.size w w':=by
 have hi:Bt 21=#[.string ⟨#[108,101,115,115]⟩,.int .i64 1,.int .i64 5]:=by kernel_rfl
 have hfl:=AW;have hS:Hid (∀w,Calls Tryz.prog 75 #[.int .i64 21] w fun e w'=>e=.returned (.agg #[.string ⟨#[108,101,115,115]⟩,.int .i64 1,.int .i64 5])/\Below w.heap.size w w'):=fun w=>by rw[<-hi];exact AZ 21 w
 clear hi;cases h2:(t==2)
 ·have hr:FQ t x y=_:=if_neg (by rw[h2];simp)
  rw[hr];clear hr;go_enter Tryz.func125,Tryz.ntmps125
  go_wp2_with (first
   |(go_at_call 75;refine(hS.out _).mono ?_;rintro e w1 ⟨rfl,hb1⟩)
   |(go_at_call 182;refine(Br _ _ _).mono ?_;rintro e w' ⟨rfl,rfl⟩)
   |(go_at_call 176;refine(Bj _ _).mono ?_;rintro e w' ⟨rfl,rfl⟩))
  go_ret
  exact⟨rfl,hb1⟩
 ·have hr:FQ t x y=_:=if_pos h2
  rw[hr];clear hr;go_enter Tryz.func125,Tryz.ntmps125
  go_wp2_with (first
   |(go_at_call 75;refine(hS.out _).mono ?_;rintro e w1 ⟨rfl,hb1⟩)
   |(go_at_call 182;refine(Br _ _ _).mono ?_;rintro e w' ⟨rfl,rfl⟩)
   |(go_at_call 176;refine(Bj _ _).mono ?_;rintro e w' ⟨rfl,rfl⟩))
  go_ret
  exact⟨rfl,hb1⟩
theorem KJ(t x y:Int)(w:World)(ht:AX 5 t=true)(hy:0<=y)(hy':y<4294967296):Calls Tryz.prog 125 #[.int .i64 11,.int .i64 t,.int .u32 x,.int .u32 y] w fun e w'=>e=.returned (.int .u32 (Gq t x y))/\Below w.heap.size w w':=by
 have hi:Bt 11=#[.string ⟨#[100,105,118]⟩,.int .i64 8,.int .i64 5]:=by kernel_rfl
 have hfl:=AW;have hS:Hid (∀w,Calls Tryz.prog 75 #[.int .i64 11] w fun e w'=>e=.returned (.agg #[.string ⟨#[100,105,118]⟩,.int .i64 8,.int .i64 5])/\Below w.heap.size w w'):=fun w=>by rw[<-hi];exact AZ 11 w
 have hD:Hid (∀w,Calls Tryz.prog 183 #[.int .i64 t,.int .u32 x,.int .u32 y] w fun e w'=>e=.returned (.tuple #[.int .u32 (Gq t x y),.int .u32 (Gn t x y)])/\Below w.heap.size w w'):=fun w=>Jj t x y w (by
  have:(t==2||t==3)=true:=ht;simpa using this) hy hy'
 clear hi;go_enter Tryz.func125,Tryz.ntmps125
 go_wp2_with (first
  |(go_at_call 75;refine(hS.out _).mono ?_;rintro e w1 ⟨rfl,hb1⟩)
  |(go_at_call 182;refine(Br _ _ _).mono ?_;rintro e w' ⟨rfl,rfl⟩)
  |(go_at_call 183;refine(hD.out _).mono ?_;rintro e w2 ⟨rfl,hb2⟩))
 go_ret
 exact⟨rfl,hb1.trans (hb2.mono hb1.size)⟩
theorem Kl(t x y:Int)(w:World)(ht:AX 5 t=true)(hy:0<=y)(hy':y<4294967296):Calls Tryz.prog 125 #[.int .i64 12,.int .i64 t,.int .u32 x,.int .u32 y] w fun e w'=>e=.returned (.int .u32 (Gn t x y))/\Below w.heap.size w w':=by
 have hi:Bt 12=#[.string ⟨#[109,111,100]⟩,.int .i64 8,.int .i64 5]:=by kernel_rfl
 have hfl:=AW;have hS:Hid (∀w,Calls Tryz.prog 75 #[.int .i64 12] w fun e w'=>e=.returned (.agg #[.string ⟨#[109,111,100]⟩,.int .i64 8,.int .i64 5])/\Below w.heap.size w w'):=fun w=>by rw[<-hi];exact AZ 12 w
 have hD:Hid (∀w,Calls Tryz.prog 183 #[.int .i64 t,.int .u32 x,.int .u32 y] w fun e w'=>e=.returned (.tuple #[.int .u32 (Gq t x y),.int .u32 (Gn t x y)])/\Below w.heap.size w w'):=fun w=>Jj t x y w (by
  have:(t==2||t==3)=true:=ht;simpa using this) hy hy'
 clear hi;go_enter Tryz.func125,Tryz.ntmps125
 go_wp2_with (first
  |(go_at_call 75;refine(hS.out _).mono ?_;rintro e w1 ⟨rfl,hb1⟩)
  |(go_at_call 182;refine(Br _ _ _).mono ?_;rintro e w' ⟨rfl,rfl⟩)
  |(go_at_call 183;refine(hD.out _).mono ?_;rintro e w2 ⟨rfl,hb2⟩))
 go_ret
 exact⟨rfl,hb1.trans (hb2.mono hb1.size)⟩
end Go.Proofs.YtlejplpkomddeaaGreat
