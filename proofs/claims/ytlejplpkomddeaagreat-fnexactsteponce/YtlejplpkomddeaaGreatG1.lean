import Derived.Test.YtlejplpkomddeaaGreatG0
import Derived.Deep.MidRow
import Derived.Outline
import Derived.Laws.CopyOwn
import Derived.Below
import Derived.Deep.Cut
namespace Go.Proofs.YtlejplpkomddeaaGreat
open Go.ChangeShapes Go.WideShapes Go.ChangeAt Go.RowKit
set_option linter.unusedVariables false
set_option maxHeartbeats 1000000
set_option maxRecDepth 100000
def DS(P:Program):List Oper->Act->Option Act
 |[],a=>some a
 | o::r,a=>
  match o.guard,o.op with
  |none,.build t parts=>
   match P.built t (parts.map fun(i,x)=>(i,a.eval x)).toList with
   |some cells=>DS P r (a.put o.dst (.agg cells))
   |none=>none
  |none,.move x=>DS P r (a.put o.dst (a.eval x))
  |none,.makeFunc (.func f) first captured=>DS P r (a.put o.dst (.func (.func f) (first.map a.eval) (captured.map a.eval)))
  |_,_=>none
theorem Jz{P:Program}{ops:Array Oper}{rest:List Oper}{o:Oper}{a:Act}{w:World}{Q:Exit->Act->World->Prop}(hg:o.guard=none)(x:Operand)(ho:o.op=.move x)(h:wpList P ops Q rest (a.put o.dst (a.eval x)) w):wpList P ops Q (o::rest) a w:=
 wpList_plain hg fun K hK=>by
  unfold Oper.wp execOp;simp only[ho,Sem.run_pure];exact hK _ _ h
theorem Gn{P:Program}{ops:Array Oper}{rest:List Oper}{o:Oper}{a:Act}{w:World}{Q:Exit->Act->World->Prop}(hg:o.guard=none)(f:Nat)(first captured:Array Operand)(ho:o.op=.makeFunc (.func f) first captured)(h:wpList P ops Q rest (a.put o.dst (.func (.func f) (first.map a.eval) (captured.map a.eval))) w):wpList P ops Q (o::rest) a w:=
 wpList_plain hg fun K hK=>by
  unfold Oper.wp execOp;simp only[ho,Instr.makeFunc,Sem.run_bind,Sem.run_pure,Result.andThen_ok];exact hK _ _ h
theorem Dk{P:Program}{ops:Array Oper}{Q:Exit->Act->World->Prop}{w:World}{a':Act}(rest:List Oper)(h:wpList P ops Q rest a' w):
  ∀(l:List Oper) (a:Act),DS P l a=some a'->wpList P ops Q (l++rest) a w
 |[],a,hb=>by
  simp only[DS,Option.some.injEq]at hb;subst hb;exact h
 | o::r,a,hb=>by
  unfold DS at hb;split at hb
  ·next t parts hg ho=>
   split at hb
   ·next cells hc=>
    refine wpList_build hg t parts ho (by rw[hc];rfl) ?_;rw[hc];exact Dk rest h r _ hb
   ·cases hb
  ·next x hg ho=>exact Jz hg x ho (Dk rest h r _ hb)
  ·next f first captured hg ho=>exact Gn hg f first captured ho (Dk rest h r _ hb)
  ·cases hb
theorem Hz{P:Program}{ops:Array Oper}{Q:Exit->Act->World->Prop}{w:World}{l:List Oper}{a:Act}(n:Nat)(ty t:TypeId)(x y:Operand)(g:Nat)(cells old:Array Value)(p:Tmp)
  (hb:(DS P (l.take n) a).map (fun a'=>(a'.eval x,a'.eval y,a'.tmps.getD p undef,a'.defers))=some (.pointer (some ⟨g,0,none⟩),.agg cells,.pointer (some ⟨g,0,none⟩),[]))
  (hd:(l.drop n).map (fun o=>(o.guard,o.op,o.dst))=[(none,.store ty x y,none)])
  (hg:w.heap[g]?=some (.cells old t (0,0))) (hi:(P.info? ty).map (·.size)=some cells.size)
  (hold:old.size=cells.size) (h1:cells.all (·.oneCell')=true)
  (h:∀a',a'.tmps.getD p undef=.pointer (some ⟨g,0,none⟩)->a'.defers=[]->Q .normal a' (w.setRow g cells)):wpList P ops Q l a w:=by
 rw[<-List.take_append_drop n l];obtain⟨a',ha,he⟩:=Option.map_eq_some_iff.1 hb;simp only[Prod.mk.injEq]at he;refine Dk (a':=a') _ ?_ _ _ ha;generalize l.drop n=l2 at hd;rcases l2 with _|⟨o,_|⟨o2,l3⟩⟩
 ·cases hd
 ·simp only[List.map_cons,List.map_nil,List.cons.injEq,Prod.mk.injEq,and_true]at hd
  refine wpList_store_row hd.1 ty x y hd.2.1 g cells he.1 he.2.1 t old hg hi hold h1 ?_;rw[hd.2.2];exact wpList_nil (h _ he.2.2.1 he.2.2.2)
 ·simp at hd
def CY:Array Value:=#[.string ⟨#[110,111,112]⟩,.int .i64 1,.int .i64 0,
 .string ⟨#[99,111,110,115,116]⟩,.int .i64 1,.int .i64 1,
 .string ⟨#[108,111,97,100,108,111,99,97,108]⟩,.int .i64 1,.int .i64 2,
 .string ⟨#[115,116,111,114,101,108,111,99,97,108]⟩,.int .i64 1,.int .i64 2,
 .string ⟨#[108,111,97,100]⟩,.int .i64 2,.int .i64 3,
 .string ⟨#[115,116,111,114,101]⟩,.int .i64 2,.int .i64 3,
 .string ⟨#[108,111,97,100,97,116]⟩,.int .i64 3,.int .i64 4,
 .string ⟨#[115,116,111,114,101,97,116]⟩,.int .i64 3,.int .i64 4,
 .string ⟨#[97,100,100]⟩,.int .i64 1,.int .i64 5,
 .string ⟨#[115,117,98]⟩,.int .i64 1,.int .i64 5,
 .string ⟨#[109,117,108]⟩,.int .i64 3,.int .i64 5,
 .string ⟨#[100,105,118]⟩,.int .i64 8,.int .i64 5,
 .string ⟨#[109,111,100]⟩,.int .i64 8,.int .i64 5,
 .string ⟨#[97,110,100]⟩,.int .i64 1,.int .i64 6,
 .string ⟨#[111,114]⟩,.int .i64 1,.int .i64 6,
 .string ⟨#[120,111,114]⟩,.int .i64 1,.int .i64 6,
 .string ⟨#[110,111,116]⟩,.int .i64 1,.int .i64 6,
 .string ⟨#[115,104,108]⟩,.int .i64 1,.int .i64 0,
 .string ⟨#[115,104,114]⟩,.int .i64 1,.int .i64 0,
 .string ⟨#[110,101,103]⟩,.int .i64 1,.int .i64 0,
 .string ⟨#[101,113]⟩,.int .i64 1,.int .i64 7,
 .string ⟨#[108,101,115,115]⟩,.int .i64 1,.int .i64 5,
 .string ⟨#[99,111,110,118]⟩,.int .i64 1,.int .i64 8,
 .string ⟨#[100,117,112]⟩,.int .i64 1,.int .i64 0,
 .string ⟨#[100,114,111,112]⟩,.int .i64 1,.int .i64 0,
 .string ⟨#[106,117,109,112]⟩,.int .i64 2,.int .i64 9,
 .string ⟨#[106,117,109,112,122,101,114,111]⟩,.int .i64 2,.int .i64 9,
 .string ⟨#[103,117,97,114,100]⟩,.int .i64 2,.int .i64 10,
 .string ⟨#[99,97,108,108]⟩,.int .i64 4,.int .i64 11,
 .string ⟨#[114,101,116,117,114,110]⟩,.int .i64 2,.int .i64 0]
theorem JO(w:World):Calls Tryz.prog 123 #[] w fun e w'=>e=.returned (.slice (some ⟨w.heap.size,0,none⟩) 30 30)/\w'=w.alloc (.cells CY 85):=by
 go_enter Tryz.func123,Tryz.ntmps123;go_wp2_with (show wpList _ _ _ ({dst:=some 1,op:=Op.build _ _,type:=_,pos:=_,after:=_,guard:=_}::_) _ _;refine Ga 30 195 85 30 #[(0,.tmp 1),(1,.tmp 2),(2,.tmp 3),(3,.tmp 4),(4,.tmp 5),(5,.tmp 6),(6,.tmp 7),(7,.tmp 8),(8,.tmp 9),(9,.tmp 10),(10,.tmp 11),(11,.tmp 12),(12,.tmp 13),(13,.tmp 14),(14,.tmp 15),(15,.tmp 16),(16,.tmp 17),(17,.tmp 18),(18,.tmp 19),(19,.tmp 20),(20,.tmp 21),(21,.tmp 22),(22,.tmp 23),(23,.tmp 24),(24,.tmp 25),(25,.tmp 26),(26,.tmp 27),(27,.tmp 28),(28,.tmp 29),(29,.tmp 30)] 31 0 32 CY ((Tryz.prog.info? 85).getD default) (.agg #[.string ⟨#[]⟩,.int .i64 0,.int .i64 0]) (by kernel_rfl) rfl (by decide) (by decide) Tryz.underlying195 (by kernel_rfl) (by kernel_rfl) (of_decide_eq_true (by kernel_rfl)) (of_decide_eq_true (by kernel_rfl)) ?_;intro a' hp hd);refine bodyPost_ret (v:=.slice (some ⟨w.heap.size,0,none⟩) 30 30) ?_ hd ⟨rfl,rfl⟩;rw[<-hp];exact results_tmp Tryz.results123 _ _ _
def Ci(k:Nat):List Value:=(CY.extract (3*k) (3*k+3)).toList
theorem Hd(k:Nat)(hk:k<30):(Ci k).length=3:=by
 have h0:CY.size=90:=by kernel_rfl
 simp[Ci,h0];omega
theorem KL(k:Nat)(hk:k<30):(Ci k).toArray.all (·.oneCell')=true:=by
 have h0:CY.all (·.oneCell')=true:=by kernel_rfl
 rw[Array.all_eq_true_iff_forall_mem]at h0⊢;intro v hv;simp only[Ci,Array.toArray_toList]at hv;obtain⟨i,hi,rfl⟩:=Array.mem_iff_getElem.1 hv;rw[Array.getElem_extract];exact h0 _ (Array.getElem_mem _)
theorem Ia(w:World)(b k:Nat)(hk:k<30)(h:w.heap[b]?=some (.cells CY 85)):w.rangeAt b (k*3) (Ci k):=by
 intro j v hv;have h0:CY.size=90:=by kernel_rfl
 rw[cell_of_row w b _ CY _ _ h];simp only[Ci,Array.getElem?_toList]at hv;rw[Array.getElem?_extract]at hv;split at hv
 ·rw[<-hv,Nat.mul_comm]
 ·cases hv
theorem Gp(w:World):(zeroValue 85).run Tryz.prog w=.ok (.agg #[.string ⟨#[]⟩,.int .i64 0,.int .i64 0]) w:=by kernel_rfl
theorem My(op:Int)(w:World)(h:op<0\/29<op):Calls Tryz.prog 75 #[.int .i64 op] w fun e w'=>e=.returned (.agg #[.string ⟨#[]⟩,.int .i64 0,.int .i64 0])/\Below w.heap.size w w':=by
 have hz:=Gp;rcases h with h|h
 ·go_enter Tryz.func75,Tryz.ntmps75
  go_wp2
  exact bodyPost_ret (v:=.agg #[.string ⟨#[]⟩,.int .i64 0,.int .i64 0]) (by simp[results,Tryz.results75,go_sem]) rfl ⟨rfl,(Below.refl _ _).alloc lR _⟩
 ·have h0:decide (op<0)=false:=by simp;omega
  have h1:decide (29<op)=true:=by simp;omega
  go_enter Tryz.func75,Tryz.ntmps75;go_wp2
  exact bodyPost_ret (v:=.agg #[.string ⟨#[]⟩,.int .i64 0,.int .i64 0]) (by simp[results,Tryz.results75,go_sem]) rfl ⟨rfl,(Below.refl _ _).alloc lR _⟩
theorem Nl(k:Nat)(hk:k<30)(w:World):Calls Tryz.prog 75 #[.int .i64 (k:Int)] w fun e w'=>e=.returned (.agg (Ci k).toArray)/\Below w.heap.size w w':=by
 have hz:=Gp;have h0:decide ((k:Int)<0)=false:=by simp
 have h1:decide (29<(k:Int))=false:=by simp;omega
 have HS:=h2 (Hd k hk) (KL k hk);go_enter Tryz.func75,Tryz.ntmps75
 go_wp2_with (first
  |(go_at_call 123;refine(JO _).mono ?_;rintro e w1 ⟨rfl,rfl⟩)
  |(show wpList _ _ _ ({dst:=some 13,op:=Op.load 85 _,type:=_,pos:=_,after:=_,guard:=_}::_) _ _;refine wpList_load_mid rfl 85 (.tmp 12) rfl (w.heap.size+1) (k*3) rfl (Ci k) _ (Ia _ _ _ hk (heap_alloc2_new _ _ _)) Tryz.underlying85 rfl (by rw[HS.out.1];kernel_rfl) ?_)
  |(show wpList _ _ _ ({dst:=none,op:=Op.store 85 _ _,type:=_,pos:=_,after:=_,guard:=_}::_) _ _;refine wpList_store_row rfl 85 (.tmp 2) (.tmp 13) rfl w.heap.size (Ci k).toArray rfl rfl 85 #[.string ⟨#[]⟩,.int .i64 0,.int .i64 0] (heap_alloc2_old _ _ _) (by rw[List.size_toArray,HS.out.1];kernel_rfl) (by show 3=(Ci k).length;rw[HS.out.1]) HS.out.2 ?_))
 refine bodyPost_ret (v:=.agg (Ci k).toArray) (results_cell_row Tryz.results75 _ _ w.heap.size 85 (Ci k).toArray (0,0) _ rfl (setRow_heap _ _ _ _ _ _ (heap_alloc2_old _ _ _)) Tryz.underlying85 rfl (by rw[List.size_toArray,HS.out.1];kernel_rfl)) rfl ⟨rfl,?_⟩;exact below_setRow (((Below.refl _ _).alloc lR _).alloc (by simp) _) lR _
structure MI where
 op:Int
 a:Int
 b:Int
 c:Int
structure MC where
 type:Int
 word:Int
structure MT where
 func:Int
 head:Int
 counter:Int
 init:Int
def MI.cells(x:MI):List Value:=[.int .i64 x.op,.int .i64 x.a,.int .i64 x.b,.int .i64 x.c]
def MC.cells(x:MC):List Value:=[.int .i64 x.type,.int .u32 x.word]
def MT.cells(x:MT):List Value:=[.int .i64 x.func,.int .i64 x.head,.int .i64 x.counter,.int .u32 x.init]
theorem MI.cells_length(x:MI):x.cells.length=4:=rfl
theorem MC.cells_length(x:MC):x.cells.length=2:=rfl
theorem MT.cells_length(x:MT):x.cells.length=4:=rfl
def Af(z:Int):List Value:=[.int .i64 z]
theorem Ap(z:Int):(Af z).length=1:=rfl
theorem Jx:(Tryz.prog.info? 2).map (fun i=>(i.zero,i.size,i.bytes))=some (some (.int .i64 0),1,8):=by kernel_rfl
theorem PH:(Tryz.prog.info? 134).map (fun i=>(i.zero,i.size,i.bytes))=some (some (.agg #[.int .i64 0,.int .i64 0,.int .i64 0,.int .i64 0]),4,32):=by kernel_rfl
theorem PO:(Tryz.prog.info? 143).map (fun i=>(i.zero,i.size,i.bytes))=some (some (.agg #[.int .i64 0,.int .u32 0]),2,16):=by kernel_rfl
theorem PR:(Tryz.prog.info? 148).map (fun i=>(i.zero,i.size,i.bytes))=some (some (.agg #[.int .i64 0,.int .i64 0,.int .i64 0,.int .u32 0]),4,32):=by kernel_rfl
theorem Kh(x:MI)(w:World):
  Calls Tryz.prog 184 #[.agg #[.int .i64 x.op,.int .i64 x.a,.int .i64 x.b,.int .i64 x.c]] w fun e w'=>e=.returned (.agg #[.int .i64 x.op,.int .i64 x.a,.int .i64 x.b,.int .i64 x.c])/\Below w.heap.size w w':=by
 go_enter Tryz.func184,Tryz.ntmps184;go_wp2
 exact bodyPost_ret (v:=.agg #[.int .i64 x.op,.int .i64 x.a,.int .i64 x.b,.int .i64 x.c]) (by simp[results,Tryz.results184,go_sem]) rfl ⟨rfl,(((Below.refl _ _).alloc lR _).alloc (by simp) _).alloc (by simp;omega) _⟩
theorem JV(x:MC)(w:World):
  Calls Tryz.prog 81 #[.agg #[.int .i64 x.type,.int .u32 x.word]] w fun e w'=>e=.returned (.agg #[.int .i64 x.type,.int .u32 x.word])/\Below w.heap.size w w':=by
 go_enter Tryz.func81,Tryz.ntmps81;go_wp2
 exact bodyPost_ret (v:=.agg #[.int .i64 x.type,.int .u32 x.word]) (by simp[results,Tryz.results81,go_sem]) rfl ⟨rfl,(((Below.refl _ _).alloc lR _).alloc (by simp) _).alloc (by simp;omega) _⟩
theorem Lo(x:MT)(w:World):
  Calls Tryz.prog 83 #[.agg #[.int .i64 x.func,.int .i64 x.head,.int .i64 x.counter,.int .u32 x.init]] w fun e w'=>e=.returned (.agg #[.int .i64 x.func,.int .i64 x.head,.int .i64 x.counter,.int .u32 x.init])/\Below w.heap.size w w':=by
 go_enter Tryz.func83,Tryz.ntmps83;go_wp2
 exact bodyPost_ret (v:=.agg #[.int .i64 x.func,.int .i64 x.head,.int .i64 x.counter,.int .u32 x.init]) (by simp[results,Tryz.results83,go_sem]) rfl ⟨rfl,(((Below.refl _ _).alloc lR _).alloc (by simp) _).alloc (by simp;omega) _⟩
theorem I6(s:Value)(L:Nat)(ys:List Int)(w:World)(hL:L<=1048576)(h:Rd w 1 s L (ys.flatMap Af))(hlen:ys.length=L):
  Calls Tryz.prog 80 #[s] w fun e w'=>e=.returned (.slice (some ⟨w.heap.size,0,none⟩) L L)/\w'.ownsRow w.heap.size 2 1 (.slice (some ⟨w.heap.size,0,none⟩) L L) L (ys.flatMap Af)/\Below w.heap.size w w':=by
 obtain⟨i0,hi,hz0,hz1,hz2⟩:=info_parts Jx;have H1:=h2 h hlen;obtain⟨a1,c1,rfl⟩:=h.is_slice;clear h hlen;go_enter Tryz.func80,Tryz.ntmps80;go_wp2_with (at_make;refine wpList_make_full _ rfl _ _ 113 rfl w.heap.size 2 i0 (.int .i64 0) 1 Tryz.underlying113 hi hz0 hz1 .i64 .i64 _ _ L rfl rfl rfl rfl (by rw[hz2];omega) (by unfold maxLen;omega) lR ?_;intro w1 hown hgrow);rw[Cz Af [.int .i64 0] ys L (.int .i64 0) 1 rfl rfl (by omega)]at hown;have hB:Below w.heap.size w w1:=(Below.refl _ _).grown hgrow lR (fun k hk=>by cases hk);clear hgrow;go_loopw [4] (fun i wr=>∃k:Nat,k<=L/\i=.int .i64 k/\wr.ownsRow w.heap.size 2 1 (.slice (some ⟨w.heap.size,0,none⟩) L L) L (CU Af [.int .i64 0] ys k L)/\Below w.heap.size w wr) (fun i _=>L-(intOf i).toNat)
 case atStart=>exact⟨0,by omega,rfl,hown,hB⟩
 case round=>
  clear hown hB;obtain⟨k,hk,rfl,hown,hbel⟩:=hrel;by_cases hlt:k<L
  ·obtain⟨x,hx⟩:∃x,ys[k]?=some x:=⟨_,gE (by rw[H1.out.2];exact hlt)⟩
   have hnext:=CV Af [.int .i64 0] ys k L x hx;rw[CI Af [.int .i64 0] ys k L hlt]at hown;have hA:((ys.take k).flatMap Af).length=k*1:=by rw[Aw Af 1 Ap,List.length_take,H1.out.2,Nat.min_eq_left hk]
   generalize (ys.take k).flatMap Af=A at hown hnext hA;generalize (List.replicate (L-(k+1)) [Value.int .i64 0]).flatten=R at hown hnext;rcases H1.out.1.2 with⟨e0,_⟩|⟨g,o,c,e1,hc1⟩
   ·omega
   ·simp only[sJ,true_and]at e1
    obtain⟨rfl,rfl⟩:=e1;have i0:=Rd.elem Ap hc1 k x hx 0 _ rfl;rw[<-hbel.cell (bL i0)]at i0;rw[Nat.mul_one,Nat.add_zero]at i0;have f0:=hown.frozenAt k;have d0:=hown.cellAt k (by omega);rw[Nat.mul_one]at hA;rw[List.getElem?_append_right (by omega),hA,Nat.sub_self]at d0;have HO:=h3 hown hA hnext;clear hown hA hnext hc1 hx;simp only[List.cons_append,gZ]at d0;go_wp2
    go_roundw
    case rel=>
     refine⟨k+1,by omega,by go_num,?_,hbel.setCell lR _⟩;have hst:=(HO.out.1.stored k (.int .i64 x)).1;rw[Pz A R _ _ k HO.out.2.1]at hst;rw[HO.out.2.2];exact hst
    case measure=>simp[intOf];omega
  ·have hkn:k=L:=by omega
   subst hkn;rw[Dj _ _ _ _ H1.out.2]at hown;have HO:=AM hown;clear hown;go_wp2
   go_ret
   exact⟨rfl,HO.out,hbel⟩
def Cf(f t:Int):Bool:=if f==5 then(t==2||t==3)else if f==6 then(t==1||t==3)else if f==7 then C9 t else true
def AF(op t x y:Int):Int:=
 if op=8 then(if Cf 5 t then Nh t x y else 0)else
 if op=9 then(if Cf 5 t then Nn t x y else 0)else
 if op=10 then(if Cf 5 t then Nx t x y else 0)else
 if op=11 then(if Cf 5 t then Gu t x y else 0)else
 if op=12 then(if Cf 5 t then Gt t x y else 0)else
 if op=13 then(if Cf 6 t then Ny t x y else 0)else
 if op=14 then(if Cf 6 t then PP t x y else 0)else
 if op=15 then(if Cf 6 t then NB t x y else 0)else
 if op=16 then(if Cf 6 t then JN t x y else 0)else
 if op=17 then(if Cf 0 t then On t x y else 0)else
 if op=18 then(if Cf 0 t then Ot t x y else 0)else
 if op=19 then(if Cf 0 t then N7 t x y else 0)else
 if op=20 then(if Cf 7 t then PI t x y else 0)else
 if op=21 then(if Cf 5 t then Gj t x y else 0)else
 0
theorem Mz{op:Int}(h:op<8\/21<op)(t x y:Int):AF op t x y=0:=by
 unfold AF;repeat rw[if_neg (by omega)]
theorem N3(t x y:Int)(w:World)(hy:(y==0)=true):Calls Tryz.prog 183 #[.int .i64 t,.int .u32 x,.int .u32 y] w fun e w'=>e=.returned (.tuple #[.int .u32 0,.int .u32 0])/\w'=w:=by
 go_enter Tryz.func183,Tryz.ntmps183;go_wp2
 go_ret2
 exact⟨rfl,rfl⟩
theorem Oq(t x y:Int)(w:World)(hy:(y==0)=false)(ht:(t==3)=true):Calls Tryz.prog 183 #[.int .i64 t,.int .u32 x,.int .u32 y] w fun e w'=>e=.returned (.tuple #[.int .u32 (LN x y),.int .u32 (Md x y)])/\Below w.heap.size w w':=by
 have hn:¬y=0:=by simpa using hy
 have hq:LN x y=x.tdiv y % 4294967296:=by unfold LN;rw[hy];rfl
 have hr:Md x y=x.tmod y:=by unfold Md;rw[hy];rfl
 have HQ:=h2 hq hr;clear hq hr;go_enter Tryz.func183,Tryz.ntmps183;go_wp2
 go_region
 go_wp2
 go_ret2
 exact⟨by rw[HQ.out.1,HQ.out.2];rfl,(Below.refl _ _).drew⟩
theorem PF{n:Int}(h:-9223372036854775808<=n)(h':n<9223372036854775808):wrap64 n=n:=by unfold wrap64;omega
theorem NP(n:Int):-2147483648<=wrap32 n/\wrap32 n<2147483648:=by unfold wrap32;omega
theorem OI{a b:Int}(h:-2147483648<=a)(h':a<2147483648):-2147483648<=a.tdiv b/\a.tdiv b<=2147483648:=by
 have h1:(a.tdiv b).natAbs<=a.natAbs:=by rw[Int.natAbs_tdiv];exact Nat.div_le_self _ _
 omega
theorem PQ(n:Int):IntKind.u32.wrap n=n % 4294967296:=rfl
theorem OR(x y:Int)(hy:(y==0)=false)(h:0<=y)(h':y<4294967296):Gu 2 x y=wrap64 ((wrap64 (wrap32 x)).tdiv (wrap64 (wrap32 y))) % 4294967296:=by
 have hx:=NP x;have hy2:=NP y;have hn:y≠0:=by simpa using hy
 have hw:(wrap32 y==0)=false:=by unfold wrap32;simp;omega
 have hd:=OI (b:=wrap32 y) hx.1 hx.2;show IntKind.u32.wrap (LA (wrap32 x) (wrap32 y))=_;unfold LA;rw[hw,PQ,PF (n:=wrap32 x) (by omega) (by omega),PF (n:=wrap32 y) (by omega) (by omega),PF (by omega) (by omega)];show wrap32 _ % _=_;generalize (wrap32 x).tdiv (wrap32 y)=q;unfold wrap32;omega
theorem Ph(x y:Int)(hy:(y==0)=false)(h:0<=y)(h':y<4294967296):Gt 2 x y=(wrap64 (wrap32 x)).tmod (wrap64 (wrap32 y)) % 4294967296:=by
 have hx:=NP x;have hy2:=NP y;have hn:y≠0:=by simpa using hy
 have hw:(wrap32 y==0)=false:=by unfold wrap32;simp;omega
 show IntKind.u32.wrap (Md (wrap32 x) (wrap32 y))=_;unfold Md;rw[hw,PQ,PF (n:=wrap32 x) (by omega) (by omega),PF (n:=wrap32 y) (by omega) (by omega)];rfl
theorem Oa(x y:Int)(w:World)(hy:(y==0)=false)(hb:0<=y)(hb':y<4294967296):Calls Tryz.prog 183 #[.int .i64 2,.int .u32 x,.int .u32 y] w fun e w'=>e=.returned (.tuple #[.int .u32 (Gu 2 x y),.int .u32 (Gt 2 x y)])/\Below w.heap.size w w':=by
 have hn:¬wrap64 (wrap32 y)=0:=by
  have hy2:=NP y;have hn:y≠0:=by simpa using hy
  rw[PF (by omega) (by omega)];unfold wrap32;omega
 have HQ:=h2 (OR x y hy hb hb') (Ph x y hy hb hb');clear hb hb';go_enter Tryz.func183,Tryz.ntmps183;go_wp2
 go_region
 go_wp2
 go_ret2
 exact⟨by rw[HQ.out.1,HQ.out.2];rfl,(Below.refl _ _).drew⟩
theorem IH(t x y:Int)(w:World)(ht:t=2\/t=3)(hb:0<=y)(hb':y<4294967296):Calls Tryz.prog 183 #[.int .i64 t,.int .u32 x,.int .u32 y] w fun e w'=>e=.returned (.tuple #[.int .u32 (Gu t x y),.int .u32 (Gt t x y)])/\Below w.heap.size w w':=by
 cases hy:(y==0)
 ·rcases ht with rfl|rfl
  ·exact Oa x y w hy hb hb'
  ·exact Oq 3 x y w hy rfl
 ·have h0:y=0:=by simpa using hy
  subst h0;have hw:wrap32 0=0:=by unfold wrap32;omega
  have h1:Gu t x 0=0:=by
   rcases ht with rfl|rfl
   ·show IntKind.u32.wrap (LA (wrap32 x) (wrap32 0))=0
    rw[hw];rfl
   ·rfl
  have h2:Gt t x 0=0:=by
   rcases ht with rfl|rfl
   ·show IntKind.u32.wrap (Md (wrap32 x) (wrap32 0))=0
    rw[hw];rfl
   ·rfl
  rw[h1,h2];refine(N3 t x 0 w hy).mono ?_;rintro e w' ⟨rfl,rfl⟩;exact⟨rfl,Below.refl _ _⟩
def AX(f t:Int):Bool:=if f==5 then(t==2||t==3)else if f==6 then(t==1||t==3)else if f==7 then C9 t else false
theorem Bk(f t:Int)(w:World):Calls Tryz.prog 182 #[.int .i64 f,.int .i64 t] w fun e w'=>e=.returned (.bool (AX f t))/\w'=w:=by
 cases h5:(f==5)
 ·cases h6:(f==6)
  ·cases h7:(f==7)
   ·have hr:AX f t=false:=by simp only[AX,h5,h6,h7];rfl
    rw[hr];go_enter Tryz.func182,Tryz.ntmps182;go_wp2
    go_ret
    exact⟨rfl,rfl⟩
   ·have hr:AX f t=C9 t:=by simp only[AX,h5,h6,h7];rfl
    rw[hr];go_enter Tryz.func182,Tryz.ntmps182;go_wp2_with (go_at_call 122;refine(Bp _ _).mono ?_;rintro e w' ⟨rfl,rfl⟩);go_ret;exact⟨rfl,rfl⟩
  ·have hr:AX f t=(t==1||t==3):=by simp only[AX,h5,h6];rfl
   rw[hr];cases h1:(t==1)<;>
   ·go_enter Tryz.func182,Tryz.ntmps182
    go_wp2
    go_ret
    exact⟨rfl,rfl⟩
 ·have hr:AX f t=(t==2||t==3):=by simp only[AX,h5];rfl
  rw[hr];cases h1:(t==2)<;>
  ·go_enter Tryz.func182,Tryz.ntmps182
   go_wp2
   go_ret
   exact⟨rfl,rfl⟩
def BF(M:Nat):Array Value:=#[.func (.func 150) #[.pointer (some ⟨M,0,none⟩)] #[],.func (.func 151) #[.pointer (some ⟨M,0,none⟩)] #[],.func (.func 152) #[.pointer (some ⟨M,0,none⟩)] #[],.func (.func 153) #[.pointer (some ⟨M,0,none⟩)] #[],.func (.func 154) #[.pointer (some ⟨M,0,none⟩)] #[],.func (.func 155) #[.pointer (some ⟨M,0,none⟩)] #[],.func (.func 156) #[.pointer (some ⟨M,0,none⟩)] #[],.func (.func 157) #[.pointer (some ⟨M,0,none⟩)] #[],.func (.func 158) #[.pointer (some ⟨M,0,none⟩)] #[],.func (.func 158) #[.pointer (some ⟨M,0,none⟩)] #[],.func (.func 158) #[.pointer (some ⟨M,0,none⟩)] #[],.func (.func 158) #[.pointer (some ⟨M,0,none⟩)] #[],.func (.func 158) #[.pointer (some ⟨M,0,none⟩)] #[],.func (.func 158) #[.pointer (some ⟨M,0,none⟩)] #[],.func (.func 158) #[.pointer (some ⟨M,0,none⟩)] #[],.func (.func 158) #[.pointer (some ⟨M,0,none⟩)] #[],.func (.func 159) #[.pointer (some ⟨M,0,none⟩)] #[],.func (.func 158) #[.pointer (some ⟨M,0,none⟩)] #[],.func (.func 158) #[.pointer (some ⟨M,0,none⟩)] #[],.func (.func 159) #[.pointer (some ⟨M,0,none⟩)] #[],.func (.func 160) #[.pointer (some ⟨M,0,none⟩)] #[],.func (.func 160) #[.pointer (some ⟨M,0,none⟩)] #[],.func (.func 161) #[.pointer (some ⟨M,0,none⟩)] #[],.func (.func 162) #[.pointer (some ⟨M,0,none⟩)] #[],.func (.func 163) #[.pointer (some ⟨M,0,none⟩)] #[],.func (.func 164) #[.pointer (some ⟨M,0,none⟩)] #[],.func (.func 165) #[.pointer (some ⟨M,0,none⟩)] #[],.func (.func 166) #[.pointer (some ⟨M,0,none⟩)] #[],.func (.func 167) #[.pointer (some ⟨M,0,none⟩)] #[],.func (.func 168) #[.pointer (some ⟨M,0,none⟩)] #[]]
def Gl:Array Value:=#[.nilFunc,.nilFunc,.nilFunc,.nilFunc,.nilFunc,.nilFunc,.nilFunc,.nilFunc,.nilFunc,.nilFunc,.nilFunc,.nilFunc,.nilFunc,.nilFunc,.nilFunc,.nilFunc,.nilFunc,.nilFunc,.nilFunc,.nilFunc,.nilFunc,.nilFunc,.nilFunc,.nilFunc,.nilFunc,.nilFunc,.nilFunc,.nilFunc,.nilFunc,.nilFunc]
set_option maxRecDepth 100000 in
theorem MQ(w:World):(zeroValue 92).run Tryz.prog w=.ok (.agg Gl) w:=by kernel_rfl
set_option maxRecDepth 100000 in
set_option maxHeartbeats 1000000 in
theorem Hr(M:Nat)(w:World):Calls Tryz.prog 97 #[.pointer (some ⟨M,0,none⟩)] w fun e w'=>e=.returned (.agg (BF M))/\Below w.heap.size w w':=by
  have hz:=MQ;go_enter Tryz.func97,Tryz.ntmps97;go_upto_region 1 with fail
  refine wp_region_lit ?_;refine Hz 61 92 92 (.tmp 2) (.tmp 63) w.heap.size (BF M) Gl 2 (by kernel_rfl) rfl (heap_alloc_new _ _) (by kernel_rfl) (by kernel_rfl) (by kernel_rfl) ?_;intro a' hp hd;go_wp2_with fail
  rw[World.setRow_alloc_new];exact bodyPost_ret (v:=.agg (BF M)) (results_cell_row Tryz.results97 _ _ w.heap.size 92 (BF M) (0,0) _ hp (heap_alloc_new _ _) Tryz.underlying92 rfl (by kernel_rfl)) hd ⟨rfl,(Below.refl _ _).alloc (Nat.le_refl _) _⟩
def Bo(op:Int):Array Value:=if 0<=op/\op<=29 then(Ci op.toNat).toArray else #[.string ⟨#[]⟩,.int .i64 0,.int .i64 0]
theorem IF(k:Nat)(hk:k<30):Bo (k:Int)=(Ci k).toArray:=by
 unfold Bo;rw[if_pos (by omega)];rfl
theorem FM{op:Int}(h:op<0\/29<op):Bo op=#[.string ⟨#[]⟩,.int .i64 0,.int .i64 0]:=by
 unfold Bo;rw[if_neg (by omega)]
theorem FS(k:Nat)(hk:k<30):∃(s:ByteArray) (c f:Int),(Ci k).toArray=#[.string s,.int .i64 c,.int .i64 f]:=by
 have h:k=0\/k=1\/k=2\/k=3\/k=4\/k=5\/k=6\/k=7\/k=8\/k=9\/k=10\/k=11\/k=12\/k=13\/k=14\/k=15\/k=16\/k=17\/k=18\/k=19\/k=20\/k=21\/k=22\/k=23\/k=24\/k=25\/k=26\/k=27\/k=28\/k=29:=by omega
 clear hk;rcases h with rfl|rfl|rfl|rfl|rfl|rfl|rfl|rfl|rfl|rfl|rfl|rfl|rfl|rfl|rfl|rfl|rfl|rfl|rfl|rfl|rfl|rfl|rfl|rfl|rfl|rfl|rfl|rfl|rfl|rfl<;>exact⟨_,_,_,rfl⟩
theorem GL(op:Int):∃(s:ByteArray) (c f:Int),Bo op=#[.string s,.int .i64 c,.int .i64 f]:=by
 by_cases h:0<=op/\op<=29
 ·unfold Bo
  rw[if_pos h];exact FS _ (by omega)
 ·unfold Bo
  rw[if_neg h];exact⟨_,_,_,rfl⟩
theorem AZ(op:Int)(w:World):Calls Tryz.prog 75 #[.int .i64 op] w fun e w'=>e=.returned (.agg (Bo op))/\Below w.heap.size w w':=by
 by_cases h:op<0\/29<op
 ·rw[FM h]
  exact My op w h
 ·obtain⟨k,rfl⟩:=Int.eq_ofNat_of_zero_le (show 0<=op by omega)
  rw[IF k (by omega)];exact Nl k (by omega) w
theorem L7(k:Nat)(hk:k<30)(w:World):(Instr.field 88 (.agg (Cq k)) 0).run Tryz.prog w=.ok (.agg (Ci k).toArray) w:=by
 have h:k=0\/k=1\/k=2\/k=3\/k=4\/k=5\/k=6\/k=7\/k=8\/k=9\/k=10\/k=11\/k=12\/k=13\/k=14\/k=15\/k=16\/k=17\/k=18\/k=19\/k=20\/k=21\/k=22\/k=23\/k=24\/k=25\/k=26\/k=27\/k=28\/k=29:=by omega
 clear hk;rcases h with rfl|rfl|rfl|rfl|rfl|rfl|rfl|rfl|rfl|rfl|rfl|rfl|rfl|rfl|rfl|rfl|rfl|rfl|rfl|rfl|rfl|rfl|rfl|rfl|rfl|rfl|rfl|rfl|rfl|rfl<;>(show Sem.run _ _ _=Result.ok _ _;kernel_rfl)
theorem Lx(w:World):(Instr.field 88 (.agg #[.string ⟨#[]⟩,.int .i64 0,.int .i64 0,.nilFunc]) 0).run Tryz.prog w=.ok (.agg #[.string ⟨#[]⟩,.int .i64 0,.int .i64 0]) w:=by kernel_rfl
theorem Mr(op:Int)(row:Value)(s:ByteArray)(c f:Int)(hi:Bo op=#[.string s,.int .i64 c,.int .i64 f])
  (hrow:∀w,Calls Tryz.prog 209 #[.int .i64 op] w fun e w'=>e=.returned row/\Below w.heap.size w w')
  (hf:∀w,(Instr.field 88 row 0).run Tryz.prog w=.ok (.agg #[.string s,.int .i64 c,.int .i64 f]) w) (w:World):
  Calls Tryz.prog 204 #[.int .i64 op] w fun e w'=>e=.returned (.agg (Bo op))/\Below w.heap.size w w':=by
 have hz:=Gp;rw[hi];clear hi;have H:=AM hrow;clear hrow;go_enter Tryz.func204,Tryz.ntmps204;go_wp2_with (go_at_call 209;refine(H.out _).mono ?_;rintro e w1 ⟨rfl,hb⟩;have hrow:w1.heap[w.heap.size]?=some (.cells #[.string ⟨#[]⟩,.int .i64 0,.int .i64 0] 85):=(hb.block _ (by simp)).trans (heap_alloc_new _ _);have hc0:=cell_of_row w1 _ 0 _ _ _ hrow;have hc1:=cell_of_row w1 _ 1 _ _ _ hrow;have hc2:=cell_of_row w1 _ 2 _ _ _ hrow;have hz0:=frozen_of_row w1 _ 0 _ _ hrow;have hz1:=frozen_of_row w1 _ 1 _ _ hrow;have hz2:=frozen_of_row w1 _ 2 _ _ hrow;simp at hc0 hc1 hc2);refine bodyPost_ret (v:=.agg #[.string s,.int .i64 c,.int .i64 f]) (by simp[results,Tryz.results204,go_sem,hc0,hc1,hc2]) rfl ⟨rfl,?_⟩;exact((((((Below.refl _ _).alloc lR _).trans (hb.mono (by simp))).setCell (by simp) _).setCell (by simp) _).setCell (by simp) _)
theorem Nj(op:Int)(w:World):Calls Tryz.prog 204 #[.int .i64 op] w fun e w'=>e=.returned (.agg (Bo op))/\Below w.heap.size w w':=by
 by_cases h:op<0\/29<op
 ·exact Mr op _ _ _ _ (FM h) (fun w=>MU op w h) Lx w
 ·obtain⟨k,rfl⟩:=Int.eq_ofNat_of_zero_le (show 0<=op by omega)
  obtain⟨s,c,f,hs⟩:=FS k (by omega);exact Mr _ _ s c f ((IF k (by omega)).trans hs) (fun w=>Nr k (by omega) w) (fun w=>by rw[<-hs];exact L7 k (by omega) w) w
end Go.Proofs.YtlejplpkomddeaaGreat
