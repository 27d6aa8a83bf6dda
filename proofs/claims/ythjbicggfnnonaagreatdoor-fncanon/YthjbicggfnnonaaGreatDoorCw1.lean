import Derived.Test.YthjbicggfnnonaaGreatDoorCw0
import Derived.Deep.MidRow
import Derived.OneCell
import Derived.WalkSpells
import Derived.Maps.AppendAt
import Derived.Deep.RegionWith
import Derived.Lib.SmallJoins
import Derived.Deep.Slices
import Derived.Deep.Cut
import Derived.Deep.CutRange
namespace Go.Proofs.YthjbicggfnnonaaGreatDoor
open Go.ChangeShapes Go.WideShapes Go.ChangeAt Go.RowKit
set_option linter.unusedVariables false
set_option maxHeartbeats 2000000
set_option maxRecDepth 100000
variable {w u d wr:World}{a:Addr}{B:Nat}{s:Value}{b:TypeId}{rs:List (List Int)}{α β:Type}{cs:List Value}
def Az(v:Int)(n:Nat):List Value:=(List.range n).map fun i=>.int .u8 (v / 2 ^ (8*i) % 256)
theorem Ak(v:Int)(n:Nat):(Az v n).length=n:=by simp[Az]
theorem NC(v:Int)(i M:Nat)(h:8*(i+1)<=M):v % 2 ^ M / 2 ^ (8*i) % 256=v / 2 ^ (8*i) % 256:=by
 obtain⟨d,rfl⟩:=Nat.exists_eq_add_of_le h;have e:(2:Int) ^ (8*(i+1)+d)=2 ^ (8*i)*(256*2 ^ d):=by rw[show 8*(i+1)+d=8*i+(8+d)from oM,Int.pow_add,Int.pow_add];rfl
 have g:(0:Int)<2 ^ (8*i):=Int.pow_pos dC;rw[e];have f:v % (2 ^ (8*i)*(256*2 ^ d))=v-2 ^ (8*i)*(256*2 ^ d*(v / (2 ^ (8*i)*(256*2 ^ d)))):=by rw[Int.emod_def,Int.mul_assoc (2 ^ (8*i)) (256*2 ^ d)]
 rw[f,Int.sub_ediv_of_dvd _ (Int.dvd_mul_right _ _),Int.mul_ediv_cancel_left _ oM];generalize v / 2 ^ (8*i)=a;generalize v / (2 ^ (8*i)*(256*2 ^ d))=b;rw[Int.mul_assoc];generalize 2 ^ d*b=c;omega
theorem EV(v:Int)(n M:Nat)(h:8*n<=M):DB (v % 2 ^ M) n n=Az v n:=by
 unfold DB Az;apply mW;intro i a;have b:i<n:=by simpa using a
 rw[lI b,NC v i M oM]
theorem Nh(v:Int)(w:World):
 Calls Tryz.prog 48 #[.int .i64 v,.int .i64 1] w fun e a=>∃r,e=.returned r/\a.ownsRow w.heap.size 5 1 r 1 (Az v 1)/\Below w.heap.size w a:=by
 have d:Hid (∀w,Calls Tryz.prog 82 #[.int .u8 (IntKind.u8.wrap v),.int .i64 1] w fun e a=>∃r,e=.returned r/\a.ownsRow w.heap.size 5 1 r 1 (Az v 1)/\Below w.heap.size w a):=fun w=>by have h:=PN (v % 2 ^ 8) 1 w oM (lh _ dC) (fun h=>by first|(cases h;done)|(simp at h;done)|(have:=lT v (show(0:Int)<2 ^ 8 from dC);omega));rw[EV v 1 8 oM]at h;exact h
 go_enter Tryz.func48,Tryz.ntmps48;go_wp2_with (go_at_call 82;refine(d.o _).mono ?_;rintro e f ⟨r,rfl,c,b⟩);go_ret;exact⟨_,rfl,c,b⟩
theorem Ni(v:Int)(w:World):
 Calls Tryz.prog 48 #[.int .i64 v,.int .i64 2] w fun e a=>∃r,e=.returned r/\a.ownsRow w.heap.size 5 1 r 2 (Az v 2)/\Below w.heap.size w a:=by
 have d:Hid (∀w,Calls Tryz.prog 83 #[.int .u16 (IntKind.u16.wrap v),.int .i64 2] w fun e a=>∃r,e=.returned r/\a.ownsRow w.heap.size 5 1 r 2 (Az v 2)/\Below w.heap.size w a):=fun w=>by have h:=Ox (v % 2 ^ 16) 2 w oM (lh _ dC) (fun h=>by first|(cases h;done)|(simp at h;done)|(have:=lT v (show(0:Int)<2 ^ 16 from dC);omega));rw[EV v 2 16 oM]at h;exact h
 go_enter Tryz.func48,Tryz.ntmps48;go_wp2_with (go_at_call 83;refine(d.o _).mono ?_;rintro e f ⟨r,rfl,c,b⟩);go_ret;exact⟨_,rfl,c,b⟩
theorem Nj(v:Int)(w:World):
 Calls Tryz.prog 48 #[.int .i64 v,.int .i64 3] w fun e a=>∃r,e=.returned r/\a.ownsRow w.heap.size 5 1 r 3 (Az v 3)/\Below w.heap.size w a:=by
 have d:Hid (∀w,Calls Tryz.prog 84 #[.int .u32 (IntKind.u32.wrap v),.int .i64 3] w fun e a=>∃r,e=.returned r/\a.ownsRow w.heap.size 5 1 r 3 (Az v 3)/\Below w.heap.size w a):=fun w=>by have h:=J7 (v % 2 ^ 32) 3 w oM (lh _ dC) (fun h=>by first|(cases h;done)|(simp at h;done)|(have:=lT v (show(0:Int)<2 ^ 32 from dC);omega));rw[EV v 3 32 oM]at h;exact h
 go_enter Tryz.func48,Tryz.ntmps48;go_wp2_with (go_at_call 84;refine(d.o _).mono ?_;rintro e f ⟨r,rfl,c,b⟩);go_ret;exact⟨_,rfl,c,b⟩
theorem Nk(v:Int)(w:World):
 Calls Tryz.prog 48 #[.int .i64 v,.int .i64 4] w fun e a=>∃r,e=.returned r/\a.ownsRow w.heap.size 5 1 r 4 (Az v 4)/\Below w.heap.size w a:=by
 have d:Hid (∀w,Calls Tryz.prog 84 #[.int .u32 (IntKind.u32.wrap v),.int .i64 4] w fun e a=>∃r,e=.returned r/\a.ownsRow w.heap.size 5 1 r 4 (Az v 4)/\Below w.heap.size w a):=fun w=>by have h:=J7 (v % 2 ^ 32) 4 w oM (lh _ dC) (fun h=>by first|(cases h;done)|(simp at h;done)|(have:=lT v (show(0:Int)<2 ^ 32 from dC);omega));rw[EV v 4 32 oM]at h;exact h
 go_enter Tryz.func48,Tryz.ntmps48;go_wp2_with (go_at_call 84;refine(d.o _).mono ?_;rintro e f ⟨r,rfl,c,b⟩);go_ret;exact⟨_,rfl,c,b⟩
theorem Nl(v:Int)(w:World):
 Calls Tryz.prog 48 #[.int .i64 v,.int .i64 5] w fun e a=>∃r,e=.returned r/\a.ownsRow w.heap.size 5 1 r 5 (Az v 5)/\Below w.heap.size w a:=by
 have d:Hid (∀w,Calls Tryz.prog 85 #[.int .u64 (IntKind.u64.wrap v),.int .i64 5] w fun e a=>∃r,e=.returned r/\a.ownsRow w.heap.size 5 1 r 5 (Az v 5)/\Below w.heap.size w a):=fun w=>by have h:=FS (v % 2 ^ 64) 5 w oM (lh _ dC) (fun h=>by first|(cases h;done)|(simp at h;done)|(have:=lT v (show(0:Int)<2 ^ 64 from dC);omega));rw[EV v 5 64 oM]at h;exact h
 go_enter Tryz.func48,Tryz.ntmps48;go_wp2_with (go_at_call 85;refine(d.o _).mono ?_;rintro e f ⟨r,rfl,c,b⟩);go_ret;exact⟨_,rfl,c,b⟩
theorem Nm(v:Int)(w:World):
 Calls Tryz.prog 48 #[.int .i64 v,.int .i64 6] w fun e a=>∃r,e=.returned r/\a.ownsRow w.heap.size 5 1 r 6 (Az v 6)/\Below w.heap.size w a:=by
 have d:Hid (∀w,Calls Tryz.prog 85 #[.int .u64 (IntKind.u64.wrap v),.int .i64 6] w fun e a=>∃r,e=.returned r/\a.ownsRow w.heap.size 5 1 r 6 (Az v 6)/\Below w.heap.size w a):=fun w=>by have h:=FS (v % 2 ^ 64) 6 w oM (lh _ dC) (fun h=>by first|(cases h;done)|(simp at h;done)|(have:=lT v (show(0:Int)<2 ^ 64 from dC);omega));rw[EV v 6 64 oM]at h;exact h
 go_enter Tryz.func48,Tryz.ntmps48;go_wp2_with (go_at_call 85;refine(d.o _).mono ?_;rintro e f ⟨r,rfl,c,b⟩);go_ret;exact⟨_,rfl,c,b⟩
theorem Nn(v:Int)(w:World):
 Calls Tryz.prog 48 #[.int .i64 v,.int .i64 7] w fun e a=>∃r,e=.returned r/\a.ownsRow w.heap.size 5 1 r 7 (Az v 7)/\Below w.heap.size w a:=by
 have d:Hid (∀w,Calls Tryz.prog 85 #[.int .u64 (IntKind.u64.wrap v),.int .i64 7] w fun e a=>∃r,e=.returned r/\a.ownsRow w.heap.size 5 1 r 7 (Az v 7)/\Below w.heap.size w a):=fun w=>by have h:=FS (v % 2 ^ 64) 7 w oM (lh _ dC) (fun h=>by first|(cases h;done)|(simp at h;done)|(have:=lT v (show(0:Int)<2 ^ 64 from dC);omega));rw[EV v 7 64 oM]at h;exact h
 go_enter Tryz.func48,Tryz.ntmps48;go_wp2_with (go_at_call 85;refine(d.o _).mono ?_;rintro e f ⟨r,rfl,c,b⟩);go_ret;exact⟨_,rfl,c,b⟩
theorem Np(v:Int)(w:World):
 Calls Tryz.prog 48 #[.int .i64 v,.int .i64 8] w fun e a=>∃r,e=.returned r/\a.ownsRow w.heap.size 5 1 r 8 (Az v 8)/\Below w.heap.size w a:=by
 have d:Hid (∀w,Calls Tryz.prog 85 #[.int .u64 (IntKind.u64.wrap v),.int .i64 8] w fun e a=>∃r,e=.returned r/\a.ownsRow w.heap.size 5 1 r 8 (Az v 8)/\Below w.heap.size w a):=fun w=>by have h:=FS (v % 2 ^ 64) 8 w oM (lh _ dC) (fun h=>by first|(cases h;done)|(simp at h;done)|(have:=lT v (show(0:Int)<2 ^ 64 from dC);omega));rw[EV v 8 64 oM]at h;exact h
 go_enter Tryz.func48,Tryz.ntmps48;go_wp2_with (go_at_call 85;refine(d.o _).mono ?_;rintro e f ⟨r,rfl,c,b⟩);go_ret;exact⟨_,rfl,c,b⟩
theorem Lu(v n:Int)(w:World)(h:n<1\/8<n):
 Calls Tryz.prog 48 #[.int .i64 v,.int .i64 n] w fun e a=>∃r,e=.returned r/\a.ownsRow w.heap.size 5 1 r 0 (Az v 0)/\Below w.heap.size w a:=by
 have b:(n==1)=false:=oT;have c:(n==2)=false:=oT;have d:(n==3)=false:=oT;have f:(n==4)=false:=oT;have g:(n==5)=false:=oT;have i:(n==6)=false:=oT;have j:(n==7)=false:=oT;have k:(n==8)=false:=oT;clear h;go_enter Tryz.func48,Tryz.ntmps48;go_wp2;go_ret;exact⟨_,rfl,lJ _ _ _ _,kV _ _⟩
def Q1(n:Int):Nat:=if 1<=n/\n<=8 then n.toNat else 0
theorem Ir(v n:Int)(w:World):
 Calls Tryz.prog 48 #[.int .i64 v,.int .i64 n] w fun e a=>∃r,e=.returned r/\a.ownsRow w.heap.size 5 1 r (Q1 n) (Az v (Q1 n))/\Below w.heap.size w a:=by
 by_cases h:1<=n/\n<=8
 . have b:n=1\/n=2\/n=3\/n=4\/n=5\/n=6\/n=7\/n=8:=oM
   rcases b with rfl|rfl|rfl|rfl|rfl|rfl|rfl|rfl
   . exact Nh v w
   . exact Ni v w
   . exact Nj v w
   . exact Nk v w
   . exact Nl v w
   . exact Nm v w
   . exact Nn v w
   exact Np v w
 have e:Q1 n=0:=lE h;rw[e];exact Lu v n w oM
def DR:Array Value:=#[.string ⟨#[110,111,112]⟩,.int .i64 1,.int .i64 0,
 .string ⟨#[99,111,110,115,116]⟩,.int .i64 1,.int .i64 1,
 .string ⟨#[108,111,97,100,108,111,99,97,108]⟩,.int .i64 1,.int .i64 2,
 .string ⟨#[115,116,111,114,101,108,111,99,97,108]⟩,.int .i64 1,.int .i64 2,
 .string ⟨#[108,111,97,100]⟩,.int .i64 2,.int .i64 3,
 .string ⟨#[115,116,111,114,101]⟩,.int .i64 2,.int .i64 3,
 .string ⟨#[108,111,97,100,97,116]⟩,.int .i64 3,.int .i64 4,
 .string ⟨#[115,116,111,114,101,97,116]⟩,.int .i64 3,.int .i64 4,
 .string ⟨#[97,100,100]⟩,.int .i64 1,.int .i64 5,
 .string ⟨#[115,117,98]⟩,.int .i64 1,.int .i64 5,
 .string ⟨#[109,117,108]⟩,.int .i64 3,.int .i64 5,
 .string ⟨#[100,105,118]⟩,.int .i64 8,.int .i64 5,
 .string ⟨#[109,111,100]⟩,.int .i64 8,.int .i64 5,
 .string ⟨#[97,110,100]⟩,.int .i64 1,.int .i64 6,
 .string ⟨#[111,114]⟩,.int .i64 1,.int .i64 6,
 .string ⟨#[120,111,114]⟩,.int .i64 1,.int .i64 6,
 .string ⟨#[110,111,116]⟩,.int .i64 1,.int .i64 6,
 .string ⟨#[115,104,108]⟩,.int .i64 1,.int .i64 0,
 .string ⟨#[115,104,114]⟩,.int .i64 1,.int .i64 0,
 .string ⟨#[110,101,103]⟩,.int .i64 1,.int .i64 0,
 .string ⟨#[101,113]⟩,.int .i64 1,.int .i64 7,
 .string ⟨#[108,101,115,115]⟩,.int .i64 1,.int .i64 5,
 .string ⟨#[99,111,110,118]⟩,.int .i64 1,.int .i64 8,
 .string ⟨#[100,117,112]⟩,.int .i64 1,.int .i64 0,
 .string ⟨#[100,114,111,112]⟩,.int .i64 1,.int .i64 0,
 .string ⟨#[106,117,109,112]⟩,.int .i64 2,.int .i64 9,
 .string ⟨#[106,117,109,112,122,101,114,111]⟩,.int .i64 2,.int .i64 9,
 .string ⟨#[103,117,97,114,100]⟩,.int .i64 2,.int .i64 10,
 .string ⟨#[99,97,108,108]⟩,.int .i64 4,.int .i64 11,
 .string ⟨#[114,101,116,117,114,110]⟩,.int .i64 2,.int .i64 0]
theorem Od(w:World):Calls Tryz.prog 103 #[] w fun e c=>e=.returned (.slice (some ⟨w.heap.size,0,none⟩) 30 30)/\c=w.alloc (.cells DR 133):=by go_enter Tryz.func103,Tryz.ntmps103;go_wp2_with (show wpList _ _ _ ({dst:=some 1,op:=Op.build _ _,type:=_,pos:=_,after:=_,guard:=_}::_) _ _;refine Js 30 188 133 30 #[(0,.tmp 1),(1,.tmp 2),(2,.tmp 3),(3,.tmp 4),(4,.tmp 5),(5,.tmp 6),(6,.tmp 7),(7,.tmp 8),(8,.tmp 9),(9,.tmp 10),(10,.tmp 11),(11,.tmp 12),(12,.tmp 13),(13,.tmp 14),(14,.tmp 15),(15,.tmp 16),(16,.tmp 17),(17,.tmp 18),(18,.tmp 19),(19,.tmp 20),(20,.tmp 21),(21,.tmp 22),(22,.tmp 23),(23,.tmp 24),(24,.tmp 25),(25,.tmp 26),(26,.tmp 27),(27,.tmp 28),(28,.tmp 29),(29,.tmp 30)] 31 0 32 DR ((Tryz.prog.info? 133).getD default) (.agg #[.string ⟨#[]⟩,.int .i64 0,.int .i64 0]) kR rfl dC dC Tryz.underlying188 kR kR (mv kR) (mv kR) ?_;intro a' b a);refine i6 (v:=.slice (some ⟨w.heap.size,0,none⟩) 30 30) ?_ a ⟨rfl,rfl⟩;rw[<-b];exact results_tmp Tryz.results103 _ _ _
def Ct(k:Nat):List Value:=(DR.extract (3*k) (3*k+3)).toList
theorem KN(k:Nat)(b:k<30):(Ct k).length=3:=by have a:DR.size=90:=kR;simp[Ct,a];omega
theorem N0(k:Nat)(d:k<30):(Ct k).toArray.all (·.oneCell')=true:=by have a:DR.all (·.oneCell')=true:=kR;rw[Array.all_eq_true_iff_forall_mem]at a⊢;intro v b;simp only[Ct,Array.toArray_toList]at b;obtain⟨i,c,rfl⟩:=Array.mem_iff_getElem.1 b;rw[Array.getElem_extract];exact a _ (Array.getElem_mem _)
theorem LD(w:World)(b k:Nat)(d:k<30)(h:w.heap[b]?=some (.cells DR 133)):w.rangeAt b (k*3) (Ct k):=by
 intro j v a;have c:DR.size=90:=kR;rw[mJ w b _ DR _ _ h];simp only[Ct,Array.getElem?_toList]at a;rw[Array.getElem?_extract]at a;split at a
 . rw[<-a,Nat.mul_comm]
 cases a
theorem JM(w:World):(zeroValue 133).run Tryz.prog w=.ok (.agg #[.string ⟨#[]⟩,.int .i64 0,.int .i64 0]) w:=kR
theorem QC(op:Int)(w:World)(h:op<0\/29<op):Calls Tryz.prog 71 #[.int .i64 op] w fun e a=>e=.returned (.agg #[.string ⟨#[]⟩,.int .i64 0,.int .i64 0])/\Below w.heap.size w a:=by
 have c:=JM;rcases h with h|h
 . go_enter Tryz.func71,Tryz.ntmps71;go_wp2;exact i6 (v:=.agg #[.string ⟨#[]⟩,.int .i64 0,.int .i64 0]) (by simp[results,Tryz.results71,go_sem]) rfl ⟨rfl,(kV _ _).alloc lR _⟩
 have b:decide (op<0)=false:=oT;have h1:decide (29<op)=true:=oT;go_enter Tryz.func71,Tryz.ntmps71;go_wp2;exact i6 (v:=.agg #[.string ⟨#[]⟩,.int .i64 0,.int .i64 0]) (by simp[results,Tryz.results71,go_sem]) rfl ⟨rfl,(kV _ _).alloc lR _⟩
theorem Rt(k:Nat)(b:k<30)(w:World):Calls Tryz.prog 71 #[.int .i64 (k:Int)] w fun e c=>e=.returned (.agg (Ct k).toArray)/\Below w.heap.size w c:=by
 have f:=JM;have d:decide ((k:Int)<0)=false:=sP;have h1:decide (29<(k:Int))=false:=oT;have a:Hid ((Ct k).length=3/\(Ct k).toArray.all (·.oneCell')=true):=⟨KN k b,N0 k b⟩
 go_enter Tryz.func71,Tryz.ntmps71;go_wp2_with (first
  |(go_at_call 103;refine(Od _).mono ?_;rintro e g ⟨rfl,rfl⟩)
  |(show wpList _ _ _ ({dst:=some 13,op:=Op.load 133 _,type:=_,pos:=_,after:=_,guard:=_}::_) _ _;refine wpList_load_mid rfl 133 (.tmp 12) rfl (w.heap.size+1) (k*3) rfl (Ct k) _ (LD _ _ _ b (heap_alloc2_new _ _ _)) Tryz.underlying133 rfl (by rw[a.o.1];kernel_rfl) ?_)
  |(show wpList _ _ _ ({dst:=none,op:=Op.store 133 _ _,type:=_,pos:=_,after:=_,guard:=_}::_) _ _;refine wpList_store_row rfl 133 (.tmp 2) (.tmp 13) rfl w.heap.size (Ct k).toArray rfl rfl 133 #[.string ⟨#[]⟩,.int .i64 0,.int .i64 0] (heap_alloc2_old _ _ _) (by rw[List.size_toArray,a.o.1];kernel_rfl) (by show 3=(Ct k).length;rw[a.o.1]) a.o.2 ?_))
 refine i6 (v:=.agg (Ct k).toArray) (results_cell_row Tryz.results71 _ _ w.heap.size 133 (Ct k).toArray (0,0) _ rfl (setRow_heap _ _ _ _ _ _ (heap_alloc2_old _ _ _)) Tryz.underlying133 rfl (by rw[List.size_toArray,a.o.1];kernel_rfl)) rfl ⟨rfl,?_⟩;exact below_setRow (((kV _ _).alloc lR _).alloc sP _) lR _
def wordCells:Array Value:=#[.int .u32 0,.int .u32 1,.int .u32 2,.int .u32 4294967295,.int .u32 2147483648,.int .u32 2147483647,.int .u32 31,.int .u32 32]
theorem M7(r:Int)(a:0<=r)(h1:r<8):∃v:Int,0<=v/\v<4294967296/\wordCells[r.toNat]?=some (.int .u32 v):=by
 have h:r=0\/r=1\/r=2\/r=3\/r=4\/r=5\/r=6\/r=7:=oM
 rcases h with rfl|rfl|rfl|rfl|rfl|rfl|rfl|rfl<;>exact⟨_,oM,oM,rfl⟩
theorem DK(op:BinOp)(x y:Int):0<=bits op .u32 x y/\bits op .u32 x y<4294967296:=by
 have:∀n:Nat,IntKind.u32.wrap (n:Int)=(n:Int) % 4294967296:=fun _=>rfl
 unfold bits;simp only[this];omega
theorem FD{g:Nat}{a:Option Addr}{len cap:Nat}{p:Int}(h:Dy w g a len cap p)(P:p+4<=1000000000000):
 Calls Tryz.prog 93 #[.pointer (some ⟨g,0,none⟩)] w fun e C=>∃x m:Int,0<=x/\x<4294967296/\e=.returned (.int .u32 x)/\p<=m/\m<=p+4/\Dy C g a len cap m/\AG g w C:=by
 have O:=h.low;have H:Hid (Dy w g a len cap p):=h;clear h;go_enter Tryz.func93,Tryz.ntmps93;go_wp2_with fail;refine(Al H.o).mono ?_;rintro e k ⟨r,I,h1,rfl,y,s⟩;have i:Hid (Dy k g a len cap (p+1)/\AG g w k):=⟨y,s⟩
 clear y s;cases e0:(r==0)
 . cases e1:(r==1)
   . go_wp2_with fail;refine(Al i.o.1).mono ?_;rintro e c ⟨j,h2,l,rfl,f,b⟩;have d:Hid (Dy c g a len cap (p+1+1)/\AG g w c):=⟨f,i.o.2.trans b⟩
     clear f b;go_wp2;go_ret;exact⟨j,p+1+1,oM,oM,rfl,oM,oM,d.o.1,d.o.2⟩
   go_wp2_with fail;refine(Al i.o.1).mono ?_;rintro e c ⟨j,h2,l,rfl,f,b⟩;have d:Hid (Dy c g a len cap (p+1+1)/\AG g w c):=⟨f,i.o.2.trans b⟩
   clear f b;go_wp2_with fail;refine(Al d.o.1).mono ?_;rintro e D ⟨Q,J,K,rfl,z,t⟩;have n:Hid (Dy D g a len cap (p+1+1+1)/\AG g w D):=⟨z,d.o.2.trans t⟩
   clear z t;go_wp2_with fail;refine(Al n.o.1).mono ?_;rintro e E ⟨R,L,M,rfl,A,u⟩;have q:Hid (Dy E g a len cap (p+1+1+1+1)/\AG g w E):=⟨A,n.o.2.trans u⟩
   clear A u;go_wp2;go_ret;exact⟨_,p+1+1+1+1,(DK _ _ _).1,(DK _ _ _).2,rfl,oM,oM,q.o.1,q.o.2⟩
 go_wp2_with fail;refine(Al (i.o.1.alloc _)).mono ?_;rintro e c ⟨j,h2,l,rfl,f,b⟩;obtain⟨v,G,v1,B⟩:=M7 j h2 l;have F:g≠k.heap.size:=by have:=i.o.1.lt;omega
 have N:c.cell? ⟨k.heap.size,j.toNat,none⟩=some (.int .u32 v):=by rw[b.cell sP (by simpa using F.symm),mJ _ _ _ _ _ _ (lq _ _)];exact B
 have d:Hid (Dy c g a len cap (p+1+1)/\AG g w c):=⟨f,(i.o.2.trans (AG.alloc g k _)).trans b⟩
 clear f b B;go_wp2;go_ret;exact⟨v,p+1+1,G,v1,rfl,oM,oM,d.o.1,d.o.2⟩
structure MF where
 params:List Int
 result:Int
 locals:List Int
 code:List MI
structure VF where
 p:Value
 l:Value
 c:Value
def IG(w:World)(v:VF)(f:MF):Prop:=Rd w 1 v.p f.params.length (f.params.flatMap Ad)/\Rd w 1 v.l f.locals.length (f.locals.flatMap Ad)/\Rd w 4 v.c f.code.length (f.code.flatMap MI.cells)
def Fs(w:World)(base:Nat)(v:VF)(f:MF):Prop:=w.ownsRow base 2 1 v.p f.params.length (f.params.flatMap Ad)/\w.ownsRow base 2 1 v.l f.locals.length (f.locals.flatMap Ad)/\w.ownsRow base 96 4 v.c f.code.length (f.code.flatMap MI.cells)
def MF.small(f:MF):Prop:=f.params.length<=1048576/\f.locals.length<=1048576/\f.code.length<=1048576
theorem Fs.rd{base:Nat}{v:VF}{f:MF}(h:Fs w base v f):IG w v f:=⟨Rd.cB h.1,Rd.cB h.2.1,Rd.cB h.2.2⟩
theorem IG.aa{w c:World}{v:VF}{f:MF}(h:IG w v f)(b:Below B w c)(a:w.heap.size<=B):IG c v f:=⟨h.1.aa b a,h.2.1.aa b a,h.2.2.aa b a⟩
theorem Fs.aa{w c:World}{base:Nat}{v:VF}{f:MF}(h:Fs w base v f)(b:Below B w c)(a:w.heap.size<=B):Fs c base v f:=⟨Ai h.1 b a,Ai h.2.1 b a,Ai h.2.2 b a⟩
theorem BD{base a:Nat}{e:TypeId}{k n:Nat}{xs:List Value}(h:w.ownsRow base e k s n xs)(d:a<=base):w.ownsRow a e k s n xs:=by
 refine⟨h.1,?_⟩;rcases h.2 with h|⟨g,cap,b,c,f,i,j⟩
 . exact .inl h
 exact .inr ⟨g,cap,b,c,jX d f,i,j⟩
structure Fr(w u:World)(tp tr:TypeId)(p r o:List Value):Prop where
 ij:u.ownsRow w.heap.size tp 4 (.slice (some ⟨w.heap.size,0,none⟩) 1 1) 1 p
 gT:u.ownsRow w.heap.size tr 4 (.slice (some ⟨w.heap.size+1,0,none⟩) 1 1) 1 r
 loc:u.ownsRow w.heap.size tr 4 (.slice (some ⟨w.heap.size+1+1,0,none⟩) 1 1) 1 o
 aC:Below w.heap.size w u
 iA:w.heap.size+3<=u.heap.size
theorem Fr.of(w:World)(a b:TypeId)(p r o:Array Value)(i:p.size=4)(j:r.size=4)(h:o.size=4):
 Fr w (((w.alloc (.cells p a)).alloc (.cells r b)).alloc (.cells o b)) a b p.toList r.toList o.toList:=by
 have c:Below w.heap.size w (w.alloc (.cells p a)):=(kV _ _).alloc lR _;have c2:Below (w.alloc (.cells p a)).heap.size (w.alloc (.cells p a)) ((w.alloc (.cells p a)).alloc (.cells r b)):=(kV _ _).alloc lR _;have c3:Below ((w.alloc (.cells p a)).alloc (.cells r b)).heap.size ((w.alloc (.cells p a)).alloc (.cells r b)) (((w.alloc (.cells p a)).alloc (.cells r b)).alloc (.cells o b)):=(kV _ _).alloc lR _;have d:=ko (base:=w.heap.size) (e:=a) (size:=4) w p 1 lR oX oM;have f:=ko (base:=w.heap.size) (e:=b) (size:=4) (w.alloc (.cells p a)) r 1 sP oX oM;have g:=ko (base:=w.heap.size) (e:=b) (size:=4) ((w.alloc (.cells p a)).alloc (.cells r b)) o 1 (by simp<;>omega) oX oM;refine⟨Ai (Ai d c2 lR) c3 lR,?_,?_,(c.trans (c2.mono sP)).trans (c3.mono (by simp<;>omega)),by simp<;>omega⟩
 . have:=Ai f c3 lR;simpa using this
 simpa using g
theorem Fr.aa{b c:TypeId}{p r o:List Value}(h:Fr w u b c p r o)(a:Below u.heap.size u d):Fr w d b c p r o:=⟨Ai h.ij a lR,Ai h.gT a lR,Ai h.loc a lR,h.aC.trans (a.mono (by have:=h.iA;omega)),jX h.iA a.size⟩
theorem Fr.set{a:TypeId}{p r o:List Value}(h:Fr w u a b p r o)(j:Nat)(x:Value):Fr w (u.setCell ⟨w.heap.size+1+1,j,none⟩ x) a b p r (o.set j x):=⟨i9 h.ij (by simp[Value.ownBlock]<;>omega) x,i9 h.gT (by simp[Value.ownBlock]) x,(h.loc.stored j x).1,h.aC.setCell (by simp<;>omega) x,by have:=h.iA;simpa using this⟩
theorem Q0(v:Int)(k:Nat)(h:8*(k+1)<=64):Az v k++[.int .u8 (IntKind.u64.wrap v / 2 ^ (8*k) % 256)]=Az v (k+1):=by have e:IntKind.u64.wrap v / 2 ^ (8*k) % 256=v / 2 ^ (8*k) % 256:=NC v k 64 h;rw[e];simp[Az,List.range_succ]
theorem AU(v:Int)(n:Nat)(w:World)(h1:1<=n)(A:n<=8):
 Calls Tryz.prog 31 #[.int .i64 v,.int .i64 n] w fun e g=>∃r,e=.returned r/\g.ownsRow w.heap.size 5 1 r n (Az v n)/\Below w.heap.size w g:=by
 obtain⟨z,m,u,x,y⟩:=kS infoBD;have B:decide ((n:Int)<1)=false:=oT;have C:decide (8<(n:Int))=false:=oT;go_enter Tryz.func31,Tryz.ntmps31;go_wp2;go_loopw [5,6] (fun s i wr=>∃k:Nat,k<=n/\i=.int .i64 k/\wr.ownsRow w.heap.size 5 1 s k (Az v k)/\Below w.heap.size w wr) (fun _ i _=>n-(intOf i).toNat)
 case atStart=>exact⟨0,oM,rfl,⟨by simp[Az],.inr ⟨w.heap.size,0,#[],rfl,Nat.le_refl _,lq _ _,Nat.le_refl _,lr _,rfl,rfl⟩⟩,(kV _ _).alloc lR _⟩
 obtain⟨k,D,rfl,b,a⟩:=hrel;by_cases E:k<n
 . go_wp2_with (at_builtin;refine wpList_append_own _ rfl _ _ 22 rfl w.heap.size 5 z (.int .u8 0) 1 1 Tryz.underlying22 m u x y rfl dC _ _ _ rfl (b.alloc _) ⟨wr.heap.size,0,none⟩ 1 1 [_] rfl rfl (cell_one_new _ _ _) (ints_oneCell .u8 [_]) oX oM (by have:=a.size;simp;omega) ?_;intro v' h d f t);rw[Q0 v k oM]at d;have c:Hid (h.ownsRow w.heap.size 5 1 v' (k+1) (Az v (k+1))):=d;have l:Hid (Below w.heap.size w h):=(a.alloc a.size _).grown f (by have:=a.size;simp;omega) (fun j p=>(b.lt j p).1);clear b d f t;go_wp2;go_roundw;(case rel=>exact⟨k+1,oM,by go_num,c.o,l.o⟩);exact oI
 have q:k=n:=oM;subst q;have c:Hid (wr.ownsRow w.heap.size 5 1 u5 k (Az v k)):=b;clear b;go_wp2;go_ret;exact⟨_,rfl,c.o,a⟩
def Dk(op:Int):Array Value:=if 0<=op/\op<=29 then(Ct op.toNat).toArray else #[.string ⟨#[]⟩,.int .i64 0,.int .i64 0]
theorem Mf(k:Nat)(a:k<30):Dk (k:Int)=(Ct k).toArray:=by unfold Dk;rw[lI oM];rfl
theorem KM{op:Int}(h:op<0\/29<op):Dk op=#[.string ⟨#[]⟩,.int .i64 0,.int .i64 0]:=by unfold Dk;rw[lE oM]
theorem Jc(k:Nat)(a:k<30):∃(s:ByteArray) (c f:Int),(Ct k).toArray=#[.string s,.int .i64 c,.int .i64 f]:=by
 have h:k=0\/k=1\/k=2\/k=3\/k=4\/k=5\/k=6\/k=7\/k=8\/k=9\/k=10\/k=11\/k=12\/k=13\/k=14\/k=15\/k=16\/k=17\/k=18\/k=19\/k=20\/k=21\/k=22\/k=23\/k=24\/k=25\/k=26\/k=27\/k=28\/k=29:=oM
 clear a;rcases h with rfl|rfl|rfl|rfl|rfl|rfl|rfl|rfl|rfl|rfl|rfl|rfl|rfl|rfl|rfl|rfl|rfl|rfl|rfl|rfl|rfl|rfl|rfl|rfl|rfl|rfl|rfl|rfl|rfl|rfl<;>exact⟨_,_,_,rfl⟩
theorem NZ(op:Int):∃(s:ByteArray) (c f:Int),Dk op=#[.string s,.int .i64 c,.int .i64 f]:=by
 by_cases h:0<=op/\op<=29
 . unfold Dk;rw[lI h];exact Jc _ oM
 unfold Dk;rw[lE h];exact⟨_,_,_,rfl⟩
theorem CS(op:Int)(w:World):Calls Tryz.prog 71 #[.int .i64 op] w fun e a=>e=.returned (.agg (Dk op))/\Below w.heap.size w a:=by
 by_cases h:op<0\/29<op
 . rw[KM h];exact QC op w h
 obtain⟨k,rfl⟩:=i7 (show 0<=op from oM);rw[Mf k oM];exact Rt k oM w
theorem O7(k:Nat)(a:k<30)(w:World):(Instr.field 201 (.agg (Da k)) 0).run Tryz.prog w=.ok (.agg (Ct k).toArray) w:=by
 have h:k=0\/k=1\/k=2\/k=3\/k=4\/k=5\/k=6\/k=7\/k=8\/k=9\/k=10\/k=11\/k=12\/k=13\/k=14\/k=15\/k=16\/k=17\/k=18\/k=19\/k=20\/k=21\/k=22\/k=23\/k=24\/k=25\/k=26\/k=27\/k=28\/k=29:=oM
 clear a;rcases h with rfl|rfl|rfl|rfl|rfl|rfl|rfl|rfl|rfl|rfl|rfl|rfl|rfl|rfl|rfl|rfl|rfl|rfl|rfl|rfl|rfl|rfl|rfl|rfl|rfl|rfl|rfl|rfl|rfl|rfl<;>(show Sem.run _ _ _=Result.ok _ _;kernel_rfl)
theorem O8(w:World):(Instr.field 201 (.agg #[.string ⟨#[]⟩,.int .i64 0,.int .i64 0,.nilFunc]) 0).run Tryz.prog w=.ok (.agg #[.string ⟨#[]⟩,.int .i64 0,.int .i64 0]) w:=kR
theorem PU(op:Int)(row:Value)(s:ByteArray)(c f:Int)(k:Dk op=#[.string s,.int .i64 c,.int .i64 f])
 (a:∀w,Calls Tryz.prog 122 #[.int .i64 op] w fun e d=>e=.returned row/\Below w.heap.size w d)
 (l:∀w,(Instr.field 201 row 0).run Tryz.prog w=.ok (.agg #[.string s,.int .i64 c,.int .i64 f]) w) (w:World):
 Calls Tryz.prog 106 #[.int .i64 op] w fun e d=>e=.returned (.agg (Dk op))/\Below w.heap.size w d:=by
 have m:=JM;rw[k];clear k;have H:Hid (∀w,Calls Tryz.prog 122 #[.int .i64 op] w fun e d=>e=.returned row/\Below w.heap.size w d):=a
 clear a;go_enter Tryz.func106,Tryz.ntmps106;go_wp2_with (go_at_call 122;refine(H.o _).mono ?_;rintro e b ⟨rfl,g⟩;have a:b.heap[w.heap.size]?=some (.cells #[.string ⟨#[]⟩,.int .i64 0,.int .i64 0] 133):=(g.block _ sP).trans (lq _ _);have h:=mJ b _ 0 _ _ _ a;have i:=mJ b _ 1 _ _ _ a;have j:=mJ b _ 2 _ _ _ a;have n:=frozen_of_row b _ 0 _ _ a;have p:=frozen_of_row b _ 1 _ _ a;have q:=frozen_of_row b _ 2 _ _ a;simp at h i j);refine i6 (v:=.agg #[.string s,.int .i64 c,.int .i64 f]) (by simp[results,Tryz.results106,go_sem,h,i,j]) rfl ⟨rfl,?_⟩;exact((((((kV _ _).alloc lR _).trans (g.mono sP)).setCell sP _).setCell sP _).setCell sP _)
theorem Rp(op:Int)(w:World):Calls Tryz.prog 106 #[.int .i64 op] w fun e b=>e=.returned (.agg (Dk op))/\Below w.heap.size w b:=by
 by_cases h:op<0\/29<op
 . exact PU op _ _ _ _ (KM h) (fun w=>Ra op w h) O8 w
 obtain⟨k,rfl⟩:=i7 (show 0<=op from oM);obtain⟨s,c,f,a⟩:=Jc k oM;exact PU _ _ s c f ((Mf k oM).trans a) (fun w=>Ta k oM w) (fun w=>by rw[<-a];exact O7 k oM w) w
theorem Lw{a:Option Addr}{len cap:Nat}{c:List Int}
 (h:(a=none/\len=0/\cap=0/\c=[])\/∃x,a=some x/\len<=cap/\cap<=maxLen/\c.length=cap/\(∀i,i<c.length->w.cell? (x.add i)=some (.int .u8 (c.getD i 0)))/\∀n∈c,(Lit.int .u8 n).wf=true):
 G5 w w.heap.size a len:=by
 rcases h with⟨_,h,_⟩|⟨x,rfl,h1,h2,p,d,k⟩
 . exact .inl h
 by_cases j:len=0
 . exact .inl j
 obtain⟨b,e,m⟩:=x;have l:m=none:=by simpa[Addr.add]using World.cell?_spot (d 0 oM)
 subst l;have f:∀i,(⟨b,e,none⟩:Addr).add i=⟨b,e+i,none⟩:=fun i=>by unfold Addr.add;split<;>simp_all
 refine .inr ⟨b,e,rfl,?_,fun i r=> ?_⟩
 . have:=d 0 oM;rw[f]at this;exact d5 this
 have g:=d i oM;rw[f]at g;refine⟨_,?_,?_,g⟩;all_goals
  have hw:=k (c.getD i 0) (by rw[kF,an (show i<c.length from oM)];exact ku _);have q:0<=c.getD i 0/\c.getD i 0<=255:=by simpa[Lit.wf,IntKind.min,IntKind.max,IntKind.signed,IntKind.bits]using hw
  omega
theorem hstep{a b c:World}(H:Hid (Below a.heap.size a b))(h:Below b.heap.size b c):Hid (Below a.heap.size a c):=H.o.trans (h.mono H.o.size)
def AJ(x:MF×VF):List Value:=[x.2.p,iZ x.1.result,x.2.l,x.2.c]
theorem Aj(x:MF×VF):(AJ x).length=4:=rfl
def Bi(x:List Int×Value):List Value:=[x.2]
theorem Bc(x:List Int×Value):(Bi x).length=1:=rfl
def Nq(w:World)(s:Value)(a:List MF):Prop:=∃xs:List (MF×VF),xs.map Prod.fst=a/\Rd w 4 s a.length (xs.flatMap AJ)/\∀x∈xs,IG w x.2 x.1
def DZ(w:World)(base:Nat)(s:Value)(a:List MF):Prop:=∃xs:List (MF×VF),xs.map Prod.fst=a/\w.ownsRow base 68 4 s a.length (xs.flatMap AJ)/\∀x∈xs,Fs w base x.2 x.1
def OR(w:World)(s:Value)(rs:List (List Int)):Prop:=∃xs:List (List Int×Value),xs.map Prod.fst=rs/\Rd w 1 s rs.length (xs.flatMap Bi)/\∀x∈xs,Rd w 1 x.2 x.1.length (x.1.flatMap Ad)
def Gw(w:World)(base:Nat)(s:Value)(rs:List (List Int)):Prop:=∃xs:List (List Int×Value),xs.map Prod.fst=rs/\w.ownsRow base 58 1 s rs.length (xs.flatMap Bi)/\∀x∈xs,w.ownsRow base 2 1 x.2 x.1.length (x.1.flatMap Ad)
theorem DZ.rd{base:Nat}{a:List MF}(h:DZ w base s a):Nq w s a:=by obtain⟨xs,h1,h2,b⟩:=h;exact⟨xs,h1,Rd.cB h2,fun x c=>(b x c).rd⟩
theorem Gw.rd{base:Nat}(h:Gw w base s rs):OR w s rs:=by obtain⟨xs,h1,h2,a⟩:=h;exact⟨xs,h1,Rd.cB h2,fun x b=>Rd.cB (a x b)⟩
theorem Nq.aa{a:List MF}(h:Nq w s a)(c:Below B w d)(b:w.heap.size<=B):Nq d s a:=by obtain⟨xs,h1,h2,e⟩:=h;exact⟨xs,h1,h2.aa c b,fun x f=>(e x f).aa c b⟩
theorem OR.aa{w c:World}(h:OR w s rs)(b:Below B w c)(a:w.heap.size<=B):OR c s rs:=by obtain⟨xs,h1,h2,d⟩:=h;exact⟨xs,h1,h2.aa b a,fun x e=>(d x e).aa b a⟩
theorem DZ.aa{base:Nat}{a:List MF}(h:DZ w base s a)(c:Below B w d)(b:w.heap.size<=B):DZ d base s a:=by obtain⟨xs,h1,h2,e⟩:=h;exact⟨xs,h1,Ai h2 c b,fun x f=>(e x f).aa c b⟩
theorem Gw.aa{w c:World}{base:Nat}(h:Gw w base s rs)(b:Below B w c)(a:w.heap.size<=B):Gw c base s rs:=by obtain⟨xs,h1,h2,d⟩:=h;exact⟨xs,h1,Ai h2 b a,fun x e=>Ai (d x e) b a⟩
theorem Fs.base{base b:Nat}{v:VF}{f:MF}(h:Fs w base v f)(a:b<=base):Fs w b v f:=⟨BD h.1 a,BD h.2.1 a,BD h.2.2 a⟩
theorem DZ.base{base a:Nat}{b:List MF}(h:DZ w base s b)(c:a<=base):DZ w a s b:=by obtain⟨xs,h1,h2,d⟩:=h;exact⟨xs,h1,BD h2 c,fun x e=>(d x e).base c⟩
theorem Gw.base{base a:Nat}(h:Gw w base s rs)(b:a<=base):Gw w a s rs:=by obtain⟨xs,h1,h2,c⟩:=h;exact⟨xs,h1,BD h2 b,fun x d=>BD (c x d) b⟩
theorem Fs.below{base:Nat}{v:VF}{f:MF}(h:Fs w base v f)(b:a.block<base)(u:Value):Fs (w.setCell a u) base v f:=⟨ks h.1 b u,ks h.2.1 b u,ks h.2.2 b u⟩
theorem DZ.below{base:Nat}{b:List MF}(h:DZ w base s b)(c:a.block<base)(u:Value):DZ (w.setCell a u) base s b:=by obtain⟨xs,h1,h2,d⟩:=h;exact⟨xs,h1,ks h2 c u,fun x e=>(d x e).below c u⟩
theorem Gw.below{base:Nat}(h:Gw w base s rs)(b:a.block<base)(u:Value):Gw (w.setCell a u) base s rs:=by obtain⟨xs,h1,h2,c⟩:=h;exact⟨xs,h1,ks h2 b u,fun x d=>ks (c x d) b u⟩
theorem Qc:(Tryz.prog.info? 68).map (fun i=>(i.zero,i.size,i.bytes))=some (some (.agg #[sN,iZ 0,sN,sN]),4,80):=kR
theorem Sw:(Tryz.prog.info? 58).map (fun i=>(i.zero,i.size,i.bytes))=some (some sN,1,24):=kR
theorem CK{xs:List (α×β)}{a:List α}(h:xs.map Prod.fst=a){k:Nat}{x:α×β}(b:xs[k]?=some x):a[k]?=some x.1:=by rw[<-h,kh,b];rfl
theorem NQ{c:List (α×β)}{a:List α}{k:Nat}(h:c.map Prod.fst=a.take k){f:α}(d:a[k]?=some f)(b:β):(c++[(f,b)]).map Prod.fst=a.take (k+1):=by obtain⟨e,rfl⟩:=d7.1 d;rw[lW,h,kQ e];rfl
def Mj{α:Type}(f:α->List Value)(z:List Value)(a:List α)(n:Nat):List Value:=a.flatMap f++(List.replicate (n-a.length) z).flatten
theorem FO(f:α->List Value)(z:List Value)(a:List α)(k n:Nat)(b:k<n)(c:a.length=k):Mj f z a n=a.flatMap f++(z++(List.replicate (n-(k+1)) z).flatten):=by unfold Mj;have e:n-a.length=(n-(k+1))+1:=oM;rw[e,mi,List.flatten_cons]
theorem K6(f:α->List Value)(z:List Value)(a:List α)(k n:Nat)(y:α)(b:a.length=k):Mj f z (a++[y]) n=a.flatMap f++(f y++(List.replicate (n-(k+1)) z).flatten):=by unfold Mj;rw[kO,kT];simp[b]
structure Vy(w wr:World)(fs:List MF)(L k:Nat)(ys:List (MF×VF)):Prop where
 fst:ys.map Prod.fst=fs.take k
 len:ys.length=k
 row:wr.ownsRow w.heap.size 68 4 (sG w.heap.size L L) L (Mj AJ [sN,iZ 0,sN,sN] ys L)
 els:∀y∈ys,Fs wr (w.heap.size+1) y.2 y.1
 aC:Below w.heap.size w wr
 iA:w.heap.size+1<=wr.heap.size
theorem Vy.places{g:List MF}{L k:Nat}{f:List (MF×VF)}(h:Vy w wr g L k f)(l:k<L)(j:Below wr.heap.size wr u):
 u.cell? ⟨w.heap.size,k*4,none⟩=some sN/\u.cell? ⟨w.heap.size,k*4+1,none⟩=some (iZ 0)/\u.cell? ⟨w.heap.size,k*4+2,none⟩=some sN/\u.cell? ⟨w.heap.size,k*4+3,none⟩=some sN/\u.frozen? ⟨w.heap.size,k*4,none⟩=false/\u.frozen? ⟨w.heap.size,k*4+1,none⟩=false/\u.frozen? ⟨w.heap.size,k*4+2,none⟩=false/\u.frozen? ⟨w.heap.size,k*4+3,none⟩=false:=by
 have a:=Ai h.row j lR;rw[FO AJ _ f k L l h.len]at a;have i:(f.flatMap AJ).length=k*4:=by rw[Av AJ 4 Aj,h.len]
 have b:=a.cellAt (k*4) oM;have c:=a.cellAt (k*4+1) oM;have d:=a.cellAt (k*4+2) oM;have e:=a.cellAt (k*4+3) oM;rw[ky oM,i]at b c d e;rw[nP]at b;rw[mO]at c d e;exact⟨b,c,d,e,a.frozenAt _,a.frozenAt _,a.frozenAt _,a.frozenAt _⟩
theorem Vy.next{e:List MF}{L k:Nat}{b:List (MF×VF)}(h:Vy w wr e L k b)(n:k<L)(d:Below wr.heap.size wr u){f:MF}(m:e[k]?=some f){v:VF}(q:Fs u wr.heap.size v f):
 Vy w ((((u.setCell ⟨w.heap.size,k*4,none⟩ v.p).setCell ⟨w.heap.size,k*4+1,none⟩ (iZ f.result)).setCell ⟨w.heap.size,k*4+2,none⟩ v.l).setCell ⟨w.heap.size,k*4+3,none⟩ v.c) e L (k+1) (b++[(f,v)]):=by
 have g:=Ai h.row d lR;rw[FO AJ _ b k L n h.len]at g;have j:(b.flatMap AJ).length=k*4:=by rw[Av AJ 4 Aj,h.len]
 have s:=(g.stored (k*4) v.p).1;have t:=(s.stored (k*4+1) (iZ f.result)).1;have x:=(t.stored (k*4+2) v.l).1;have i:=(x.stored (k*4+3) v.c).1;rw[WE _ _ _ _ _ _ _ _ _ _ (k*4) j]at i;refine⟨NQ h.fst m v,by simp[h.len],?_,?_,?_,?_⟩
 . rw[K6 AJ _ b k L (f,v) h.len];exact i
 . intro y a;have r:Fs u (w.heap.size+1) y.2 y.1:=by
    rcases kB.1 a with a|a
    . exact(h.els y a).aa d lR
    simp only[kM]at a;subst a;exact q.base h.iA
   exact(((r.below sP _).below sP _).below sP _).below sP _
 . exact((((h.aC.trans (d.mono (by have:=h.iA;omega))).setCell lR _).setCell lR _).setCell lR _).setCell lR _
 have:=d.size;have:=h.iA;simp;omega
structure VG(w wr:World)(fs:List (List Int))(L k:Nat)(ys:List (List Int×Value)):Prop where
 fst:ys.map Prod.fst=fs.take k
 len:ys.length=k
 row:wr.ownsRow w.heap.size 58 1 (sG w.heap.size L L) L (Mj Bi [sN] ys L)
 els:∀y∈ys,wr.ownsRow (w.heap.size+1) 2 1 y.2 y.1.length (y.1.flatMap Ad)
 aC:Below w.heap.size w wr
 iA:w.heap.size+1<=wr.heap.size
theorem VG.places{d:List (List Int)}{L k:Nat}{c:List (List Int×Value)}(h:VG w wr d L k c)(g:k<L)(f:Below wr.heap.size wr u):
 u.cell? ⟨w.heap.size,k,none⟩=some sN/\u.frozen? ⟨w.heap.size,k,none⟩=false:=by
 have b:=Ai h.row f lR;rw[FO Bi _ c k L g h.len]at b;have e:(c.flatMap Bi).length=k:=by rw[Av Bi 1 Bc,h.len,kn]
 have a:=b.cellAt k oM;rw[ky oM,e]at a;rw[nP]at a;exact⟨a,b.frozenAt _⟩
theorem VG.next{d:List (List Int)}{L k:Nat}{b:List (List Int×Value)}(h:VG w wr d L k b)(l:k<L)(c:Below wr.heap.size wr u){f:List Int}(j:d[k]?=some f){v:Value}(m:u.ownsRow wr.heap.size 2 1 v f.length (f.flatMap Ad)):
 VG w (u.setCell ⟨w.heap.size,k,none⟩ v) d L (k+1) (b++[(f,v)]):=by
 have e:=Ai h.row c lR;rw[FO Bi _ b k L l h.len]at e;have i:(b.flatMap Bi).length=k:=by rw[Av Bi 1 Bc,h.len,kn]
 have g:=(e.stored k v).1;rw[Wk _ _ _ _ k i]at g;refine⟨NQ h.fst j v,by simp[h.len],?_,?_,?_,?_⟩
 . rw[K6 Bi _ b k L (f,v) h.len];exact g
 . intro y a;have n:u.ownsRow (w.heap.size+1) 2 1 y.2 y.1.length (y.1.flatMap Ad):=by
    rcases kB.1 a with a|a
    . exact Ai (h.els y a) c lR
    simp only[kM]at a;subst a;exact BD m h.iA
   exact ks n sP _
 . exact(h.aC.trans (c.mono (by have:=h.iA;omega))).setCell lR _
 have:=c.size;have:=h.iA;simp;omega
structure MP where
 aB:List (List Int)
 ag:List MC
 funcs:List MF
 a7:List MT
structure VP where
 r:Value
 k:Value
 f:Value
 t:Value
def VP.val(v:VP):Value:=.agg #[v.r,v.k,v.f,v.t]
structure Ft(w:World)(v:VP)(p:MP):Prop where
 aB:OR w v.r p.aB
 ag:Rd w 2 v.k p.ag.length (p.ag.flatMap MC.cells)
 funcs:Nq w v.f p.funcs
 a7:Rd w 4 v.t p.a7.length (p.a7.flatMap MT.cells)
structure EZ(w:World)(base:Nat)(v:VP)(p:MP):Prop where
 aB:Gw w base v.r p.aB
 ag:w.ownsRow base 63 2 v.k p.ag.length (p.ag.flatMap MC.cells)
 funcs:DZ w base v.f p.funcs
 a7:w.ownsRow base 72 4 v.t p.a7.length (p.a7.flatMap MT.cells)
structure MP.small(p:MP):Prop where
 aB:p.aB.length<=1048576
 region:∀r∈p.aB,r.length<=1048576
 ag:p.ag.length<=1048576
 funcs:p.funcs.length<=1048576
 func:∀f∈p.funcs,f.small
 a7:p.a7.length<=1048576
theorem EZ.rd{base:Nat}{v:VP}{p:MP}(h:EZ w base v p):Ft w v p:=⟨h.aB.rd,Rd.cB h.ag,h.funcs.rd,Rd.cB h.a7⟩
theorem Ft.aa{w c:World}{v:VP}{p:MP}(h:Ft w v p)(b:Below B w c)(a:w.heap.size<=B):Ft c v p:=⟨h.aB.aa b a,h.ag.aa b a,h.funcs.aa b a,h.a7.aa b a⟩
theorem EZ.aa{w c:World}{base:Nat}{v:VP}{p:MP}(h:EZ w base v p)(b:Below B w c)(a:w.heap.size<=B):EZ c base v p:=⟨h.aB.aa b a,Ai h.ag b a,h.funcs.aa b a,Ai h.a7 b a⟩
theorem EZ.base{base b:Nat}{v:VP}{p:MP}(h:EZ w base v p)(a:b<=base):EZ w b v p:=⟨h.aB.base a,BD h.ag a,h.funcs.base a,BD h.a7 a⟩
theorem EZ.below{base:Nat}{v:VP}{p:MP}(h:EZ w base v p)(b:a.block<base)(u:Value):EZ (w.setCell a u) base v p:=⟨h.aB.below b u,ks h.ag b u,h.funcs.below b u,ks h.a7 b u⟩
theorem Aq(B:Nat)(w:World)(nq:Nat):Below B w (w.drewN nq):=⟨rfl,rfl,rfl,Nat.le_refl _,fun _ _=>rfl⟩
theorem Gf(h:Below w.drew.heap.size w.drew u)(a:B<=w.heap.size):Below B w u:=⟨h.os,h.tape,h.output,h.size,fun k b=>h.block k (lA b a)⟩
theorem Ft.sl{v:VP}{p:MP}(h:Ft w v p):∃e g b d i j f1 f3,v=⟨.slice e p.aB.length g,.slice b p.ag.length d,.slice f1 p.funcs.length f3,.slice i p.a7.length j⟩:=by obtain⟨e,g,m⟩:=(show∃a c,v.r=.slice a p.aB.length c from by obtain⟨_,_,h2,_⟩:=h.aB;exact h2.bW);obtain⟨b,d,l⟩:=h.ag.bW;obtain⟨i,j,et⟩:=h.a7.bW;obtain⟨f1,f3,k⟩:=(show∃a c,v.f=.slice a p.funcs.length c from by obtain⟨_,_,h2,_⟩:=h.funcs;exact h2.bW);obtain⟨q,vk,n,s⟩:=v;simp only[]at m l et k;subst m l et k;exact⟨e,g,b,d,i,j,f1,f3,rfl⟩
theorem Hs{g:VF}{f:MF}(h:IG w g f):∃a b c d e i,g=⟨.slice a f.params.length b,.slice c f.locals.length d,.slice e f.code.length i⟩:=by obtain⟨a,b,j⟩:=h.1.bW;obtain⟨c,d,k⟩:=h.2.1.bW;obtain⟨e,i,l⟩:=h.2.2.bW;obtain⟨p,n,m⟩:=g;simp only[]at j k l;subst j k l;exact⟨a,b,c,d,e,i,rfl⟩
structure Vz(w u:World)(tp:TypeId)(p r:List Value):Prop where
 ij:u.ownsRow w.heap.size tp 4 (.slice (some ⟨w.heap.size,0,none⟩) 1 1) 1 p
 par':u.ownsRow w.heap.size tp 4 (.slice (some ⟨w.heap.size+1,0,none⟩) 1 1) 1 r
 aC:Below w.heap.size w u
theorem Vz.of(w:World)(a:TypeId)(p r:Array Value)(f:p.size=4)(g:r.size=4):
 Vz w ((w.alloc (.cells p a)).alloc (.cells r a)) a p.toList r.toList:=by
 have b:Below w.heap.size w (w.alloc (.cells p a)):=(kV _ _).alloc lR _;have c2:Below (w.alloc (.cells p a)).heap.size (w.alloc (.cells p a)) ((w.alloc (.cells p a)).alloc (.cells r a)):=(kV _ _).alloc lR _;have c:=ko (base:=w.heap.size) (e:=a) (size:=4) w p 1 lR oX oM;have d:=ko (base:=w.heap.size) (e:=a) (size:=4) (w.alloc (.cells p a)) r 1 sP oX oM;refine⟨Ai c c2 lR,?_,b.trans (c2.mono sP)⟩;simpa using d
theorem Vz.aa{w u c:World}{p r:List Value}(h:Vz w u b p r)(a:Below u.heap.size u c):Vz w c b p r:=⟨Ai h.ij a lR,Ai h.par' a lR,h.aC.trans (a.mono h.aC.size)⟩
def MF.fits(f:MF):Prop:=f.params.length<=9223372036854775807/\f.locals.length<=9223372036854775807/\f.code.length<=9223372036854775807
structure MP.fits(p:MP):Prop where
 aB:p.aB.length<=9223372036854775807
 region:∀r∈p.aB,r.length<=9223372036854775807
 ag:p.ag.length<=9223372036854775807
 funcs:p.funcs.length<=9223372036854775807
 func:∀f∈p.funcs,f.fits
 a7:p.a7.length<=9223372036854775807
structure Uh(w u:World)(tp:TypeId)(p:List Value):Prop where
 ij:u.ownsRow w.heap.size tp 4 (.slice (some ⟨w.heap.size,0,none⟩) 1 1) 1 p
 aC:Below w.heap.size w u
theorem Uh.of(w:World)(a:TypeId)(p:Array Value)(b:p.size=4):Uh w (w.alloc (.cells p a)) a p.toList:=⟨ko (base:=w.heap.size) (e:=a) (size:=4) w p 1 lR oX oM,(kV _ _).alloc lR _⟩
theorem Uh.aa{w u c:World}{p:List Value}(h:Uh w u b p)(a:Below u.heap.size u c):Uh w c b p:=⟨Ai h.ij a lR,h.aC.trans (a.mono h.aC.size)⟩
section
variable {H:Type} {enc:TypeId×Value->H} {P:Program} {w:World} {spare:Nat->Bool} {held:Bool}
theorem DF(b a:Nat)(i:Nat):(⟨b,a,none⟩:Addr).add i=⟨b,a+i,none⟩:=by unfold Addr.add;split<;>simp_all
end
instance:Inhabited MI:=⟨⟨0,0,0,0⟩⟩
instance:Inhabited MC:=⟨⟨0,0⟩⟩
instance:Inhabited MT:=⟨⟨0,0,0,0⟩⟩
instance:Inhabited MF:=⟨⟨[],0,[],[]⟩⟩
instance:Inhabited VF:=⟨⟨.bool true,.bool true,.bool true⟩⟩
def Cr(z:Int):Prop:=(Lit.int .i64 z).wf=true
def Nc(z:Int):Prop:=(Lit.int .u32 z).wf=true
def MI.wf(x:MI):Prop:=Cr x.op/\Cr x.a/\Cr x.b/\Cr x.c
def MC.wf(x:MC):Prop:=Cr x.type/\Nc x.word
def MT.wf(x:MT):Prop:=Cr x.func/\Cr x.head/\Cr x.counter/\Nc x.init
structure MF.wf(f:MF):Prop where
 params:∀z∈f.params,Cr z
 result:Cr f.result
 locals:∀z∈f.locals,Cr z
 code:∀x∈f.code,x.wf
structure MP.wf(p:MP):Prop where
 aB:∀r∈p.aB,∀z∈r,Cr z
 ag:∀x∈p.ag,x.wf
 funcs:∀f∈p.funcs,f.wf
 a7:∀x∈p.a7,x.wf
section
variable {H:Type} {enc:TypeId×Value->H} {w:World} {spare:Nat->Bool} {held:Bool} {fuel:Nat} {cs:List Value} {x:DataW H×List MemPlace}
theorem four(h:cs.length=4):∃a b c d,cs=[a,b,c,d]:=by
 match cs,h with
 |[a,b,c,d],_=>exact⟨a,b,c,d,rfl⟩
theorem two(h:cs.length=2):∃a b,cs=[a,b]:=by
 match cs,h with
 |[a,b],_=>exact⟨a,b,rfl⟩
end
structure Ep(w:World)(b:Nat)(x y z t:Value):Prop where
 c0:w.cell? ⟨b,0,none⟩=some x
 c1:w.cell? ⟨b,1,none⟩=some y
 c2:w.cell? ⟨b,2,none⟩=some z
 c3:w.cell? ⟨b,3,none⟩=some t
theorem Ep.lt{b:Nat}{x y z t:Value}(h:Ep w b x y z t):b<w.heap.size:=d5 h.c0
theorem Ep.aa{w c:World}{b:Nat}{x y z t:Value}(h:Ep w b x y z t)(a:Below w.heap.size w c):Ep c b x y z t:=⟨by rw[a.cell h.lt];exact h.c0,by rw[a.cell h.lt];exact h.c1,by rw[a.cell h.lt];exact h.c2,by rw[a.cell h.lt];exact h.c3⟩
theorem Ep.new(w:World)(x y z t:Value)(a:TypeId):Ep (w.alloc (.cells #[x,y,z,t] a)) w.heap.size x y z t:=by have h:=ko (base:=w.heap.size) (e:=a) (size:=4) w #[x,y,z,t] 1 lR oX sP;exact⟨h.cellAt 0 oM,h.cellAt 1 oM,h.cellAt 2 oM,h.cellAt 3 oM⟩
theorem Ep.alloc{b:Nat}{x y z t:Value}(h:Ep w b x y z t)(o:Obj):Ep (w.alloc o) b x y z t:=h.aa ((kV _ _).alloc lR _)
theorem Aa(w:World)(o:Obj):Below w.heap.size w (w.alloc o):=(kV _ _).alloc lR _
theorem Ae(w:World):Below w.heap.size w w.drew:=⟨rfl,rfl,rfl,Nat.le_refl _,fun _ _=>rfl⟩
theorem Ac{a:World}(h:Below B w u)(c:B<=w.heap.size)(b:Below u.heap.size u a):Below B w a:=h.trans (b.mono (jX c h.size))
theorem Nt(q:α->Bool)(a:List α)(k:Nat)(x:α)(c:a[k]?=some x)(h:(a.take k).all q=true):(a.take (k+1)).all q=q x:=by obtain⟨b,rfl⟩:=d7.1 c;rw[kQ b,List.all_append,h];simp
theorem PY(q:α->Bool)(a:List α)(x:α)(b:x∈a)(h:q x=false):a.all q=false:=by rw[List.all_eq_false];exact⟨x,b,by simp[h]⟩
theorem Hk(s:Value)(a:List Int)(w:World)(A:a.length<=1048576)(h:Rd w 1 s a.length (a.flatMap Ad)):
 Calls Tryz.prog 38 #[s] w fun e C=>e=.returned (.bool (a.all Fk))/\C=w:=by
 have f:Hid (Rd w 1 s a.length (a.flatMap Ad)):=h;obtain⟨D,c1,rfl⟩:=h.bW;clear h;generalize r:a.length=n at A f;have j:Hid (a.length=n):=r;clear r;generalize b:a.all Fk=R;have l:Hid (a.all Fk=R):=b;clear b;go_enter Tryz.func38,Tryz.ntmps38;go_wp2;go_loopw [3] (fun i wr=>∃k:Nat,k<=n/\i=.int .i64 k/\Hid ((a.take k).all Fk=true)/\wr=w) (fun i _=>n-(intOf i).toNat)
 case atStart=>exact⟨0,oM,rfl,by simp[Hid],rfl⟩
 obtain⟨k,F,rfl,m,rfl⟩:=hrel;by_cases z:k<n
 . obtain⟨x,d⟩:∃x,a[k]?=some x:=⟨_,an (by rw[j.o];exact z)⟩;rcases f.o.2 with⟨E,_⟩|⟨g,o,c,q,t⟩
   . omega
   simp only[ip,kU]at q;obtain⟨rfl,rfl⟩:=q;have B:=Rd.elem Ar t k x d 0 _ rfl;rw[kn,kD]at B;have p:Hid (a[k]?=some x):=d;clear t d;go_wp2_with fail;refine(Ey x wr).mono ?_;rintro e u ⟨rfl,rfl⟩;cases hq:Fk x with
   | false=>(have b:R=false:=by rw[<-l.o];exact PY _ _ _ (d9 p.o) hq);subst b;clear hq;go_wp2;go_ret;exact⟨rfl,rfl⟩
   | true=>(have v:Hid ((a.take (k+1)).all Fk=true):=by show _=_;rw[Nt _ _ _ _ p.o m.o];exact hq);clear hq;go_wp2;go_roundw;(case rel=>exact⟨k+1,oM,by go_num,v,by trivial⟩);exact oI
 have y:k=n:=oM;subst y;have b:R=true:=by rw[<-l.o,<-m.o,<-j.o,List.take_length]
 subst b;go_wp2;go_ret;exact⟨rfl,rfl⟩
end Go.Proofs.YthjbicggfnnonaaGreatDoor
