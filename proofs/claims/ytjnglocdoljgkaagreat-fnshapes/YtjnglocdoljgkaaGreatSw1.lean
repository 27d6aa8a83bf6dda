import Derived.Test.YtjnglocdoljgkaaGreatSw0
import Derived.OneCell
import Derived.Maps.AppendAt
import Derived.Deep.RegionWith
import Derived.Lib.SmallJoins
import Derived.Deep.Slices
namespace Go.Proofs.YtjnglocdoljgkaaGreat
open Go.ChangeShapes Go.WideShapes Go.ChangeAt Go.RowKit
set_option linter.unusedVariables false
open Option renaming some → K,none → M
open Go renaming Value → J,World → Y,Calls → Ae,TypeId → Af
open Go.RowKit renaming Hid → Aa,Below → Ad
open Go.Value renaming int → Ac,slice → Z
open Go.IntKind renaming i64 → Ab
set_option maxHeartbeats 2000000
set_option maxRecDepth 100000
variable {g B:Nat}{a:Addr}{e b:Af}{s:J}{rs:List (List Int)}{α β:Type}{u:Y}
def wordCells:Array J:=#[Ac .u32 0,Ac .u32 1,Ac .u32 2,Ac .u32 4294967295,Ac .u32 2147483648,Ac .u32 2147483647,Ac .u32 31,Ac .u32 32]
theorem NF(r:Int)(a:0<=r)(h1:r<8):∃v:Int,0<=v/\v<4294967296/\wordCells[r.toNat]?=K (Ac .u32 v):=by
 have h:r=0\/r=1\/r=2\/r=3\/r=4\/r=5\/r=6\/r=7:=oM
 rcases h with rfl|rfl|rfl|rfl|rfl|rfl|rfl|rfl<;>exact⟨_,oM,oM,rfl⟩
theorem Kv(op:BinOp)(x y:Int):0<=bits op .u32 x y/\bits op .u32 x y<4294967296:=by
 have:∀n:Nat,IntKind.u32.wrap (n:Int)=(n:Int) % 4294967296:= λ_=>rfl
 unfold bits;simp only[this];omega
theorem KT{w:Y}{a:Option Addr}{len cap:Nat}{p:Int}(h:DE w g a len cap p)(hp:p+4<=1000000000000):
 Ae Tryz.prog 52 #[.pointer g] w λe N=>∃x y:Int,0<=x/\x<4294967296/\e=.returned (Ac .u32 x)/\p<=y/\y<=p+4/\DE N g a len cap y/\AM g w N:=by
 have ae:=h.low;have H:Aa (DE w g a len cap p):=h;clear h;go_enter Tryz.func52,Tryz.ntmps52;go_wp2_with fail;refine(AA H.o).mono ?_;rintro e s ⟨r,T,h1,rfl,F,B⟩;have k:Aa (DE s g a len cap (p+1)/\AM g w s):=⟨F,B⟩
 clear F B;cases e0:(r==0)
 . cases e1:(r==1)
   . go_wp2_with fail;refine(AA k.o.1).mono ?_;rintro e f ⟨l,h2,t,rfl,j,b⟩;have i:Aa (DE f g a len cap (p+1+1)/\AM g w f):=⟨j,k.o.2.trans b⟩
     clear j b;go_wp2;go_ret;exact⟨l,p+1+1,oM,oM,rfl,oM,oM,i.o.1,i.o.2⟩
   go_wp2_with fail;refine(AA k.o.1).mono ?_;rintro e f ⟨l,h2,t,rfl,j,b⟩;have i:Aa (DE f g a len cap (p+1+1)/\AM g w f):=⟨j,k.o.2.trans b⟩
   clear j b;go_wp2_with fail;refine(AA i.o.1).mono ?_;rintro e O ⟨r3,W,h5,rfl,G,C⟩;have z:Aa (DE O g a len cap (p+1+1+1)/\AM g w O):=⟨G,i.o.2.trans C⟩
   clear G C;go_wp2_with fail;refine(AA z.o.1).mono ?_;rintro e Q ⟨r4,h6,h7,rfl,I,D⟩;have A:Aa (DE Q g a len cap (p+1+1+1+1)/\AM g w Q):=⟨I,z.o.2.trans D⟩
   clear I D;go_wp2;go_ret;exact⟨_,p+1+1+1+1,(Kv _ _ _).1,(Kv _ _ _).2,rfl,oM,oM,A.o.1,A.o.2⟩
 go_wp2_with fail;refine(AA (k.o.1.alloc _)).mono ?_;rintro e f ⟨l,h2,t,rfl,j,b⟩;obtain⟨v,S,v1,L⟩:=NF l h2 t;have R:g≠s.heap.size:=by have:=k.o.1.lt;omega
 have a8:f.cell? ⟨s,l.toNat,M⟩=K (Ac .u32 v):=by rw[b.cell sP (by simpa using R.symm),nO _ _ _ _ _ _ (nJ _ _)];exact L
 have i:Aa (DE f g a len cap (p+1+1)/\AM g w f):=⟨j,(k.o.2.trans (AM.alloc g s _)).trans b⟩
 clear j b L;go_wp2;go_ret;exact⟨v,p+1+1,S,v1,rfl,oM,oM,i.o.1,i.o.2⟩
structure MF where
 d5:List Int
 gz:Int
 en:List Int
 ch:List MI
structure VF where
 p:J
 l:J
 c:J
def Dt(w:Y)(v:VF)(f:MF):Prop:=Rd w 1 v.p f.d5 (f.d5.flatMap Ah)/\Rd w 1 v.l f.en (f.en.flatMap Ah)/\Rd w 4 v.c f.ch (f.ch.flatMap MI.cells)
def It(w:Y)(base:Nat)(v:VF)(f:MF):Prop:=w.ownsRow base 2 1 v.p f.d5 (f.d5.flatMap Ah)/\w.ownsRow base 2 1 v.l f.en (f.en.flatMap Ah)/\w.ownsRow base 60 4 v.c f.ch (f.ch.flatMap MI.cells)
def MF.small(f:MF):Prop:=f.d5.length<=1048576/\f.en.length<=1048576/\f.ch.length<=1048576
theorem It.rd{w:Y}{base:Nat}{v:VF}{f:MF}(h:It w base v f):Dt w v f:=⟨Rd.gM h.1,Rd.gM h.2.1,Rd.gM h.2.2⟩
theorem Dt.bM{w e:Y}{v:VF}{f:MF}(h:Dt w v f)(b:Ad B w e)(a: ↑w<=B):Dt e v f:=⟨h.1.bM b a,h.2.1.bM b a,h.2.2.bM b a⟩
theorem It.bM{w e:Y}{base:Nat}{v:VF}{f:MF}(h:It w base v f)(b:Ad B w e)(a: ↑w<=B):It e base v f:=⟨Am h.1 b a,Am h.2.1 b a,Am h.2.2 b a⟩
theorem Bb{w:Y}{base a:Nat}{k n:Nat}{xs:List J}(h:w.ownsRow base e k s n xs)(i:a<=base):w.ownsRow a e k s n xs:=by
 refine⟨h.1,?_⟩;rcases h.2 with h|⟨g,cap,b,f,j,l,m⟩
 . exact .inl h
 exact .inr ⟨g,cap,b,f,kT i j,l,m⟩
structure Fr(w u:Y)(tp tr:Af)(p r o:List J):Prop where
 iA:u.ownsRow w tp 4 (Z w 1 1) 1 p
 im:u.ownsRow w tr 4 (Z (K ⟨(w:Nat)+1,0,M⟩) 1 1) 1 r
 loc:u.ownsRow w tr 4 (Z (K ⟨(w:Nat)+1+1,0,M⟩) 1 1) 1 o
 gG:Ad w w u
 jb:(w:Nat)+3<= ↑u
theorem Fr.of(w:Y)(a b:Af)(p r o:Array J)(k:p.size=4)(l:r.size=4)(j:o.size=4):
 Fr w (((w.alloc (.cells p a)).alloc (.cells r b)).alloc (.cells o b)) a b p.toList r.toList o.toList:=by
 have f:Ad w w (w.alloc (.cells p a)):=(lQ _ _).alloc lR _;have c2:Ad (w.alloc (.cells p a)).heap.size (w.alloc (.cells p a)) ((w.alloc (.cells p a)).alloc (.cells r b)):=(lQ _ _).alloc lR _;have c3:Ad ((w.alloc (.cells p a)).alloc (.cells r b)).heap.size ((w.alloc (.cells p a)).alloc (.cells r b)) (((w.alloc (.cells p a)).alloc (.cells r b)).alloc (.cells o b)):=(lQ _ _).alloc lR _;have g:=mQ (base:=w) (e:=a) (size:=4) w p 1 lR oX oM;have h:=mQ (base:=w) (e:=b) (size:=4) (w.alloc (.cells p a)) r 1 sP oX oM;have i:=mQ (base:=w) (e:=b) (size:=4) ((w.alloc (.cells p a)).alloc (.cells r b)) o 1 (by simp<;>omega) oX oM;refine⟨Am (Am g c2 lR) c3 lR,?_,?_,(f.trans (c2.mono sP)).trans (c3.mono (by simp<;>omega)),by simp<;>omega⟩
 . have:=Am h c3 lR;simpa using this
 simpa using i
theorem Fr.bM{w u f:Y}{p r o:List J}(h:Fr w u b e p r o)(a:Ad u u f):Fr w f b e p r o:=⟨Am h.iA a lR,Am h.im a lR,Am h.loc a lR,h.gG.trans (a.mono (by have:=h.jb;omega)),kT h.jb a.size⟩
theorem Fr.set{w u:Y}{a:Af}{p r o:List J}(h:Fr w u a b p r o)(j:Nat)(x:J):Fr w (u.setCell ⟨(w:Nat)+1+1,j,M⟩ x) a b p r (o.set j x):=⟨kO h.iA (by simp[Value.ownBlock]<;>omega) x,kO h.im (by simp[Value.ownBlock]) x,(h.loc.stored j x).1,h.gG.setCell (by simp<;>omega) x,by have:=h.jb;simpa using this⟩
def Dc(op:Int):Array J:=if 0<=op/\op<=29 then(Ce op.toNat).toArray else #[.string ⟨#[]⟩,Ac Ab 0,Ac Ab 0]
theorem Mq(k:Nat)(a:k<30):Dc (k:Int)=(Ce k).toArray:=by unfold Dc;rw[lS oM];rfl
theorem KM{op:Int}(h:op<0\/29<op):Dc op=#[.string ⟨#[]⟩,Ac Ab 0,Ac Ab 0]:=by unfold Dc;rw[lE oM]
theorem Jc(k:Nat)(a:k<30):∃(s:ByteArray) (c f:Int),(Ce k).toArray=#[.string s,Ac Ab c,Ac Ab f]:=by
 have h:k=0\/k=1\/k=2\/k=3\/k=4\/k=5\/k=6\/k=7\/k=8\/k=9\/k=10\/k=11\/k=12\/k=13\/k=14\/k=15\/k=16\/k=17\/k=18\/k=19\/k=20\/k=21\/k=22\/k=23\/k=24\/k=25\/k=26\/k=27\/k=28\/k=29:=oM
 clear a;rcases h with rfl|rfl|rfl|rfl|rfl|rfl|rfl|rfl|rfl|rfl|rfl|rfl|rfl|rfl|rfl|rfl|rfl|rfl|rfl|rfl|rfl|rfl|rfl|rfl|rfl|rfl|rfl|rfl|rfl|rfl<;>exact⟨_,_,_,rfl⟩
theorem OC(op:Int):∃(s:ByteArray) (c f:Int),Dc op=#[.string s,Ac Ab c,Ac Ab f]:=by
 by_cases h:0<=op/\op<=29
 . unfold Dc;rw[lS h];exact Jc _ oM
 unfold Dc;rw[lE h];exact⟨_,_,_,rfl⟩
theorem CG(op:Int)(w:Y):Ae Tryz.prog 71 #[Ac Ab op] w λe a=>e=.returned (.agg (Dc op))/\Ad w w a:=by
 by_cases h:op<0\/29<op
 . rw[KM h];exact RR op w h
 obtain⟨k,rfl⟩:=kU (show 0<=op from oM);rw[Mq k oM];exact S9 k oM w
theorem Qe(k:Nat)(a:k<30)(w:Y):(Instr.field 210 (.agg (CV k)) 0).run Tryz.prog w=.ok (.agg (Ce k).toArray) w:=by
 have h:k=0\/k=1\/k=2\/k=3\/k=4\/k=5\/k=6\/k=7\/k=8\/k=9\/k=10\/k=11\/k=12\/k=13\/k=14\/k=15\/k=16\/k=17\/k=18\/k=19\/k=20\/k=21\/k=22\/k=23\/k=24\/k=25\/k=26\/k=27\/k=28\/k=29:=oM
 clear a;rcases h with rfl|rfl|rfl|rfl|rfl|rfl|rfl|rfl|rfl|rfl|rfl|rfl|rfl|rfl|rfl|rfl|rfl|rfl|rfl|rfl|rfl|rfl|rfl|rfl|rfl|rfl|rfl|rfl|rfl|rfl<;>(show Sem.run _ _ _=Result.ok _ _;kernel_rfl)
theorem Qf(w:Y):(Instr.field 210 (.agg #[.string ⟨#[]⟩,Ac Ab 0,Ac Ab 0,.nilFunc]) 0).run Tryz.prog w=.ok (.agg #[.string ⟨#[]⟩,Ac Ab 0,Ac Ab 0]) w:=kR
theorem Q6(op:Int)(row:J)(s:ByteArray)(c f:Int)(l:Dc op=#[.string s,Ac Ab c,Ac Ab f])
 (a:∀w,Ae Tryz.prog 150 #[Ac Ab op] w λe g=>e=.returned row/\Ad w.heap.size w g)
 (m:∀w,(Instr.field 210 row 0).run Tryz.prog w=.ok (.agg #[.string s,Ac Ab c,Ac Ab f]) w) (w:Y):
 Ae Tryz.prog 124 #[Ac Ab op] w λe g=>e=.returned (.agg (Dc op))/\Ad w.heap.size w g:=by
 have n:=JS;rw[l];clear l;have H:Aa (∀w,Ae Tryz.prog 150 #[Ac Ab op] w λe g=>e=.returned row/\Ad w w g):=a
 clear a;go_enter Tryz.func124,Tryz.ntmps124;go_wp2_with (go_at_call 150;refine(H.o _).mono ?_;rintro e b ⟨rfl,h⟩;have a:b.heap[w.heap.size]?=K (.cells #[.string ⟨#[]⟩,Ac Ab 0,Ac Ab 0] 143):=(h.block _ sP).trans (nJ _ _);have i:=nO b _ 0 _ _ _ a;have j:=nO b _ 1 _ _ _ a;have k:=nO b _ 2 _ _ _ a;have p:=frozen_of_row b _ 0 _ _ a;have q:=frozen_of_row b _ 1 _ _ a;have r:=frozen_of_row b _ 2 _ _ a;simp at i j k);refine kY (v:=.agg #[.string s,Ac Ab c,Ac Ab f]) (by simp[results,Tryz.results124,go_sem,i,j,k]) rfl ⟨rfl,?_⟩;exact((((((lQ _ _).alloc lR _).trans (h.mono sP)).setCell sP _).setCell sP _).setCell sP _)
theorem S6(op:Int)(w:Y):Ae Tryz.prog 124 #[Ac Ab op] w λe b=>e=.returned (.agg (Dc op))/\Ad w w b:=by
 by_cases h:op<0\/29<op
 . exact Q6 op _ _ _ _ (KM h) (λw=>SO op w h) Qf w
 obtain⟨k,rfl⟩:=kU (show 0<=op from oM);obtain⟨s,c,f,a⟩:=Jc k oM;exact Q6 _ _ s c f ((Mq k oM).trans a) (λw=>Ub k oM w) (λw=>by rw[<-a];exact Qe k oM w) w
theorem Ij{w:Y}{a:Option Addr}{len cap:Nat}{zs:List Int}
 (h:(a=M/\len=0/\cap=0/\zs=[])\/∃x,a=K x/\len<=cap/\cap<=maxLen/\ ↑zs=cap/\(∀i,i< ↑zs->w.cell? (x.add i)=K (.int .u8 (zs.getD i 0)))/\∀n∈zs,(Lit.int .u8 n).wf=true):
 CodeAt w w a len:=by
 rcases h with⟨_,h,_⟩|⟨x,rfl,h1,h2,r,e,l⟩
 . exact .inl h
 by_cases k:len=0
 . exact .inl k
 obtain⟨b,f,q⟩:=x;have m:q=M:=by simpa[Addr.add]using World.cell?_spot (e 0 oM)
 subst m;have g:∀i,(⟨b,f,M⟩:Addr).add i=⟨b,f+i,M⟩:= λi=>by unfold Addr.add;split<;>simp_all
 refine .inr ⟨b,f,rfl,?_, λi t=> ?_⟩
 . have:=e 0 oM;rw[g]at this;exact jC this
 have j:=e i oM;rw[g]at j;refine⟨_,?_,?_,j⟩;all_goals
  have p:=l (zs.getD i 0) (by
   rw[lD,an (show i< ↑zs from oM)]
   exact mW _)
  have s:0<=zs.getD i 0/\zs.getD i 0<=255:=by simpa[Lit.wf,IntKind.min,IntKind.max,IntKind.signed,IntKind.bits]using p
  omega
theorem AM.then{w a b:Y}(h:AM g w a)(k:Ad w a b):AM g w b:=⟨k.os.trans h.os,k.tape.trans h.tape,k.output.trans h.output,kT h.size k.size, λi e f=>(k.block i e).trans (h.block i e f)⟩
theorem OV(a:Option Addr)(len cap:Nat)(i n:Int)(g:Nat)(w:Y)(B:len<=140737488355328)(j:CodeAt w g a len)(h:0<=i)(k:i<=1000000)(G:n<=1000000):
 Ae Tryz.prog 9 #[Z a len cap,.int Ab i,.int Ab n] w λe s=>∃r:Int,0<=r/\(r<n\/r=0/\n<=1)/\e=.returned (.int Ab r)/\∃nq,s=w.drewN nq:=by
 by_cases h1:n<=1
 . go_enter Tryz.func9,Tryz.ntmps9;go_wp2;go_ret;exact⟨0,oM,.inr ⟨rfl,h1⟩,rfl,0,rfl⟩
 rcases Nat.eq_zero_or_pos len with rfl|D
 . have l:=nR (i*7) (show n≠0 from oM);have m:=m8 (i*7) (show 0<n from oM);go_enter Tryz.func9,Tryz.ntmps9;go_wp2;go_ret;exact⟨_,l,.inl m,rfl,0,rfl⟩
 rcases j with t|⟨b,H,rfl,u,f⟩
 . omega
 have E:=nR i (show(len:Int)≠0 from oM);have F:=m8 i (show 0<(len:Int)from oM);obtain⟨v,I,v1,y⟩:=f (i % len).toNat oM;have C:((len:Int)==0)=false:=oT;have z:0<=i / (len:Int):=Int.ediv_nonneg h oM;have A:i / (len:Int)<=1000000:=Int.le_trans (Int.ediv_le_self _ h) k;have p:=nR (v+i / (len:Int)*3) (show n≠0 from oM);have q:=m8 (v+i / (len:Int)*3) (show 0<n from oM);clear f;go_enter Tryz.func9,Tryz.ntmps9;go_wp2;go_quiet (fail);go_wp2;go_ret;exact⟨_,p,.inl q,rfl,_,rfl⟩
def AX(x:MF×VF):List J:=[x.2.p,iZ x.1.gz,x.2.l,x.2.c]
theorem Aq(x:MF×VF):(AX x).length=4:=rfl
def AZ(x:List Int×J):List J:=[x.2]
theorem AY(x:List Int×J):(AZ x).length=1:=rfl
def NX(w:Y)(s:J)(a:List MF):Prop:=∃xs:List (MF×VF),xs.map Prod.fst=a/\Rd w 4 s a (xs.flatMap AX)/\∀x∈xs,Dt w x.2 x.1
def GN(w:Y)(base:Nat)(s:J)(a:List MF):Prop:=∃xs:List (MF×VF),xs.map Prod.fst=a/\w.ownsRow base 51 4 s a (xs.flatMap AX)/\∀x∈xs,It w base x.2 x.1
def NM(w:Y)(s:J)(rs:List (List Int)):Prop:=∃xs:List (List Int×J),xs.map Prod.fst=rs/\Rd w 1 s rs (xs.flatMap AZ)/\∀x∈xs,Rd w 1 x.2 x.1 (x.1.flatMap Ah)
def IP(w:Y)(base:Nat)(s:J)(rs:List (List Int)):Prop:=∃xs:List (List Int×J),xs.map Prod.fst=rs/\w.ownsRow base 36 1 s rs (xs.flatMap AZ)/\∀x∈xs,w.ownsRow base 2 1 x.2 x.1 (x.1.flatMap Ah)
theorem GN.rd{w:Y}{base:Nat}{a:List MF}(h:GN w base s a):NX w s a:=by obtain⟨xs,h1,h2,b⟩:=h;exact⟨xs,h1,Rd.gM h2, λx e=>(b x e).rd⟩
theorem IP.rd{w:Y}{base:Nat}(h:IP w base s rs):NM w s rs:=by obtain⟨xs,h1,h2,a⟩:=h;exact⟨xs,h1,Rd.gM h2, λx b=>Rd.gM (a x b)⟩
theorem NX.bM{w f:Y}{a:List MF}(h:NX w s a)(e:Ad B w f)(b: ↑w<=B):NX f s a:=by obtain⟨xs,h1,h2,g⟩:=h;exact⟨xs,h1,h2.bM e b, λx i=>(g x i).bM e b⟩
theorem NM.bM{w e:Y}(h:NM w s rs)(b:Ad B w e)(a: ↑w<=B):NM e s rs:=by obtain⟨xs,h1,h2,f⟩:=h;exact⟨xs,h1,h2.bM b a, λx g=>(f x g).bM b a⟩
theorem GN.bM{w f:Y}{base:Nat}{a:List MF}(h:GN w base s a)(e:Ad B w f)(b: ↑w<=B):GN f base s a:=by obtain⟨xs,h1,h2,g⟩:=h;exact⟨xs,h1,Am h2 e b, λx i=>(g x i).bM e b⟩
theorem IP.bM{w e:Y}{base:Nat}(h:IP w base s rs)(b:Ad B w e)(a: ↑w<=B):IP e base s rs:=by obtain⟨xs,h1,h2,f⟩:=h;exact⟨xs,h1,Am h2 b a, λx g=>Am (f x g) b a⟩
theorem It.base{w:Y}{base b:Nat}{v:VF}{f:MF}(h:It w base v f)(a:b<=base):It w b v f:=⟨Bb h.1 a,Bb h.2.1 a,Bb h.2.2 a⟩
theorem GN.base{w:Y}{base a:Nat}{b:List MF}(h:GN w base s b)(e:a<=base):GN w a s b:=by obtain⟨xs,h1,h2,f⟩:=h;exact⟨xs,h1,Bb h2 e, λx g=>(f x g).base e⟩
theorem IP.base{w:Y}{base a:Nat}(h:IP w base s rs)(b:a<=base):IP w a s rs:=by obtain⟨xs,h1,h2,e⟩:=h;exact⟨xs,h1,Bb h2 b, λx f=>Bb (e x f) b⟩
theorem It.below{w:Y}{base:Nat}{v:VF}{f:MF}(h:It w base v f)(b:a.block<base)(u:J):It (w.setCell a u) base v f:=⟨lL h.1 b u,lL h.2.1 b u,lL h.2.2 b u⟩
theorem GN.below{w:Y}{base:Nat}{b:List MF}(h:GN w base s b)(e:a.block<base)(u:J):GN (w.setCell a u) base s b:=by obtain⟨xs,h1,h2,f⟩:=h;exact⟨xs,h1,lL h2 e u, λx g=>(f x g).below e u⟩
theorem IP.below{w:Y}{base:Nat}(h:IP w base s rs)(b:a.block<base)(u:J):IP (w.setCell a u) base s rs:=by obtain⟨xs,h1,h2,e⟩:=h;exact⟨xs,h1,lL h2 b u, λx f=>lL (e x f) b u⟩
theorem V8:(Tryz.prog.info? 51).map (λi=>(i.zero,i.size,i.bytes))=K (K (.agg #[sN,iZ 0,sN,sN]),4,80):=kR
theorem XQ:(Tryz.prog.info? 36).map (λi=>(i.zero,i.size,i.bytes))=K (K sN,1,24):=kR
theorem CT{xs:List (α×β)}{a:List α}(h:xs.map Prod.fst=a){k:Nat}{x:α×β}(b:xs[k]?=K x):a[k]?=K x.1:=by rw[<-h,lG,b];rfl
theorem Ov{e:List (α×β)}{a:List α}{k:Nat}(h:e.map Prod.fst=a.take k){f:α}(g:a[k]?=K f)(b:β):(e++[(f,b)]).map Prod.fst=a.take (k+1):=by obtain⟨i,rfl⟩:=iV.1 g;rw[mL,h,lH i];rfl
def Mx{α:Type}(f:α->List J)(z:List J)(a:List α)(n:Nat):List J:=a.flatMap f++(List.replicate (n-↑a) z).flatten
theorem FG(f:α->List J)(z:List J)(a:List α)(k n:Nat)(b:k<n)(g: ↑a=k):Mx f z a n=a.flatMap f++(z++(List.replicate (n-(k+1)) z).flatten):=by
 unfold Mx;have e:n-↑a=(n-(k+1))+1:=oM
 rw[e,oG,List.flatten_cons]
theorem K4(f:α->List J)(z:List J)(a:List α)(k n:Nat)(y:α)(b: ↑a=k):Mx f z (a++[y]) n=a.flatMap f++(f y++(List.replicate (n-(k+1)) z).flatten):=by unfold Mx;rw[lJ,mI];simp[b]
structure Xl(w wr:Y)(fs:List MF)(L k:Nat)(ys:List (MF×VF)):Prop where
 fst:ys.map Prod.fst=fs.take k
 len: ↑ys=k
 row:wr.ownsRow w 51 4 (sG w L L) L (Mx AX [sN,iZ 0,sN,sN] ys L)
 els:∀y∈ys,It wr ((w:Nat)+1) y.2 y.1
 gG:Ad w w wr
 jb:(w:Nat)+1<= ↑wr
theorem Xl.places{w wr:Y}{j:List MF}{L k:Nat}{i:List (MF×VF)}(h:Xl w wr j L k i)(n:k<L)(m:Ad wr wr u):
 u.cell? ⟨w,k*4,M⟩=K sN/\u.cell? ⟨w,k*4+1,M⟩=K (iZ 0)/\u.cell? ⟨w,k*4+2,M⟩=K sN/\u.cell? ⟨w,k*4+3,M⟩=K sN/\u.frozen? ⟨w,k*4,M⟩=false/\u.frozen? ⟨w,k*4+1,M⟩=false/\u.frozen? ⟨w,k*4+2,M⟩=false/\u.frozen? ⟨w,k*4+3,M⟩=false:=by
 have a:=Am h.row m lR;rw[FG AX _ i k L n h.len]at a;have l:(i.flatMap AX).length=k*4:=by rw[Au AX 4 Aq,h.len]
 have b:=a.cellAt (k*4) oM;have e:=a.cellAt (k*4+1) oM;have f:=a.cellAt (k*4+2) oM;have g:=a.cellAt (k*4+3) oM;rw[lN oM,l]at b e f g;rw[ng]at b;rw[nI]at e f g;exact⟨b,e,f,g,a.frozenAt _,a.frozenAt _,a.frozenAt _,a.frozenAt _⟩
theorem Xl.next{w wr:Y}{g:List MF}{L k:Nat}{b:List (MF×VF)}(h:Xl w wr g L k b)(q:k<L)(e:Ad wr wr u){f:MF}(n:g[k]?=K f){v:VF}(r:It u wr v f):
 Xl w ((((u.setCell ⟨w,k*4,M⟩ v.p).setCell ⟨w,k*4+1,M⟩ (iZ f.gz)).setCell ⟨w,k*4+2,M⟩ v.l).setCell ⟨w,k*4+3,M⟩ v.c) g L (k+1) (b++[(f,v)]):=by
 have i:=Am h.row e lR;rw[FG AX _ b k L q h.len]at i;have m:(b.flatMap AX).length=k*4:=by rw[Au AX 4 Aq,h.len]
 have t:=(i.stored (k*4) v.p).1;have z:=(t.stored (k*4+1) (iZ f.gz)).1;have A:=(z.stored (k*4+2) v.l).1;have j:=(A.stored (k*4+3) v.c).1;rw[YP _ _ _ _ _ _ _ _ _ _ (k*4) m]at j;refine⟨Ov h.fst n v,by simp[h.len],?_,?_,?_,?_⟩
 . rw[K4 AX _ b k L (f,v) h.len];exact j
 . intro y a;have s:It u ((w:Nat)+1) y.2 y.1:=by
    rcases kS.1 a with a|a
    . exact(h.els y a).bM e lR
    simp only[lT]at a;subst a;exact r.base h.jb
   exact(((s.below sP _).below sP _).below sP _).below sP _
 . exact((((h.gG.trans (e.mono (by have:=h.jb;omega))).setCell lR _).setCell lR _).setCell lR _).setCell lR _
 have:=e.size;have:=h.jb;simp;omega
structure Xw(w wr:Y)(fs:List (List Int))(L k:Nat)(ys:List (List Int×J)):Prop where
 fst:ys.map Prod.fst=fs.take k
 len: ↑ys=k
 row:wr.ownsRow w 36 1 (sG w L L) L (Mx AZ [sN] ys L)
 els:∀y∈ys,wr.ownsRow ((w:Nat)+1) 2 1 y.2 y.1 (y.1.flatMap Ah)
 gG:Ad w w wr
 jb:(w:Nat)+1<= ↑wr
theorem Xw.places{w wr:Y}{f:List (List Int)}{L k:Nat}{e:List (List Int×J)}(h:Xw w wr f L k e)(j:k<L)(i:Ad wr wr u):
 u.cell? ⟨w,k,M⟩=K sN/\u.frozen? ⟨w,k,M⟩=false:=by
 have b:=Am h.row i lR;rw[FG AZ _ e k L j h.len]at b;have g:(e.flatMap AZ).length=k:=by rw[Au AZ 1 AY,h.len,lr]
 have a:=b.cellAt k oM;rw[lN oM,g]at a;rw[ng]at a;exact⟨a,b.frozenAt _⟩
theorem Xw.next{w wr:Y}{g:List (List Int)}{L k:Nat}{b:List (List Int×J)}(h:Xw w wr g L k b)(n:k<L)(e:Ad wr wr u){f:List Int}(m:g[k]?=K f){v:J}(p:u.ownsRow wr 2 1 v f (f.flatMap Ah)):
 Xw w (u.setCell ⟨w,k,M⟩ v) g L (k+1) (b++[(f,v)]):=by
 have i:=Am h.row e lR;rw[FG AZ _ b k L n h.len]at i;have l:(b.flatMap AZ).length=k:=by rw[Au AZ 1 AY,h.len,lr]
 have j:=(i.stored k v).1;rw[W6 _ _ _ _ k l]at j;refine⟨Ov h.fst m v,by simp[h.len],?_,?_,?_,?_⟩
 . rw[K4 AZ _ b k L (f,v) h.len];exact j
 . intro y a;have q:u.ownsRow ((w:Nat)+1) 2 1 y.2 y.1 (y.1.flatMap Ah):=by
    rcases kS.1 a with a|a
    . exact Am (h.els y a) e lR
    simp only[lT]at a;subst a;exact Bb p h.jb
   exact lL q sP _
 . exact(h.gG.trans (e.mono (by have:=h.jb;omega))).setCell lR _
 have:=e.size;have:=h.jb;simp;omega
structure MP where
 a7:List (List Int)
 aC:List MC
 cC:List MF
 dr:List MT
structure VP where
 r:J
 k:J
 f:J
 t:J
def VP.val(v:VP):J:=.agg #[v.r,v.k,v.f,v.t]
structure Cz(w:Y)(v:VP)(p:MP):Prop where
 a7:NM w v.r p.a7
 aC:Rd w 2 v.k p.aC (p.aC.flatMap MC.cells)
 cC:NX w v.f p.cC
 dr:Rd w 4 v.t p.dr (p.dr.flatMap MT.cells)
structure IM(w:Y)(base:Nat)(v:VP)(p:MP):Prop where
 a7:IP w base v.r p.a7
 aC:w.ownsRow base 105 2 v.k p.aC (p.aC.flatMap MC.cells)
 cC:GN w base v.f p.cC
 dr:w.ownsRow base 121 4 v.t p.dr (p.dr.flatMap MT.cells)
structure MP.small(p:MP):Prop where
 a7:p.a7.length<=1048576
 region:∀r∈p.a7,r.length<=1048576
 aC:p.aC.length<=1048576
 cC:p.cC.length<=1048576
 func:∀f∈p.cC,f.small
 dr:p.dr.length<=1048576
theorem IM.rd{w:Y}{base:Nat}{v:VP}{p:MP}(h:IM w base v p):Cz w v p:=⟨h.a7.rd,Rd.gM h.aC,h.cC.rd,Rd.gM h.dr⟩
theorem Cz.bM{w e:Y}{v:VP}{p:MP}(h:Cz w v p)(b:Ad B w e)(a: ↑w<=B):Cz e v p:=⟨h.a7.bM b a,h.aC.bM b a,h.cC.bM b a,h.dr.bM b a⟩
theorem IM.bM{w e:Y}{base:Nat}{v:VP}{p:MP}(h:IM w base v p)(b:Ad B w e)(a: ↑w<=B):IM e base v p:=⟨h.a7.bM b a,Am h.aC b a,h.cC.bM b a,Am h.dr b a⟩
theorem IM.base{w:Y}{base b:Nat}{v:VP}{p:MP}(h:IM w base v p)(a:b<=base):IM w b v p:=⟨h.a7.base a,Bb h.aC a,h.cC.base a,Bb h.dr a⟩
theorem IM.below{w:Y}{base:Nat}{v:VP}{p:MP}(h:IM w base v p)(b:a.block<base)(u:J):IM (w.setCell a u) base v p:=⟨h.a7.below b u,lL h.aC b u,h.cC.below b u,lL h.dr b u⟩
theorem As(B:Nat)(w:Y)(nq:Nat):Ad B w (w.drewN nq):=⟨rfl,rfl,rfl,Nat.le_refl _, λ_ _=>rfl⟩
theorem FX{w u:Y}(h:Ad w.drew w.drew u)(a:B<= ↑w):Ad B w u:=⟨h.os,h.tape,h.output,h.size, λk b=>h.block k (lm b a)⟩
theorem Cz.sl{w:Y}{v:VP}{p:MP}(h:Cz w v p):∃g i b e j k f1 f3,v=⟨Z g p.a7 i,Z b p.aC e,Z f1 p.cC f3,Z j p.dr k⟩:=by obtain⟨g,i,n⟩:=(show∃a c,v.r=Z a p.a7 c from by obtain⟨_,_,h2,_⟩:=h.a7;exact h2.fu);obtain⟨b,e,m⟩:=h.aC.fu;obtain⟨j,k,q⟩:=h.dr.fu;obtain⟨f1,f3,l⟩:=(show∃a c,v.f=Z a p.cC c from by obtain⟨_,_,h2,_⟩:=h.cC;exact h2.fu);obtain⟨t,vk,s,u⟩:=v;simp only[]at n m q l;subst n m q l;exact⟨g,i,b,e,j,k,f1,f3,rfl⟩
theorem C5{w:Y}{g:VF}{f:MF}(h:Dt w g f):∃a b i j k l,g=⟨Z a f.d5 b,Z i f.en j,Z k f.ch l⟩:=by obtain⟨a,b,p⟩:=h.1.fu;obtain⟨i,j,s⟩:=h.2.1.fu;obtain⟨k,l,e3⟩:=h.2.2.fu;obtain⟨z,y,t⟩:=g;simp only[]at p s e3;subst p s e3;exact⟨a,b,i,j,k,l,rfl⟩
structure Xn(w u:Y)(tp:Af)(p r:List J):Prop where
 iA:u.ownsRow w tp 4 (Z w 1 1) 1 p
 par':u.ownsRow w tp 4 (Z (K ⟨(w:Nat)+1,0,M⟩) 1 1) 1 r
 gG:Ad w w u
theorem Xn.of(w:Y)(a:Af)(p r:Array J)(h:p.size=4)(i:r.size=4):
 Xn w ((w.alloc (.cells p a)).alloc (.cells r a)) a p.toList r.toList:=by
 have b:Ad w w (w.alloc (.cells p a)):=(lQ _ _).alloc lR _;have c2:Ad (w.alloc (.cells p a)).heap.size (w.alloc (.cells p a)) ((w.alloc (.cells p a)).alloc (.cells r a)):=(lQ _ _).alloc lR _;have f:=mQ (base:=w) (e:=a) (size:=4) w p 1 lR oX oM;have g:=mQ (base:=w) (e:=a) (size:=4) (w.alloc (.cells p a)) r 1 sP oX oM;refine⟨Am f c2 lR,?_,b.trans (c2.mono sP)⟩;simpa using g
theorem Xn.bM{w u e:Y}{p r:List J}(h:Xn w u b p r)(a:Ad u u e):Xn w e b p r:=⟨Am h.iA a lR,Am h.par' a lR,h.gG.trans (a.mono h.gG.size)⟩
def MF.fits(f:MF):Prop:=f.d5.length<=9223372036854775807/\f.en.length<=9223372036854775807/\f.ch.length<=9223372036854775807
structure MP.fits(p:MP):Prop where
 a7:p.a7.length<=9223372036854775807
 region:∀r∈p.a7,r.length<=9223372036854775807
 aC:p.aC.length<=9223372036854775807
 cC:p.cC.length<=9223372036854775807
 func:∀f∈p.cC,f.fits
 dr:p.dr.length<=9223372036854775807
structure Wn(w u:Y)(tp:Af)(p:List J):Prop where
 iA:u.ownsRow w tp 4 (Z w 1 1) 1 p
 gG:Ad w w u
theorem Wn.of(w:Y)(a:Af)(p:Array J)(b:p.size=4):Wn w (w.alloc (.cells p a)) a p.toList:=⟨mQ (base:=w) (e:=a) (size:=4) w p 1 lR oX oM,(lQ _ _).alloc lR _⟩
theorem Wn.bM{w u e:Y}{p:List J}(h:Wn w u b p)(a:Ad u u e):Wn w e b p:=⟨Am h.iA a lR,h.gG.trans (a.mono h.gG.size)⟩
section
variable {H:Type} {enc:Af×J->H} {P:Program} {w:Y} {spare:Nat->Bool} {held:Bool}
theorem Da(b a:Nat)(i:Nat):(⟨b,a,M⟩:Addr).add i=⟨b,a+i,M⟩:=by unfold Addr.add;split<;>simp_all
end
instance:Inhabited MI:=⟨⟨0,0,0,0⟩⟩
instance:Inhabited MC:=⟨⟨0,0⟩⟩
instance:Inhabited MT:=⟨⟨0,0,0,0⟩⟩
instance:Inhabited MF:=⟨⟨[],0,[],[]⟩⟩
instance:Inhabited VF:=⟨⟨.bool true,.bool true,.bool true⟩⟩
def CO(z:Int):Prop:=(Lit.int Ab z).wf=true
def Ta(z:Int):Prop:=(Lit.int .u32 z).wf=true
def MI.wf(x:MI):Prop:=CO x.op/\CO x.a/\CO x.b/\CO x.c
def MC.wf(x:MC):Prop:=CO x.type/\Ta x.word
def MT.wf(x:MT):Prop:=CO x.func/\CO x.head/\CO x.gQ/\Ta x.init
structure MF.wf(f:MF):Prop where
 d5:∀z∈f.d5,CO z
 gz:CO f.gz
 en:∀z∈f.en,CO z
 ch:∀x∈f.ch,x.wf
structure MP.wf(p:MP):Prop where
 a7:∀r∈p.a7,∀z∈r,CO z
 aC:∀x∈p.aC,x.wf
 cC:∀f∈p.cC,f.wf
 dr:∀x∈p.dr,x.wf
section
variable {H:Type} {enc:Af×J->H} {w:Y} {spare:Nat->Bool} {held:Bool} {fuel:Nat} {cs:List J} {x:DataW H×List MemPlace}
theorem four{cs:List J}(h:cs.length=4):∃a b c d,cs=[a,b,c,d]:=by
 match cs,h with
 |[a,b,c,d],_=>exact⟨a,b,c,d,rfl⟩
theorem two{cs:List J}(h:cs.length=2):∃a b,cs=[a,b]:=by
 match cs,h with
 |[a,b],_=>exact⟨a,b,rfl⟩
end
end Go.Proofs.YtjnglocdoljgkaaGreat
