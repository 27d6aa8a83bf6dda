import Derived.Test.YtkgohaigebcgoaaGreatDoorLo6
import Derived.Shelf.SlicesG.Reverse
import Derived.Shelf.Bits.Mul64
import Derived.Shelf.Lay
import Derived.Ground.NamesProg
namespace Go.Proofs
open Go.Shelf
def Tryz.lReverse_ren:Go.Shelf.Ren:=⟨λ |35=>58|n=>n, λ |22=>27|23=>2|3=>3|4=>4|0=>0|n=>n, λ |n=>n⟩
theorem Tryz.lReverse:Go.Proofs.SlLaysN.n35 Tryz.prog Tryz.lReverse_ren:={
 mixed:=by kernel_rfl
 f35:=⟨Tryz.f58.name,by decide,Tryz.func58.trans (congrArg some (by kernel_rfl))⟩
 t0:=Tryz.underlying0
 a0:=Tryz.isAgg0
 z0:=Tryz.sizeOf0
 v0:=Tryz.zeroValue0
 t3:=Tryz.underlying3
 a3:=Tryz.isAgg3
 z3:=Tryz.sizeOf3
 v3:=Tryz.zeroValue3
 t4:=Tryz.underlying4
 a4:=Tryz.isAgg4
 z4:=Tryz.sizeOf4
 v4:=Tryz.zeroValue4
 t22:=Tryz.underlying27
 a22:=Tryz.isAgg27
 z22:=Tryz.sizeOf27
 v22:=Tryz.zeroValue27
 t23:=Tryz.underlying2
 a23:=Tryz.isAgg2
 z23:=Tryz.sizeOf2
 v23:=Tryz.zeroValue2}
def Tryz.lMul_ren:Go.Shelf.Ren:=⟨λ |212=>136|263=>169|264=>170|n=>n, λ |46=>216|51=>29|146=>265|53=>267|148=>268|n=>n, λ |n=>n⟩
theorem Tryz.lMul:Go.Proofs.Lays.n212 Tryz.prog Tryz.lMul_ren:={
 mixed:=by kernel_rfl
 f212:=Tryz.func136.trans (congrArg some (by kernel_rfl))
 f263:=Tryz.func169.trans (congrArg some (by kernel_rfl))
 f264:=Tryz.func170.trans (congrArg some (by kernel_rfl))
 t46:=Tryz.underlying216
 a46:=Tryz.isAgg216
 z46:=Tryz.sizeOf216
 v46:=Tryz.zeroValue216
 t51:=Tryz.underlying29
 a51:=Tryz.isAgg29
 z51:=Tryz.sizeOf29
 v51:=Tryz.zeroValue29
 t53:=Tryz.underlying267
 a53:=Tryz.isAgg267
 z53:=Tryz.sizeOf267
 v53:=Tryz.zeroValue267
 t146:=Tryz.underlying265
 a146:=Tryz.isAgg265
 z146:=Tryz.sizeOf265
 v146:=Tryz.zeroValue265
 t148:=Tryz.underlying268
 a148:=Tryz.isAgg268
 z148:=Tryz.sizeOf268
 v148:=Tryz.zeroValue268}
end Go.Proofs
namespace Go.Proofs.YtkgohaigebcgoaaGreatDoor
open Go.ChangeShapes Go.WideShapes Go.ChangeAt Go.RowKit Go.Proofs.Tryz
set_option linter.unusedVariables false
open Option renaming some → K,none → M
open Go renaming Value → J,World → Y,Calls → Ai,TypeId → Aj
open Go.RowKit renaming Hid → Ae,Below → Ah
open Go.Ending renaming returned → Am
open Go.Value renaming bool → Ao,slice → Z,agg → An
open Go.Proofs.Tryz renaming prog → Aq
open Go.IntKind renaming i64 → Af
open Go.World renaming setCell → Aa,ownsRow → Ab
open List renaming flatMap → Ad
set_option maxHeartbeats 8000000
set_option maxRecDepth 100000
variable {f:MF}{x:MI}{a b z r t y m:Int}{W:World}{w u wr U:Y}{g:MG}{I:Nat->Int}{c e S':List Nat}{S:Nat->Prop}{xs:List MI}{k:Nat}
theorem AX.parts{p:MP}(h:AX p 0):A7 p.az/\BC p.b8/\Bz p.aB/\DY p/\CX p:=by
 unfold AX at h;rcases h with h|h|h|h|h|h
 . exact absurd h.1 dC
 . exact absurd h.1 dC
 . exact absurd h.1 dC
 . exact absurd h.1 dC
 . exact absurd h.1 dC
 exact h.2
theorem AX.ft{p:MP}(h:AX p 0){i j:Nat}(a:p.aB[i]?=K f)(b:f.aU[j]?=K x):AW p f x:=h.parts.2.2.2.1 i (f7.1 a).1 f a j (f7.1 b).1 x b
theorem Gt:AG 1=1/\AG 2=2/\AG 3=2/\AG 4=3/\AG 5=3/\AG 6=4/\AG 7=4/\AG 27=10/\AG 28=11:=by decide+kernel
theorem AW.const{p:MP}(h:AW p f x)(e:x.op=1):∃(q:Nat) (z:MC),x.a=q/\p.b8[q]?=K z:=by
 obtain⟨_,_,h⟩:=h;rw[e,Gt.1]at h;unfold BU Cb at h;have b:0<=x.a/\x.a<p.b8.length:=by rcases h with h|h|h|h|h|h|h|h|h|h<;>first|(exfalso;omega)|exact⟨h.2.1,h.2.2.1⟩
 obtain⟨q,c⟩:=jW b.1;rw[c]at b;exact⟨q,_,c,an oM⟩
theorem SY(h:¬AJ f a=0):∃q:Nat,a=q/\(f.aD++f.a7)[q]?=K (AJ f a):=by
 by_cases b:a<0
 . exact absurd (KP b) h
 obtain⟨q,c⟩:=jW (by omega:0<=a);refine⟨q,c,?_⟩;subst c;unfold AJ at h⊢;rw[jH b]at h⊢;rw[jQ]at h⊢;simp only[i9]at h⊢;cases e:(f.aD++f.a7)[q]? with
 |none=>rw[e]at h;exact absurd rfl h
 |some z=>rfl
theorem AW.local{p:MP}(h:AW p f x)(e:x.op=2\/x.op=3\/x.op=27):∃q:Nat,x.a=q/\(f.aD++f.a7)[q]?=K (AJ f x.a):=by
 apply SY;obtain⟨_,_,h⟩:=h;have b:AG x.op=2\/AG x.op=10:=by
  rcases e with e|e|e<;>rw[e]
  . exact .inl Gt.2.1
  . exact .inl Gt.2.2.1
  exact .inr Gt.2.2.2.2.2.2.2.1
 unfold BU Cb at h;rcases h with h|h|h|h|h|h|h|h|h|h<;>first|(exfalso;omega)|exact h.2.1
theorem Uv{p:MP}(j:p.az.length=3)(h:¬CJ p a b=0):∃(q z:Nat) (r:List Int),a=q/\b=z/\p.az[q]?=K r/\r[z]?=K (CJ p a b):=by
 by_cases f:a<0\/2<a\/b<0
 . exact absurd (LM f) h
 obtain⟨q,g⟩:=jW (by omega:0<=a);obtain⟨z,i⟩:=jW (by omega:0<=b);subst g i;have d:p.az[q]?=K (p.az[q]'oM):=an oM
 refine⟨q,z,_,rfl,rfl,d,?_⟩;have e:=Ei (p:=p) (r:=q) (c:=z) oM d;rw[e]at h⊢;rw[jQ]at h⊢;cases e2:(p.az[q]'oM)[z]? with
 |none=>rw[e2]at h;exact absurd rfl h
 |some t=>rfl
theorem Uw{p:MP}{q z:Nat}{r:List Int}(c:x.a=q)(d:x.b=z)(e:p.az[q]?=K r)(ht:r[z]?=K t):CT p x=t:=by unfold CT;rw[c,d];simp only[i9,e,ht];rfl
theorem AW.cell{p:MP}(i:p.az.length=3)(h:AW p f x)(e:x.op=4\/x.op=5\/x.op=6\/x.op=7):∃(q z:Nat) (r:List Int),x.a=q/\x.b=z/\p.az[q]?=K r/\r[z]?=K (CT p x):=by
 obtain⟨_,_,h⟩:=h;have k:AG x.op=3\/AG x.op=4:=by
  rcases e with e|e|e|e<;>rw[e]
  . exact .inl Gt.2.2.2.1
  . exact .inl Gt.2.2.2.2.1
  . exact .inr Gt.2.2.2.2.2.1
  exact .inr Gt.2.2.2.2.2.2.1
 unfold BU Cb at h;have j:¬CJ p x.a x.b=0:=by rcases h with h|h|h|h|h|h|h|h|h|h<;>first|(exfalso;omega)|exact h.2.1|exact h.2.1.there
 obtain⟨q,z,r,c,d,g,ht⟩:=Uv i j;refine⟨q,z,r,c,d,g,?_⟩;rw[Uw c d g ht];exact ht
theorem AW.gv{p:MP}(h:AW p f x)(e:x.op=6\/x.op=7):OR p x.a x.b x.c:=by
 obtain⟨_,_,h⟩:=h;have d:AG x.op=4:=by
  rcases e with e|e<;>rw[e]
  . exact Gt.2.2.2.2.2.1
  exact Gt.2.2.2.2.2.2.1
 unfold BU Cb at h;rcases h with h|h|h|h|h|h|h|h|h|h<;>first|(exfalso;omega)|exact h.2.1
theorem AW.callee{p:MP}(h:AW p f x)(e:x.op=28):∃(q:Nat) (fq:MF),x.a=q/\p.aB[q]?=K fq:=by
 obtain⟨_,_,h⟩:=h;rw[e,Gt.2.2.2.2.2.2.2.2]at h;unfold BU Cb at h;have b:0<=x.a/\x.a<p.aB.length:=by rcases h with h|h|h|h|h|h|h|h|h|h<;>first|(exfalso;omega)|exact⟨h.2.1,h.2.2.1⟩
 obtain⟨q,c⟩:=jW b.1;rw[c]at b;exact⟨q,_,c,an oM⟩
theorem AW.target{p:MP}(h:AW p f x)(e:x.op=25\/x.op=26\/x.op=27):0<=x.c/\x.c<f.aU.length:=by
 obtain⟨_,_,h⟩:=h;have a:AG 25=9/\AG 26=9/\AG 27=10:=by decide+kernel
 have b:AG x.op=9\/AG x.op=10:=by
  rcases e with e|e|e<;>rw[e]
  . exact .inl a.1
  . exact .inl a.2.1
  exact .inr a.2.2
 unfold BU Cb at h;rcases h with h|h|h|h|h|h|h|h|h|h<;>first|(exfalso;omega)|exact h.2.2.2
theorem ZN(x y:Nat)(hx:x<18446744073709551616)(hy:y<18446744073709551616)(w:World):
 Calls Tryz.prog 136 #[.int .u64 x,.int .u64 y] w λe w'=>e=.returned (.tuple #[.int .u64 ((x*y / 18446744073709551616:Nat):Int),.int .u64 ((x*y % 18446744073709551616:Nat):Int)])/\w'=w:=by
 have h:=Any.bits_Mul Tryz.lMul x y hx hy w;exact h
theorem RE(g cap:Nat)(zs:List Int)(w:World)(hH:Go.Sort.Holds (Value.int .i64) w g 0 zs.toArray)(hsz:zs.length<=9223372036854775807):
 Calls Tryz.prog 58 #[.slice (some ⟨g,0,none⟩) zs.length cap] w λe w'=>e=.returned (.tuple #[])/\∃n,w'=Go.Sort.putRow (Value.int .i64) (Go.Sort.ahead w n) g 0 zs.reverse.toArray:=by
 have h:=AnyG.slices_Reverse_int Tryz.lReverse g 0 cap zs w hH hsz;exact h
def EP(k n:Nat):List Value:=List.replicate k (.int .i64 (-1))++List.replicate (n-k) (.int .i64 0)
theorem RA(k n:Nat)(h:k<=n):(EP k n).length=n:=by simp[EP];omega
theorem RB(k c n:Nat)(h:k+c<=n):splice (EP k n) k (List.replicate c (.int .i64 (-1)))=EP (k+c) n:=by
 unfold splice EP;rw[List.take_left' (by simp),jT,List.drop_append,mF (by simp),k7,jT,List.drop_replicate,<-kS,List.replicate_append_replicate];congr 2
 omega
theorem QQ(W:World)(G k n dl dc sl sc c:Nat)(ad:Addr)(hg:Ay W G (EP k n).toArray 2)(hc:c=Nat.min sl dl)(hsrc:∀j,j<c->W.cell? (ad.add j)=some (.int .i64 (-1)))(hkc:k+c<=n):
 (Builtin.copy_ #[27,27] 3 #[.slice (some ⟨G,k,none⟩) dl dc,.slice (some ad) sl sc]).run Tryz.prog W=.ok (.int .i64 (c:Int)) (W.setRow G (EP (k+c) n).toArray):=by
 obtain⟨k0,hk,hx0,hx1,hx2⟩:=km Cy;have h:=run_copy_row (P:=Tryz.prog) W 27 27 3 2 G k dl dc ad sl sc (EP k n).toArray 2 (List.replicate c (.int .i64 (-1))) Tryz.underlying27 (by rw[hk];simp[hx1]) hg (by rw[jT];exact hc) (λj v hj=>by obtain⟨h1,h2⟩:=f7.1 hj;rw[jT]at h1;rw[hsrc j h1,<-h2];simp) (by rw[jT,List.size_toArray,RA k n (by omega)];exact hkc) (λv hv=>by rw[(List.mem_replicate.1 hv).2];rfl);rw[h];have e:=RB k c n hkc;unfold splice at e;simp only[jT]at e⊢;rw[kS,e];rfl
theorem pv(k n i:Nat)(h:i<k)(hk:k<=n):(EP k n).toArray[i]?=some (.int .i64 (-1)):=by rw[i5];unfold EP;rw[kL (by simpa using h)];simp[h]
theorem XR{B G n:Nat}(h:W.ownsRow B 2 1 (.slice (some ⟨G,0,none⟩) n n) n (madeCells (Value.int .i64 0).cells (n*1)).toList):Ay W G (EP 0 n).toArray 2:=by
 rcases h.2 with⟨h',_⟩|⟨g',cap',cur,h',hb,hg,h3,h4,h5,h6⟩
 . cases h'
 cases h'
 have e:cur=(EP 0 n).toArray:=by rw[Mo n (λ_=>[]) []]at h6;rw[kP (by simp[h5])]at h6;apply Array.toList_inj.1;rw[h6];simp[CK,EP,List.flatten_replicate_singleton]
 rw[<-e];exact hg
theorem MO{G:Nat}{cur new:Array Value}{t:TypeId}(h:Ay W G cur t):Ay (W.setRow G new) G new t:=setRow_heap W G _ _ t _ h
theorem Tj(g n:Nat)(w:World)(h1:1<=n)(hn:n<=1024)(h:w.cell? ⟨g,0,none⟩=some (.int .i64 (-1))):
 Calls Tryz.prog 61 #[.slice (some ⟨g,0,none⟩) 1 1,.int .i64 (n:Int)] w λe w'=>∃g',e=.returned (.slice (some ⟨g',0,none⟩) n n)/\w'.ownsRow w.heap.size 2 1 (.slice (some ⟨g',0,none⟩) n n) n (List.replicate n (.int .i64 (-1)))/\Below w.heap.size w w':=by
 obtain⟨k0,hk,hx0,hx1,hx2⟩:=km Cy;have hnI:¬(n:Int)<0:=by omega
 have hn2:(n:Int)<=1024:=by omega
 have hm1:1*n / 18446744073709551616=0:=by omega
 have hm2:1*n % 18446744073709551616=n:=by omega
 have HM:Hid (∀U:World,Calls Tryz.prog 136 #[.int .u64 1,.int .u64 (n:Int)] U λe w'=>e=.returned (.tuple #[.int .u64 0,.int .u64 (n:Int)])/\w'=U):= λU=>by have:=ZN 1 n (by omega) (by omega) U;rw[hm1,hm2]at this;exact this
 clear hm1 hm2;go_enter Tryz.func61,Tryz.ntmps61;go_wp2_with fail;refine(HM.o w).mono ?_;rintro e u ⟨rfl,rfl⟩;have hgt:g<u.heap.size:=i7 h;have HOC:Hid (u.cell? ⟨g,0,none⟩=some (.int .i64 (-1))):=h;clear h;go_upto_region 7 with(at_make;refine mc _ rfl _ _ 27 rfl u.heap.size 2 k0 (.int .i64 0) 1 Tryz.underlying27 hk hx0 hx1 .i64 .i64 _ _ n rfl rfl rfl rfl (by rw[hx2];omega) (by unfold maxLen;omega) lR ?_;intro w3 hown hgrow)
 have hb3:Below u.heap.size u w3:=(jZ _ _).grown hgrow lR (λk hk=>by cases hk);have k3:Ay w3 u.heap.size (EP 0 n).toArray 2:=XR hown;have hcp:=QQ w3 u.heap.size 0 n n n 1 1 1 ⟨g,0,none⟩ k3 (by simp[Nat.min_def];omega) (λj hj=>by
  obtain rfl:j=0:=by omega
  rw[Cx];exact Az hb3 HOC.o) (by omega)
 have HB4:Hid (Ay (w3.setRow u.heap.size (EP (0+1) n).toArray) u.heap.size (EP (0+1) n).toArray 2/\Below u.heap.size u (w3.setRow u.heap.size (EP (0+1) n).toArray)):=⟨MO k3,below_setRow hb3 lR _⟩
 clear hown hgrow hb3 k3;rw[kT]at hcp HB4;obtain⟨W4,hW4⟩:∃W,W=w3.setRow u.heap.size (EP 1 n).toArray:=⟨_,rfl⟩;rw[<-hW4]at hcp HB4;clear hW4;obtain⟨G,hG⟩:∃G,G=u.heap.size:=⟨_,rfl⟩;rw[<-hG]at hcp HB4⊢;have HGG:Hid (G=u.heap.size):=hG;clear hG;go_wp2;go_loopw [8] (λi wr=>∃k:Nat,1<=k/\k<=n/\i=.int .i64 (k:Int)/\Hid (Ay wr G (EP k n).toArray 2/\Below u.heap.size u wr)) (λi _=>n-(intOf i).toNat)
 case atStart=>exact⟨1,by omega,h1,rfl,by rw[<-HGG.o];exact HB4⟩
 clear HB4 hcp;obtain⟨k,hk1,hkn,rfl,HL⟩:=hrel;by_cases hlt:k<n
 . (have hltI:(k:Int)<(n:Int):=by omega);have kD:=HL.o.1.av (At wr);have bD:=Ar HL.o.2 lR (At wr);obtain⟨c,hc⟩:∃c,c=Nat.min k (n-k):=⟨_,rfl⟩;have hcl:1<=c/\c<=k/\k+c<=n:=by have e:c=min k (n-k):=hc;omega
   have hcp:=QQ wr.drew G k n (n-k) (n-k) k n c ⟨G,0,none⟩ kD hc (λj hj=>by rw[Cx,kT,kD.cell j];exact pv k n j (by omega) (by omega)) (by omega);have HN:Hid (Ay (wr.drew.setRow G (EP (k+c) n).toArray) G (EP (k+c) n).toArray 2/\Below u.heap.size u (wr.drew.setRow G (EP (k+c) n).toArray)):=⟨MO kD,below_setRow bD (by rw[HGG.o];exact Nat.le_refl _) _⟩
   clear kD bD hc;go_wp2;go_region;refine Cm (λx=>Hid (Ay x G (EP (k+c) n).toArray 2/\Below u.heap.size u x)) HN ?_
   intro U HU;clear HN hcp;go_wp2;go_roundw;(case rel=>exact⟨k+c,by omega,by omega,by go_num,HU⟩);simp[intOf];omega
 obtain rfl:k=n:=by omega
 have HE:Hid (wr.ownsRow u.heap.size 2 1 (.slice (some ⟨G,0,none⟩) k k) k (List.replicate k (.int .i64 (-1)))):=by refine⟨by simp,.inr ⟨G,k,(EP k k).toArray,rfl,by rw[HGG.o];exact Nat.le_refl _,HL.o.1,Nat.le_refl _,by unfold maxLen;omega,by simp[EP],by simp[EP]⟩⟩
 go_wp2;go_ret;exact⟨G,rfl,HE.o,HL.o.2⟩
structure GI(w:Y)(G n gp cp gi ci:Nat)(pl:Nat->Nat)(I:Nat->Int):Prop where
 p:w ⟨G,3,M⟩=K (sG gp n cp)
 i:w ⟨G,4,M⟩=K (sG gi n ci)
 pc:∀x,x<n->w ⟨gp,x,M⟩=K ↑(pl x:Int)
 ic:∀x,x<n->w ⟨gi,x,M⟩=K ↑(I x)
theorem GI.av{j:Y}{G n f d e c:Nat}{g:Nat->Nat}(h:GI w G n f d e c g I)(a:Ah w w j):GI j G n f d e c g I:=⟨Az a h.p,Az a h.i, λx b=>Az a (h.pc x b), λx b=>Az a (h.ic x b)⟩
theorem Rj(G n X V W T a b:Nat)(d:Nat->Nat)(I:Nat->Int)(w:Y)(hn:n<=1024)(ht:Sh n d I)(O:d 0=0)(F:∀a b,a<n->b<n->d a=d b->a=b)(ha:a<n)(hb:b<n)(P:Kn I a)(Q:Kn I b)(h:GI w G n X V W T d I):
 Ai Aq 63 #[.pointer G,(a:Int),(b:Int)] w λe w'=>∃m:Nat,e=Am m/\m<n/\Kn I m/\Cw I a b m/\Ah w w w':=by
 have H:=Aw (fd h (fd ht (fd O F)));have D:=Aw (fd P Q);clear h ht O F P Q;go_enter func63,ntmps63;go_wp2;go_loopw [1,2] (λv u wr=>∃x y:Nat,x<n/\y<n/\v=iZ (x:Int)/\u=iZ (y:Int)/\Ae (Kn I x/\Kn I y/\(∀m,Cw I x y m->Cw I a b m)/\Ah w w wr)) (λv u _=>d (intOf v).toNat+d (intOf u).toNat)
 case atStart=>exact⟨a,b,ha,hb,rfl,rfl,D.1,D.2, λm h=>h,jZ _ _⟩
 obtain⟨x,y,l,r,rfl,rfl,f⟩:=hrel;by_cases e:x=y
 . subst e;go_wp2;go_ret;exact⟨x,rfl,l,f.1,f.2.2.1 x (Cw.same I x),f.2.2.2⟩
 have E:¬(x:Int)=(y:Int):=oM;have eB:((x:Int)==(y:Int))=false:=by simpa using E
 have eN:((x:Int) != (y:Int))=true:=by simpa using E
 have k:=H.1.av f.2.2.2;have z:=k.p;have i0:=k.i;have R:=k.pc x l;have S:=k.pc y r;have s:=k.ic x l;have t:=k.ic y r;clear k;have ae:(x:Int)<(n:Int):=oM;have ai:(y:Int)<(n:Int):=oM;by_cases L:d y<d x
 . have aa:(d y:Int)<(d x:Int):=oM;(have B:x≠0:= λq=>by have:=H.2.2.1;rw[q]at L;omega);obtain⟨c,c1,c2,c3,c4⟩:=H.2.1.up x l B (f.1.resolve_left B);rw[c1]at s;have g:=Aw (fd c4 (fd f.2.1 (fd ((λm A=>f.2.2.1 m (Cw.left H.2.1 r L B c1 A)):(∀m,Cw I c y m->Cw I a b m)) (fd f.2.2.2 c3))));clear c1 c4;go_wp2;go_quiet (fail);refine Cm (λu=>Ae (Ah wr wr u)) (AL _ _ _) ?_;intro U j;(replace z:=Az j z);(replace i0:=Az j i0);(replace s:=Az j s);clear R S t;go_wp2;go_roundw;(case rel=>exact⟨c,y,c2,r,rfl,rfl,g.1,g.2.1,g.2.2.1,Ar g.2.2.2.1 lR j⟩);simp[intOf];have:=g.2.2.2.2;omega
 have aa:¬(d y:Int)<(d x:Int):=oM;have N:d x<d y:=by have:=H.2.2.2 x y l r;omega
 have C:y≠0:= λq=>by have:=H.2.2.1;rw[q]at N;omega
 obtain⟨c,c1,c2,c3,c4⟩:=H.2.1.up y r C (f.2.1.resolve_left C);rw[c1]at t;have g:=Aw (fd f.1 (fd c4 (fd ((λm A=>f.2.2.1 m (Cw.symm (Cw.left H.2.1 l N C c1 A.symm))):(∀m,Cw I x c m->Cw I a b m)) (fd f.2.2.2 c3))));clear c1 c4;go_wp2;go_quiet (fail);refine Cm (λu=>Ae (Ah wr wr u)) (AL _ _ _) ?_;intro U j;replace z:=Az j z
 replace i0:=Az j i0
 replace t:=Az j t
 clear R S s;go_wp2;go_roundw;case rel=>exact⟨x,c,l,c2,rfl,rfl,g.1,g.2.1,g.2.2.1,Ar g.2.2.2.1 lR j⟩
 simp[intOf];have:=g.2.2.2.2;omega
theorem Bg.skip{n:Nat}{p:Nat}(h:Bg n I c z)(j:¬Kn I p):Bg n I (c++[p]) z:=by
 have i:∀q,q∈c++[p]->q∈c\/q=p:= λq a=>by simpa using a
 rcases h with⟨f,g⟩|⟨m,f,g,l,⟨q,s,t⟩,u⟩
 . exact .inl ⟨f, λq a=>(i q a).elim (g q) (λe=>by rw[e];exact j)⟩
 refine .inr ⟨m,f,g,l,⟨q,jL.2 (.inl s),t⟩, λd=> ?_⟩;rw[u d];exact⟨λk q a b=>(i q a).elim (λr=>k q r b) (λe=>absurd (e▸b) j), λk q a b=>k q (jL.2 (.inl a)) b⟩
theorem Bg.cz{n:Nat}{a:List Nat}{p:Nat}(h:Bg n I a (-1))(b:Kn I p)(l:p<n):Bg n I (a++[p]) (p:Int):=by
 have j:∀q,q∈a++[p]->q∈a\/q=p:= λq c=>by simpa using c
 rcases h with⟨f,g⟩|⟨m,f,_⟩
 . refine .inr ⟨p,rfl,l,b,⟨p,sP,b⟩, λd=>⟨λk q c i=>(j q c).elim (λr=>absurd i (g q r)) (λe=>e▸k), λk=>k p sP b⟩⟩
 omega
theorem Bg.jl{n:Nat}{p m b:Nat}(h:Bg n I c (m:Int))(w:Kn I p)(v:b<n)(t:Kn I b)(s:Cw I m p b):Bg n I (c++[p]) (b:Int):=by
 have u:∀q,q∈c++[p]->q∈c\/q=p:= λq a=>by simpa using a
 rcases h with⟨g,_⟩|⟨x,g,y,z,⟨q,i,j⟩,l⟩
 . omega
 obtain rfl:m=x:=oM;refine .inr ⟨b,rfl,v,t,⟨q,jL.2 (.inl i),j⟩, λd=> ?_⟩;rw[s d,l d];exact⟨λk q a f=>(u q a).elim (λr=>k.1 q r f) (λe=>e▸k.2), λk=>⟨λq a f=>k q (jL.2 (.inl a)) f,k p sP w⟩⟩
theorem Bg.some{n:Nat}(h:Bg n I e z)(d:z≠ -1):∃m:Nat,z=(m:Int)/\m<n/\Kn I m:=by
 rcases h with⟨a,_⟩|⟨m,a,b,c,_⟩
 . exact absurd a d
 exact⟨m,a,b,c⟩
theorem O8(G n C A B y:Nat)(j:Nat->Nat)(I:Nat->Int)(s:J)(d:List Nat)(w:Y)(hn:n<=1024)(ht:Sh n j I)(X:j 0=0)(T:∀a b,a<n->b<n->j a=j b->a=b)(V:∀p∈d,p<n)(ax:d.length<=4096)(L:Lp w s d)(h:GI w G n C A B y j I):
 Ai Aq 62 #[.pointer G,s] w λe O=>∃z,e=Am (iZ z)/\Bg n I d z/\Ah w w O:=by
 have H:=Aw (fd h (fd L V));obtain⟨a1,c1,rfl⟩:=Rd.aP L;have HT:Ae (∀(a b:Nat) (U:Y),a<n->b<n->Kn I a->Kn I b->GI U G n C A B y j I->Ai Aq 63 #[.pointer G,(a:Int),(b:Int)] U λe O=>∃m:Nat,e=Am m/\m<n/\Kn I m/\Cw I a b m/\Ah U U O):= λa b U ha hb ka kb hU=>Rj G n C A B y a b j I U hn ht X T ha hb ka kb hU
 clear h L V ht X T;go_enter func62,ntmps62;go_wp2;go_loopw [5,11] (λv i wr=>∃(k:Nat) (z:Int),k<= ↑d/\v=iZ z/\i=iZ k/\Ae (Bg n I (d.take k) z/\Ah w w wr)) (λ_ i _=> ↑d-(intOf i).toNat)
 case atStart=>exact⟨0,-1,oM,rfl,rfl,.inl ⟨rfl, λp l=>by simp at l⟩,jZ _ _⟩
 obtain⟨k,z,hk,rfl,rfl,f⟩:=hrel;by_cases ae:k< ↑d
 . have aj:(k:Int)<(d:Int):=oM;obtain⟨p,l⟩:∃p,d[k]?=K p:=⟨_,an ae⟩;have F:p<n:=H.2.2 p (hC l);have aA:(p:Int)<(n:Int):=oM;(have x:Ae (d.take (k+1)=d.take k++[p]):=by obtain⟨hl,rfl⟩:=f7.1 l;exact kN hl);obtain⟨ga,oa,rfl,_,P⟩:=H.2.1.at_ l;(replace P:=Az f.2 P);have D:=H.1.av f.2;have i0:=D.i;have ip:=D.ic p F;clear l D;by_cases t:Kn I p
   . have r:Ae (Kn I p):=t;(go_upto_region 5 with fail);go_cut [8]from 15 to 26 (λc wx=>c=Ao true/\wx=wr)
     case first=>
      by_cases E:p=0
      . subst E;go_wp2;go_meet;exact⟨rfl,rfl⟩
      have ai:((p:Int)==0)=false:=oT;have u:=r.resolve_left E;(have aq:(I p== -1)=false:=by simpa using u);(have au:(I p != -1)=true:=by simpa using u);go_wp2;go_meet;exact⟨rfl,rfl⟩
     case rest=>
      obtain⟨rfl,W⟩:=hcut;rw[W];clear W P i0 ip;by_cases N:z=-1
      . subst N;(have g:Ae (Bg n I (d.take (k+1)) (p:Int)):=by show Bg _ _ _ _;rw[x];exact f.1.cz r F);go_wp2;go_roundw;(case rel=>exact⟨k+1,_,oM,rfl,by go_num,g,f.2⟩);exact oI
      (have aE:(z== -1)=false:=by simpa using N);obtain⟨m,rfl,hm,aa⟩:=f.1.some N;go_wp2_with fail;refine(HT.o m p wr hm F aa r (H.1.av f.2)).mono ?_;rintro e u1 ⟨m',rfl,h1,R,S,Q⟩;have g:Ae (Bg n I (d.take (k+1)) (m':Int)/\Ah w w u1):=by refine⟨?_,Ar f.2 lR Q⟩;rw[x];exact f.1.jl r h1 R S
      clear R S Q;go_wp2;go_roundw;(case rel=>exact⟨k+1,_,oM,rfl,by go_num,g⟩);exact oI
   (have E:¬p=0:= λq=>t (.inl q));(have u:I p=-1:=kV λq=>t (.inr q));have ai:((p:Int)==0)=false:=oT;rw[u]at ip;(have g:Ae (Bg n I (d.take (k+1)) z):=by show Bg _ _ _ _;rw[x];exact f.1.skip t);go_wp2;go_roundw;(case rel=>exact⟨k+1,z,oM,by trivial,by go_num,g,f.2⟩);exact oI
 obtain rfl:k=d.length:=oM;have g:Ae (Bg n I d z):=by have:=f.1;rw[kP lR]at this;exact this
 go_wp2;go_ret;exact⟨z,rfl,g,f.2⟩
theorem KY{S:List Nat}(n:Nat)(h:∀x∈S,x∈S'):Br S' n<=Br S n:=by unfold Br;rw[<-List.countP_eq_length_filter,<-List.countP_eq_length_filter];apply List.countP_mono_left;intro x _ a;simp only[Bool.not_eq_true',List.contains_eq_mem,mQ]at a⊢;exact λq=>a (h x q)
theorem Vs.more{E:Nat->List Nat}{S O r a:List Nat}(h:Vs E S O r S' a):∀x∈S,x∈S':=by obtain⟨N,t⟩:=h.told;exact λx b=>(t.seen x).2 (.inl b)
theorem Jb:∀(a b:List Int),a.Pairwise (· < ·)->b.Pairwise (· < ·)->(∀z,z∈a↔z∈b)->a=b
 |[],[],_,_,_=>rfl
 |[],y::b,_,_,h=>by have:=(h y).2 sP;cases this
 |x::a,[],_,_,h=>by have:=(h x).1 sP;cases this
 | x ::a,y::b,ha,hb,h=>by
   obtain⟨f,i⟩:=kY.1 ha;obtain⟨g,j⟩:=kY.1 hb;have e:x=y:=by
    rcases jK.1 ((h x).1 sP)with e|e
    . exact e
    rcases jK.1 ((h y).2 sP)with d|d
    . exact d.symm
    have:=g x e;have:=f y d;omega
   subst e;(congr 1);refine Jb a b i j λz=>⟨λc=> ?_, λc=> ?_⟩
   . rcases jK.1 ((h z).1 (kh _ c))with e|e
     . have:=f z c;omega
     exact e
   rcases jK.1 ((h z).2 (kh _ c))with e|e
   . have:=g z c;omega
   exact e
theorem ZJ(xs:List MI)(j:Nat)(c:Bb xs)(h:Cu xs xs j=true):j<=xs.length:=by
 simp only[Cu,Bool.or_eq_true,List.any_eq_true,k6,lC]at h;rcases h with h|⟨i,d,h⟩
 . omega
 cases hx:xs[i]? with
 |none=>rw[hx]at h;cases h
 | some x=>
   rw[hx]at h;simp only[Hy,Bool.or_eq_true,ky,lC]at h;rcases h with⟨a,b⟩|⟨_,b⟩
   . have:=c.2.2 i x hx a;omega
   omega
def EH(D:DataW Unit)(xs:List MI)(k:Nat):Prop:=∀z:Int,Go.Maps.has D (.int Af z)=(decide (0<=z)&&Cu xs k z.toNat)
theorem Ew(D:DataW Unit)(a:Go.Maps.IsMap D)(z y:Int)(u:DataW Unit):Go.Maps.has (D.put (.int Af z) u) (.int Af y)=(Go.Maps.has D (.int Af y)||decide (y=z)):=by
 by_cases h:y=z
 . subst h;rw[Go.Maps.has_put_same a (show WideAt.IsKeyLit (Lit.int Af y)from trivial)];simp
 rw[Go.Maps.has_put_other (λe=>h (by cases e;rfl))];simp[h]
theorem EH.start(xs:List MI)(u:DataW Unit):EH ((DataW.map []:DataW Unit).put (.int Af 0) u) xs 0:= λz=>by
 rw[Ew _ Go.Maps.isMap_empty,Q6];have e:Go.Maps.has (DataW.map []:DataW Unit) (.int Af z)=false:=rfl;rw[e];by_cases h:z=0
 . subst h;rfl
 by_cases a:0<=z
 . have:¬z.toNat=0:=oM;simp[h,this]
 simp[h,a]
theorem EH.none{D:DataW Unit}(h:EH D xs k)(c:xs[k]?=K x)(a:Bv x=false)(b:¬x.op=29):EH D xs (k+1):= λz=>by rw[h z,IY xs k _ x c];simp[Hy,a,b]
theorem EH.ret{D:DataW Unit}{u:DataW Unit}(h:EH D xs k)(b:Go.Maps.IsMap D)(f:xs[k]?=K x)(c:Bv x=false)(d:x.op=29):EH (D.put (.int Af ((k:Int)+1)) u) xs (k+1):= λz=>by
 rw[Ew D b,h z,IY xs k _ x f];by_cases a:0<=z
 . have e:decide (z=(k:Int)+1)=decide (z.toNat=k+1):=decide_eq_decide.2 ⟨λ_=>oM, λ_=>oM⟩;rw[e];simp[Hy,c,d,a]
 have e:decide (z=(k:Int)+1)=false:=oT;simp[e,a]
theorem EH.goes{D:DataW Unit}{u i:DataW Unit}(h:EH D xs k)(d:Go.Maps.IsMap D)(g:xs[k]?=K x)(f:Bv x=true)(j:0<=x.c):EH ((D.put (.int Af x.c) u).put (.int Af ((k:Int)+1)) i) xs (k+1):= λz=>by
 rw[Ew _ (d.put _ _),Ew D d,h z,IY xs k _ x g];by_cases b:0<=z
 . have e:decide (z=(k:Int)+1)=decide (z.toNat=k+1):=decide_eq_decide.2 ⟨λ_=>oM, λ_=>oM⟩;have a:decide (z=x.c)=decide (x.c=(z.toNat:Int)):=decide_eq_decide.2 ⟨λ_=>oM, λ_=>oM⟩;rw[e,a];simp[Hy,f,b,Bool.or_assoc]
 have e:decide (z=(k:Int)+1)=false:=oT;have a:decide (z=x.c)=false:=oT;simp[e,a,b]
theorem D9{a:Y}(h:Ah w w a):w.grownBy a M:=⟨h.os,h.tape,h.output,h.size, λk b _=>h.block k b⟩
theorem AP.av{c:Y}{b a:Nat}{D:DataW Unit}(h:AP w b a D)(d:Ah w w c):AP c b a D:=World.ownsMap.kept h (D9 d) sP
structure LX(w wr U:Y)(x:MI)(cnt:Nat)(D:DataW Unit):Prop where
 set:AP U w cnt D
 xb:Ay U wr #[x.op,x.a,x.b,x.c] 25
 cq:Ah w w U
 lt:(w:Nat)< ↑wr
theorem LX.av{b:Y}{c:Nat}{D:DataW Unit}(h:LX w wr U x c D)(a:Ah U U b):LX w wr b x c D:=⟨h.set.av a,h.xb.av a,Ar h.cq lR a,h.lt⟩
theorem LX.grown{a:Y}{f c:Nat}{D b:DataW Unit}(h:LX w wr U x f D)(i:AP a w c b)(d:U.grownBy a (K w)):LX w wr a x c b:=by refine⟨i,?_,h.cq.grown d h.cq.size (λj g=>by cases g;exact Nat.le_refl _),h.lt⟩;have:=h.xb;have k:=h.lt;unfold Ay at*;rw[d.block _ h.xb.lt (λe=>by have:=jM e;omega)];exact this
theorem AB.o7{B:Nat}{V:VS}{C:List (J×List MC)}{K:List MC}{F:List (MG×J)}(h:AB u B V C K F){b:Nat}{a0 p q r s t v:J}(l:Ay u b #[a0,p,q,r,s,t,v] 48)(a c d x3 e f m:J):AB (Aa (Aa (Aa (Aa (Aa (Aa (u.setCell b a) ⟨b,1,M⟩ c) ⟨b,2,M⟩ d) ⟨b,3,M⟩ x3) ⟨b,4,M⟩ e) ⟨b,5,M⟩ f) ⟨b,6,M⟩ m) B V C K F:=by have g:=l.set 0 a;have i:=g.set 1 c;have j:=i.set 2 d;have k:=j.set 3 x3;have R4:=k.set 4 e;have n:=R4.set 5 f;exact((((((h.other l dC dC dC 0 a).other g dC dC dC 1 c).other i dC dC dC 2 d).other j dC dC dC 3 x3).other k dC dC dC 4 e).other R4 dC dC dC 5 f).other n dC dC dC 6 m
theorem Gx{base:Nat}{e:Aj}{k n m c:Nat}{a:Option Addr}{xs:List J}(h:Ab w base e k (Z a n c) m xs):n<=c:=by
 rcases h.2 with⟨b,_⟩|⟨g,cap,d,b,_,_,f,_⟩
 . simp only[i8]at b;omega
 simp only[i8]at b;omega
theorem TX{B b k n i:Nat}{e t:Aj}{s x:J}{xs:List J}{c:Array J}(h:Ab u B e k s n xs)(d:Ay u b c t)(f:e≠t):Ab (Aa u ⟨b,i,M⟩ x) B e k s n xs:=kK h (a:=⟨b,i,M⟩) (λe=>Bn h d f b e rfl) _
theorem nR:AG 8=5/\AG 9=5/\AG 10=5/\AG 11=5/\AG 12=5/\AG 13=6/\AG 14=6/\AG 15=6/\AG 16=6/\AG 20=7/\AG 21=5/\AG 22=8:=by decide+kernel
theorem AW.type{p:MP}(h:AW p f x)(e:(8<=x.op/\x.op<=16)\/x.op=20\/x.op=21):Fd x.a=true:=by
 obtain⟨_,_,h⟩:=h;have c:AG x.op=5\/AG x.op=6\/AG x.op=7:=by
  have b:x.op=8\/x.op=9\/x.op=10\/x.op=11\/x.op=12\/x.op=13\/x.op=14\/x.op=15\/x.op=16\/x.op=20\/x.op=21:=oM
  obtain⟨d,g,i,j,k,l,m,n,q,r,s,t⟩:=nR;rcases b with e|e|e|e|e|e|e|e|e|e|e<;>rw[e]<;>omega
 unfold BU Cb at h;rcases h with h|h|h|h|h|h|h|h|h|h<;>first|(exfalso;omega)|(rcases h.1 with h|h|h<;>first|exact h.2|(rcases h.2 with e|e<;>rw[e]<;>rfl))
theorem AW.conv{p:MP}(h:AW p f x)(e:x.op=22):Fd x.a=true/\Fd x.b=true:=by
 obtain⟨_,_,h⟩:=h;have c:AG x.op=8:=by rw[e];exact nR.2.2.2.2.2.2.2.2.2.2.2
 unfold BU Cb at h;rcases h with h|h|h|h|h|h|h|h|h|h<;>first|(exfalso;omega)|exact⟨h.2.1,h.2.2.1⟩
theorem AW.jg{p:MP}(h:AW p f x)(e:x.op=2):AJ f x.a≠0:= λc=>by
 have b:=h.2.2;have d:AG x.op=2:=by rw[e];exact Gt.2.1
 unfold BU Cb at b;rcases b with h|h|h|h|h|h|h|h|h|h<;>first|(exfalso;omega)|exact h.2.1 c
theorem Xy{p:MP}(B:AX p 0)(d:AW p f x):(∀t∈Bh p f x,t=0->0<(AA p f x).length)/\(Bh p f x).length<=2:=by
 have h:=B.parts;have one:∀t:Int,t≠0->(∀u∈[t],u=0->0<(AA p f x).length)/\[t].length<=2:= λt ht=>⟨λu w e=>by simp only[jU]at w;exact absurd (w.symm.trans e) ht,sP⟩
 unfold Bh;by_cases c1:x.op=1
 . rw[jP c1];obtain⟨q,z,c,b⟩:=d.const c1;have A:=h.2.1.2 q (f7.1 b).1 z b;(have g:C8 p.b8 x.a.toNat=z:=by unfold C8;rw[c,i9,b];rfl);rw[g];exact one _ (CU A.1)
 rw[jH c1];by_cases c2:x.op=2
 . rw[jP c2];exact one _ (d.jg c2)
 rw[jH c2];by_cases c4:x.op=4\/x.op=6
 . rw[jP c4];obtain⟨q,z,r,c,b,g,y⟩:=d.cell h.1.1 oM;have:=(h.1.2 q (f7.1 g).1 r g).2;exact one _ (CU (lX.1 this _ (hC y)))
 rw[jH c4];by_cases v:8<=x.op/\x.op<=16
 . rw[jP v];exact one _ (CU (d.type oM))
 rw[jH v];by_cases l:x.op=17\/x.op=18
 . rw[jP l];exact one _ dC
 rw[jH l];by_cases m:x.op=19
 . rw[jP m];exact one _ dC
 rw[jH m];by_cases n:x.op=20\/x.op=21
 . rw[jP n];exact one _ dC
 rw[jH n];by_cases i:x.op=22
 . rw[jP i];exact one _ (CU (d.conv i).2)
 rw[jH i];by_cases s:x.op=23
 . rw[jP s];(have c:AA p f x=[0]:=by unfold AA;rw[jH oM,jH oM,jH oM,jH oM,jH oM,jH oM,jH oM,jH oM,jP oM]);rw[c];exact⟨λ_ _ _=>sP,sP⟩
 rw[jH s];by_cases j:x.op=28
 . rw[jP j];obtain⟨q,fq,c,b⟩:=d.callee j;have C:Cj fq:=h.2.2.1.2.2.1 q (f7.1 b).1 fq b;rw[c,i9,b];simp only[];unfold Bj;by_cases k:fq.cu=0
   . rw[jP k];exact⟨λt ht=>(by cases ht),sP⟩
   rw[jH k];exact one _ k
 rw[jH j];exact⟨λt ht=>(by cases ht),sP⟩
theorem ZW{s:J}{n q:Nat}{xs:List Int}(h:Rd w 1 s n (Ad As xs))(d: ↑xs=n)(a:xs[q]?=K t):∃gk ok ck,s=Z (K ⟨gk,ok,M⟩) n ck/\w ⟨gk,ok+q,M⟩=K ↑t:=by
 have c:=(f7.1 a).1;rcases h.2 with⟨e,_⟩|⟨gk,ok,ck,e,b⟩
 . omega
 have:=Rd.elem AE b q t a 0 _ rfl;rw[lJ,jV]at this;exact⟨gk,ok,ck,e,this⟩
theorem H1(v:VP)(g:VF)(f:MF)(q:Nat)(a:Int)(w:Y)(h:f.small)(d:FH w g f)(b:(f.aD++f.a7)[q]?=K a):
 Ai Aq 154 #[An #[v.r,v.k,v.f,v.t,g.p,f.cu,g.l,g.c],q] w λe i=>e=Am a/\Ah w w i:=IC v.r v.k v.f v.t g f q a w h d b
theorem OZ(a:0<=z)(b:z<=4294967295):Ql z:=by simp[Ql,Lit.wf,IntKind.min,IntKind.max,IntKind.signed,IntKind.bits];omega
theorem WB(h:Ql z):0<=z/\z<=4294967295:=by simpa[Ql,Lit.wf,IntKind.min,IntKind.max,IntKind.signed,IntKind.bits]using h
theorem XG(h:Fd t=true):1<=t/\t<=3:=by simpa[Fd]using h
def Jj(v:MC):Prop:=CI v/\v.wf
theorem Jj.of(h:Fd t=true)(a:0<=z)(b:z<=4294967295)(c:t=1->z<=1):Jj ⟨t,z⟩:=⟨⟨h,c⟩,C9 (by have:=XG h;simp only[];omega) (by have:=XG h;simp only[];omega),OZ a b⟩
theorem Jj.word{v:MC}(h:Jj v):0<=v.word/\v.word<=4294967295:=WB h.2.2
theorem Im(b:Bool):0<=word b/\word b<=1:=by cases b<;>decide
theorem u32_in(z:Int):0<=IntKind.u32.wrap z/\IntKind.u32.wrap z<=4294967295:=by have:IntKind.u32.wrap z=z % 4294967296:=rfl;rw[this];omega
theorem WF(x y:Int):0<=bits .and .u32 x y/\bits .and .u32 x y<=4294967295:=by have a:bits .and .u32 x y=((BitVec.ofInt 32 x &&& BitVec.ofInt 32 y).toNat:Int) % 4294967296:=rfl;rw[a];omega
theorem nU(x y:Int):0<=bits .or .u32 x y/\bits .or .u32 x y<=4294967295:=by have a:bits .or .u32 x y=((BitVec.ofInt 32 x ||| BitVec.ofInt 32 y).toNat:Int) % 4294967296:=rfl;rw[a];omega
theorem Tv(x y:Int):0<=bits .xor .u32 x y/\bits .xor .u32 x y<=4294967295:=by have a:bits .xor .u32 x y=((BitVec.ofInt 32 x ^^^ BitVec.ofInt 32 y).toNat:Int) % 4294967296:=rfl;rw[a];omega
theorem My{x:Int}(c:0<=x/\x<=1)(d:0<=y/\y<=1):bits .and .u32 x y<=1/\bits .or .u32 x y<=1/\bits .xor .u32 x y<=1:=by
 have a:x=0\/x=1:=oM
 have b:y=0\/y=1:=oM
 rcases a with rfl|rfl<;>rcases b with rfl|rfl<;>decide
theorem Mg{op x:Int}(c:0<=x/\x<=4294967295)(f:0<=y/\y<=4294967295)(b:t=1->x<=1/\y<=1)(d:t=1->op≠17/\op≠18/\op≠19):0<=Dy op t x y/\Dy op t x y<=4294967295/\(t=1\/op=20\/op=21->Dy op t x y<=1):=by
 have z:(0:Int)<=0/\(0:Int)<=4294967295/\(t=1\/op=20\/op=21->(0:Int)<=1):=⟨oM,oM, λ_=>oM⟩
 have c5:Cn 5 t=true->t≠1:= λh e=>by subst e;exact absurd h dC
 unfold Dy;by_cases e:op=8
 . rw[jP e];split
   . rename_i a;have:=c5 a;unfold Zg;exact⟨oM,oM, λh=>oM⟩
   exact z
 rw[jH e];clear e;by_cases e:op=9
 . rw[jP e];split
   . rename_i a;have:=c5 a;unfold Zl;exact⟨oM,oM, λh=>oM⟩
   exact z
 rw[jH e];clear e;by_cases e:op=10
 . rw[jP e];split
   . rename_i a;have:=c5 a;unfold Zh;exact⟨oM,oM, λh=>oM⟩
   exact z
 rw[jH e];clear e;by_cases e:op=11
 . rw[jP e];split
   . rename_i a;have:=c5 a;unfold UM;refine⟨?_,?_, λh=>oM⟩<;>split<;>first|exact(u32_in _).1|exact(u32_in _).2|(unfold Yg;split<;>first|omega|exact(u32_in _).1|exact(u32_in _).2)
   exact z
 rw[jH e];clear e;by_cases e:op=12
 . rw [jP e];split
   . rename_i a;have:=c5 a;have i:0<=Yj x y/\Yj x y<=4294967295:=by
      unfold Yj;split
      . omega
      rename_i j;(have k:y≠0:=by simpa using j);rw[Int.tmod_eq_emod_of_nonneg c.1];exact⟨Int.emod_nonneg _ k,by have:=Int.emod_lt_of_pos x (show 0<y from oM);omega⟩
     unfold UN;refine⟨?_,?_, λh=>oM⟩<;>split<;>first|exact(u32_in _).1|exact(u32_in _).2|exact i.1|exact i.2
   exact z
 rw[jH e];clear e;by_cases e:op=13
 . rw[jP e];split
   . exact⟨(WF _ _).1,(WF _ _).2, λh=>(My ⟨c.1,(b oM).1⟩ ⟨f.1,(b oM).2⟩).1⟩
   exact z
 rw[jH e];clear e;by_cases e:op=14
 . rw[jP e];split
   . exact⟨(nU _ _).1,(nU _ _).2, λh=>(My ⟨c.1,(b oM).1⟩ ⟨f.1,(b oM).2⟩).2.1⟩
   exact z
 rw[jH e];clear e;by_cases e:op=15
 . rw[jP e];split
   . exact⟨(Tv _ _).1,(Tv _ _).2, λh=>(My ⟨c.1,(b oM).1⟩ ⟨f.1,(b oM).2⟩).2.2⟩
   exact z
 rw[jH e];clear e;by_cases e:op=16
 . rw[jP e];split
   . unfold UO;by_cases g:t=1
     . rw[jP (by simpa using g)];have:=Im (x==0);exact⟨oM,oM, λ_=>oM⟩
     rw[jH (by simpa using g)];have:=Tv IntKind.u32.max x;exact⟨this.1,this.2, λh=>oM⟩
   exact z
 rw[jH e];clear e;by_cases e:op=17
 . rw[jP e];split
   . unfold Zj;exact⟨oM,oM, λh=>by have:=d oM;omega⟩
   exact z
 rw[jH e];clear e;by_cases e:op=18
 . rw[jP e];split
   . unfold Zk;have m:(0:Int)<2 ^ (bits .and .u32 y 31).toNat:=Int.pow_pos oM;have l:x / 2 ^ (bits .and .u32 y 31).toNat<=x:=Int.ediv_le_self _ c.1;exact⟨Int.ediv_nonneg c.1 oM,oM, λh=>by have:=d oM;omega⟩
   exact z
 rw[jH e];clear e;by_cases e:op=19
 . rw[jP e];split
   . unfold Zi;exact⟨oM,oM, λh=>by have:=d oM;omega⟩
   exact z
 rw[jH e];clear e;by_cases e:op=20
 . rw[jP e];split
   . unfold qM;have:=Im (x==y);exact⟨oM,oM, λ_=>oM⟩
   exact z
 rw[jH e];clear e;by_cases e:op=21
 . rw[jP e];split
   . unfold N2;split
     . have:=Im (decide (wrap32 x<wrap32 y));exact⟨oM,oM, λ_=>oM⟩
     have:=Im (decide (x<y));exact⟨oM,oM, λ_=>oM⟩
   exact z
 rw[jH e];exact z
theorem oR(h:0<=z/\z<=4294967295):0<=Pc a b z/\Pc a b z<=4294967295/\(b=1->Pc a b z<=1):=by
 unfold Pc;split
 . split
   . have:=Im (z != 0);exact⟨oM,oM, λ_=>oM⟩
   rename_i e;exact⟨h.1,h.2, λc=>absurd (by simpa using c) e⟩
 exact⟨oM,oM, λ_=>oM⟩
theorem VX{D:List MG}{c:MG}(h:Cp b (D++[g]))(e:c.base=g.base):Cp b (D++[c]):=by
 induction D generalizing b with
 |nil=>exact⟨by rw[e];exact h.1,trivial⟩
 |cons a r d=>exact⟨h.1,d h.2⟩
theorem VV{D:List MG}(h:Cp b (D++[g])):Cp b D:=by
 induction D generalizing b with
 |nil=>trivial
 |cons a r c=>exact⟨h.1,c h.2⟩
theorem VW{D:List MG}{q:MG}(h:Cp b (D++[g]))(e:g.base<=q.base):Cp b (D++[g]++[q]):=by
 induction D generalizing b with
 |nil=>exact⟨h.1,e,trivial⟩
 |cons a r c=>exact⟨h.1,c h.2⟩
theorem RG{fs:List MG}(h:Cp b fs):∀g∈fs,b<=g.base:=by
 induction fs generalizing b with
 |nil=>intro g a;cases a
 | cons x r c=>
   intro g a;rcases jK.1 a with rfl|a
   . exact h.1
   exact Int.le_trans h.1 (c h.2 g a)
theorem Ym{D:List MG}(h:Cp b (D++[g])):∀q∈D,q.base<=g.base:=by
 induction D generalizing b with
 |nil=>intro q c;cases c
 | cons a r d=>
   intro q c;rcases jK.1 c with rfl|c
   . exact RG h.2 g sP
   exact d h.2 q c
theorem S9{D:List MG}(h:MG->MG):CQ (D++[g]) h=D++[h g]:=by
 unfold CQ;apply lN;intro i;rw[List.getElem?_modify];simp only[jI,kE,Nat.add_sub_cancel];by_cases e:i< ↑D
 . rw[kL e,kL e];cases D[i]? with
   |none=>rfl
   |some a=>simp[show¬ ↑D=i from oM]
 rw[jX oM,jX oM];by_cases b:i= ↑D
 . subst b;simp
 rw[kO oT,kO oT];rfl
theorem Xp{a:List MC}{ts:List Int}(h:Bw a ts=true)(b:∀t∈ts,t≠0):a.map MC.type=ts:=by
 induction a generalizing ts with
 |nil=>cases ts with|nil=>rfl|cons _ _=>simp[Bw]at h
 | cons v r f=>
   cases ts with
   |nil=>simp[Bw]at h
   | cons t q=>
     simp only[Bw,ky,Bool.or_eq_true,beq_iff_eq]at h;have c:=b t sP;rw[lM,f h.2 (λz d=>b z (by simp[d]))];rcases h.1 with e|e
     . exact absurd e c
     rw[e]
theorem Hs{a:List MC}(h:Bw a [t]=true):∃v,a=[v]/\(t≠0->v.type=t):=by
 match a,h with
 |[v],h=>exact⟨v,rfl, λe=>by simp[Bw]at h;rcases h with h|h;exact absurd h e;exact h⟩
 |[],h=>simp[Bw]at h
 |_::_::_,h=>simp[Bw]at h
theorem QX{b:List MC}(h:Bw b [t,a]=true):∃v v',b=[v,v']/\(t≠0->v.type=t)/\(a≠0->v'.type=a):=by
 match b,h with
 | [v,v'],h=>
   refine⟨v,v',rfl, λe=> ?_, λe=> ?_⟩
   . simp[Bw]at h;rcases h.1 with h|h;exact absurd h e;exact h
   simp[Bw]at h;rcases h.2 with h|h;exact absurd h e;exact h
 |[],h=>simp[Bw]at h
 |[_],h=>simp[Bw]at h
 |_::_::_::_,h=>simp[Bw]at h
theorem qv{p:MP}{s:MS}{D:List MG}(h:IP p s)(hw:s.wf)(d:s.dk=D++[g])(A:p.aB[g.func.toNat]?=some f)(C:List (List MC))(K:List MC)(b:MG)(x:C.length= ↑s.cells)(y:∀(i:Nat) c r,C[i]?=some c->p.az[i]?=some r->DC c r)(z:∀c∈C,∀v∈c,v.wf)(u:K.length<=64)(t:∀v∈K,Jj v)(w:g.base<=(K:Int))(m:b.base=g.base)(n:b.func=g.func)(B:DC b.a7 (f.aD++f.a7))(F:b.wf):
 IP p ⟨s.trap,s.done,s.cost,s.steps,C,K,D++[b]⟩/\(⟨s.trap,s.done,s.cost,s.steps,C,K,D++[b]⟩:MS).wf:=by
 have j:=h.fW;rw[d]at j;have E:g∈s.dk:=by rw[d];simp
 have l:=h.deep;rw[d]at l;simp only[jI,kE]at l;refine⟨⟨h.prog,h.cost,h.steps,by simp only[];rw[x];exact h.three,y,u, λv k=>(t v k).1,sP,oT,?_,VX j m⟩,⟨hw.trap,hw.cost,hw.steps,z, λv k=>(t v k).2,?_⟩⟩
 . intro q a;simp only[jL,jU]at a;rcases a with a|rfl
   . have e:=h.dk q (by rw[d];simp[a]);exact⟨e.lo,e.a7,by have:=Ym j q a;simp only[];omega⟩
   have e:=h.dk g E;exact⟨by rw[n];exact e.lo,⟨f,by rw[n];exact A,B⟩,by rw[m];exact w⟩
 intro q a;simp only[jL,jU]at a;rcases a with a|rfl
 . exact hw.dk q (by rw[d];simp[a])
 exact F
structure EX(f:Nat->Int)(S:Nat->Prop)(m:Int):Prop where
 nn:0<=m
 ub:∀b,S b->f b<=m
 at_:m=0\/∃b,S b/\f b=m
theorem EX.one{f d:Nat->Int}{m i:Int}(h:EX f S m)(c:EX d S i)(g:∀b,S b->f b=d b):m=i:=by
 have j:=h.nn;have k:=c.nn;apply Int.le_antisymm
 . rcases h.at_ with e|⟨b,a,e⟩
   . omega
   have:=c.ub b a;have:=g b a;omega
 rcases c.at_ with e|⟨b,a,e⟩
 . omega
 have:=h.ub b a;have:=g b a;omega
theorem EX.le{f:Nat->Int}{B:Int}(h:EX f S m)(d:0<=B)(a:∀b,S b->f b<=B):m<=B:=by
 rcases h.at_ with e|⟨b,c,e⟩
 . omega
 have:=a b c;omega
theorem EX.none{f:Nat->Int}(h:∀b,¬S b):EX f S 0:=⟨Int.le_refl _, λb a=>(h b a).elim,.inl rfl⟩
theorem EX.add{f:Nat->Int}{S':Nat->Prop}{b:Nat}(h:EX f S m)(c:∀x,S' x↔S x\/x=b):EX f S' (max m (f b)):=by
 have g:=h.nn;refine⟨oM, λx a=> ?_,?_⟩
 . rcases(c x).1 a with a|rfl
   . have:=h.ub x a;omega
   omega
 rcases Int.le_total m (f b)with d|d
 . exact .inr ⟨b,(c b).2 (.inr rfl),oM⟩
 rw[Int.max_eq_left d];exact h.at_.imp_right λ⟨x,a,e⟩=>⟨x,(c x).2 (.inl a),e⟩
theorem EX.iff{f:Nat->Int}{S':Nat->Prop}(h:EX f S m)(a:∀x,S' x↔S x):EX f S' m:=⟨h.nn, λb c=>h.ub b ((a b).1 c),h.at_.imp_right λ⟨x,d,e⟩=>⟨x,(a x).2 d,e⟩⟩
section
variable {E:Nat->List Nat} {n:Nat} {D L:Nat->Nat->Bool} {inn bk:Nat->Prop} {J:Nat->Nat} {C s s':Nat->Int} {h:Nat} {iv:Int}
structure Wy(E:Nat->List Nat)(inn:Nat->Prop)(J:Nat->Nat)(h:Nat)(C s:Nat->Int):Prop where
 ie:qJ E inn J h C s
 sm:∀b,inn b->s (J b)<=4294967295
def OS(E:Nat->List Nat)(inn:Nat->Prop)(J:Nat->Nat)(h:Nat)(C:Nat->Int):Prop:=∀t,YO E inn J h C t->∃b,inn b/\4294967295<t (J b)
theorem Wy.not(p:Wy E inn J h C s)(q:OS E inn J h C):False:=by obtain⟨b,a,c⟩:=q s p.ie.clo;have:=p.sm b a;omega
def oq(E:Nat->List Nat)(inn:Nat->Prop)(b:Nat):Prop:=inn b/\∃x∈E b,¬inn x
def Qk(E:Nat->List Nat)(inn bk:Nat->Prop)(J:Nat->Nat)(h:Nat)(C:Nat->Int)(iv:Int)(r:Option Int):Prop:=(r=M/\OS E inn J h C)\/∃s ar a,Wy E inn J h C s/\EX (λb=>s (J b)) bk ar/\EX (λb=>s (J b)) (oq E inn) a/\r=if 4294967295<iv*ar+a then M else K (iv*ar+a)
theorem Qk.one{r j:Option Int}(l:∀b,bk b->inn b)(d:Qk E inn bk J h C iv r)(a:Qk E inn bk J h C iv j):r=j:=by
 rcases d with⟨rfl,d⟩|⟨s,ar,u,p,m,n,e⟩
 . rcases a with⟨rfl,_⟩|⟨s',k,t,c,g,i,f⟩
   . rfl
   exact(c.not d).elim
 rcases a with⟨rfl,a⟩|⟨s',k,t,c,g,i,f⟩
 . exact(p.not a).elim
 obtain rfl:=m.one g λb q=>p.ie.one c.ie (l b q)
 obtain rfl:=n.one i λb q=>p.ie.one c.ie q.1
 rw[e,f]
def Qd(E:Nat->List Nat)(n:Nat)(rt:Nat->Prop)(J:Nat->Nat)(C:Nat->Int)(r:Int):Prop:=(r=-1/\OS E (λb=>b<n) J 0 C)\/∃s,Wy E (λb=>b<n) J 0 C s/\EX (λb=>s (J b)) (λb=>b<n/\rt b) r
theorem Qd.one{rt:Nat->Prop}{f:Int}(c:Qd E n rt J C r)(a:Qd E n rt J C f):r=f:=by
 rcases c with⟨rfl,c⟩|⟨s,p,m⟩
 . rcases a with⟨rfl,_⟩|⟨s',d,e⟩
   . rfl
   exact(d.not c).elim
 rcases a with⟨rfl,a⟩|⟨s',d,e⟩
 . exact(p.not a).elim
 exact m.one e λb q=>p.ie.one d.ie q.1
inductive PZ (E:Nat->List Nat) (n:Nat) (D L:Nat->Nat->Bool) (iv:Nat->Int) (rt:Nat->Prop):List Nat->(Nat->Nat)->(Nat->Int)->Int->Prop
 |nil {J:Nat->Nat} {C:Nat->Int} {r:Int}:Qd E n rt J C r->PZ E n D L iv rt [] J C r
 |bad {h:Nat} {hs:List Nat} {J:Nat->Nat} {C:Nat->Int}:Qk E (λb=>L h b=true) (· ∈AO E D n h) J h C (iv h) M->PZ E n D L iv rt (h::hs) J C (-1)
 |step {h:Nat} {hs:List Nat} {J:Nat->Nat} {C:Nat->Int} {v r:Int}:Qk E (λb=>L h b=true) (· ∈AO E D n h) J h C (iv h) (K v)->PZ E n D L iv rt hs (λb=>if L h b then h else J b) (λc=>if c=h then v else C c) r->PZ E n D L iv rt (h::hs) J C r
theorem PZ.one{iv:Nat->Int}{rt:Nat->Prop}(d:∀h b,b∈AO E D n h->L h b=true){J:Nat->Nat}{C:Nat->Int}{f:Int}(g:PZ E n D L iv rt e J C r)(c:PZ E n D L iv rt e J C f):r=f:=by
 induction g with
 |nil h=>cases c with|nil a=>exact h.one a
 | bad h=>
   cases c with
   |bad _=>rfl
   |step a _=>cases h.one (d _) a
 | step h _ i=>
   cases c with
   |bad a=>cases h.one (d _) a
   |step a q=>cases h.one (d _) a;exact i q
end
end Go.Proofs.YtkgohaigebcgoaaGreatDoor
