import Derived.Test.YtkgohaigebcgoaaGreatDoorCh6
import Derived.Shelf.SlicesG.Reverse
import Derived.Shelf.Bits.Mul64
import Derived.Shelf.Lay
import Derived.Ground.NamesProg
namespace Go.Proofs
open Go.Shelf
def Tryz.lReverse_ren:Go.Shelf.Ren:=⟨λ |35=>58|n=>n, λ |22=>27|23=>2|3=>3|4=>4|0=>0|n=>n, λ |n=>n⟩
theorem Tryz.lReverse:Go.Proofs.SlLaysN.n35 Tryz.prog Tryz.lReverse_ren:={
 mixed:=by kernel_rfl
 f35:=⟨Tryz.f58.name,by decide,Tryz.func58.trans (congrArg some (by kernel_rfl))⟩
 t0:=Tryz.underlying0
 a0:=Tryz.isAgg0
 z0:=Tryz.sizeOf0
 v0:=Tryz.zeroValue0
 t3:=Tryz.underlying3
 a3:=Tryz.isAgg3
 z3:=Tryz.sizeOf3
 v3:=Tryz.zeroValue3
 t4:=Tryz.underlying4
 a4:=Tryz.isAgg4
 z4:=Tryz.sizeOf4
 v4:=Tryz.zeroValue4
 t22:=Tryz.underlying27
 a22:=Tryz.isAgg27
 z22:=Tryz.sizeOf27
 v22:=Tryz.zeroValue27
 t23:=Tryz.underlying2
 a23:=Tryz.isAgg2
 z23:=Tryz.sizeOf2
 v23:=Tryz.zeroValue2}
def Tryz.lMul_ren:Go.Shelf.Ren:=⟨λ |212=>136|263=>169|264=>170|n=>n, λ |46=>216|51=>29|146=>265|53=>267|148=>268|n=>n, λ |n=>n⟩
theorem Tryz.lMul:Go.Proofs.Lays.n212 Tryz.prog Tryz.lMul_ren:={
 mixed:=by kernel_rfl
 f212:=Tryz.func136.trans (congrArg some (by kernel_rfl))
 f263:=Tryz.func169.trans (congrArg some (by kernel_rfl))
 f264:=Tryz.func170.trans (congrArg some (by kernel_rfl))
 t46:=Tryz.underlying216
 a46:=Tryz.isAgg216
 z46:=Tryz.sizeOf216
 v46:=Tryz.zeroValue216
 t51:=Tryz.underlying29
 a51:=Tryz.isAgg29
 z51:=Tryz.sizeOf29
 v51:=Tryz.zeroValue29
 t53:=Tryz.underlying267
 a53:=Tryz.isAgg267
 z53:=Tryz.sizeOf267
 v53:=Tryz.zeroValue267
 t146:=Tryz.underlying265
 a146:=Tryz.isAgg265
 z146:=Tryz.sizeOf265
 v146:=Tryz.zeroValue265
 t148:=Tryz.underlying268
 a148:=Tryz.isAgg268
 z148:=Tryz.sizeOf268
 v148:=Tryz.zeroValue268}
end Go.Proofs
namespace Go.Proofs.YtkgohaigebcgoaaGreatDoor
open Go.ChangeShapes Go.WideShapes Go.ChangeAt Go.RowKit Go.Proofs.Tryz
set_option linter.unusedVariables false
open Option renaming some → K,none → M
open Go renaming Value → J,World → Y,Calls → Ai,TypeId → Aj
open Go.RowKit renaming Hid → Ae,Below → Ah
open Go.Ending renaming returned → Am
open Go.Value renaming bool → Ao,slice → Z,agg → An
open Go.Proofs.Tryz renaming prog → Aq
open Go.IntKind renaming i64 → Af
open Go.World renaming setCell → Aa,ownsRow → Ab
open List renaming flatMap → Ad
set_option maxHeartbeats 8000000
set_option maxRecDepth 100000
variable {w wr U:Y}{g:MG}{I:Nat->Int}{c a e S':List Nat}{z t r b y m:Int}{W:World}{S:Nat->Prop}{xs:List MI}{k:Nat}{x:MI}{u:DataW Unit}{f:MF}
structure GI(w:Y)(G n gp cp gi ci:Nat)(pl:Nat->Nat)(I:Nat->Int):Prop where
 p:w ⟨G,3,M⟩=K (sG gp n cp)
 i:w ⟨G,4,M⟩=K (sG gi n ci)
 pc:∀x,x<n->w ⟨gp,x,M⟩=K ↑(pl x:Int)
 ic:∀x,x<n->w ⟨gi,x,M⟩=K ↑(I x)
theorem GI.av{j:Y}{G n f d e c:Nat}{g:Nat->Nat}(h:GI w G n f d e c g I)(a:Ah w w j):GI j G n f d e c g I:=⟨Az a h.p,Az a h.i, λx b=>Az a (h.pc x b), λx b=>Az a (h.ic x b)⟩
theorem Q3(G n gp X gi W a b:Nat)(d:Nat->Nat)(I:Nat->Int)(w:Y)(hn:n<=1024)(P:R9 n d I)(Q:d 0=0)(L:∀a b,a<n->b<n->d a=d b->a=b)(ha:a<n)(hb:b<n)(R:Kn I a)(S:Kn I b)(h:GI w G n gp X gi W d I):
 Ai Aq 63 #[.pointer G,(a:Int),(b:Int)] w λe w'=>∃m:Nat,e=Am m/\m<n/\Kn I m/\Cp I a b m/\Ah w w w':=by
 have H:=Aw (lN h (lN P (lN Q L)));have E:=Aw (lN R S);clear h P Q L R S;go_enter func63,ntmps63;go_wp2;go_loopw [1,2] (λv u wr=>∃x y:Nat,x<n/\y<n/\v=iZ (x:Int)/\u=iZ (y:Int)/\Ae (Kn I x/\Kn I y/\(∀m,Cp I x y m->Cp I a b m)/\Ah w w wr)) (λv u _=>d (intOf v).toNat+d (intOf u).toNat)
 case atStart=>exact⟨a,b,ha,hb,rfl,rfl,E.1,E.2, λm h=>h,mP _ _⟩
 obtain⟨x,y,l,r,rfl,rfl,f⟩:=hrel;by_cases e:x=y
 . subst e;go_wp2;go_ret;exact⟨x,rfl,l,f.1,f.2.2.1 x (Cp.same I x),f.2.2.2⟩
 have F:¬(x:Int)=(y:Int):=oM;have eB:((x:Int)==(y:Int))=false:=by simpa using F
 have eN:((x:Int) != (y:Int))=true:=by simpa using F
 have k:=H.1.av f.2.2.2;have A:=k.p;have s:=k.i;have T:=k.pc x l;have V:=k.pc y r;have t:=k.ic x l;have z:=k.ic y r;clear k;have ae:(x:Int)<(n:Int):=oM;have ai:(y:Int)<(n:Int):=oM;by_cases N:d y<d x
 . have aa:(d y:Int)<(d x:Int):=oM;(have C:x≠0:= λq=>by have:=H.2.2.1;rw[q]at N;omega);obtain⟨c,c1,c2,c3,c4⟩:=H.2.1.up x l C (f.1.resolve_left C);rw[c1]at t;have g:=Aw (lN c4 (lN f.2.1 (lN ((λm B=>f.2.2.1 m (Cp.left H.2.1 r N C c1 B)):(∀m,Cp I c y m->Cp I a b m)) (lN f.2.2.2 c3))));clear c1 c4;go_wp2;go_quiet (fail);refine Cf (λu=>Ae (Ah wr wr u)) (AL _ _ _) ?_;intro U j;(replace A:=Az j A);(replace s:=Az j s);(replace t:=Az j t);clear T V z;go_wp2;go_roundw;(case rel=>exact⟨c,y,c2,r,rfl,rfl,g.1,g.2.1,g.2.2.1,Ar g.2.2.2.1 lR j⟩);simp[intOf];have:=g.2.2.2.2;omega
 have aa:¬(d y:Int)<(d x:Int):=oM;have O:d x<d y:=by have:=H.2.2.2 x y l r;omega
 have D:y≠0:= λq=>by have:=H.2.2.1;rw[q]at O;omega
 obtain⟨c,c1,c2,c3,c4⟩:=H.2.1.up y r D (f.2.1.resolve_left D);rw[c1]at z;have g:=Aw (lN f.1 (lN c4 (lN ((λm B=>f.2.2.1 m (Cp.symm (Cp.left H.2.1 l O D c1 B.symm))):(∀m,Cp I x c m->Cp I a b m)) (lN f.2.2.2 c3))));clear c1 c4;go_wp2;go_quiet (fail);refine Cf (λu=>Ae (Ah wr wr u)) (AL _ _ _) ?_;intro U j;replace A:=Az j A
 replace s:=Az j s
 replace z:=Az j z
 clear T V t;go_wp2;go_roundw;case rel=>exact⟨x,c,l,c2,rfl,rfl,g.1,g.2.1,g.2.2.1,Ar g.2.2.2.1 lR j⟩
 simp[intOf];have:=g.2.2.2.2;omega
theorem Be.skip{n:Nat}{p:Nat}(h:Be n I c z)(l:¬Kn I p):Be n I (c++[p]) z:=by
 have j:∀q,q∈c++[p]->q∈c\/q=p:= λq a=>by simpa using a
 rcases h with⟨f,g⟩|⟨m,f,g,s,⟨q,t,u⟩,v⟩
 . exact .inl ⟨f, λq a=>(j q a).elim (g q) (λe=>by rw[e];exact l)⟩
 refine .inr ⟨m,f,g,s,⟨q,mA.2 (.inl t),u⟩, λd=> ?_⟩;rw[v d];exact⟨λk q a b=>(j q a).elim (λr=>k q r b) (λe=>absurd (e▸b) l), λk q a b=>k q (mA.2 (.inl a)) b⟩
theorem Be.cz{n:Nat}{p:Nat}(h:Be n I a (-1))(b:Kn I p)(s:p<n):Be n I (a++[p]) (p:Int):=by
 have l:∀q,q∈a++[p]->q∈a\/q=p:= λq c=>by simpa using c
 rcases h with⟨f,g⟩|⟨m,f,_⟩
 . refine .inr ⟨p,rfl,s,b,⟨p,sP,b⟩, λd=>⟨λk q c j=>(l q c).elim (λr=>absurd j (g q r)) (λe=>e▸k), λk=>k p sP b⟩⟩
 omega
theorem Be.kV{n:Nat}{p m b:Nat}(h:Be n I c (m:Int))(y:Kn I p)(w:b<n)(u:Kn I b)(t:Cp I m p b):Be n I (c++[p]) (b:Int):=by
 have v:∀q,q∈c++[p]->q∈c\/q=p:= λq a=>by simpa using a
 rcases h with⟨g,_⟩|⟨z,g,A,B,⟨q,j,l⟩,s⟩
 . omega
 obtain rfl:m=z:=oM;refine .inr ⟨b,rfl,w,u,⟨q,mA.2 (.inl j),l⟩, λd=> ?_⟩;rw[t d,s d];exact⟨λk q a f=>(v q a).elim (λr=>k.1 q r f) (λe=>e▸k.2), λk=>⟨λq a f=>k q (mA.2 (.inl a)) f,k p sP y⟩⟩
theorem Be.some{n:Nat}(h:Be n I e z)(d:z≠ -1):∃m:Nat,z=(m:Int)/\m<n/\Kn I m:=by
 rcases h with⟨a,_⟩|⟨m,a,b,c,_⟩
 . exact absurd a d
 exact⟨m,a,b,c⟩
theorem O4(G n D B C A:Nat)(j:Nat->Nat)(I:Nat->Int)(s:J)(d:List Nat)(w:Y)(hn:n<=1024)(X:R9 n j I)(hz:j 0=0)(V:∀a b,a<n->b<n->j a=j b->a=b)(W:∀p∈d,p<n)(aA:d.length<=4096)(N:Lb w s d)(h:GI w G n D B C A j I):
 Ai Aq 62 #[.pointer G,s] w λe P=>∃z,e=Am (iZ z)/\Be n I d z/\Ah w w P:=by
 have H:=Aw (lN h (lN N W));obtain⟨a1,c1,rfl⟩:=Rd.aD N;have HT:Ae (∀(a b:Nat) (U:Y),a<n->b<n->Kn I a->Kn I b->GI U G n D B C A j I->Ai Aq 63 #[.pointer G,(a:Int),(b:Int)] U λe P=>∃m:Nat,e=Am m/\m<n/\Kn I m/\Cp I a b m/\Ah U U P):= λa b U ha hb ka kb hU=>Q3 G n D B C A a b j I U hn X hz V ha hb ka kb hU
 clear h N W X hz V;go_enter func62,ntmps62;go_wp2;go_loopw [5,11] (λv i wr=>∃(k:Nat) (z:Int),k<= ↑d/\v=iZ z/\i=iZ k/\Ae (Be n I (d.take k) z/\Ah w w wr)) (λ_ i _=> ↑d-(intOf i).toNat)
 case atStart=>exact⟨0,-1,oM,rfl,rfl,.inl ⟨rfl, λp l=>by simp at l⟩,mP _ _⟩
 obtain⟨k,z,hk,rfl,rfl,f⟩:=hrel;by_cases ai:k< ↑d
 . have aq:(k:Int)<(d:Int):=oM;obtain⟨p,l⟩:∃p,d[k]?=K p:=⟨_,an ai⟩;have L:p<n:=H.2.2 p (lP l);have aE:(p:Int)<(n:Int):=oM;(have y:Ae (d.take (k+1)=d.take k++[p]):=by obtain⟨hl,rfl⟩:=f7.1 l;exact mZ hl);obtain⟨ga,oa,rfl,_,Q⟩:=H.2.1.at_ l;(replace Q:=Az f.2 Q);have E:=H.1.av f.2;have i0:=E.i;have ip:=E.ic p L;clear l E;by_cases t:Kn I p
   . have r:Ae (Kn I p):=t;(go_upto_region 5 with fail);go_cut [8]from 15 to 26 (λc wx=>c=Ao true/\wx=wr)
     case first=>
      by_cases F:p=0
      . subst F;go_wp2;go_meet;exact⟨rfl,rfl⟩
      have aj:((p:Int)==0)=false:=oT;have u:=r.resolve_left F;(have au:(I p== -1)=false:=by simpa using u);(have ax:(I p != -1)=true:=by simpa using u);go_wp2;go_meet;exact⟨rfl,rfl⟩
     case rest=>
      obtain⟨rfl,aa⟩:=hcut;rw[aa];clear aa Q i0 ip;by_cases O:z=-1
      . subst O;(have g:Ae (Be n I (d.take (k+1)) (p:Int)):=by show Be _ _ _ _;rw[y];exact f.1.cz r L);go_wp2;go_roundw;(case rel=>exact⟨k+1,_,oM,rfl,by go_num,g,f.2⟩);exact oI
      (have aF:(z== -1)=false:=by simpa using O);obtain⟨m,rfl,hm,ae⟩:=f.1.some O;go_wp2_with fail;refine(HT.o m p wr hm L ae r (H.1.av f.2)).mono ?_;rintro e u1 ⟨m',rfl,h1,S,T,R⟩;have g:Ae (Be n I (d.take (k+1)) (m':Int)/\Ah w w u1):=by refine⟨?_,Ar f.2 lR R⟩;rw[y];exact f.1.kV r h1 S T
      clear S T R;go_wp2;go_roundw;(case rel=>exact⟨k+1,_,oM,rfl,by go_num,g⟩);exact oI
   (have F:¬p=0:= λq=>t (.inl q));(have u:I p=-1:=mr λq=>t (.inr q));have aj:((p:Int)==0)=false:=oT;rw[u]at ip;(have g:Ae (Be n I (d.take (k+1)) z):=by show Be _ _ _ _;rw[y];exact f.1.skip t);go_wp2;go_roundw;(case rel=>exact⟨k+1,z,oM,by trivial,by go_num,g,f.2⟩);exact oI
 obtain rfl:k=d.length:=oM;have g:Ae (Be n I d z):=by have:=f.1;rw[mm lR]at this;exact this
 go_wp2;go_ret;exact⟨z,rfl,g,f.2⟩
theorem Zs(x y:Nat)(hx:x<18446744073709551616)(hy:y<18446744073709551616)(w:World):
 Calls Tryz.prog 136 #[.int .u64 x,.int .u64 y] w λe w'=>e=.returned (.tuple #[.int .u64 ((x*y / 18446744073709551616:Nat):Int),.int .u64 ((x*y % 18446744073709551616:Nat):Int)])/\w'=w:=by
 have h:=Any.bits_Mul Tryz.lMul x y hx hy w;exact h
theorem Rp(g cap:Nat)(zs:List Int)(w:World)(hH:Go.Sort.Holds (Value.int .i64) w g 0 zs.toArray)(hsz:zs.length<=9223372036854775807):
 Calls Tryz.prog 58 #[.slice (some ⟨g,0,none⟩) zs.length cap] w λe w'=>e=.returned (.tuple #[])/\∃n,w'=Go.Sort.putRow (Value.int .i64) (Go.Sort.ahead w n) g 0 zs.reverse.toArray:=by
 have h:=AnyG.slices_Reverse_int Tryz.lReverse g 0 cap zs w hH hsz;exact h
def Ey(k n:Nat):List Value:=List.replicate k (.int .i64 (-1))++List.replicate (n-k) (.int .i64 0)
theorem Rm(k n:Nat)(h:k<=n):(Ey k n).length=n:=by simp[Ey];omega
theorem Rn(k c n:Nat)(h:k+c<=n):splice (Ey k n) k (List.replicate c (.int .i64 (-1)))=Ey (k+c) n:=by
 unfold splice Ey;rw[List.take_left' (by simp),nY,List.drop_append,pL (by simp),nO,nY,List.drop_replicate,<-nD,List.replicate_append_replicate];congr 2
 omega
theorem QF(W:World)(G k n dl dc sl sc c:Nat)(ad:Addr)(hg:Ay W G (Ey k n).toArray 2)(hc:c=Nat.min sl dl)(hsrc:∀j,j<c->W.cell? (ad.add j)=some (.int .i64 (-1)))(hkc:k+c<=n):
 (Builtin.copy_ #[27,27] 3 #[.slice (some ⟨G,k,none⟩) dl dc,.slice (some ad) sl sc]).run Tryz.prog W=.ok (.int .i64 (c:Int)) (W.setRow G (Ey (k+c) n).toArray):=by
 obtain⟨k0,hk,hx0,hx1,hx2⟩:=nE Ct;have h:=run_copy_row (P:=Tryz.prog) W 27 27 3 2 G k dl dc ad sl sc (Ey k n).toArray 2 (List.replicate c (.int .i64 (-1))) Tryz.underlying27 (by rw[hk];simp[hx1]) hg (by rw[nY];exact hc) (λj v hj=>by obtain⟨h1,h2⟩:=f7.1 hj;rw[nY]at h1;rw[hsrc j h1,<-h2];simp) (by rw[nY,List.size_toArray,Rm k n (by omega)];exact hkc) (λv hv=>by rw[(List.mem_replicate.1 hv).2];rfl);rw[h];have e:=Rn k c n hkc;unfold splice at e;simp only[nY]at e⊢;rw[nD,e];rfl
theorem rM(k n i:Nat)(h:i<k)(hk:k<=n):(Ey k n).toArray[i]?=some (.int .i64 (-1)):=by rw[lQ];unfold Ey;rw[mq (by simpa using h)];simp[h]
theorem Xu{B G n:Nat}(h:W.ownsRow B 2 1 (.slice (some ⟨G,0,none⟩) n n) n (madeCells (Value.int .i64 0).cells (n*1)).toList):Ay W G (Ey 0 n).toArray 2:=by
 rcases h.2 with⟨h',_⟩|⟨g',cap',cur,h',hb,hg,h3,h4,h5,h6⟩
 . cases h'
 cases h'
 have e:cur=(Ey 0 n).toArray:=by rw[Mf n (λ_=>[]) []]at h6;rw[mm (by simp[h5])]at h6;apply Array.toList_inj.1;rw[h6];simp[CK,Ey,List.flatten_replicate_singleton]
 rw[<-e];exact hg
theorem Mz{G:Nat}{cur new:Array Value}{t:TypeId}(h:Ay W G cur t):Ay (W.setRow G new) G new t:=setRow_heap W G _ _ t _ h
theorem Tb(g n:Nat)(w:World)(h1:1<=n)(hn:n<=1024)(h:w.cell? ⟨g,0,none⟩=some (.int .i64 (-1))):
 Calls Tryz.prog 61 #[.slice (some ⟨g,0,none⟩) 1 1,.int .i64 (n:Int)] w λe w'=>∃g',e=.returned (.slice (some ⟨g',0,none⟩) n n)/\w'.ownsRow w.heap.size 2 1 (.slice (some ⟨g',0,none⟩) n n) n (List.replicate n (.int .i64 (-1)))/\Below w.heap.size w w':=by
 obtain⟨k0,hk,hx0,hx1,hx2⟩:=nE Ct;have hnI:¬(n:Int)<0:=by omega
 have hn2:(n:Int)<=1024:=by omega
 have hm1:1*n / 18446744073709551616=0:=by omega
 have hm2:1*n % 18446744073709551616=n:=by omega
 have HM:Hid (∀U:World,Calls Tryz.prog 136 #[.int .u64 1,.int .u64 (n:Int)] U λe w'=>e=.returned (.tuple #[.int .u64 0,.int .u64 (n:Int)])/\w'=U):= λU=>by have:=Zs 1 n (by omega) (by omega) U;rw[hm1,hm2]at this;exact this
 clear hm1 hm2;go_enter Tryz.func61,Tryz.ntmps61;go_wp2_with fail;refine(HM.o w).mono ?_;rintro e u ⟨rfl,rfl⟩;have hgt:g<u.heap.size:=lT h;have HOC:Hid (u.cell? ⟨g,0,none⟩=some (.int .i64 (-1))):=h;clear h;go_upto_region 7 with(at_make;refine pK _ rfl _ _ 27 rfl u.heap.size 2 k0 (.int .i64 0) 1 Tryz.underlying27 hk hx0 hx1 .i64 .i64 _ _ n rfl rfl rfl rfl (by rw[hx2];omega) (by unfold maxLen;omega) lR ?_;intro w3 hown hgrow)
 have hb3:Below u.heap.size u w3:=(mP _ _).grown hgrow lR (λk hk=>by cases hk);have k3:Ay w3 u.heap.size (Ey 0 n).toArray 2:=Xu hown;have hcp:=QF w3 u.heap.size 0 n n n 1 1 1 ⟨g,0,none⟩ k3 (by simp[Nat.min_def];omega) (λj hj=>by
  obtain rfl:j=0:=by omega
  rw[Cq];exact Az hb3 HOC.o) (by omega)
 have HB4:Hid (Ay (w3.setRow u.heap.size (Ey (0+1) n).toArray) u.heap.size (Ey (0+1) n).toArray 2/\Below u.heap.size u (w3.setRow u.heap.size (Ey (0+1) n).toArray)):=⟨Mz k3,below_setRow hb3 lR _⟩
 clear hown hgrow hb3 k3;rw[m9]at hcp HB4;obtain⟨W4,hW4⟩:∃W,W=w3.setRow u.heap.size (Ey 1 n).toArray:=⟨_,rfl⟩;rw[<-hW4]at hcp HB4;clear hW4;obtain⟨G,hG⟩:∃G,G=u.heap.size:=⟨_,rfl⟩;rw[<-hG]at hcp HB4⊢;have HGG:Hid (G=u.heap.size):=hG;clear hG;go_wp2;go_loopw [8] (λi wr=>∃k:Nat,1<=k/\k<=n/\i=.int .i64 (k:Int)/\Hid (Ay wr G (Ey k n).toArray 2/\Below u.heap.size u wr)) (λi _=>n-(intOf i).toNat)
 case atStart=>exact⟨1,by omega,h1,rfl,by rw[<-HGG.o];exact HB4⟩
 clear HB4 hcp;obtain⟨k,hk1,hkn,rfl,HL⟩:=hrel;by_cases hlt:k<n
 . (have hltI:(k:Int)<(n:Int):=by omega);have kD:=HL.o.1.av (As wr);have bD:=Ar HL.o.2 lR (As wr);obtain⟨c,hc⟩:∃c,c=Nat.min k (n-k):=⟨_,rfl⟩;have hcl:1<=c/\c<=k/\k+c<=n:=by have e:c=min k (n-k):=hc;omega
   have hcp:=QF wr.drew G k n (n-k) (n-k) k n c ⟨G,0,none⟩ kD hc (λj hj=>by rw[Cq,m9,kD.cell j];exact rM k n j (by omega) (by omega)) (by omega);have HN:Hid (Ay (wr.drew.setRow G (Ey (k+c) n).toArray) G (Ey (k+c) n).toArray 2/\Below u.heap.size u (wr.drew.setRow G (Ey (k+c) n).toArray)):=⟨Mz kD,below_setRow bD (by rw[HGG.o];exact Nat.le_refl _) _⟩
   clear kD bD hc;go_wp2;go_region;refine Cf (λx=>Hid (Ay x G (Ey (k+c) n).toArray 2/\Below u.heap.size u x)) HN ?_
   intro U HU;clear HN hcp;go_wp2;go_roundw;(case rel=>exact⟨k+c,by omega,by omega,by go_num,HU⟩);simp[intOf];omega
 obtain rfl:k=n:=by omega
 have HE:Hid (wr.ownsRow u.heap.size 2 1 (.slice (some ⟨G,0,none⟩) k k) k (List.replicate k (.int .i64 (-1)))):=by refine⟨by simp,.inr ⟨G,k,(Ey k k).toArray,rfl,by rw[HGG.o];exact Nat.le_refl _,HL.o.1,Nat.le_refl _,by unfold maxLen;omega,by simp[Ey],by simp[Ey]⟩⟩
 go_wp2;go_ret;exact⟨G,rfl,HE.o,HL.o.2⟩
theorem KL{S:List Nat}(n:Nat)(h:∀x∈S,x∈S'):Bq S' n<=Bq S n:=by unfold Bq;rw[<-List.countP_eq_length_filter,<-List.countP_eq_length_filter];apply List.countP_mono_left;intro x _ a;simp only[Bool.not_eq_true',List.contains_eq_mem,o9]at a⊢;exact λq=>a (h x q)
theorem Vs.more{E:Nat->List Nat}{S O r:List Nat}(h:Vs E S O r S' a):∀x∈S,x∈S':=by obtain⟨N,t⟩:=h.told;exact λx b=>(t.seen x).2 (.inl b)
theorem I8:∀(a b:List Int),a.Pairwise (· < ·)->b.Pairwise (· < ·)->(∀z,z∈a↔z∈b)->a=b
 |[],[],_,_,_=>rfl
 |[],y::b,_,_,h=>by have:=(h y).2 sP;cases this
 |x::a,[],_,_,h=>by have:=(h x).1 sP;cases this
 | x ::a,y::b,ha,hb,h=>by
   obtain⟨f,j⟩:=my.1 ha;obtain⟨g,k⟩:=my.1 hb;have e:x=y:=by
    rcases lW.1 ((h x).1 sP)with e|e
    . exact e
    rcases lW.1 ((h y).2 sP)with d|d
    . exact d.symm
    have:=g x e;have:=f y d;omega
   subst e;(congr 1);refine I8 a b j k λz=>⟨λc=> ?_, λc=> ?_⟩
   . rcases lW.1 ((h z).1 (nA _ c))with e|e
     . have:=f z c;omega
     exact e
   rcases lW.1 ((h z).2 (nA _ c))with e|e
   . have:=g z c;omega
   exact e
theorem Zq(xs:List MI)(j:Nat)(c:Bd xs)(h:Cz xs xs j=true):j<=xs.length:=by
 simp only[Cz,Bool.or_eq_true,List.any_eq_true,nN,mo]at h;rcases h with h|⟨i,d,h⟩
 . omega
 cases hx:xs[i]? with
 |none=>rw[hx]at h;cases h
 | some x=>
   rw[hx]at h;simp only[Iv,Bool.or_eq_true,mu,mo]at h;rcases h with⟨a,b⟩|⟨_,b⟩
   . have:=c.2.2 i x hx a;omega
   omega
def Eu(D:DataW Unit)(xs:List MI)(k:Nat):Prop:=∀z:Int,Go.Maps.has D (.int Af z)=(decide (0<=z)&&Cz xs k z.toNat)
theorem Ep(D:DataW Unit)(a:Go.Maps.IsMap D)(z y:Int)(u:DataW Unit):Go.Maps.has (D.put (.int Af z) u) (.int Af y)=(Go.Maps.has D (.int Af y)||decide (y=z)):=by
 by_cases h:y=z
 . subst h;rw[Go.Maps.has_put_same a (show WideAt.IsKeyLit (Lit.int Af y)from trivial)];simp
 rw[Go.Maps.has_put_other (λe=>h (by cases e;rfl))];simp[h]
theorem Eu.start(xs:List MI)(u:DataW Unit):Eu ((DataW.map []:DataW Unit).put (.int Af 0) u) xs 0:= λz=>by
 rw[Ep _ Go.Maps.isMap_empty,QV];have e:Go.Maps.has (DataW.map []:DataW Unit) (.int Af z)=false:=rfl;rw[e];by_cases h:z=0
 . subst h;rfl
 by_cases a:0<=z
 . have:¬z.toNat=0:=oM;simp[h,this]
 simp[h,a]
theorem Eu.none{D:DataW Unit}(h:Eu D xs k)(c:xs[k]?=K x)(a:Bt x=false)(b:¬x.op=29):Eu D xs (k+1):= λz=>by rw[h z,IR xs k _ x c];simp[Iv,a,b]
theorem Eu.ret{D:DataW Unit}(h:Eu D xs k)(b:Go.Maps.IsMap D)(f:xs[k]?=K x)(c:Bt x=false)(d:x.op=29):Eu (D.put (.int Af ((k:Int)+1)) u) xs (k+1):= λz=>by
 rw[Ep D b,h z,IR xs k _ x f];by_cases a:0<=z
 . have e:decide (z=(k:Int)+1)=decide (z.toNat=k+1):=decide_eq_decide.2 ⟨λ_=>oM, λ_=>oM⟩;rw[e];simp[Iv,c,d,a]
 have e:decide (z=(k:Int)+1)=false:=oT;simp[e,a]
theorem Eu.goes{D:DataW Unit}{j:DataW Unit}(h:Eu D xs k)(d:Go.Maps.IsMap D)(g:xs[k]?=K x)(f:Bt x=true)(l:0<=x.c):Eu ((D.put (.int Af x.c) u).put (.int Af ((k:Int)+1)) j) xs (k+1):= λz=>by
 rw[Ep _ (d.put _ _),Ep D d,h z,IR xs k _ x g];by_cases b:0<=z
 . have e:decide (z=(k:Int)+1)=decide (z.toNat=k+1):=decide_eq_decide.2 ⟨λ_=>oM, λ_=>oM⟩;have a:decide (z=x.c)=decide (x.c=(z.toNat:Int)):=decide_eq_decide.2 ⟨λ_=>oM, λ_=>oM⟩;rw[e,a];simp[Iv,f,b,Bool.or_assoc]
 have e:decide (z=(k:Int)+1)=false:=oT;have a:decide (z=x.c)=false:=oT;simp[e,a,b]
theorem DX{a:Y}(h:Ah w w a):w.grownBy a M:=⟨h.os,h.tape,h.output,h.size, λk b _=>h.block k b⟩
theorem AQ.av{c:Y}{b a:Nat}{D:DataW Unit}(h:AQ w b a D)(d:Ah w w c):AQ c b a D:=World.ownsMap.kept h (DX d) sP
structure LX(w wr U:Y)(x:MI)(cnt:Nat)(D:DataW Unit):Prop where
 set:AQ U w cnt D
 xb:Ay U wr #[x.op,x.a,x.b,x.c] 25
 cq:Ah w w U
 lt:(w:Nat)< ↑wr
theorem LX.av{b:Y}{c:Nat}{D:DataW Unit}(h:LX w wr U x c D)(a:Ah U U b):LX w wr b x c D:=⟨h.set.av a,h.xb.av a,Ar h.cq lR a,h.lt⟩
theorem LX.grown{a:Y}{f c:Nat}{D b:DataW Unit}(h:LX w wr U x f D)(k:AQ a w c b)(d:U.grownBy a (K w)):LX w wr a x c b:=by refine⟨k,?_,h.cq.grown d h.cq.size (λj g=>by cases g;exact Nat.le_refl _),h.lt⟩;have:=h.xb;have l:=h.lt;unfold Ay at*;rw[d.block _ h.xb.lt (λe=>by have:=mD e;omega)];exact this
theorem AB.o7{u:Y}{B:Nat}{V:VS}{C:List (J×List MC)}{K:List MC}{F:List (MG×J)}(h:AB u B V C K F){b:Nat}{a0 p q r s t v:J}(m:Ay u b #[a0,p,q,r,s,t,v] 48)(a c d x3 e f n:J):AB (Aa (Aa (Aa (Aa (Aa (Aa (u.setCell b a) ⟨b,1,M⟩ c) ⟨b,2,M⟩ d) ⟨b,3,M⟩ x3) ⟨b,4,M⟩ e) ⟨b,5,M⟩ f) ⟨b,6,M⟩ n) B V C K F:=by have g:=m.set 0 a;have j:=g.set 1 c;have k:=j.set 2 d;have l:=k.set 3 x3;have R4:=l.set 4 e;have R5:=R4.set 5 f;exact((((((h.other m dC dC dC 0 a).other g dC dC dC 1 c).other j dC dC dC 2 d).other k dC dC dC 3 x3).other l dC dC dC 4 e).other R4 dC dC dC 5 f).other R5 dC dC dC 6 n
theorem Gq{base:Nat}{e:Aj}{k n m c:Nat}{a:Option Addr}{xs:List J}(h:Ab w base e k (Z a n c) m xs):n<=c:=by
 rcases h.2 with⟨b,_⟩|⟨g,cap,d,b,_,_,f,_⟩
 . simp only[lU]at b;omega
 simp only[lU]at b;omega
theorem TN{u:Y}{B b k n i:Nat}{e t:Aj}{s x:J}{xs:List J}{c:Array J}(h:Ab u B e k s n xs)(d:Ay u b c t)(f:e≠t):Ab (Aa u ⟨b,i,M⟩ x) B e k s n xs:=mR h (a:=⟨b,i,M⟩) (λe=>Bi h d f b e rfl) _
theorem pv:AH 8=5/\AH 9=5/\AH 10=5/\AH 11=5/\AH 12=5/\AH 13=6/\AH 14=6/\AH 15=6/\AH 16=6/\AH 20=7/\AH 21=5/\AH 22=8:=by decide+kernel
theorem AV.type{p:MP}(h:AV p f x)(e:(8<=x.op/\x.op<=16)\/x.op=20\/x.op=21):EL x.a=true:=by
 obtain⟨_,_,h⟩:=h;have c:AH x.op=5\/AH x.op=6\/AH x.op=7:=by
  have b:x.op=8\/x.op=9\/x.op=10\/x.op=11\/x.op=12\/x.op=13\/x.op=14\/x.op=15\/x.op=16\/x.op=20\/x.op=21:=oM
  obtain⟨d,g,j,k,l,m,n,q,r,s,t,u⟩:=pv;rcases b with e|e|e|e|e|e|e|e|e|e|e<;>rw[e]<;>omega
 unfold BQ BW at h;rcases h with h|h|h|h|h|h|h|h|h|h<;>first|(exfalso;omega)|(rcases h.1 with h|h|h<;>first|exact h.2|(rcases h.2 with e|e<;>rw[e]<;>rfl))
theorem AV.conv{p:MP}(h:AV p f x)(e:x.op=22):EL x.a=true/\EL x.b=true:=by
 obtain⟨_,_,h⟩:=h;have c:AH x.op=8:=by rw[e];exact pv.2.2.2.2.2.2.2.2.2.2.2
 unfold BQ BW at h;rcases h with h|h|h|h|h|h|h|h|h|h<;>first|(exfalso;omega)|exact⟨h.2.1,h.2.2.1⟩
theorem AV.kU{p:MP}(h:AV p f x)(e:x.op=2):AJ f x.a≠0:= λc=>by
 have b:=h.2.2;have d:AH x.op=2:=by rw[e];exact Gl.2.1
 unfold BQ BW at b;rcases b with h|h|h|h|h|h|h|h|h|h<;>first|(exfalso;omega)|exact h.2.1 c
theorem Xb{p:MP}(D:AY p 0)(d:AV p f x):(∀t∈Bg p f x,t=0->0<(AA p f x).length)/\(Bg p f x).length<=2:=by
 have j:=D.parts;have one:∀t:Int,t≠0->(∀u∈[t],u=0->0<(AA p f x).length)/\[t].length<=2:= λt g=>⟨λu A e=>by simp only[mK]at A;exact absurd (A.symm.trans e) g,sP⟩
 unfold Bg;by_cases c1:x.op=1
 . rw[mE c1];obtain⟨q,z,c,b⟩:=d.const c1;have C:=j.2.1.2 q (f7.1 b).1 z b;(have h:C5 p.b8 x.a.toNat=z:=by unfold C5;rw[c,lV,b];rfl);rw[h];exact one _ (CV C.1)
 rw[lY c1];by_cases c2:x.op=2
 . rw[mE c2];exact one _ (d.kU c2)
 rw[lY c2];by_cases c4:x.op=4\/x.op=6
 . rw[mE c4];obtain⟨q,z,r,c,b,h,B⟩:=d.cell j.1.1 oM;have:=(j.1.2 q (f7.1 h).1 r h).2;exact one _ (CV (nV.1 this _ (lP B)))
 rw[lY c4];by_cases y:8<=x.op/\x.op<=16
 . rw[mE y];exact one _ (CV (d.type oM))
 rw[lY y];by_cases n:x.op=17\/x.op=18
 . rw[mE n];exact one _ dC
 rw[lY n];by_cases s:x.op=19
 . rw[mE s];exact one _ dC
 rw[lY s];by_cases v:x.op=20\/x.op=21
 . rw[mE v];exact one _ dC
 rw[lY v];by_cases k:x.op=22
 . rw[mE k];exact one _ (CV (d.conv k).2)
 rw[lY k];by_cases w:x.op=23
 . rw[mE w];(have c:AA p f x=[0]:=by unfold AA;rw[lY oM,lY oM,lY oM,lY oM,lY oM,lY oM,lY oM,lY oM,mE oM]);rw[c];exact⟨λ_ _ _=>sP,sP⟩
 rw[lY w];by_cases l:x.op=28
 . rw[mE l];obtain⟨q,fq,c,b⟩:=d.callee l;have E:Cb fq:=j.2.2.1.2.2.1 q (f7.1 b).1 fq b;rw[c,lV,b];simp only[];unfold Bn;by_cases m:fq.cu=0
   . rw[mE m];exact⟨λt g=>(by cases g),sP⟩
   rw[lY m];exact one _ m
 rw[lY l];exact⟨λt g=>(by cases g),sP⟩
theorem ZD{s:J}{n q:Nat}{xs:List Int}(h:Rd w 1 s n (Ad At xs))(d: ↑xs=n)(a:xs[q]?=K t):∃gk ok ck,s=Z (K ⟨gk,ok,M⟩) n ck/\w ⟨gk,ok+q,M⟩=K ↑t:=by
 have c:=(f7.1 a).1;rcases h.2 with⟨e,_⟩|⟨gk,ok,ck,e,b⟩
 . omega
 have:=Rd.elem AE b q t a 0 _ rfl;rw[nX,mL]at this;exact⟨gk,ok,ck,e,this⟩
theorem Ht(v:VP)(g:VF)(f:MF)(q:Nat)(a:Int)(w:Y)(h:f.small)(d:FD w g f)(b:(f.aP++f.aB)[q]?=K a):
 Ai Aq 154 #[An #[v.r,v.k,v.f,v.t,g.p,f.cu,g.l,g.c],q] w λe j=>e=Am a/\Ah w w j:=Iw v.r v.k v.f v.t g f q a w h d b
theorem OS(a:0<=z)(b:z<=4294967295):RT z:=by simp[RT,Lit.wf,IntKind.min,IntKind.max,IntKind.signed,IntKind.bits];omega
theorem Wk(h:RT z):0<=z/\z<=4294967295:=by simpa[RT,Lit.wf,IntKind.min,IntKind.max,IntKind.signed,IntKind.bits]using h
theorem Xl(h:EL t=true):1<=t/\t<=3:=by simpa[EL]using h
def Jf(v:MC):Prop:=CH v/\v.wf
theorem Jf.of(h:EL t=true)(a:0<=z)(b:z<=4294967295)(c:t=1->z<=1):Jf ⟨t,z⟩:=⟨⟨h,c⟩,DB (by have:=Xl h;simp only[];omega) (by have:=Xl h;simp only[];omega),OS a b⟩
theorem Jf.word{v:MC}(h:Jf v):0<=v.word/\v.word<=4294967295:=Wk h.2.2
theorem Ic(b:Bool):0<=word b/\word b<=1:=by cases b<;>decide
theorem u32_in(z:Int):0<=IntKind.u32.wrap z/\IntKind.u32.wrap z<=4294967295:=by have:IntKind.u32.wrap z=z % 4294967296:=rfl;rw[this];omega
theorem Wn(x y:Int):0<=bits .and .u32 x y/\bits .and .u32 x y<=4294967295:=by have a:bits .and .u32 x y=((BitVec.ofInt 32 x &&& BitVec.ofInt 32 y).toNat:Int) % 4294967296:=rfl;rw[a];omega
theorem qd(x y:Int):0<=bits .or .u32 x y/\bits .or .u32 x y<=4294967295:=by have a:bits .or .u32 x y=((BitVec.ofInt 32 x ||| BitVec.ofInt 32 y).toNat:Int) % 4294967296:=rfl;rw[a];omega
theorem To(x y:Int):0<=bits .xor .u32 x y/\bits .xor .u32 x y<=4294967295:=by have a:bits .xor .u32 x y=((BitVec.ofInt 32 x ^^^ BitVec.ofInt 32 y).toNat:Int) % 4294967296:=rfl;rw[a];omega
theorem Mo{x:Int}(c:0<=x/\x<=1)(d:0<=y/\y<=1):bits .and .u32 x y<=1/\bits .or .u32 x y<=1/\bits .xor .u32 x y<=1:=by
 have a:x=0\/x=1:=oM
 have b:y=0\/y=1:=oM
 rcases a with rfl|rfl<;>rcases b with rfl|rfl<;>decide
theorem L7{op x:Int}(c:0<=x/\x<=4294967295)(f:0<=y/\y<=4294967295)(b:t=1->x<=1/\y<=1)(d:t=1->op≠17/\op≠18/\op≠19):0<=Ds op t x y/\Ds op t x y<=4294967295/\(t=1\/op=20\/op=21->Ds op t x y<=1):=by
 have z:(0:Int)<=0/\(0:Int)<=4294967295/\(t=1\/op=20\/op=21->(0:Int)<=1):=⟨oM,oM, λ_=>oM⟩
 have c5:Ci 5 t=true->t≠1:= λh e=>by subst e;exact absurd h dC
 unfold Ds;by_cases e:op=8
 . rw[mE e];split
   . rename_i a;have:=c5 a;unfold YS;exact⟨oM,oM, λh=>oM⟩
   exact z
 rw[lY e];clear e;by_cases e:op=9
 . rw[mE e];split
   . rename_i a;have:=c5 a;unfold YX;exact⟨oM,oM, λh=>oM⟩
   exact z
 rw[lY e];clear e;by_cases e:op=10
 . rw[mE e];split
   . rename_i a;have:=c5 a;unfold YT;exact⟨oM,oM, λh=>oM⟩
   exact z
 rw[lY e];clear e;by_cases e:op=11
 . rw[mE e];split
   . rename_i a;have:=c5 a;unfold UH;refine⟨?_,?_, λh=>oM⟩<;>split<;>first|exact(u32_in _).1|exact(u32_in _).2|(unfold XR;split<;>first|omega|exact(u32_in _).1|exact(u32_in _).2)
   exact z
 rw[lY e];clear e;by_cases e:op=12
 . rw [mE e];split
   . rename_i a;have:=c5 a;have j:0<=XU x y/\XU x y<=4294967295:=by
      unfold XU;split
      . omega
      rename_i k;(have l:y≠0:=by simpa using k);rw[Int.tmod_eq_emod_of_nonneg c.1];exact⟨Int.emod_nonneg _ l,by have:=Int.emod_lt_of_pos x (show 0<y from oM);omega⟩
     unfold UI;refine⟨?_,?_, λh=>oM⟩<;>split<;>first|exact(u32_in _).1|exact(u32_in _).2|exact j.1|exact j.2
   exact z
 rw[lY e];clear e;by_cases e:op=13
 . rw[mE e];split
   . exact⟨(Wn _ _).1,(Wn _ _).2, λh=>(Mo ⟨c.1,(b oM).1⟩ ⟨f.1,(b oM).2⟩).1⟩
   exact z
 rw[lY e];clear e;by_cases e:op=14
 . rw[mE e];split
   . exact⟨(qd _ _).1,(qd _ _).2, λh=>(Mo ⟨c.1,(b oM).1⟩ ⟨f.1,(b oM).2⟩).2.1⟩
   exact z
 rw[lY e];clear e;by_cases e:op=15
 . rw[mE e];split
   . exact⟨(To _ _).1,(To _ _).2, λh=>(Mo ⟨c.1,(b oM).1⟩ ⟨f.1,(b oM).2⟩).2.2⟩
   exact z
 rw[lY e];clear e;by_cases e:op=16
 . rw[mE e];split
   . unfold UJ;by_cases g:t=1
     . rw[mE (by simpa using g)];have:=Ic (x==0);exact⟨oM,oM, λ_=>oM⟩
     rw[lY (by simpa using g)];have:=To IntKind.u32.max x;exact⟨this.1,this.2, λh=>oM⟩
   exact z
 rw[lY e];clear e;by_cases e:op=17
 . rw[mE e];split
   . unfold YV;exact⟨oM,oM, λh=>by have:=d oM;omega⟩
   exact z
 rw[lY e];clear e;by_cases e:op=18
 . rw[mE e];split
   . unfold YW;have n:(0:Int)<2 ^ (bits .and .u32 y 31).toNat:=Int.pow_pos oM;have m:x / 2 ^ (bits .and .u32 y 31).toNat<=x:=Int.ediv_le_self _ c.1;exact⟨Int.ediv_nonneg c.1 oM,oM, λh=>by have:=d oM;omega⟩
   exact z
 rw[lY e];clear e;by_cases e:op=19
 . rw[mE e];split
   . unfold YU;exact⟨oM,oM, λh=>by have:=d oM;omega⟩
   exact z
 rw[lY e];clear e;by_cases e:op=20
 . rw[mE e];split
   . unfold tO;have:=Ic (x==y);exact⟨oM,oM, λ_=>oM⟩
   exact z
 rw[lY e];clear e;by_cases e:op=21
 . rw[mE e];split
   . unfold N4;split
     . have:=Ic (decide (wrap32 x<wrap32 y));exact⟨oM,oM, λ_=>oM⟩
     have:=Ic (decide (x<y));exact⟨oM,oM, λ_=>oM⟩
   exact z
 rw[lY e];exact z
theorem qY{a:Int}(h:0<=z/\z<=4294967295):0<=M1 a b z/\M1 a b z<=4294967295/\(b=1->M1 a b z<=1):=by
 unfold M1;split
 . split
   . have:=Ic (z != 0);exact⟨oM,oM, λ_=>oM⟩
   rename_i e;exact⟨h.1,h.2, λc=>absurd (by simpa using c) e⟩
 exact⟨oM,oM, λ_=>oM⟩
theorem VA{D:List MG}{c:MG}(h:Ck b (D++[g]))(e:c.base=g.base):Ck b (D++[c]):=by
 induction D generalizing b with
 |nil=>exact⟨by rw[e];exact h.1,trivial⟩
 |cons a r d=>exact⟨h.1,d h.2⟩
theorem Vy{D:List MG}(h:Ck b (D++[g])):Ck b D:=by
 induction D generalizing b with
 |nil=>trivial
 |cons a r c=>exact⟨h.1,c h.2⟩
theorem Vz{D:List MG}{q:MG}(h:Ck b (D++[g]))(e:g.base<=q.base):Ck b (D++[g]++[q]):=by
 induction D generalizing b with
 |nil=>exact⟨h.1,e,trivial⟩
 |cons a r c=>exact⟨h.1,c h.2⟩
theorem Rr{fs:List MG}(h:Ck b fs):∀g∈fs,b<=g.base:=by
 induction fs generalizing b with
 |nil=>intro g a;cases a
 | cons x r c=>
   intro g a;rcases lW.1 a with rfl|a
   . exact h.1
   exact Int.le_trans h.1 (c h.2 g a)
theorem XX{D:List MG}(h:Ck b (D++[g])):∀q∈D,q.base<=g.base:=by
 induction D generalizing b with
 |nil=>intro q c;cases c
 | cons a r d=>
   intro q c;rcases lW.1 c with rfl|c
   . exact Rr h.2 g sP
   exact d h.2 q c
theorem SZ{D:List MG}(h:MG->MG):Du (D++[g]) h=D++[h g]:=by
 unfold Du;apply nj;intro i;rw[List.getElem?_modify];simp only[mB,mT,Nat.add_sub_cancel];by_cases e:i< ↑D
 . rw[mq e,mq e];cases D[i]? with
   |none=>rfl
   |some a=>simp[show¬ ↑D=i from oM]
 rw[mg oM,mg oM];by_cases b:i= ↑D
 . subst b;simp
 rw[mc oT,mc oT];rfl
theorem WR{a:List MC}{ts:List Int}(h:BH a ts=true)(b:∀t∈ts,t≠0):a.map MC.type=ts:=by
 induction a generalizing ts with
 |nil=>cases ts with|nil=>rfl|cons _ _=>simp[BH]at h
 | cons v r f=>
   cases ts with
   |nil=>simp[BH]at h
   | cons t q=>
     simp only[BH,mu,Bool.or_eq_true,beq_iff_eq]at h;have c:=b t sP;rw[nh,f h.2 (λz d=>b z (by simp[d]))];rcases h.1 with e|e
     . exact absurd e c
     rw[e]
theorem Hn{a:List MC}(h:BH a [t]=true):∃v,a=[v]/\(t≠0->v.type=t):=by
 match a,h with
 |[v],h=>exact⟨v,rfl, λe=>by simp[BH]at h;rcases h with h|h;exact absurd h e;exact h⟩
 |[],h=>simp[BH]at h
 |_::_::_,h=>simp[BH]at h
theorem QK{b:List MC}{a:Int}(h:BH b [t,a]=true):∃v v',b=[v,v']/\(t≠0->v.type=t)/\(a≠0->v'.type=a):=by
 match b,h with
 | [v,v'],h=>
   refine⟨v,v',rfl, λe=> ?_, λe=> ?_⟩
   . simp[BH]at h;rcases h.1 with h|h;exact absurd h e;exact h
   simp[BH]at h;rcases h.2 with h|h;exact absurd h e;exact h
 |[],h=>simp[BH]at h
 |[_],h=>simp[BH]at h
 |_::_::_::_,h=>simp[BH]at h
theorem tw{p:MP}{s:MS}{D:List MG}(h:IF p s)(hw:s.wf)(d:s.dk=D++[g])(B:p.aC[g.func.toNat]?=some f)(C:List (List MC))(K:List MC)(b:MG)(y:C.length= ↑s.cells)(z:∀(i:Nat) c r,C[i]?=some c->p.az[i]?=some r->Dy c r)(A:∀c∈C,∀v∈c,v.wf)(u:K.length<=64)(t:∀v∈K,Jf v)(w:g.base<=(K:Int))(m:b.base=g.base)(n:b.func=g.func)(E:Dy b.aB (f.aP++f.aB))(G:b.wf):
 IF p ⟨s.trap,s.done,s.cost,s.steps,C,K,D++[b]⟩/\(⟨s.trap,s.done,s.cost,s.steps,C,K,D++[b]⟩:MS).wf:=by
 have j:=h.j9;rw[d]at j;have F:g∈s.dk:=by rw[d];simp
 have l:=h.deep;rw[d]at l;simp only[mB,mT]at l;refine⟨⟨h.prog,h.cost,h.steps,by simp only[];rw[y];exact h.three,z,u, λv k=>(t v k).1,sP,oT,?_,VA j m⟩,⟨hw.trap,hw.cost,hw.steps,A, λv k=>(t v k).2,?_⟩⟩
 . intro q a;simp only[mA,mK]at a;rcases a with a|rfl
   . have e:=h.dk q (by rw[d];simp[a]);exact⟨e.lo,e.aB,by have:=XX j q a;simp only[];omega⟩
   have e:=h.dk g F;exact⟨by rw[n];exact e.lo,⟨f,by rw[n];exact B,E⟩,by rw[m];exact w⟩
 intro q a;simp only[mA,mK]at a;rcases a with a|rfl
 . exact hw.dk q (by rw[d];simp[a])
 exact G
structure ER(f:Nat->Int)(S:Nat->Prop)(m:Int):Prop where
 nn:0<=m
 ub:∀b,S b->f b<=m
 at_:m=0\/∃b,S b/\f b=m
theorem ER.one{f d:Nat->Int}{j:Int}(h:ER f S m)(c:ER d S j)(g:∀b,S b->f b=d b):m=j:=by
 have k:=h.nn;have l:=c.nn;apply Int.le_antisymm
 . rcases h.at_ with e|⟨b,a,e⟩
   . omega
   have:=c.ub b a;have:=g b a;omega
 rcases c.at_ with e|⟨b,a,e⟩
 . omega
 have:=h.ub b a;have:=g b a;omega
theorem ER.le{f:Nat->Int}{B:Int}(h:ER f S m)(d:0<=B)(a:∀b,S b->f b<=B):m<=B:=by
 rcases h.at_ with e|⟨b,c,e⟩
 . omega
 have:=a b c;omega
theorem ER.none{f:Nat->Int}(h:∀b,¬S b):ER f S 0:=⟨Int.le_refl _, λb a=>(h b a).elim,.inl rfl⟩
theorem ER.add{f:Nat->Int}{S':Nat->Prop}{b:Nat}(h:ER f S m)(c:∀x,S' x↔S x\/x=b):ER f S' (max m (f b)):=by
 have g:=h.nn;refine⟨oM, λx a=> ?_,?_⟩
 . rcases(c x).1 a with a|rfl
   . have:=h.ub x a;omega
   omega
 rcases Int.le_total m (f b)with d|d
 . exact .inr ⟨b,(c b).2 (.inr rfl),oM⟩
 rw[Int.max_eq_left d];exact h.at_.imp_right λ⟨x,a,e⟩=>⟨x,(c x).2 (.inl a),e⟩
theorem ER.iff{f:Nat->Int}{S':Nat->Prop}(h:ER f S m)(a:∀x,S' x↔S x):ER f S' m:=⟨h.nn, λb c=>h.ub b ((a b).1 c),h.at_.imp_right λ⟨x,d,e⟩=>⟨x,(a x).2 d,e⟩⟩
section
variable {E:Nat->List Nat} {n:Nat} {D L:Nat->Nat->Bool} {inn bk:Nat->Prop} {J:Nat->Nat} {C s s':Nat->Int} {h:Nat} {iv:Int}
structure Wh(E:Nat->List Nat)(inn:Nat->Prop)(J:Nat->Nat)(h:Nat)(C s:Nat->Int):Prop where
 ki:tJ E inn J h C s
 sm:∀b,inn b->s (J b)<=4294967295
def ON(E:Nat->List Nat)(inn:Nat->Prop)(J:Nat->Nat)(h:Nat)(C:Nat->Int):Prop:=∀t,Yp E inn J h C t->∃b,inn b/\4294967295<t (J b)
theorem Wh.not(p:Wh E inn J h C s)(q:ON E inn J h C):False:=by obtain⟨b,a,c⟩:=q s p.ki.clo;have:=p.sm b a;omega
def qt(E:Nat->List Nat)(inn:Nat->Prop)(b:Nat):Prop:=inn b/\∃x∈E b,¬inn x
def P7(E:Nat->List Nat)(inn bk:Nat->Prop)(J:Nat->Nat)(h:Nat)(C:Nat->Int)(iv:Int)(r:Option Int):Prop:=(r=M/\ON E inn J h C)\/∃s ar a,Wh E inn J h C s/\ER (λb=>s (J b)) bk ar/\ER (λb=>s (J b)) (qt E inn) a/\r=if 4294967295<iv*ar+a then M else K (iv*ar+a)
theorem P7.one{r k:Option Int}(m:∀b,bk b->inn b)(d:P7 E inn bk J h C iv r)(a:P7 E inn bk J h C iv k):r=k:=by
 rcases d with⟨rfl,d⟩|⟨s,ar,v,p,n,t,e⟩
 . rcases a with⟨rfl,_⟩|⟨s',l,u,c,g,j,f⟩
   . rfl
   exact(c.not d).elim
 rcases a with⟨rfl,a⟩|⟨s',l,u,c,g,j,f⟩
 . exact(p.not a).elim
 obtain rfl:=n.one g λb q=>p.ki.one c.ki (m b q)
 obtain rfl:=t.one j λb q=>p.ki.one c.ki q.1
 rw[e,f]
def PX(E:Nat->List Nat)(n:Nat)(rt:Nat->Prop)(J:Nat->Nat)(C:Nat->Int)(r:Int):Prop:=(r=-1/\ON E (λb=>b<n) J 0 C)\/∃s,Wh E (λb=>b<n) J 0 C s/\ER (λb=>s (J b)) (λb=>b<n/\rt b) r
theorem PX.one{rt:Nat->Prop}{f:Int}(c:PX E n rt J C r)(a:PX E n rt J C f):r=f:=by
 rcases c with⟨rfl,c⟩|⟨s,p,m⟩
 . rcases a with⟨rfl,_⟩|⟨s',d,e⟩
   . rfl
   exact(d.not c).elim
 rcases a with⟨rfl,a⟩|⟨s',d,e⟩
 . exact(p.not a).elim
 exact m.one e λb q=>p.ki.one d.ki q.1
inductive PW (E:Nat->List Nat) (n:Nat) (D L:Nat->Nat->Bool) (iv:Nat->Int) (rt:Nat->Prop):List Nat->(Nat->Nat)->(Nat->Int)->Int->Prop
 |nil {J:Nat->Nat} {C:Nat->Int} {r:Int}:PX E n rt J C r->PW E n D L iv rt [] J C r
 |bad {h:Nat} {hs:List Nat} {J:Nat->Nat} {C:Nat->Int}:P7 E (λb=>L h b=true) (· ∈AP E D n h) J h C (iv h) M->PW E n D L iv rt (h::hs) J C (-1)
 |step {h:Nat} {hs:List Nat} {J:Nat->Nat} {C:Nat->Int} {v r:Int}:P7 E (λb=>L h b=true) (· ∈AP E D n h) J h C (iv h) (K v)->PW E n D L iv rt hs (λb=>if L h b then h else J b) (λc=>if c=h then v else C c) r->PW E n D L iv rt (h::hs) J C r
theorem PW.one{iv:Nat->Int}{rt:Nat->Prop}(d:∀h b,b∈AP E D n h->L h b=true){J:Nat->Nat}{C:Nat->Int}{f:Int}(g:PW E n D L iv rt e J C r)(c:PW E n D L iv rt e J C f):r=f:=by
 induction g with
 |nil h=>cases c with|nil a=>exact h.one a
 | bad h=>
   cases c with
   |bad _=>rfl
   |step a _=>cases h.one (d _) a
 | step h _ j=>
   cases c with
   |bad a=>cases h.one (d _) a
   |step a q=>cases h.one (d _) a;exact j q
end
end Go.Proofs.YtkgohaigebcgoaaGreatDoor
