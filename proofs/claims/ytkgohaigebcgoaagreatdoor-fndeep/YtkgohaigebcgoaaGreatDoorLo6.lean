import Derived.Test.YtkgohaigebcgoaaGreatDoorLo5
import Derived.Maps.RangeWalk
import Derived.Sort.KeysCollected
import Derived.Shelf.SlSortCmp.WholeK
import Derived.Ground.SlsfProg
namespace Go.Proofs
open Go.Shelf
def Tryz.lSortF_ren:Go.Shelf.Ren:=⟨λ |6=>204|15=>138|14=>210|28=>179|29=>180|20=>212|21=>213|22=>214|23=>215|24=>216|25=>217|26=>218|27=>219|46=>220|47=>197|48=>198|49=>221|50=>222|57=>223|n=>n, λ |22=>59|24=>65|25=>283|3=>3|39=>216|0=>0|53=>29|55=>267|4=>4|46=>272|45=>271|50=>159|5=>5|9=>9|66=>285|70=>289|76=>297|77=>298|n=>n, λ |n=>n⟩
theorem Tryz.lSortF:Go.Proofs.SlLaysF0.n6 Tryz.prog Tryz.lSortF_ren:={
 mixed:=by kernel_rfl
 f6:=⟨Tryz.f204.name,by decide,Tryz.func204.trans (congrArg some (by kernel_rfl))⟩
 f14:=⟨Tryz.f210.name,by decide,Tryz.func210.trans (congrArg some (by kernel_rfl))⟩
 f15:=Tryz.func138.trans (congrArg some (by kernel_rfl))
 f20:=⟨Tryz.f212.name,by decide,Tryz.func212.trans (congrArg some (by kernel_rfl))⟩
 f21:=⟨Tryz.f213.name,by decide,Tryz.func213.trans (congrArg some (by kernel_rfl))⟩
 f22:=⟨Tryz.f214.name,by decide,Tryz.func214.trans (congrArg some (by kernel_rfl))⟩
 f23:=⟨Tryz.f215.name,by decide,Tryz.func215.trans (congrArg some (by kernel_rfl))⟩
 f24:=⟨Tryz.f216.name,by decide,Tryz.func216.trans (congrArg some (by kernel_rfl))⟩
 f25:=⟨Tryz.f217.name,by decide,Tryz.func217.trans (congrArg some (by kernel_rfl))⟩
 f26:=⟨Tryz.f218.name,by decide,Tryz.func218.trans (congrArg some (by kernel_rfl))⟩
 f27:=⟨Tryz.f219.name,by decide,Tryz.func219.trans (congrArg some (by kernel_rfl))⟩
 f28:=Tryz.func179.trans (congrArg some (by kernel_rfl))
 f29:=Tryz.func180.trans (congrArg some (by kernel_rfl))
 f46:=⟨Tryz.f220.name,by decide,Tryz.func220.trans (congrArg some (by kernel_rfl))⟩
 f47:=Tryz.func197.trans (congrArg some (by kernel_rfl))
 f48:=Tryz.func198.trans (congrArg some (by kernel_rfl))
 f49:=⟨Tryz.f221.name,by decide,Tryz.func221.trans (congrArg some (by kernel_rfl))⟩
 f50:=⟨Tryz.f222.name,by decide,Tryz.func222.trans (congrArg some (by kernel_rfl))⟩
 f57:=⟨Tryz.f223.name,by decide,Tryz.func223.trans (congrArg some (by kernel_rfl))⟩
 t0:=Tryz.underlying0
 a0:=Tryz.isAgg0
 z0:=Tryz.sizeOf0
 v0:=Tryz.zeroValue0
 t3:=Tryz.underlying3
 a3:=Tryz.isAgg3
 z3:=Tryz.sizeOf3
 v3:=Tryz.zeroValue3
 t4:=Tryz.underlying4
 a4:=Tryz.isAgg4
 z4:=Tryz.sizeOf4
 v4:=Tryz.zeroValue4
 t5:=Tryz.underlying5
 a5:=Tryz.isAgg5
 z5:=Tryz.sizeOf5
 v5:=Tryz.zeroValue5
 t9:=Tryz.underlying9
 a9:=Tryz.isAgg9
 z9:=Tryz.sizeOf9
 v9:=Tryz.zeroValue9
 t22:=Tryz.underlying59
 a22:=Tryz.isAgg59
 z22:=Tryz.sizeOf59
 v22:=Tryz.zeroValue59
 t25:=Tryz.underlying283
 a25:=Tryz.isAgg283
 z25:=Tryz.sizeOf283
 v25:=Tryz.zeroValue283
 t39:=Tryz.underlying216
 a39:=Tryz.isAgg216
 z39:=Tryz.sizeOf216
 v39:=Tryz.zeroValue216
 t45:=Tryz.underlying271
 a45:=Tryz.isAgg271
 z45:=Tryz.sizeOf271
 v45:=Tryz.zeroValue271
 t46:=Tryz.underlying272
 a46:=Tryz.isAgg272
 z46:=Tryz.sizeOf272
 v46:=Tryz.zeroValue272
 t50:=Tryz.underlying159
 a50:=Tryz.isAgg159
 z50:=Tryz.sizeOf159
 v50:=Tryz.zeroValue159
 t53:=Tryz.underlying29
 a53:=Tryz.isAgg29
 z53:=Tryz.sizeOf29
 v53:=Tryz.zeroValue29
 t55:=Tryz.underlying267
 a55:=Tryz.isAgg267
 z55:=Tryz.sizeOf267
 v55:=Tryz.zeroValue267
 t66:=Tryz.underlying285
 a66:=Tryz.isAgg285
 z66:=Tryz.sizeOf285
 v66:=Tryz.zeroValue285
 t70:=Tryz.underlying289
 a70:=Tryz.isAgg289
 z70:=Tryz.sizeOf289
 v70:=Tryz.zeroValue289
 t76:=Tryz.underlying297
 a76:=Tryz.isAgg297
 z76:=Tryz.sizeOf297
 v76:=Tryz.zeroValue297
 t77:=Tryz.underlying298
 a77:=Tryz.isAgg298
 z77:=Tryz.sizeOf298
 v77:=Tryz.zeroValue298}
end Go.Proofs
namespace Go.Proofs.YtkgohaigebcgoaaGreatDoor
open Go.ChangeShapes Go.WideShapes Go.ChangeAt Go.RowKit Go.Proofs.Tryz
set_option linter.unusedVariables false
open Go.Value renaming slice → Z,int → Ag
open Option renaming some → K,none → M
open Go renaming Value → J,World → Y,TypeId → Aj,Calls → Ai
open Go.IntKind renaming i64 → Af
open Go.RowKit renaming Below → Ah,Hid → Ae
open Go.Obj renaming cells → Ak
open Go.World renaming setCell → Aa,ownsRow → Ab,alloc → Ac
open List renaming flatMap → Ad
open Go.Ending renaming returned → Am
open Go.Proofs.Tryz renaming prog → Aq
set_option maxHeartbeats 4000000
set_option maxRecDepth 100000
variable {v:VS}{u w:Y}{e:Aj}{i:Nat}{l:List Nat}{xs:List MI}{L:Nat->Nat->Bool}{ts:List MT}{C:Nat->Int}
def Ca(m:MM)(a b c:List Int)(f:MF):MS:=⟨0,false,0,0,[Ba a m.ins,Ba b m.outs,Ba c m.keeps],[],[⟨0,0,0,A9 f.a7⟩]⟩
def KA:MS:=⟨7,false,0,0,[],[],[]⟩
def Gg(p:MP)(m:MM)(s:MS):Prop:=(CS p m/\∃a b c f fs,p.az=[a,b,c]/\p.aB=f::fs/\s=Ca m a b c f)\/(¬CS p m/\s=KA)
theorem Gg.one{p:MP}{m:MM}{s s':MS}(h:Gg p m s)(j:Gg p m s'):s=s':=by
 rcases h with⟨c,r,t,u,f,fs,e,i,rfl⟩|⟨c,rfl⟩<;>rcases j with⟨d,l,n,q,g,k,a,b,rfl⟩|⟨d,rfl⟩
 . rw[e]at a;rw[i]at b;simp only[mK,mD]at a b;obtain⟨rfl,rfl,rfl⟩:=a;obtain⟨rfl,_⟩:=b;rfl
 . exact absurd c d
 . exact absurd d c
 rfl
structure JP(w u:Y)(v:VP)(vm:VM):Prop where
 pb:Ay u w #[v.r,v.k,v.f,v.t] 40
 mb:Ay u ((w:Nat)+1) #[vm.i,vm.o,vm.k] 52
 rb:Ay u ((w:Nat)+1+1) #[Ag Af 0,false,Ag Af 0,Ag Af 0,Z M 0 0,Z M 0 0,Z M 0 0] 48
 cq:Ah w w u
theorem JP.av{w u b:Y}{v:VP}{c:VM}(h:JP w u v c)(a:Ah u u b):JP w b v c:=⟨h.pb.av a,h.mb.av a,h.rb.av a,Ar h.cq lR a⟩
theorem JP.of(w:Y)(v:VP)(a:VM):JP w (Ac (Ac (Ac w (Ak #[v.r,v.k,v.f,v.t] 40)) (Ak #[a.i,a.o,a.k] 52)) (Ak #[Ag Af 0,false,Ag Af 0,Ag Af 0,Z M 0 0,Z M 0 0,Z M 0 0] 48)) v a:=by
 have h:=Al w (Ak #[v.r,v.k,v.f,v.t] 40);have j:=Ay.new w #[v.r,v.k,v.f,v.t] 40;generalize n:Ac w (Ak #[v.r,v.k,v.f,v.t] 40)=b at h j⊢;have m:(b:Nat)= ↑w+1:=by rw[<-n];simp
 have d:=Al b (Ak #[a.i,a.o,a.k] 52);have g:=Ay.new b #[a.i,a.o,a.k] 52;generalize p:Ac b (Ak #[a.i,a.o,a.k] 52)=c at d g⊢;have q:(c:Nat)= ↑w+1+1:=by rw[<-p];simp[m]
 have e:=Al c (Ak #[Ag Af 0,false,Ag Af 0,Ag Af 0,Z M 0 0,Z M 0 0,Z M 0 0] 48);have l:=Ay.new c #[Ag Af 0,false,Ag Af 0,Ag Af 0,Z M 0 0,Z M 0 0,Z M 0 0] 48;rw[m]at g;rw[q]at l;exact⟨(j.av d).av e,g.av e,l,Ar (Ar h lR d) lR e⟩
theorem EJ{W:Y}(b:Ah W W u){a:Addr}{x:J}(h:W a=K x):u a=K x:=by rw[b.cell (i7 h)];exact h
theorem JP.lt{v:VP}{a:VM}(h:JP w u v a):(w:Nat)+1+1<u.heap.size:=h.rb.lt
theorem JP.set{v:VP}{a:VM}(h:JP w u v a){x:Nat}(b: ↑w+1+1<x)(i:Nat)(z:J):JP w (Aa u ⟨x,i,M⟩ z) v a:=⟨h.pb.other oS _,h.mb.other oS _,h.rb.other oS _,h.cq.setCell oS _⟩
theorem MD{base b:Nat}{k n:Nat}{v:J}{xs:List J}(h:Ab w base e k v n xs)(d:b<=base):Ab w b e k v n xs:=⟨h.1,h.2.imp id λ⟨g,cap,a,c,f,r⟩=>⟨g,cap,a,c,jN d f,r⟩⟩
theorem Jo{α:Type}(f:α->List J)(m:Nat)(b:∀y,(f y).length=m)(ys:List α)(k j:Nat)(y c:α)(u:J)(a:ys[k]?=K y)(e:j<m)(d:f c=(f y).set j u):(Ad f ys).set (k*m+j) u=Ad f (ys.set k c):=by
 induction ys generalizing k with
 |nil=>simp at a
 | cons x r g=>
   cases k with
   | zero=>simp only[f8,jJ]at a;subst a;rw[kX,ke,ke,Nat.zero_mul,kT,List.set_append_left _ _ (by rw[b];exact e),d]
   | succ k=>rw[i6]at a;rw[kU,ke,ke,mV _ _ (by rw[b,mo];omega),b,<-g k a];(congr 2);rw[mo];omega
theorem Ov{base:Nat}{k n m c:Nat}{a:Option Addr}{xs:List J}(h:Ab w base e k (Z a n c) n xs)(r:m<=n):Ab w base e k (Z a m c) m (xs.take (m*k)):=by
 have d:m*k<=n*k:=Nat.mul_le_mul_right k r;refine⟨by rw[kp,h.1,Nat.min_eq_left d],?_⟩;rcases h.2 with⟨b,i⟩|⟨g,cap,f,b,j,q,t,l,p,ht⟩
 . subst i;have s:m=0:=oM;subst s;exact .inl ⟨b,rfl⟩
 simp only[i8,kW]at b;obtain⟨rfl,rfl⟩:=b;refine .inr ⟨g,c,f,rfl,j,q,oM,l,p,?_⟩;rw[<-ht,List.take_take,Nat.min_eq_left d]
theorem Ma{α:Type}(f:α->List J)(m:Nat)(a:∀y,(f y).length=m)(ys:List α)(k:Nat):(Ad f ys).take (k*m)=Ad f (ys.take k):=by
 induction ys generalizing k with
 |nil=>simp
 | cons x r b=>
   cases k with
   |zero=>simp
   |succ k=>rw[ke,List.take_succ_cons,ke,mo,Nat.one_mul,List.take_append,a,kP (by rw[a];omega),<-b k];congr 2;omega
theorem CM{base:Nat}{k n m c:Nat}{a:Option Addr}{xs:List J}(h:Ab w base e k (Z a n c) m xs):n=m:=by obtain⟨a',c',b⟩:=AF h;simp only[i8]at b;exact b.2.1
theorem Cv.at{B:Nat}{L:List (J×List MC)}(h:Cv w B L){j:Nat}{x:J×List MC}(a:L[j]?=K x):Ab w B 193 2 x.1 x.2 (Ad MC.cells x.2):=h.own x (hC a)
theorem Ik{α:Type}(L:List α)(j:Nat)(x y:α)(a:L[j]?=K x):L=L.take j++x::L.drop (j+1)/\L.set j y=L.take j++y::L.drop (j+1):=by
 obtain⟨b,rfl⟩:=f7.1 a;refine⟨?_,?_⟩
 . rw[List.getElem_cons_drop,lS]
 rw[List.set_eq_take_append_cons_drop,jP b]
theorem Cv.ji{B:Nat}{L:List (J×List MC)}(h:Cv w B L){j g n c i:Nat}{a:List MC}{y:MC}(k:L[j]?=K (Z g n c,a))(f:a[i]?=K y)(x:MC):
 Cv (Aa (Aa w ⟨g,i*2,M⟩ x.type) ⟨g,i*2+1,M⟩ (.int .u32 x.word)) B (L.set j (Z g n c,a.set i x))/\w.grownBy (Aa (Aa w ⟨g,i*2,M⟩ x.type) ⟨g,i*2+1,M⟩ (.int .u32 x.word)) (K g):=by
 have b:=h.at k;simp only[]at b;have r:n=a.length:=CM b;subst r;obtain⟨s,m⟩:=b.stored (i*2) x.type;obtain⟨s1,p⟩:=s.stored (i*2+1) (.int .u32 x.word);have d:=Jo MC.cells 2 MC.bW a i 0 y ⟨x.type,y.word⟩ x.type f oM rfl;rw[jV]at d;have q:(a.set i ⟨x.type,y.word⟩)[i]?=K ⟨x.type,y.word⟩:=by rw[kw (f7.1 f).1]
 have l:=Jo MC.cells 2 MC.bW (a.set i ⟨x.type,y.word⟩) i 1 ⟨x.type,y.word⟩ x (.int .u32 x.word) q oM rfl;rw[d,l,List.set_set]at s1;have e:=m.trans p;obtain⟨t,u⟩:=Ik L j _ (Z g a c,a.set i x) k;refine⟨?_,e⟩;rw[u];rw[t]at h;exact Cv.put h (by rw[ki]) s1 e
theorem Cv.jC{B:Nat}{L:List (J×List MC)}(h:Cv w B L){j g n c i:Nat}{a:List MC}{y:MC}(e:L[j]?=K (Z g n c,a))(k:a[i]?=K y)(x:Int):
 Cv (Aa w ⟨g,i*2+1,M⟩ (.int .u32 x)) B (L.set j (Z g n c,a.set i ⟨y.type,x⟩))/\w.grownBy (Aa w ⟨g,i*2+1,M⟩ (.int .u32 x)) (K g):=by
 have b:=h.at e;simp only[]at b;have l:n=a.length:=CM b;subst l;obtain⟨s1,d⟩:=b.stored (i*2+1) (.int .u32 x);have f:=Jo MC.cells 2 MC.bW a i 1 y ⟨y.type,x⟩ (.int .u32 x) k oM rfl;rw[f]at s1;obtain⟨m,p⟩:=Ik L j _ (Z g a c,a.set i ⟨y.type,x⟩) e;refine⟨?_,d⟩;rw[p];rw[m]at h;exact Cv.put h (by rw[ki]) s1 d
theorem Z4{α β:Type}(f:α×β->List J)(d:∀a b c,f (a,b)=f (a,c))(C:List (α×β))(j:Nat)(a:α)(b c:β)(e:C[j]?=K (a,b)):Ad f (C.set j (a,c))=Ad f C:=by
 obtain⟨g,h⟩:=Ik C j _ (a,c) e;rw[h];conv=>rhs;rw[g]
 simp only[kJ,ke,d a b c]
theorem Gw(F:List (MG×J))(i:Nat)(x:MG×J):Bm (F.set i x)=(Bm F).set i (x.2,x.1.a7):=by unfold Bm;rw[List.map_set]
theorem BE{F:List (MG×J)}{x:MG×J}(h:F[i]?=K x):(Bm F)[i]?=K (x.2,x.1.a7):=by unfold Bm;rw[jY,h];rfl
theorem RJ{α:Type}(L:List α)(i:Nat)(x:α)(h:L[i]?=K x):L.set i x=L:=by obtain⟨a,rfl⟩:=f7.1 h;exact List.set_getElem_self a
theorem AB.setAt{B:Nat}{C:List (J×List MC)}{K:List MC}{F:List (MG×J)}(h:AB w B v C K F){g n c i:Nat}{x:MG×J}(j:v.f=Z g n c)(k:F[i]?=some x)(z:Int):
 AB (Aa w ⟨g,i*4+1,M⟩ z) B v C K (F.set i ({x.1 with at_:=z},x.2))/\w.grownBy (Aa w ⟨g,i*4+1,M⟩ z) (some g):=by
 have b:=h.dk;rw[j]at b;have p:n=F.length:=CM b;subst p;obtain⟨r,q,d⟩:=Dz b;obtain⟨s1,m⟩:=b.stored (i*4+1) z;have l:=Jo BG 4 Ch F i 1 x ({x.1 with at_:=z},x.2) z k oM rfl;rw[l]at s1;refine⟨⟨kK h.cells (a:=⟨g,i*4+1,M⟩) (λe=>Bn h.cells d dC g e rfl) _,?_,?_⟩,m⟩
 . rw[j,ki];exact s1
 rw[Gw];simp only[];rw[RJ _ _ _ (BE k)];exact h.eT.set d dC _ _
theorem AB.gJ{d:Y}{B g:Nat}{C a:List (J×List MC)}{K K':List MC}{F b:List (MG×J)}(h:AB w B v C K F){j n c:Nat}{t:List MC}(q:(C++[(v.k,K)]++Bm F)[j]?=some (Z g n c,t))(f:B<= ↑w)(p:w.grownBy d (some g))(m:Cv d B (a++[(v.k,K')]++Bm b))(i:Ad JE a=Ad JE C)(r:a.length= ↑C)(l:Ad BG b=Ad BG F)(s:b.length= ↑F):AB d B v a K' b:=by
 have e:nL B w d:=nL.hQ (h.eT.at q) p f;refine⟨?_,?_,m⟩
 . rw[r,i];exact e.own h.cells dC
 rw[s,l];exact e.own h.dk dC
theorem AB.fH{B:Nat}{C:List (J×List MC)}{K:List MC}{F:List (MG×J)}(h:AB w B v C K F)(l:B<= ↑w){j g n c i:Nat}{a:List MC}{y:MC}(b:C[j]?=some (Z g n c,a))(m:a[i]?=some y)(x:MC):
 AB (Aa (Aa w ⟨g,i*2,M⟩ x.type) ⟨g,i*2+1,M⟩ (.int .u32 x.word)) B v (C.set j (Z g n c,a.set i x)) K F/\w.grownBy (Aa (Aa w ⟨g,i*2,M⟩ x.type) ⟨g,i*2+1,M⟩ (.int .u32 x.word)) (some g):=by
 have f:=(f7.1 b).1;have e:(C++[(v.k,K)]++Bm F)[j]?=some (Z g n c,a):=by rw[kS,kL f];exact b
 obtain⟨f1,d⟩:=h.eT.ji e m x;refine⟨h.gJ e l d ?_ (Z4 JE (λ_ _ _=>rfl) C j _ _ _ b) (ki ..) rfl rfl,d⟩;rw[kS,List.set_append_left _ _ f,<-kS]at f1;exact f1
theorem T7(F:List (MG×J))(i:Nat)(x:MG×J)(a:List MC)(b:F[i]?=K x):Ad BG (F.set i ({x.1 with a7:=a},x.2))=Ad BG F:=by
 obtain⟨c,d⟩:=Ik F i _ ({x.1 with a7:=a},x.2) b;rw[d];conv=>rhs;rw[c]
 simp only[kJ,ke];rfl
theorem Xm{C:List (J×List MC)}{k:J×List MC}{R:List (J×List MC)}{x:J×List MC}(h:R[i]?=K x):(C++[k]++R)[↑C+1+i]?=K x:=by
 rw[jX sP];simp only[jI,lG,lH];rw[show ↑C+1+i-(↑C+(0+1))=i from oM]
 exact h
theorem TL{C:List (J×List MC)}{k:J×List MC}{R:List (J×List MC)}{x:J×List MC}:(C++[k]++R).set (↑C+1+i) x=C++[k]++R.set i x:=by rw[mV _ _ sP];simp only[jI,lG,lH];rw[show ↑C+1+i-(↑C+(0+1))=i from oM]
theorem AB.io{B:Nat}{C:List (J×List MC)}{K:List MC}{F:List (MG×J)}(h:AB w B v C K F)(f:B<= ↑w){j g n c i:Nat}{a:MG}{y:MC}(e:F[j]?=some (a,Z g n c))(l:a.a7[i]?=some y)(x:MC):
 AB (Aa (Aa w ⟨g,i*2,M⟩ x.type) ⟨g,i*2+1,M⟩ (.int .u32 x.word)) B v C K (F.set j ({a with a7:=a.a7.set i x},Z g n c))/\w.grownBy (Aa (Aa w ⟨g,i*2,M⟩ x.type) ⟨g,i*2+1,M⟩ (.int .u32 x.word)) (some g):=by
 have b:=Xm (C:=C) (k:=(v.k,K)) (BE e);simp only[]at b;obtain⟨f1,d⟩:=h.eT.ji b l x;refine⟨h.gJ b f d ?_ rfl rfl (T7 F j _ _ e) (ki ..),d⟩;rw[TL]at f1;rw[Gw];exact f1
theorem AB.gQ{B:Nat}{C:List (J×List MC)}{K:List MC}{F:List (MG×J)}(h:AB w B v C K F)(f:B<= ↑w){j g n c i:Nat}{a:MG}{y:MC}(e:F[j]?=some (a,Z g n c))(l:a.a7[i]?=some y)(x:Int):
 AB (Aa w ⟨g,i*2+1,M⟩ (.int .u32 x)) B v C K (F.set j ({a with a7:=a.a7.set i ⟨y.type,x⟩},Z g n c))/\w.grownBy (Aa w ⟨g,i*2+1,M⟩ (.int .u32 x)) (some g):=by
 have b:=Xm (C:=C) (k:=(v.k,K)) (BE e);simp only[]at b;obtain⟨f1,d⟩:=h.eT.jC b l x;refine⟨h.gJ b f d ?_ rfl rfl (T7 F j _ _ e) (ki ..),d⟩;rw[TL]at f1;rw[Gw];exact f1
theorem Cv.jz{u a:Y}{B:Nat}{L:List (J×List MC)}(h:Cv u B L)(b:Ah u u a):Cv a B L:=⟨λr c=>AC (h.own r c) b lR,h.sep⟩
theorem AB.grow{u b:Y}{B:Nat}{C:List (J×List MC)}{K:List MC}{F:List (MG×J)}(h:AB u B v C K F)(a:Ah u u b):AB b B v C K F:=⟨AC h.cells a lR,AC h.dk a lR,h.eT.jz a⟩
theorem AB.stack{i:Y}{B:Nat}{C:List (J×List MC)}{K K':List MC}{F:List (MG×J)}(h:AB w B v C K F)(u:B<= ↑w){b:J}(l:w.grownBy i v.k.ownBlock)(x:Ab i B 193 2 b K' (Ad MC.cells K'))(f:b.ownBlock=v.k.ownBlock\/∀g,b.ownBlock=some g-> ↑w<=g):AB i B {v with k:=b} C K' F:=by
 have s:=h.eT.own (v.k,K) sP;simp only[]at s;have t:nL B w i:=nL.hQ s l u;have d:=h.eT.sep;have j:∀r∈C++Bm F,IK (v.k,K) r:=by
  intro r c;rw[kS,kv]at d;rcases jL.1 c with c|c
  . exact(d.2.2 r c _ sP).symm
  exact(kY.1 d.2.1).1 r (by simpa using c)
 have p:∀r∈C++Bm F,IK (b,K') r:=by
  intro r c g m e;rcases f with f|f
  . exact j r c g (by simp only[]at m⊢;rw[<-f];exact m) e
  have y:=f g m;have z:=(h.eT.own r (by simp only[jL]at c⊢;rcases c with c|c<;>simp[c])).lt g e;omega
 refine⟨t.own h.cells dC,t.own h.dk dC,?_,?_⟩
 . intro r c;simp only[jL,jK,jO,kM]at c;rcases c with(c|rfl)|c
   . exact Dc (h.eT.own r (by simp[c])) l (λg n e=>j r (by simp[c]) g e.symm n)
   . exact x
   exact Dc (h.eT.own r (by simp[c])) l (λg n e=>j r (by simp[c]) g e.symm n)
 rw[kS,kv]at d⊢;refine⟨d.1,?_,?_⟩
 . simp only[lI,k7,kY];refine⟨λr c=>p r (by simp[c]),?_⟩;have:=d.2.1;simp only[lI,k7,kY]at this;exact this.2
 intro a q r c;simp only[lI,k7,jK]at c;rcases c with rfl|c
 . exact(p a (by simp[q])).symm
 exact d.2.2 a q r (by simp[c])
theorem Pl(w:Y)(r:Option Nat):w.grownBy w r:=⟨rfl,rfl,rfl,Nat.le_refl _, λ_ _ _=>rfl⟩
theorem AB.gU{B:Nat}{C:List (J×List MC)}{K:List MC}{F:List (MG×J)}(h:AB w B v C K F)(i:B<= ↑w){a:Option Addr}{n c m:Nat}(g:v.k=Z a n c)(e:m<= ↑K):AB w B {v with k:=Z a m c} C (K.take m) F:=by
 have d:=h.eT.own (v.k,K) sP;simp only[]at d;rw[g]at d;have j:n=K.length:=CM d;subst j;have f:=Ov d e;rw[Ma MC.cells 2 MC.bW]at f;refine h.stack i (b:=Z a m c) (Pl w _) ?_ (.inl ?_)
 . rw[kp,Nat.min_eq_left e];exact f
 rw[g];cases a<;>rfl
theorem AB.gX{B:Nat}{C:List (J×List MC)}{K:List MC}{F:List (MG×J)}(h:AB w B v C K F){a:Option Addr}{n c m:Nat}(l:v.f=Z a n c)(d:m<= ↑F):AB w B {v with f:=Z a m c} C K (F.take m):=by have b:=h.dk;rw[l]at b;have i:n=F.length:=CM b;subst i;have e:=Ov b d;rw[Ma BG 4 Ch]at e;have g:(C++[(v.k,K)]++Bm (F.take m)).Sublist (C++[(v.k,K)]++Bm F):=List.Sublist.append (List.Sublist.refl _) (by unfold Bm;rw[List.map_take];exact List.take_sublist _ _);refine⟨h.cells,?_, λr j=>h.eT.own r (g.subset j),h.eT.sep.sublist g⟩;rw[kp,Nat.min_eq_left d];exact e
theorem AB.other{B:Nat}{C:List (J×List MC)}{K:List MC}{F:List (MG×J)}(h:AB w B v C K F){g:Nat}{c:Array J}{t:Aj}(b:Ay w g c t)(d:193≠t)(f:45≠t)(j:132≠t)(i:Nat)(x:J):AB (Aa w ⟨g,i,M⟩ x) B v C K F:=⟨kK h.cells (a:=⟨g,i,M⟩) (λe=>Bn h.cells b f g e rfl) _,kK h.dk (a:=⟨g,i,M⟩) (λe=>Bn h.dk b j g e rfl) _,h.eT.set b d _ _⟩
theorem AB.base{B b:Nat}{C:List (J×List MC)}{K:List MC}{F:List (MG×J)}(h:AB w B v C K F)(a:b<=B):AB w b v C K F:=⟨Bt h.cells a,Bt h.dk a, λr c=>Bt (h.eT.own r c) a,h.eT.sep⟩
theorem Au(b:Ah w w u){a:Addr}{x:J}(h:w a=K x):u a=K x:=by rw[b.cell (i7 h)];exact h
structure Iq(E:Nat->List Nat)(n:Nat)(pl:Nat->Nat)(D:Nat->Nat->Bool):Prop where
 P:Fa E n pl
 D:∀d b,D d b=true↔Ed E d b
 B:∀b,b<n->∀t∈E b,pl t<=pl b->Ed E t b
 R:∀x,x<n->ES E (λ_=>True) 0 x
section
variable {E:Nat->List Nat} {n:Nat} {pl:Nat->Nat} {D:Nat->Nat->Bool} {a b h x y p:Nat}
theorem Iq.fp(g:Iq E n pl D)(i:AU E D n h x):Ed E h x:=by
 rcases i with rfl|⟨t,ht,e⟩
 . exact Ed.iy _ _
 obtain⟨_,_,b⟩:=(DN _ _ _ _ _).1 ht;induction e with
 |here _=>exact(g.D _ _).1 b
 | step f a k j=>obtain⟨_,c⟩:=(Di _ _ _ _).1 a;exact λd=>j (.step d c f.jr)
theorem Iq.fv(g:Iq E n pl D)(b:h<n)(d:AU E D n h x):x<n:=by
 rcases d with rfl|⟨t,ht,c⟩
 . exact b
 cases c with
 |here _=>exact((DN _ _ _ _ _).1 ht).1
 |step _ a _=>exact((Di _ _ _ _).1 a).1
theorem Iq.pred(f:AU E D n h x)(b:x≠h)(c:p<n)(a:x∈E p):AU E D n h p:=by
 rcases f with rfl|⟨t,ht,d⟩
 . exact absurd rfl b
 by_cases e:p=h
 . exact .inl e
 exact .inr ⟨t,ht,.step d ((Di _ _ _ _).2 ⟨c,a⟩) e⟩
theorem Iq.head(g:Iq E n pl D)(c:b<n)(f:x∈E b)(d:Ed E x b):b∈AO E D n x/\AU E D n x b:=by
 have a:b∈AO E D n x:=(DN _ _ _ _ _).2 ⟨c,f,(g.D _ _).2 d⟩;refine⟨a,?_⟩;by_cases e:b=x
 . exact .inl e
 exact .inr ⟨b,a,.here e⟩
theorem Iq.comp(g:Iq E n pl D)(h:x<n)(c:Ed E a x)(d:Ed E b x):Ed E a b\/Ed E b a:=by
 have j:=Pf g.P g.R h c;have k:=Pf g.P g.R h d;have i:∀a b,Ed E a x->Ed E b x->pl a<pl b->Ed E a b:= λa b c d f l=>by exact c (l.trans ((d.gq g.P h).1.mono λy m e=>by subst e;omega))
 by_cases e:a=b
 . subst e;exact .inl (Ed.iy _ _)
 rcases Nat.lt_or_ge (pl a) (pl b)with f|f
 . exact .inl (i a b c d f)
 have:pl b≠pl a:= λq=>e (g.P.inj b a k j q).symm
 exact .inr (i b a d c oM)
theorem Iq.nest(g:Iq E n pl D)(i:b<n)(r:AU E D n a x)(d:AU E D n b x)(j:Ed E a b)(k:a≠b):(∀y,AU E D n b y->AU E D n a y)/\¬AU E D n b a:=by
 have q:=g.fv i d;have F:=(j.gq g.P i).2.2 k;have w:=Pf g.P g.R i j;have p:∀y,AU E D n b y->y≠a:= λy f e=>by subst e;exact k (Ed.gm g.P i w j (g.fp f))
 have A:∀{x},ES E (λy=>pl b<=pl y) b x->AU E D n a x->x<n->AU E D n a b:=by
  intro x c;induction c with
  |here _=>exact λh _=>h
  | step c d s l=>intro h G;have f:=c.lt g.P.fQ i;exact l (Iq.pred h (λe=>by subst e;omega) f d) f
 have m:AU E D n a b:=A ((g.fp d).gq g.P q).1 r q;refine⟨λy f=> ?_, λh=>p a h rfl⟩;rcases f with rfl|⟨t,ht,c⟩
 . exact m
 obtain⟨B,C,H⟩:=(DN _ _ _ _ _).1 ht;have z:AU E D n a t:=Iq.pred m (Ne.symm k) B C;induction c with
 |here _=>exact z
 | step c d s l=>obtain⟨u,v⟩:=(Di _ _ _ _).1 d;exact Iq.pred l (p _ (.inr ⟨t,ht,c⟩)) u v
theorem Iq.ij(g:Iq E n pl D)(e:a<n)(i:b<n)(c:AU E D n a x)(d:AU E D n b x)(f:a≠b):((∀y,AU E D n b y->AU E D n a y)/\¬AU E D n b a)\/((∀y,AU E D n a y->AU E D n b y)/\¬AU E D n a b):=by
 rcases g.comp (g.fv e c) (g.fp c) (g.fp d)with h|h
 . exact .inl (g.nest i c d h f)
 exact .inr (g.nest e d c h (Ne.symm f))
end
def nv(l:List Nat):List J:=l.map λ(k:Nat)=>Ag Af (k:Int)
theorem Vx(l:List Nat):(nv l).length=l.length:=by simp[nv]
theorem Mu(l m:List Nat):nv (l++m)=nv l++nv m:=by simp[nv]
theorem Ex(l:List Nat):nv l=Ad As (ints l):=by
 induction l with
 |nil=>rfl
 | cons x r a=>simp only[nv,ints,lM,ke]at a⊢;rw[a];rfl
theorem Rm{k x:Nat}(h:l[k]?=K x):(nv l)[k]?=K ↑x:=by simp[nv,h]
def Lp(w:Y)(s:J)(l:List Nat):Prop:=Rd w 1 s l (nv l)
def K5(w:Y)(base:Nat)(s:J)(l:List Nat):Prop:=Ab w base 2 1 s l (nv l)
theorem K5.rd{base:Nat}{s:J}(h:K5 w base s l):Lp w s l:=Rd.eS h
theorem K5.av{w a:Y}{base:Nat}{s:J}(h:K5 w base s l)(b:Ah w w a):K5 a base s l:=AC h b lR
theorem Lp.av{w a:Y}{s:J}(h:Lp w s l)(b:Ah w w a):Lp a s l:=Rd.av h b lR
theorem Lp.at_{a:Option Addr}{n c:Nat}(h:Lp w (Z a n c) l){k x:Nat}(d:l[k]?=K x):∃g o,a=K ⟨g,o,M⟩/\n= ↑l/\w ⟨g,o+k,M⟩=K ↑x:=by
 rcases h.2 with⟨f,_⟩|⟨g,o,c',b,e⟩
 . have:=(f7.1 d).1;omega
 simp only[i8]at b;obtain⟨rfl,rfl,rfl⟩:=b;exact⟨g,o,rfl,rfl,e k _ (Rm d)⟩
theorem Lp.all{a:Option Addr}{n c:Nat}(h:Lp w (Z a n c) l)(i:0<l.length):∃g o,a=K ⟨g,o,M⟩/\n= ↑l/\∀k x:Nat,l[k]?=K x->w ⟨g,o+k,M⟩=K ↑x:=by
 rcases h.2 with⟨f,_⟩|⟨g,o,c',b,d⟩
 . omega
 simp only[i8]at b;obtain⟨rfl,rfl,rfl⟩:=b;exact⟨g,o,rfl,rfl, λk x e=>d k _ (Rm e)⟩
def bv(P:Nat->Bool)(n:Nat):List J:=(List.range n).map λi=>Value.bool (P i)
def OwB(w:Y)(base g n:Nat)(P:Nat->Bool):Prop:=Ab w base 4 1 (Z g n n) n (bv P n)
def Se(w:Y)(g o n:Nat)(E:Nat->List Nat):Prop:=∀b,b<n->∃a c,w ⟨g,o+b*3+2,M⟩=K (Z a (E b).length c)/\Lp w (Z a (E b).length c) (E b)
theorem Se.av{e:Y}{g o n:Nat}{E:Nat->List Nat}(h:Se w g o n E)(d:Ah w w e):Se e g o n E:= λb j=>by obtain⟨a,c,f,i⟩:=h b j;exact⟨a,c,Az d f,i.av d⟩
theorem K8.fC{V:J}(k:Bb xs)(h:K8 w V (AQ xs)):∃g o c,V=Z (K ⟨g,o,M⟩) (AQ xs).length c/\Se w g o (AQ xs).length (nx (AQ xs))/\∀b m,(AQ xs)[b]?=K m->w ⟨g,o+b*3,M⟩=K (Ag Af m.cz):=by
 obtain⟨ys,t,u,x⟩:=h;have A:=GR k;rcases u.2 with⟨z,_⟩|⟨g,o,c,q,j⟩
 . omega
 have l:∀b m,(AQ xs)[b]?=K m->∃v,ys[b]?=K (m,v):= λb m d=>by rw[<-t,jY]at d;obtain⟨⟨B,v⟩,y,n⟩:=lE.1 d;simp only[]at n;subst n;exact⟨v,y⟩
 refine⟨g,o,c,q, λb i=> ?_, λb m d=> ?_⟩
 . obtain⟨v,f⟩:=l b _ (an i);have r:=x _ (hC f);have e:=TT k (an i);(have p:Lp w v (nx (AQ xs) b):=by unfold Lp;rw[Ex];unfold YP at r;simp only[e]at r;rw[A4]at r;exact r);obtain⟨a,cc,s⟩:=Rd.aP p;subst s;exact⟨a,cc,Rd.elem Bo j b _ f 2 _ rfl,p⟩
 obtain⟨v,f⟩:=l b m d;have:=Rd.elem Bo j b _ f 0 _ rfl;rw[jV]at this;exact this
def K4(a b:ML):Prop:=a.aC.length<b.aC.length\/a.aC.length=b.aC.length/\a.head<b.head
theorem K4.irr(a:ML):¬K4 a a:= λh=>by rcases h with h|⟨_,h⟩<;>omega
theorem K4.asy{a b:ML}(h:K4 a b)(c:K4 b a):False:=by rcases h with h|⟨d,e⟩<;>rcases c with c|⟨f,g⟩<;>omega
theorem Z6{l d:List ML}(k:l.Pairwise K4)(m:d.Pairwise K4)(c:l.Perm d):l=d:=by
 induction l generalizing d with
 |nil=>exact(List.Perm.nil_eq c)
 | cons a r s=>
   cases d with
   |nil=>exact(List.Perm.nil_eq c.symm).symm
   | cons b t=>
     obtain⟨g,h⟩:=kY.1 k;obtain⟨i,j⟩:=kY.1 m;have q:a=b:=by
      have n:=c.subset kt;have p:=c.symm.subset kt;rcases jK.1 n with e|e
      . exact e
      rcases jK.1 p with f|f
      . exact f.symm
      exact(K4.asy (i a e) (g b f)).elim
     subst q;rw[s h j (List.Perm.cons_inv c)]
section
variable {α:Type} {f:α->ML} {ys zs:List α} {m q r n:Nat} {z1 z2:α}
end
theorem Qx{L:List Nat}{n b:Nat}{m:MB}(l:L.Pairwise (· < ·))(c:∀x∈L,x<n)(h:(build L n)[b]?=K m):∃a e:Nat,m.cz=(a:Int)/\m.last=(e:Int)/\a<=e/\e<n:=by
 unfold build at h;rw[mA]at h;cases h1:L[b]? with
 |none=>rw[h1]at h;simp at h
 | some a=>
   cases h2:(L.tail++[n])[b]? with
   |none=>rw[h1,h2]at h;simp at h
   | some q=>
     rw[h1,h2]at h;simp only[jJ]at h;subst h;have j:=c a (hC h1);have d:a<q/\q<=n:=by
      by_cases k:b< ↑L.tail
      . rw[kL k]at h2;have d:=mq (hC h2);refine⟨?_,mI (c q d)⟩;(have i:L[b+1]?=K q:=by rw[<-h2];cases L<;>simp);obtain⟨p,f⟩:=f7.1 h1;obtain⟨r,g⟩:=f7.1 i;rw[<-f,<-g];exact(lW.1 l) b (b+1) p r oM
      rw[jX oM]at h2;have:=hC h2;simp only[jK,jO,kM]at this;subst this;exact⟨j,Nat.le_refl _⟩
     exact⟨a,q-1,rfl,oS,oM,oM⟩
theorem EQ{b:Nat}{m:MB}(h:(AQ xs)[b]?=K m):∃a e:Nat,m.cz=(a:Int)/\m.last=(e:Int)/\a<=e/\e<xs.length:=by unfold AQ at h;rw[jY]at h;obtain⟨k,c,rfl⟩:=lE.1 h;rw[Cl]at c;obtain⟨a,e,f,g,i,j⟩:=Qx (DG _ _) (λx d=>((Dk _ _ _).1 d).1) c;exact⟨a,e,f,g,i,j⟩
structure pZ(xs:List MI)(r:Ee):Prop where
 len:xs.length<=1024
 nb:r.aC.length<=1024
 two:∀m∈r.aC,m.next.length<=2
 nl:r.cv.length<=1024
 eP:∀(i:Nat) (m:MB),r.aC[i]?=K m->∃a e:Nat,m.cz=(a:Int)/\m.last=(e:Int)/\a<=e/\e< ↑xs
 loop:∀l∈r.cv,(∃h:Nat,l.head=(h:Int)/\h< ↑r.aC)/\(∀z∈l.aC,∃b:Nat,z=(b:Int)/\b< ↑r.aC)/\l.aC.length<=1024/\l.back.length<=2048
theorem QY{α β:Type}(f:α->List β)(l:List α)(h:∀a∈l,(f a).length<=2):(Ad f l).length<=2*l.length:=by
 induction l with
 |nil=>simp
 | cons a l d=>have e:=h a sP;(have g:=d λb c=>h b (by simp[c]));rw[ke,jI,lG];omega
theorem Um{E:Nat->List Nat}{D:Nat->Nat->Bool}(h:∀b,(E b).length<=2)(n y:Nat):(AO E D n y).length<=2*n:=by have a:=QY (λp=>((E p).filter λx=>decide (x=y)&&D y p).map λ_=>p) (List.range n) (λp _=>by rw[kC];exact jN (mO _ _) (h p));rw[mj]at a;exact a
theorem Nk{α β:Type}(f:α->Option β)(l:List α):(l.filterMap f).length<=l.length:=List.length_filterMap_le f l
theorem S4{E:Nat->List Nat}{D L:Nat->Nat->Bool}{n j:Nat}(f:j<=n){l:ML}(h:l∈BA E D L n j):(∃h:Nat,l.head=(h:Int)/\h<n)/\(∀z∈l.aC,∃b:Nat,z=(b:Int)/\b<n)/\ ↑l.aC<=n/\∃g,l.back=ints (AO E D n g):=by
 unfold BA at h;obtain⟨g,c,e⟩:=List.mem_filterMap.1 h;split at e
 . cases e
 cases e
 refine⟨⟨g,rfl,by have:=k6.1 c;omega⟩,?_,?_,g,rfl⟩
 . intro z d;obtain⟨b,a,rfl⟩:=kI.1 d;exact⟨b,rfl,k6.1 (lY.1 a).1⟩
 simp only[];rw[A4];exact jN (mO _ _) sP
theorem Bl.fh{r:Ee}(h:Bl xs r)(a:r.aU=0):pZ xs r:=by
 cases h with
 |none _=>cases a
 |off _ _ _=>cases a
 |lost _ _ _ _ _ _ _ _=>cases a
 |two _ _ _ _ _ _ _ _=>cases a
 | good g x1 o1 v1 s1 d1 b1 i1 l1=>
   refine⟨g.2.1,GE g,Il xs,?_, λi m h=>EQ h, λl f=> ?_⟩
   . simp only[];unfold BA;exact jN (Nk _ _) (by rw[mj];exact GE g)
   obtain⟨b,c,d,y,e⟩:=S4 lR f;refine⟨b,c,jN d (GE g),?_⟩;rw[e,A4];exact jN (Um (Mw _ (Il xs)) _ _) (by have:=GE g;omega)
def Da(ts:List MT)(a h:Int):Option MT:=ts.find? λc=>decide (c.func=a)&&decide (c.head=h)
theorem Qz{a h:Int}(q:∀(j:Nat) (c:MT),ts[j]?=K c->¬(c.func=a/\c.head=h)):Da ts a h=M:=by unfold Da;rw[List.find?_eq_none];intro c b;obtain⟨j,d⟩:=kq b;have:=q j c d;simpa using this
theorem QA{a h:Int}{c:MT}(f:ts[i]?=K c)(d:c.func=a/\c.head=h)(q:∀(j:Nat) (c:MT),j<i->ts[j]?=K c->¬(c.func=a/\c.head=h)):Da ts a h=K c:=by
 unfold Da;rw[List.find?_eq_some_iff_getElem];obtain⟨k,e⟩:=f7.1 f;refine⟨by simp[d],i,k,e, λj g=> ?_⟩;have:=q j _ g (an oM);by_cases b:ts[j].func=a
 . simp only[b,kW]at this;simp[this]
 simp[b]
def DZ(b:List MB)(l:List Int)(a:Int):Prop:=∃z∈l,∃m,b[z.toNat]?=K m/\m.cz<=a/\a<=m.last
def Qn(xs:List MI)(k a:Int):Prop:=∃x,xs[a.toNat]?=K x/\(x.op=3\/x.op=27)/\x.a=k
def J8(xs:List MI)(m:MB):Int:=match xs[m.last.toNat]? with|some x=>if x.op=25 then m.last-1 else m.last|none=>m.last
def BR(b:List MC)(xs:List MI)(m:MB)(c:MT):Prop:=m.cz<=J8 xs m-1/\∃x y v,xs[(J8 xs m-1).toNat]?=K x/\xs[(J8 xs m).toNat]?=K y/\x.op=1/\y.op=3/\y.a=c.eI/\b[x.a.toNat]?=K v/\v.type=3/\v.word=c.init
def Ku(d:List MC)(xs:List MI)(a:List MB)(l:ML)(c:MT):Prop:=∃(b:Nat) (m:MB),a[b]?=K m/\l.head∈m.next/\¬((b:Int)∈l.aC)/\¬BR d xs m c
def A6 (p:MP)(e:Int)(xs:List MI)(b:List MB)(l:ML)(n:Int):Prop:=∃d,b[l.head.toNat]?=K d/\
 ((Da p.bO e d.cz=M/\n=1)\/∃c g,Da p.bO e d.cz=K c/\xs[d.cz.toNat]?=K g/\
   ((¬ (g.op=27/\g.a=c.eI)/\n=2)\/((g.op=27/\g.a=c.eI)/\
     ((DZ b l.aC g.c/\n=3)\/(¬DZ b l.aC g.c/\
       (((∃a,DZ b l.aC a/\a≠d.cz/\Qn xs c.eI a)/\n=4)\/((¬∃a,DZ b l.aC a/\a≠d.cz/\Qn xs c.eI a)/\
         (((l.head=0\/Ku p.b8 xs b l c)/\n=5)\/(¬(l.head=0\/Ku p.b8 xs b l c)/\n=0)))))))))
theorem A6.one{p:MP}{j:Int}{e:List MB}{l:ML}{n k:Int}(h:A6 p j xs e l n)(b:A6 p j xs e l k):n=k:=by
 obtain⟨t,m,h⟩:=h;obtain⟨u,f,b⟩:=b;obtain rfl:t=u:=by rw[m]at f;exact jM f
 rcases h with⟨q,rfl⟩|⟨c,g,q,r,h⟩<;>rcases b with⟨d,rfl⟩|⟨c',s,d,i,b⟩
 . rfl
 . rw[q]at d;cases d
 . rw[q]at d;cases d
 obtain rfl:c=c':=by rw[q]at d;exact jM d
 obtain rfl:g=s:=by rw[r]at i;exact jM i
 rcases h with⟨a,rfl⟩|⟨a,h⟩<;>rcases b with⟨a',rfl⟩|⟨a',b⟩
 . rfl
 . exact absurd a' a
 . exact absurd a a'
 rcases h with⟨a,rfl⟩|⟨a,h⟩<;>rcases b with⟨a',rfl⟩|⟨a',b⟩
 . rfl
 . exact absurd a a'
 . exact absurd a' a
 rcases h with⟨a,rfl⟩|⟨a,h⟩<;>rcases b with⟨a',rfl⟩|⟨a',b⟩
 . rfl
 . exact absurd a a'
 . exact absurd a' a
 rcases h with⟨a,rfl⟩|⟨a,rfl⟩<;>rcases b with⟨a',rfl⟩|⟨a',rfl⟩
 . rfl
 . exact absurd a a'
 . exact absurd a' a
 rfl
theorem CU{t:Int}(h:Fd t=true):¬t=0:=by unfold Fd at h;simp at h;omega
theorem Sk{xs:List Int}(h:xs.all Fd=true){k:Nat}{x:Int}(a:xs[k]?=K x):Fd x=true:=lX.1 h x (hC a)
theorem Jq{f:MF}(a:Cj f)(n:Int):Jg f n↔¬AJ f n=0:=by
 constructor
 . rintro⟨d,j⟩;obtain⟨k,rfl⟩:=jW d;by_cases q:k< ↑f.aD
   . rw[Rb (an q)];exact CU (Sk a.pt (an q))
   have b:k-↑f.aD<f.a7.length:=oM
   have e:=Q9 (f:=f) (an b);have c:((f.aD:Int)+((k-↑f.aD:Nat):Int))=(k:Int):=oM
   rw[c]at e;rw[e];exact CU (Sk a.lt (an b))
 intro h;by_cases g:n<0
 . exact absurd (KP g) h
 by_cases i:(f.aD:Int)+ ↑f.a7<=n
 . exact absurd (Ra i) h
 exact⟨oM,oM⟩
theorem FQ{p:MP}{a b:Nat}{l:List Int}(d:p.az.length=3)(c:p.az[a]?=K l):CJ p a b=l.getD b 0:=Ei (by have:=(f7.1 c).1;omega) c
theorem LN{p:MP}(d:A7 p.az)(a b:Int):¬CJ p a b=0↔∃l,0<=a/\p.az[a.toNat]?=K l/\0<=b/\b<(l.length:Int):=by
 constructor
 . intro h;have r:¬(a<0\/2<a\/b<0):= λe=>h (LM e)
   obtain⟨i,rfl⟩:=jW (show 0<=a from oM);obtain⟨j,rfl⟩:=jW (show 0<=b from oM);(have g:i<p.az.length:=by have:=d.1;omega);rw[FQ d.1 (an g)]at h;refine⟨p.az[i],oM,by rw[i9];exact an g,oM,?_⟩;by_cases f:j<p.az[i].length
   . omega
   exact absurd (by rw[jQ,kO oM];rfl) h
 rintro⟨l,k,c,m,q⟩;obtain⟨i,rfl⟩:=jW k;obtain⟨j,rfl⟩:=jW m;rw[i9]at c;rw[FQ d.1 c];have f:j<l.length:=oM;have e:l.getD j 0=l[j]:=by rw[jQ,an f];rfl
 rw[e];have n:=d.2 i (f7.1 c).1 l c;exact CU (Sk n.2 (an f))
theorem Ix{p:MP}(h:A7 p.az)(op a b:Int)(m:op=4\/op=5\/op=6\/op=7):Df p op a b↔¬CJ p a b=0/\((op=4\/op=6)\/¬a=0):=by
 rw[LN h];constructor
 . rintro⟨l,c,d,e,f,g⟩;refine⟨⟨l,c,d,e,f⟩,?_⟩;by_cases q:a=0
   . left;by_cases i:op=5\/op=7
     . exact absurd ⟨i,q⟩ g
     omega
   exact .inr q
 rintro⟨⟨l,c,d,e,f⟩,g⟩;exact⟨l,c,d,e,f, λ⟨j,k⟩=>oM⟩
theorem S5{p:MP}(i:A7 p.az){a b:Nat}{l:List Int}(f:p.az[a]?=K l)(n:b< ↑l)(c:Int):GJ (l.drop b) c↔OR p a b c:=by
 have v:=i.2 a (f7.1 f).1 l f;have cell:∀j:Nat,CJ p (a:Int) ((b:Int)+(j:Int))=l.getD (b+j) 0:= λj=>by have:=FQ (b:=b+j) i.1 f;rw[Int.natCast_add]at this;exact this
 have m:CJ p (a:Int) (b:Int)=l.getD b 0:=FQ i.1 f;have g:∀j:Nat,(l.drop b)[j]?=l[b+j]?:= λj=>by rw[mh]
 constructor
 . intro h;have u:=h.fS;rw[kZ]at u;have w:=h.low;have y:=v.1;refine⟨h.low,oM,h.gv,?_, λj d=> ?_⟩
   . rw[LN i];exact⟨l,oM,by rw[i9];exact f,oM,oM⟩
   have:=h.one j d;rw[g,g]at this;rw[cell,m,jQ,jQ,this];rfl
 intro h;have t:∀j:Nat,(j:Int)<=c->b+j<l.length:= λj d=>by
  have e:=h.one j d;have s:=h.there;rw[<-e,cell]at s;by_cases q:b+j< ↑l
  . exact q
  exact absurd (by rw[jQ,kO oM];rfl) s
 obtain⟨k,rfl⟩:=jW h.low;have x:=t k oM;refine⟨h.low,by rw[kZ];omega,h.gv, λj d=> ?_⟩;have r:=t j d;have e:=h.one j d;rw[cell,m,jQ,jQ,an r,an n]at e;rw[g,g,jV,an r,an n];simpa using e
structure Ly(D:DataW Unit)(left:Lit->Bool)(zs:List Int):Prop where
 nodup:zs.Nodup
 mem:∀z,z∈zs↔Fb z/\Go.Maps.has D (.int Af z)=true/\left (.int Af z)=false
theorem Ly.start(D:DataW Unit):Ly D (Go.Maps.has D) []:=⟨List.nodup_nil, λz=>⟨λh=>(by cases h), λh=>by rw[h.2.1]at h;exact absurd h.2.2 sP⟩⟩
theorem DT(z x:Int):(Lit.int Af z).sameKey (.int Af x)=decide (z=x):=by
 by_cases h:z=x
 . subst h;simp[Lit.sameKey]
 rw[Go.Maps.sameKey_ne (λe=>h (by cases e;rfl))];simp[h]
theorem Ly.step{D:DataW Unit}{left:Lit->Bool}{g:List Int}{x:Int}{y:DataW Unit}(h:Ly D left g)(hw:Fb x)(l:left (.int Af x)=true)(k:∀n,D.atKey (.int Af x) n=y):Ly D (λz=>left z&& !z.sameKey (.int Af x)) (g++[x]):=by
 have m:x∉g:= λe=>by have:=((h.mem x).1 e).2.2;rw[l]at this;cases this
 refine⟨?_, λz=> ?_⟩
 . rw[mX];refine⟨h.nodup,sP,?_⟩;intro a j b i;simp only[jK,jO,kM]at i;subst i;exact λe=>m (e▸j)
 rw[jL,h.mem];simp only[jK,jO,kM,DT];constructor
 . rintro(⟨c,d,f⟩|rfl)
   . exact⟨c,d,by simp[f]⟩
   exact⟨hw,Go.Maps.has_true_of_atKey k,sP⟩
 rintro⟨c,d,f⟩;by_cases e:z=x
 . exact .inr e
 refine .inl ⟨c,d,?_⟩;simpa[e]using f
theorem Dj(a:List Int):Ad As a=a.map (Value.int Af):=by
 induction a with
 |nil=>rfl
 |cons z r b=>simp[As,b]
theorem OA(d:List Int)(h:d.Nodup):(d.mergeSort λx y=>decide (x<=y)).Pairwise (· < ·):=by have e:(d.mergeSort λx y=>decide (x<=y)).Pairwise (λa b=>decide (a<=b)=true):=List.pairwise_mergeSort (λa b c e f=>by simp at*;omega) (λa b=>oT) d;have f:(d.mergeSort λx y=>decide (x<=y)).Nodup:=(mS d _).nodup_iff.2 h;refine(e.and f).imp ?_;rintro a b ⟨g,i⟩;simp at g;omega
theorem Ja(b f:Nat)(D:DataW Unit)(w:Y)(aR:f<=1048576)(h:AP w b f D):
 Ai Aq 60 #[.map (K b)] w λe C=>∃(g cap:Nat) (a:List Int),e=Am (Z g a cap)/\Ab C w 2 1 (Z g a cap) a (Ad As a)/\a.Pairwise (· < ·)/\(∀z,z∈a↔Fb z/\Go.Maps.has D (.int Af z)=true)/\Ah w w C:=by
 obtain⟨i0,L,R,S,T⟩:=km Cy;have n:w.ownsMap Aq 2 (unitElem (H:=Unit)) b f D:=h;have ae:=n.lt;have aX:=n.size_le;clear h;go_enter func60,ntmps60;go_wp2_with (first
  |(at_len;refine wpList_len_own _ rfl _ 164 rfl 2 89 underlying164 _ b f _ rfl n ?_)
  |(at_make;refine wpList_make_own _ rfl _ _ 27 rfl w 2 i0 (iZ 0) 1 underlying27 L R S _ _ _ (Go.Maps.size D) rfl rfl rfl (by rw[T];omega) oX lR ?_;intro E aI m)
  |(at_range;refine wpList_range_own _ rfl _ 164 rfl 2 89 Fe underlying164 _ b f _ rfl (n.kept m sP) ?_;intro w0 aH G aW)
  |go_in)
 go_frame;go_loopw [3] (λv wr=>∃(left:Lit->Bool) (r:Nat) (a:List Int),wr.ranges Aq 2 (unitElem (H:=Unit)) b E f D left r/\ ↑a+r<=Go.Maps.size D/\Ab wr w 2 1 v a (a.map (Value.int Af))/\v≠sN/\Ly D left a/\Ah w w wr) (λ_ wr=>wr.rangeLeft b E)
 case atStart=>exact⟨_,_,[],aH,sP,aI.kept G (Or.inr (by simp[Value.ownBlock])),sP,Ly.start D,((jZ _ _).grown m lR (λj d=>by cases d)).grown G m.size (λj d=>by cases d)⟩
 case round=>
  obtain⟨left,r,a,A,aS,B,aF,s,i⟩:=hrel;go_wp2_with (first
   |(at_next;refine wpList_next_ranges _ rfl _ rfl 2 Fe (unitElem (H:=Unit)) (Value.int Af) (λ(_:Unit)=>Value.agg #[]) (λaY kl hk=>by obtain⟨x,hx,_⟩:=Go.Maps.keyOf_int_inv underlying2 hk;exact⟨x,hx⟩) (λv y Q=>by obtain⟨rfl,_⟩:=unitElem_inv Q;exact⟨(),rfl⟩) b E f _ _ _ rfl A ?_ ?_)
   |go_in)
  . intro aQ aq;rcases B.2 with⟨aA,_⟩|⟨g,cap,aO,rfl,F,t,W,X,h3,h4⟩
    . exact absurd aA aF
    have hH:Go.Sort.Holds (Value.int Af) wr g 0 a.toArray:=holds_of_blockI t (by simpa using h4);have ai:g<wr.heap.size:=(jS.1 t).1;have hc:=RL g cap a wr hH ai oM;have k:Ae ((a.mergeSort λx y=>decide (x<=y)).Pairwise (· < ·)/\(∀z,z∈(a.mergeSort λx y=>decide (x<=y))↔Fb z/\Go.Maps.has D (.int Af z)=true)/\(a.mergeSort λx y=>decide (x<=y)).length= ↑a):=by refine⟨OA a s.nodup, λz=> ?_,(mS a _).length_eq⟩;rw[(mS a _).mem_iff,s.mem];exact⟨λq=>⟨q.1,q.2.1⟩, λq=>⟨q.1,q.2,aq _⟩⟩
    go_wp2_with (go_at_call 64;refine hc.mono ?_;rintro e C ⟨rfl,nn,os,rfl⟩);go_ret;refine⟨g,cap,a.mergeSort λx y=>decide (x<=y),?_,?_,k.1,k.2.1,i.grown (grownBy_sortedI _) i.size (λj d=>by cases d;exact F)⟩
    . rw[k.2.2];rfl
    rw[k.2.2,Dj];exact ownsRow_sortedI k.2.2 F t W X h3
  intro x c kl y w2 U aj au Q aa N ax l aJ aT;obtain⟨x',V,rfl,aM⟩:=Go.Maps.keyOf_int_inv underlying2 aj;obtain rfl:x=x':=by cases V;rfl
  have p:=B.kept l (Or.inr (Go.row_ne_iter B A).symm);clear aJ;go_wp2_with (first
   |(at_builtin;refine wpList_append_own _ rfl _ _ 27 rfl w 2 i0 (iZ 0) 1 8 underlying27 L R S T rfl dC _ _ _ rfl (p.alloc _) w2 1 1 [x] rfl rfl (Go.cell_one_new _ _ _) (λu P=>by simp at P;subst P;rfl) oX oM (by have:=i.size;have:=l.size;simp;omega) ?_;intro v' w3 aG I aE;go_frame)
   |go_in)
  have O:=(N.alloc (Ak #[x] 2)).kept I (Go.row_ne_low p ae) (Go.row_ne_iter p N);go_roundw;case rel=>refine⟨_,U,a++[x],O,oT,by simpa using aG, λaK=>by have:=(aE.1 aK).2;omega,s.step aM au aa,?_⟩;exact((i.grown l i.size (λj d=>by cases d;exact m.size)).alloc (by have:=i.size;have:=l.size;omega) _).grown I (by have:=i.size;have:=l.size;simp;omega) (λj d=>(p.lt j d).1)
  case measure=>rw[O.left_eq,A.left_eq];exact ax
structure LV where
 h:Int
 xa:Option Addr
 xn:Nat
 xc:Nat
 ya:Option Addr
 yn:Nat
 yc:Nat
instance:Inhabited LV:=⟨⟨0,none,0,0,none,0,0⟩⟩
def LV.enc(x:LV):List Value:=[.int .i64 x.h,.slice x.xa x.xn x.xc,.slice x.ya x.yn x.yc]
def LV.cmp(x y:LV):Int:=if x.yn<y.yn then -1 else if y.yn<x.yn then 1 else if x.h<y.h then -1 else if y.h<x.h then 1 else 0
theorem LV.lt_iff(x y:LV):ltOf LV.cmp x y=decide (x.yn<y.yn\/x.yn=y.yn/\x.h<y.h):=by
 unfold ltOf LV.cmp;by_cases h1:x.yn<y.yn
 . simp[h1]
 by_cases h2:y.yn<x.yn
 . have:¬(x.yn<y.yn\/x.yn=y.yn/\x.h<y.h):=by omega
   simp[h1,h2];omega
 have e:x.yn=y.yn:=by omega
 by_cases h3:x.h<y.h
 . simp[e,h3]
 by_cases h4:y.h<x.h<;>simp[e,h3,h4]
theorem LV.swo:Go.Sort.SWO (ltOf LV.cmp) where
 irrefl x:=by rw[LV.lt_iff];simp
 trans x y z h1 h2:=by rw[LV.lt_iff]at*;simp at*;omega
 ntrans x y z h1 h2:=by rw[LV.lt_iff]at*;simp at*;omega
structure Na(E:Nat->List Nat)(n:Nat)(D:Nat->Nat->Bool)(Dn:Nat->Prop)(J:Nat->Nat):Prop where
 st:∀b,b<n->(J b=b/\∀h,Dn h->¬AU E D n h b)\/(Dn (J b)/\AU E D n (J b) b/\∀h,Dn h->AU E D n h b->∀y,AU E D n h y->AU E D n (J b) y)
 dl:∀h,Dn h->h<n
structure YR(E:Nat->List Nat)(n:Nat)(D:Nat->Nat->Bool)(Dn:Nat->Prop)(J:Nat->Nat)(inn:Nat->Prop)(h:Nat):Prop where
 lt:∀b,inn b->b<n
 hd:inn h
 pr:∀b,inn b->b≠h->∀p,p<n->b∈E p->inn p
 dn:∀x,inn x->x≠h->AO E D n x≠[]->Dn x
 jh:J h=h
 jo:∀b,inn b->J b=h->b=h
 z:inn 0->h=0
section
variable {E:Nat->List Nat} {n:Nat} {pl:Nat->Nat} {D:Nat->Nat->Bool} {Dn:Nat->Prop} {J:Nat->Nat} {inn:Nat->Prop} {a b h k x y p:Nat}
theorem Iq.same(g:Iq E n pl D)(e:a<n)(f:b<n)(c:∀y,AU E D n a y->AU E D n b y)(d:∀y,AU E D n b y->AU E D n a y):a=b:=(Ed.gm g.P e f (g.fp (c a (.inl rfl))) (g.fp (d b (.inl rfl)))).symm
theorem Na.gj(g:Iq E n pl D)(s:Na E n D Dn J)(c:b<n):Ed E (J b) b/\J b<n/\pl (J b)<=pl b:=by
 have a:Ed E (J b) b:=by
  rcases s.st b c with⟨h,_⟩|⟨_,h,_⟩
  . rw[h];exact Ed.iy _ _
  exact g.fp h
 exact⟨a,Pf g.P g.R c a,(a.gq g.P c).2.1⟩
theorem YR.fQ(g:Iq E n pl D)(s:Na E n D Dn J)(r:YR E n D Dn J inn h)(I:inn b)(i:x∈E b)(v:inn x)(G:J x≠J b)(H:J x≠h):J x=x/\pl b<pl x:=by
 have c:=r.lt b I;have w:=r.lt x v;have N:x≠h:= λe=>H (by rw[e,r.jh])
 have z:∀k,Dn k->AU E D n k b->AU E D n k x->J x=k->False:= λk d p t a=>by
  rcases s.st b c with⟨_,q⟩|⟨f,l,A⟩
  . exact q k d p
  rcases s.st x w with⟨_,u⟩|⟨P,Q,C⟩
  . exact u k d t
  rw[a]at C;have m:=A k d p;have F:=C _ f (m x t);exact G (by rw[a];exact g.same (s.dl k d) (s.dl _ f) m F)
 have a:J x=x:=by
  rcases s.st x w with⟨q,_⟩|⟨f,l,A⟩
  . exact q
  by_cases e:x=J x
  . exact e.symm
  exact(z _ f (Iq.pred l e c i) l rfl).elim
 refine⟨a,?_⟩;rcases Nat.lt_or_ge (pl b) (pl x)with j|j
 . exact j
 obtain⟨y,O⟩:=g.head c i (g.B b c x i j);have L:=r.dn x v N (λe=>by rw[e]at y;cases y);exact(z x L O (.inl rfl) a).elim
theorem YR.jD(g:Iq E n pl D)(s:Na E n D Dn J)(r:YR E n D Dn J inn h)(f:inn a)(i:inn b)(j:x∈E b)(k:inn x)(c:J x≠J b)(d:J x≠h)(e:J x=J a):pl b<pl a:=by obtain⟨l,m⟩:=r.fQ g s i j k c d;have:=(s.gj g (r.lt a f)).2.2;rw[<-e,l]at this;omega
structure YO(E:Nat->List Nat)(inn:Nat->Prop)(J:Nat->Nat)(h:Nat)(C t:Nat->Int):Prop where
 hd:t h=C h
 ed:∀b x,inn b->x∈E b->inn x->J x≠J b->J x≠h->t (J b)+C (J x)<=t (J x)
structure qJ(E:Nat->List Nat)(inn:Nat->Prop)(J:Nat->Nat)(h:Nat)(C s:Nat->Int):Prop where
 clo:YO E inn J h C s
 le:∀t,YO E inn J h C t->∀b,inn b->s (J b)<=t (J b)
theorem qJ.one{s s':Nat->Int}(a:qJ E inn J h C s)(c:qJ E inn J h C s')(d:inn b):s (J b)=s' (J b):=Int.le_antisymm (a.le _ c.clo b d) (c.le _ a.clo b d)
theorem YO.gW{t:Nat->Int}(g:Iq E n pl D)(r:YR E n D Dn J inn h)(f:∀c,0<=C c)(ht:YO E inn J h C t)(s:inn b):0<=t (J b):=by
 suffices ∀m b,pl b<=m->inn b->0<=t (J b)from this _ b lR s
 intro m;induction m with
 | zero=>
   intro b p a;by_cases e:b=h
   . rw[e,r.jh,ht.hd];exact f _
   (have d:b≠0:= λq=>by subst q;exact e (r.z a).symm);have:=g.P.cz b (r.lt b a) d;omega
 | succ m v=>
   intro b p a;by_cases e:b=h
   . rw[e,r.jh,ht.hd];exact f _
   (have d:b≠0:= λq=>by subst q;exact e (r.z a).symm);obtain⟨q,w,l,y⟩:=g.P.par b (r.lt b a) d;have k:=r.pr b a e q w l;have u:=v q oM k;by_cases i:J b=J q
   . rw[i];exact u
   by_cases j:J b=h
   . exact absurd (r.jo b a j) e
   have x:=ht.ed q b k l a i j;have:=f (J b);omega
structure Wn(E:Nat->List Nat)(n:Nat)(D L:Nat->Nat->Bool)(Dn:Nat->Prop)(h:Nat):Prop where
 lt:h<n
 il:∀h y,L h y=true↔AU E D n h y
 s1:∀x,AO E D n x≠[]->((List.range n).filter (L x)).length<((List.range n).filter (L h)).length->Dn x
 s2:∀k,Dn k->k≠h/\((List.range n).filter (L k)).length<=((List.range n).filter (L h)).length
theorem Wn.less(g:Iq E n pl D)(c:∀h y,L h y=true↔AU E D n h y)(f:a<n)(d:∀y,AU E D n b y->AU E D n a y)(e:¬AU E D n b a):((List.range n).filter (L b)).length<((List.range n).filter (L a)).length:=QW _ _ n a (λk _ i=>(c _ _).2 (d k ((c _ _).1 i))) f (by rw[<-Bool.not_eq_true,c];exact e) ((c _ _).2 (.inl rfl))
theorem Wn.within(g:Iq E n pl D)(s:Na E n D Dn J)(q:Wn E n D L Dn h)(a:Dn k)(c:AU E D n h b)(d:AU E D n k b):(∀y,AU E D n k y->AU E D n h y)/\¬AU E D n k h:=by
 rcases g.ij q.lt (s.dl k a) c d (Ne.symm (q.s2 k a).1)with i|⟨e,f⟩
 . exact i
 have:=Wn.less g q.il (s.dl k a) e f;have:=(q.s2 k a).2;omega
theorem Wn.rgn(g:Iq E n pl D)(s:Na E n D Dn J)(q:Wn E n D L Dn h):YR E n D Dn J (AU E D n h) h where
 lt b hb:=g.fv q.lt hb
 hd:=.inl rfl
 pr b hb hn p hp he:=Iq.pred hb hn hp he
 dn x hx hn hh:=by
  rcases g.ij q.lt (g.fv q.lt hx) hx (.inl rfl) (Ne.symm hn)with⟨a,c⟩|⟨a,c⟩
  . exact q.s1 x hh (Wn.less g q.il q.lt a c)
  exact absurd hx c
 jh:=by
  rcases s.st h q.lt with⟨i,_⟩|⟨a,c,_⟩
  . exact i
  exact absurd c (q.within g s a (.inl rfl) c).2
 jo b hb e:=by
  rcases s.st b (g.fv q.lt hb)with⟨i,_⟩|⟨a,_,_⟩
  . rw[<-i,e]
  rw[e]at a;exact absurd rfl (q.s2 h a).1
 z h0:=(g.fp h0).fO
theorem Wn.step(g:Iq E n pl D)(s:Na E n D Dn J)(q:Wn E n D L Dn h):Na E n D (λk=>Dn k\/k=h) (λb=>if L h b then h else J b) where
 st b hb:=by
  by_cases e:L h b=true
  . simp only[e,if_true];refine .inr ⟨sP,(q.il _ _).1 e, λk a c=> ?_⟩;rcases a with a|rfl
    . exact(q.within g s a ((q.il _ _).1 e) c).1
    exact λ_ h=>h
  simp only[jH e];have j:¬AU E D n h b:= λi=>e ((q.il _ _).2 i)
  rcases s.st b hb with⟨d,f⟩|⟨d,f,l⟩
  . exact .inl ⟨d, λk a=>a.elim (f k) (λe=>e▸j)⟩
  exact .inr ⟨.inl d,f, λk a c=>a.elim (λa=>l k a c) (λe=>absurd (e▸c) j)⟩
 dl k a:=a.elim (s.dl k) (λe=>e▸q.lt)
theorem Na.whole(g:Iq E n pl D)(s:Na E n D Dn J)(d:∀x,AO E D n x≠[]->Dn x)(c:¬Dn 0):YR E n D Dn J (λb=>b<n) 0 where
 lt b hb:=hb
 hd:=g.P.pos
 pr b hb hn p hp he:=hp
 dn x hx hn hh:=d x hh
 jh:=by
  rcases s.st 0 g.P.pos with⟨i,_⟩|⟨a,f,_⟩
  . exact i
  have:=(g.fp f).fO;rw[this]at a;exact absurd a c
 jo b hb e:=by
  rcases s.st b hb with⟨i,_⟩|⟨a,_,_⟩
  . rw[<-i,e]
  rw[e]at a;exact absurd a c
 z _:=rfl
end
end Go.Proofs.YtkgohaigebcgoaaGreatDoor
