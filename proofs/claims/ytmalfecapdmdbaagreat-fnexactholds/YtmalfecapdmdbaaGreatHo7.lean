import Derived.Test.YtmalfecapdmdbaaGreatHo3
import Derived.Shelf.SlSortCmp.WholeK
import Derived.Ground.SlsfProg
import Derived.Maps.RangeWalk
import Derived.Sort.KeysCollected
import Derived.Maps.AppendAt
import Derived.Shelf.SlicesG.Reverse
import Derived.Shelf.Bits.Mul64
import Derived.Shelf.Lay
import Derived.Ground.NamesProg
namespace Go.Proofs
open Go.Shelf
def Tryz.lSortF_ren:Go.Shelf.Ren:=⟨λ |6=>164|15=>153|14=>182|28=>177|29=>178|20=>203|21=>204|22=>205|23=>206|24=>207|25=>208|26=>209|27=>210|46=>217|47=>199|48=>200|49=>218|50=>219|57=>220|n=>n, λ |22=>78|24=>85|25=>225|3=>3|39=>234|0=>0|53=>86|55=>227|4=>4|46=>248|45=>247|50=>211|5=>5|9=>9|66=>262|70=>266|76=>276|77=>277|n=>n, λ |n=>n⟩
theorem Tryz.lSortF:Go.Proofs.SlLaysF0.n6 Tryz.prog Tryz.lSortF_ren:={
 mixed:=by kernel_rfl
 f6:=⟨Tryz.f164.name,by decide,Tryz.func164.trans (congrArg some (by kernel_rfl))⟩
 f14:=⟨Tryz.f182.name,by decide,Tryz.func182.trans (congrArg some (by kernel_rfl))⟩
 f15:=Tryz.func153.trans (congrArg some (by kernel_rfl))
 f20:=⟨Tryz.f203.name,by decide,Tryz.func203.trans (congrArg some (by kernel_rfl))⟩
 f21:=⟨Tryz.f204.name,by decide,Tryz.func204.trans (congrArg some (by kernel_rfl))⟩
 f22:=⟨Tryz.f205.name,by decide,Tryz.func205.trans (congrArg some (by kernel_rfl))⟩
 f23:=⟨Tryz.f206.name,by decide,Tryz.func206.trans (congrArg some (by kernel_rfl))⟩
 f24:=⟨Tryz.f207.name,by decide,Tryz.func207.trans (congrArg some (by kernel_rfl))⟩
 f25:=⟨Tryz.f208.name,by decide,Tryz.func208.trans (congrArg some (by kernel_rfl))⟩
 f26:=⟨Tryz.f209.name,by decide,Tryz.func209.trans (congrArg some (by kernel_rfl))⟩
 f27:=⟨Tryz.f210.name,by decide,Tryz.func210.trans (congrArg some (by kernel_rfl))⟩
 f28:=Tryz.func177.trans (congrArg some (by kernel_rfl))
 f29:=Tryz.func178.trans (congrArg some (by kernel_rfl))
 f46:=⟨Tryz.f217.name,by decide,Tryz.func217.trans (congrArg some (by kernel_rfl))⟩
 f47:=Tryz.func199.trans (congrArg some (by kernel_rfl))
 f48:=Tryz.func200.trans (congrArg some (by kernel_rfl))
 f49:=⟨Tryz.f218.name,by decide,Tryz.func218.trans (congrArg some (by kernel_rfl))⟩
 f50:=⟨Tryz.f219.name,by decide,Tryz.func219.trans (congrArg some (by kernel_rfl))⟩
 f57:=⟨Tryz.f220.name,by decide,Tryz.func220.trans (congrArg some (by kernel_rfl))⟩
 t0:=Tryz.underlying0
 a0:=Tryz.isAgg0
 z0:=Tryz.sizeOf0
 v0:=Tryz.zeroValue0
 t3:=Tryz.underlying3
 a3:=Tryz.isAgg3
 z3:=Tryz.sizeOf3
 v3:=Tryz.zeroValue3
 t4:=Tryz.underlying4
 a4:=Tryz.isAgg4
 z4:=Tryz.sizeOf4
 v4:=Tryz.zeroValue4
 t5:=Tryz.underlying5
 a5:=Tryz.isAgg5
 z5:=Tryz.sizeOf5
 v5:=Tryz.zeroValue5
 t9:=Tryz.underlying9
 a9:=Tryz.isAgg9
 z9:=Tryz.sizeOf9
 v9:=Tryz.zeroValue9
 t22:=Tryz.underlying78
 a22:=Tryz.isAgg78
 z22:=Tryz.sizeOf78
 v22:=Tryz.zeroValue78
 t25:=Tryz.underlying225
 a25:=Tryz.isAgg225
 z25:=Tryz.sizeOf225
 v25:=Tryz.zeroValue225
 t39:=Tryz.underlying234
 a39:=Tryz.isAgg234
 z39:=Tryz.sizeOf234
 v39:=Tryz.zeroValue234
 t45:=Tryz.underlying247
 a45:=Tryz.isAgg247
 z45:=Tryz.sizeOf247
 v45:=Tryz.zeroValue247
 t46:=Tryz.underlying248
 a46:=Tryz.isAgg248
 z46:=Tryz.sizeOf248
 v46:=Tryz.zeroValue248
 t50:=Tryz.underlying211
 a50:=Tryz.isAgg211
 z50:=Tryz.sizeOf211
 v50:=Tryz.zeroValue211
 t53:=Tryz.underlying86
 a53:=Tryz.isAgg86
 z53:=Tryz.sizeOf86
 v53:=Tryz.zeroValue86
 t55:=Tryz.underlying227
 a55:=Tryz.isAgg227
 z55:=Tryz.sizeOf227
 v55:=Tryz.zeroValue227
 t66:=Tryz.underlying262
 a66:=Tryz.isAgg262
 z66:=Tryz.sizeOf262
 v66:=Tryz.zeroValue262
 t70:=Tryz.underlying266
 a70:=Tryz.isAgg266
 z70:=Tryz.sizeOf266
 v70:=Tryz.zeroValue266
 t76:=Tryz.underlying276
 a76:=Tryz.isAgg276
 z76:=Tryz.sizeOf276
 v76:=Tryz.zeroValue276
 t77:=Tryz.underlying277
 a77:=Tryz.isAgg277
 z77:=Tryz.sizeOf277
 v77:=Tryz.zeroValue277}
end Go.Proofs
namespace Go.Proofs
open Go.Shelf
def Tryz.lReverse_ren:Go.Shelf.Ren:=⟨λ |35=>133|n=>n, λ |22=>46|23=>2|3=>3|4=>4|0=>0|n=>n, λ |n=>n⟩
theorem Tryz.lReverse:Go.Proofs.SlLaysN.n35 Tryz.prog Tryz.lReverse_ren:={
 mixed:=by kernel_rfl
 f35:=⟨Tryz.f133.name,by decide,Tryz.func133.trans (congrArg some (by kernel_rfl))⟩
 t0:=Tryz.underlying0
 a0:=Tryz.isAgg0
 z0:=Tryz.sizeOf0
 v0:=Tryz.zeroValue0
 t3:=Tryz.underlying3
 a3:=Tryz.isAgg3
 z3:=Tryz.sizeOf3
 v3:=Tryz.zeroValue3
 t4:=Tryz.underlying4
 a4:=Tryz.isAgg4
 z4:=Tryz.sizeOf4
 v4:=Tryz.zeroValue4
 t22:=Tryz.underlying46
 a22:=Tryz.isAgg46
 z22:=Tryz.sizeOf46
 v22:=Tryz.zeroValue46
 t23:=Tryz.underlying2
 a23:=Tryz.isAgg2
 z23:=Tryz.sizeOf2
 v23:=Tryz.zeroValue2}
def Tryz.lMul_ren:Go.Shelf.Ren:=⟨λ |212=>158|263=>179|264=>180|n=>n, λ |46=>234|51=>86|146=>255|53=>227|148=>257|n=>n, λ |n=>n⟩
theorem Tryz.lMul:Go.Proofs.Lays.n212 Tryz.prog Tryz.lMul_ren:={
 mixed:=by kernel_rfl
 f212:=Tryz.func158.trans (congrArg some (by kernel_rfl))
 f263:=Tryz.func179.trans (congrArg some (by kernel_rfl))
 f264:=Tryz.func180.trans (congrArg some (by kernel_rfl))
 t46:=Tryz.underlying234
 a46:=Tryz.isAgg234
 z46:=Tryz.sizeOf234
 v46:=Tryz.zeroValue234
 t51:=Tryz.underlying86
 a51:=Tryz.isAgg86
 z51:=Tryz.sizeOf86
 v51:=Tryz.zeroValue86
 t53:=Tryz.underlying227
 a53:=Tryz.isAgg227
 z53:=Tryz.sizeOf227
 v53:=Tryz.zeroValue227
 t146:=Tryz.underlying255
 a146:=Tryz.isAgg255
 z146:=Tryz.sizeOf255
 v146:=Tryz.zeroValue255
 t148:=Tryz.underlying257
 a148:=Tryz.isAgg257
 z148:=Tryz.sizeOf257
 v148:=Tryz.zeroValue257}
end Go.Proofs
namespace Go.Proofs.YtmalfecapdmdbaaGreat
open Go.ChangeShapes Go.WideShapes Go.ChangeAt Go.RowKit Go.Proofs.Tryz
set_option linter.unusedVariables false
open Go.Value renaming slice → Z,int → Ag,bool → An
open Option renaming some → K,none → M
open Go renaming Value → J,World → Y,Calls → Ai
open Go.IntKind renaming i64 → Af
open Go.RowKit renaming Below → Ah,Hid → Ae
open Go.World renaming setCell → Aa,ownsRow → Ab,alloc → Ac
open List renaming flatMap → Ad
open Go.Obj renaming cells → Ak
open Go.Ending renaming returned → Al
open Go.Proofs.Tryz renaming prog → Ap
set_option maxHeartbeats 8000000
set_option maxRecDepth 100000
variable {l e c:List Nat}{w u:Y}{base:Nat}{xs:List MI}{ts:List MT}{j:Int}{ok g S S':Nat->Prop}{W:World}
def nv(l:List Nat):List J:=l.map λ(k:Nat)=>Ag Af (k:Int)
theorem Tq(l:List Nat):(nv l).length=l.length:=by simp[nv]
theorem Fx(l m:List Nat):nv (l++m)=nv l++nv m:=by simp[nv]
theorem C7(l:List Nat):nv l=Ad As (ints l):=by
 induction l with
 |nil=>rfl
 | cons x r a=>simp only[nv,ints,mX,lD]at a⊢;rw[a];rfl
theorem Ng{k x:Nat}(h:l[k]?=K x):(nv l)[k]?=K ↑x:=by simp[nv,h]
def I5(w:Y)(s:J)(l:List Nat):Prop:=Rd w 1 s l (nv l)
def Gh(w:Y)(base:Nat)(s:J)(l:List Nat):Prop:=Ab w base 2 1 s l (nv l)
theorem Gh.rd{s:J}(h:Gh w base s l):I5 w s l:=Rd.gM h
theorem Gh.a7{w a:Y}{s:J}(h:Gh w base s l)(b:Ah w w a):Gh a base s l:=Aw h b lR
theorem I5.a7{w a:Y}{s:J}(h:I5 w s l)(b:Ah w w a):I5 a s l:=Rd.a7 h b lR
theorem I5.at_{a:Option Addr}{n c:Nat}(h:I5 w (Z a n c) l){k x:Nat}(d:l[k]?=K x):∃g o,a=K ⟨g,o,M⟩/\n= ↑l/\w ⟨g,o+k,M⟩=K ↑x:=by
 rcases h.2 with⟨f,_⟩|⟨g,o,c',b,e⟩
 . have:=(i6.1 d).1;omega
 simp only[i8]at b;obtain⟨rfl,rfl,rfl⟩:=b;exact⟨g,o,rfl,rfl,e k _ (Ng d)⟩
theorem I5.all{a:Option Addr}{n c:Nat}(h:I5 w (Z a n c) l)(i:0<l.length):∃g o,a=K ⟨g,o,M⟩/\n= ↑l/\∀k x:Nat,l[k]?=K x->w ⟨g,o+k,M⟩=K ↑x:=by
 rcases h.2 with⟨f,_⟩|⟨g,o,c',b,d⟩
 . omega
 simp only[i8]at b;obtain⟨rfl,rfl,rfl⟩:=b;exact⟨g,o,rfl,rfl, λk x e=>d k _ (Ng e)⟩
def bv(P:Nat->Bool)(n:Nat):List J:=(List.range n).map λi=>Value.bool (P i)
theorem Hu(P:Nat->Bool)(n:Nat):(bv P n).length=n:=by simp[bv]
theorem KX(P:Nat->Bool)(n i:Nat)(h:i<n):(bv P n)[i]?=K ↑(P i):=by simp[bv,h]
theorem I7{P Q:Nat->Bool}{n:Nat}(h:∀i,i<n->P i=Q i):bv P n=bv Q n:=by unfold bv;apply nF;intro i a;rw[h i (mL.1 a)]
theorem TX{P Q:Nat->Bool}{n i:Nat}{b:Bool}(h:∀j,j<n->Q j=if j=i then b else P j):(bv P n).set i b=bv Q n:=by
 apply mP;intro j;by_cases a:j<n
 . rw[KX _ _ _ a,h j a];by_cases e:j=i
   . subst e;rw[mZ (by rw[Hu];exact a),kZ rfl]
   rw[mr oM,KX _ _ _ a,kP e]
 rw[kW (by simp[Hu];omega),kW (by rw[Hu];omega)]
theorem Hv(n:Nat):List.replicate n (Value.bool false)=bv (λ_=>false) n:=by
 apply mP;intro j;by_cases a:j<n
 . rw[KX _ _ _ a];simp[a]
 rw[kW oT,kW (by rw[Hu];omega)]
def Gm(w:Y)(base g n:Nat)(P:Nat->Bool):Prop:=Ab w base 4 1 (Z g n n) n (bv P n)
theorem Gm.a7{w a:Y}{base g n:Nat}{P:Nat->Bool}(h:Gm w base g n P)(b:Ah w w a):Gm a base g n P:=Aw h b lR
theorem Gm.cell{base g n:Nat}{P:Nat->Bool}(h:Gm w base g n P){i:Nat}(a:i<n):w ⟨g,i,M⟩=K ↑(P i):=by have:=lj h i oM;rw[KX _ _ _ a]at this;exact this
theorem Gm.frozen{base g n:Nat}{P:Nat->Bool}(h:Gm w base g n P)(i:Nat):w.frozen? ⟨g,i,M⟩=false:=oH h i
theorem Gm.set{base g n:Nat}{P Q:Nat->Bool}(h:Gm w base g n P)(i:Nat)(b:Bool)(a:∀j,j<n->Q j=if j=i then b else P j):Gm (Aa w ⟨g,i,M⟩ b) base g n Q:=by have:=(mI h i b).1;rw[TX a]at this;exact this
def Km(w:Y)(g o n:Nat)(E:Nat->List Nat):Prop:=∀b,b<n->∃a c,w ⟨g,o+b*3+2,M⟩=K (Z a (E b).length c)/\I5 w (Z a (E b).length c) (E b)
theorem Km.a7{e:Y}{g o n:Nat}{E:Nat->List Nat}(h:Km w g o n E)(d:Ah w w e):Km e g o n E:= λb j=>by obtain⟨a,c,f,i⟩:=h b j;exact⟨a,c,Au d f,i.a7 d⟩
theorem Kp.ir{V:J}(k:A3 xs)(h:Kp w V (AM xs)):∃g o c,V=Z (K ⟨g,o,M⟩) (AM xs).length c/\Km w g o (AM xs).length (nx (AM xs))/\∀b m,(AM xs)[b]?=K m->w ⟨g,o+b*3,M⟩=K (Ag Af m.gH):=by
 obtain⟨z,t,u,x⟩:=h;have B:=Hz k;rcases u.2 with⟨A,_⟩|⟨g,o,c,q,j⟩
 . omega
 have l:∀b m,(AM xs)[b]?=K m->∃v,z[b]?=K (m,v):= λb m d=>by rw[<-t,lE]at d;obtain⟨⟨C,v⟩,y,n⟩:=mT.1 d;simp only[]at n;subst n;exact⟨v,y⟩
 refine⟨g,o,c,q, λb i=> ?_, λb m d=> ?_⟩
 . obtain⟨v,f⟩:=l b _ (an i);have r:=x _ (i7 f);have e:=So k (an i);(have p:I5 w v (nx (AM xs) b):=by unfold I5;rw[C7];unfold Vg at r;simp only[e]at r;rw[AZ]at r;exact r);obtain⟨a,cc,s⟩:=Rd.dk p;subst s;exact⟨a,cc,Rd.elem A9 j b _ f 2 _ rfl,p⟩
 obtain⟨v,f⟩:=l b m d;have:=Rd.elem A9 j b _ f 0 _ rfl;rw[kJ]at this;exact this
theorem Pa{L:List Nat}{n b:Nat}{m:MB}(l:L.Pairwise (· < ·))(c:∀x∈L,x<n)(h:(build L n)[b]?=K m):∃a e:Nat,m.gH=(a:Int)/\m.last=(e:Int)/\a<=e/\e<n:=by
 unfold build at h;rw[nH]at h;cases h1:L[b]? with
 |none=>rw[h1]at h;simp at h
 | some a=>
   cases h2:(L.tail++[n])[b]? with
   |none=>rw[h1,h2]at h;simp at h
   | some q=>
     rw[h1,h2]at h;simp only[kI]at h;subst h;have j:=c a (i7 h1);have d:a<q/\q<=n:=by
      by_cases k:b< ↑L.tail
      . rw[lO k]at h2;have d:=nm (i7 h2);refine⟨?_,nw (c q d)⟩;(have i:L[b+1]?=K q:=by rw[<-h2];cases L<;>simp);obtain⟨p,f⟩:=i6.1 h1;obtain⟨r,g⟩:=i6.1 i;rw[<-f,<-g];exact(mi.1 l) b (b+1) p r oM
      rw[kT oM]at h2;have:=i7 h2;simp only[kY,lG,mS]at this;subst this;exact⟨j,Nat.le_refl _⟩
     exact⟨a,q-1,rfl,oS,oM,oM⟩
theorem Ki{b:Nat}{m:MB}(h:(AM xs)[b]?=K m):∃a e:Nat,m.gH=(a:Int)/\m.last=(e:Int)/\a<=e/\e<xs.length:=by unfold AM at h;rw[lE]at h;obtain⟨k,c,rfl⟩:=mT.1 h;rw[Cp]at c;obtain⟨a,e,f,g,i,j⟩:=Pa (Dm _ _) (λx d=>((C6 _ _ _).1 d).1) c;exact⟨a,e,f,g,i,j⟩
structure XK(xs:List MI)(r:DC):Prop where
 len:xs.length<=1024
 nb:r.a8.length<=1024
 two:∀m∈r.a8,m.next.length<=2
 nl:r.gE.length<=1024
 gK:∀(i:Nat) (m:MB),r.a8[i]?=K m->∃a e:Nat,m.gH=(a:Int)/\m.last=(e:Int)/\a<=e/\e< ↑xs
 loop:∀l∈r.gE,(∃h:Nat,l.head=(h:Int)/\h< ↑r.a8)/\(∀z∈l.a8,∃b:Nat,z=(b:Int)/\b< ↑r.a8)/\l.a8.length<=1024/\l.back.length<=2048
theorem Pm{α β:Type}(f:α->List β)(l:List α)(h:∀a∈l,(f a).length<=2):(Ad f l).length<=2*l.length:=by
 induction l with
 |nil=>simp
 | cons a l d=>have e:=h a sP;(have g:=d λb c=>h b (by simp[c]));rw[lD,kE,lX];omega
theorem SP{E:Nat->List Nat}{D:Nat->Nat->Bool}(h:∀b,(E b).length<=2)(n y:Nat):(AH E D n y).length<=2*n:=by have a:=Pm (λp=>((E p).filter λx=>decide (x=y)&&D y p).map λ_=>p) (List.range n) (λp _=>by rw[lC];exact kV (mW _ _) (h p));rw[mM]at a;exact a
theorem Mt{α β:Type}(f:α->Option β)(l:List α):(l.filterMap f).length<=l.length:=List.length_filterMap_le f l
theorem Lz{E:Nat->List Nat}{D L:Nat->Nat->Bool}{n j:Nat}(f:j<=n){l:ML}(h:l∈Bt E D L n j):(∃h:Nat,l.head=(h:Int)/\h<n)/\(∀z∈l.a8,∃b:Nat,z=(b:Int)/\b<n)/\ ↑l.a8<=n/\∃g,l.back=ints (AH E D n g):=by
 unfold Bt at h;obtain⟨g,c,e⟩:=List.mem_filterMap.1 h;split at e
 . cases e
 cases e
 refine⟨⟨g,rfl,by have:=mL.1 c;omega⟩,?_,?_,g,rfl⟩
 . intro z d;obtain⟨b,a,rfl⟩:=lA.1 d;exact⟨b,rfl,mL.1 (mO.1 a).1⟩
 simp only[];rw[AZ];exact kV (mW _ _) sP
theorem Bg.gW{r:DC}(h:Bg xs r)(a:r.eC=0):XK xs r:=by
 cases h with
 |none _=>cases a
 |off _ _ _=>cases a
 |lost _ _ _ _ _ _ _ _=>cases a
 |two _ _ _ _ _ _ _ _=>cases a
 | good g x1 o1 v1 s1 d1 b1 i1 l1=>
   refine⟨g.2.1,Gb g,Gc xs,?_, λi m h=>Ki h, λl f=> ?_⟩
   . simp only[];unfold Bt;exact kV (Mt _ _) (by rw[mM];exact Gb g)
   obtain⟨b,c,d,y,e⟩:=Lz lR f;refine⟨b,c,kV d (Gb g),?_⟩;rw[e,AZ];exact kV (SP (Jk _ (Gc xs)) _ _) (by have:=Gb g;omega)
def Ce(ts:List MT)(a h:Int):Option MT:=ts.find? λc=>decide (c.func=a)&&decide (c.head=h)
theorem J6{a h:Int}(q:∀(j:Nat) (c:MT),ts[j]?=K c->¬(c.func=a/\c.head=h)):Ce ts a h=M:=by unfold Ce;rw[List.find?_eq_none];intro c b;obtain⟨j,d⟩:=lH b;have:=q j c d;simpa using this
theorem J7{a h:Int}{i:Nat}{c:MT}(f:ts[i]?=K c)(d:c.func=a/\c.head=h)(q:∀(j:Nat) (c:MT),j<i->ts[j]?=K c->¬(c.func=a/\c.head=h)):Ce ts a h=K c:=by
 unfold Ce;rw[List.find?_eq_some_iff_getElem];obtain⟨k,e⟩:=i6.1 f;refine⟨by simp[d],i,k,e, λj g=> ?_⟩;have:=q j _ g (an oM);by_cases b:ts[j].func=a
 . simp only[b,lB]at this;simp[this]
 simp[b]
def DB(b:List MB)(l:List Int)(a:Int):Prop:=∃z∈l,∃m,b[z.toNat]?=K m/\m.gH<=a/\a<=m.last
def JA(xs:List MI)(k a:Int):Prop:=∃x,xs[a.toNat]?=K x/\(x.op=3\/x.op=27)/\x.a=k
def Gw(xs:List MI)(m:MB):Int:=match xs[m.last.toNat]? with|some x=>if x.op=25 then m.last-1 else m.last|none=>m.last
def Bl(b:List MC)(xs:List MI)(m:MB)(c:MT):Prop:=m.gH<=Gw xs m-1/\∃x y v,xs[(Gw xs m-1).toNat]?=K x/\xs[(Gw xs m).toNat]?=K y/\x.op=1/\y.op=3/\y.a=c.gI/\b[x.a.toNat]?=K v/\v.type=3/\v.word=c.init
def JX(d:List MC)(xs:List MI)(a:List MB)(l:ML)(c:MT):Prop:=∃(b:Nat) (m:MB),a[b]?=K m/\l.head∈m.next/\¬((b:Int)∈l.a8)/\¬Bl d xs m c
def AP (p:MP)(e:Int)(xs:List MI)(b:List MB)(l:ML)(n:Int):Prop:=∃d,b[l.head.toNat]?=K d/\
 ((Ce p.eD e d.gH=M/\n=1)\/∃c g,Ce p.eD e d.gH=K c/\xs[d.gH.toNat]?=K g/\
   ((¬ (g.op=27/\g.a=c.gI)/\n=2)\/((g.op=27/\g.a=c.gI)/\
     ((DB b l.a8 g.c/\n=3)\/(¬DB b l.a8 g.c/\
       (((∃a,DB b l.a8 a/\a≠d.gH/\JA xs c.gI a)/\n=4)\/((¬∃a,DB b l.a8 a/\a≠d.gH/\JA xs c.gI a)/\
         (((l.head=0\/JX p.ej xs b l c)/\n=5)\/(¬(l.head=0\/JX p.ej xs b l c)/\n=0)))))))))
theorem AP.one{p:MP}{e:List MB}{l:ML}{n k:Int}(h:AP p j xs e l n)(b:AP p j xs e l k):n=k:=by
 obtain⟨t,m,h⟩:=h;obtain⟨u,f,b⟩:=b;obtain rfl:t=u:=by rw[m]at f;exact kH f
 rcases h with⟨q,rfl⟩|⟨c,g,q,r,h⟩<;>rcases b with⟨d,rfl⟩|⟨c',s,d,i,b⟩
 . rfl
 . rw[q]at d;cases d
 . rw[q]at d;cases d
 obtain rfl:c=c':=by rw[q]at d;exact kH d
 obtain rfl:g=s:=by rw[r]at i;exact kH i
 rcases h with⟨a,rfl⟩|⟨a,h⟩<;>rcases b with⟨a',rfl⟩|⟨a',b⟩
 . rfl
 . exact absurd a' a
 . exact absurd a a'
 rcases h with⟨a,rfl⟩|⟨a,h⟩<;>rcases b with⟨a',rfl⟩|⟨a',b⟩
 . rfl
 . exact absurd a a'
 . exact absurd a' a
 rcases h with⟨a,rfl⟩|⟨a,h⟩<;>rcases b with⟨a',rfl⟩|⟨a',b⟩
 . rfl
 . exact absurd a a'
 . exact absurd a' a
 rcases h with⟨a,rfl⟩|⟨a,rfl⟩<;>rcases b with⟨a',rfl⟩|⟨a',rfl⟩
 . rfl
 . exact absurd a a'
 . exact absurd a' a
 rfl
def Iy(a b:ML):Prop:=a.a8.length<b.a8.length\/a.a8.length=b.a8.length/\a.head<b.head
theorem Iy.irr(a:ML):¬Iy a a:= λh=>by rcases h with h|⟨_,h⟩<;>omega
theorem Iy.asy{a b:ML}(h:Iy a b)(c:Iy b a):False:=by rcases h with h|⟨d,e⟩<;>rcases c with c|⟨f,g⟩<;>omega
theorem V7{l l':List ML}(j:l.Pairwise Iy)(k:l'.Pairwise Iy)(c:l.Perm l'):l=l':=by
 induction l generalizing l' with
 |nil=>exact(List.Perm.nil_eq c)
 | cons a r q=>
   cases l' with
   |nil=>exact(List.Perm.nil_eq c.symm).symm
   | cons b s=>
     obtain⟨f,g⟩:=lg.1 j;obtain⟨h,i⟩:=lg.1 k;have p:a=b:=by
      have m:=c.subset lV;have n:=c.symm.subset lV;rcases kY.1 m with e|e
      . exact e
      rcases kY.1 n with d|d
      . exact d.symm
      exact(Iy.asy (h a e) (f b d)).elim
     subst p;rw[q g i (List.Perm.cons_inv c)]
section
variable {α:Type} {f:α->ML} {ys zs:List α} {m q r n:Nat} {z1 z2:α}
structure Vc(f:α->ML)(ys zs:List α)(m:Nat):Prop where
 perm:zs.Perm ys
 st:zs.Pairwise λa b=>(f a).a8.length=(f b).a8.length->(f a).head<(f b).head
 so:∀i j a b,i<m->i<j->zs[i]?=K a->zs[j]?=K b->(f a).a8.length<=(f b).a8.length
structure Kk(f:α->ML)(ys zs:List α)(m q:Nat):Prop where
 b:Vc f ys zs m
 mn:∀j a b,q<=j->zs[q]?=K a->zs[j]?=K b->(f a).a8.length<=(f b).a8.length
theorem Vc.start(h:ys.Pairwise λa b=>(f a).head<(f b).head):Vc f ys ys 0:=⟨List.Perm.refl _,h.imp (S:= λa b=>(f a).a8.length=(f b).a8.length->(f a).head<(f b).head) (λh _=>h), λi _ _ _ c=>absurd c (Nat.not_lt_zero _)⟩
theorem Vc.toI(h:Vc f ys zs m)(i:zs.length=n):Kk f ys zs m (n-1):=⟨h, λj a b g d c=>by
 have e:=(i6.1 c).1;obtain rfl:j=n-1:=oM;rw[d]at c;cases c
 exact Nat.le_refl _⟩
theorem Kk.skip(h:Kk f ys zs m (r+1))(i:zs[r+1]?=K z1)(d:zs[r]?=K z2)(l:¬(f z1).a8.length<(f z2).a8.length):Kk f ys zs m r:=⟨h.b, λj a b k g c=>by
 rw[d]at g;cases g
 by_cases e:j=r
 . subst e;rw[d]at c;(cases c);exact Nat.le_refl _
 have:=h.mn j z1 b oM i c;omega⟩
theorem Xt(e:zs[r+1]?=K z1)(a:zs[r]?=K z2):∃A B,zs=A++z2::z1::B/\A.length=r:=by
 refine⟨zs.take r,zs.drop (r+2),?_,?_⟩
 . obtain⟨g,c⟩:=i6.1 e;obtain⟨h,d⟩:=i6.1 a;have b:=mD h;have f:=mD g;rw[d,f,c]at b;rw[<-b,m9]
 have:=(i6.1 a).1;simp;omega
theorem Kk.swap(h:Kk f ys zs m (r+1))(R:m<=r)(q:zs[r+1]?=K z1)(s:zs[r]?=K z2)(Q:(f z1).a8.length<(f z2).a8.length):Kk f ys ((zs.set (r+1) z2).set r z1) m r:=by
 obtain⟨A,B,rfl,rfl⟩:=Xt q s;have e:(((A++z2::z1::B).set (A.length+1) z2).set A.length z1)=A++z1::z2::B:=by rw[m8 _ _ oM,m8 _ _ oM];simp
 have n:∀j x,(A++z1::z2::B)[j]?=K x->∃k,(A++z2::z1::B)[k]?=K x/\(j<A.length->k=j)/\(A.length<=j->A.length<=k)/\(A.length+1<j->k=j):= λj x g=>by
  by_cases c1:j<A.length
  . exact⟨j,by rw[lO c1]at g⊢;exact g, λ_=>rfl, λ_=>oM, λ_=>rfl⟩
  rw[kT oM]at g;obtain⟨i,p⟩:∃i,j=A.length+i:=⟨j-A.length,oM⟩;subst p;rw[mH]at g;rcases i with _|_|i
  . exact⟨A.length+1,by rw[kT oM,mH];exact g, λh=>oM, λ_=>oM, λh=>oM⟩
  . exact⟨A.length,by rw[kT oM,mU];exact g, λh=>oM, λ_=>oM, λh=>oM⟩
  exact⟨A.length+(i+1+1),by rw[kT oM,mH];exact g, λh=>oM, λ_=>oM, λh=>rfl⟩
 rw[e];refine⟨⟨(List.Perm.append_left A (List.Perm.swap _ _ _)).trans h.b.perm,?_, λi j a b p v l d=> ?_⟩, λj a b v l d=> ?_⟩
 . have:=h.b.st;rw[mq]at this⊢;obtain⟨G,H,I⟩:=this;refine⟨G,?_, λa l b d=>I a l b ?_⟩
   . obtain⟨L,N⟩:=lg.1 H;obtain⟨O,P⟩:=lg.1 N;refine lg.2 ⟨λx g=> ?_,lg.2 ⟨λx g=>L x (lU _ g),P⟩⟩;rcases kY.1 g with rfl|g
     . intro e;omega
     exact O x g
   simp only[kY]at d⊢;rcases d with d|d|d
   . exact .inr (.inl d)
   . exact .inl d
   exact .inr (.inr d)
 . obtain⟨E,t,u,_,_⟩:=n i a l;obtain⟨F,w,y,z,_⟩:=n j b d;have:=u oM;subst this;exact h.b.so E F a b p (by rcases Nat.lt_or_ge j A.length with c|c;{have:=y c;omega};{have:=z c;omega}) t w
 rw[kT oM,mU]at l;cases l
 by_cases c1:j=A.length
 . subst c1;rw[kT oM,mU]at d;(cases d);exact Nat.le_refl _
 by_cases c2:j=A.length+1
 . subst c2;rw[kT oM,mH]at d;(cases d);omega
 obtain⟨k,C,_,_,D⟩:=n j b d;have:=D oM;subst this;exact h.mn k z1 b oM q C
theorem Kk.next(h:Kk f ys zs m m):Vc f ys zs (m+1):=⟨h.b.perm,h.b.st, λi j a b k g c d=>by
 by_cases e:i=m
 . subst e;exact h.mn j a b oM c d
 exact h.b.so i j a b oM g c d⟩
theorem Vc.done(h:Vc f ys zs m)(n:zs.length<=m):(zs.map f).Pairwise Iy:=by
 rw[mu];have d:zs.Pairwise λa b=>(f a).a8.length<=(f b).a8.length:=by rw[mi];intro i j g l k;exact h.so i j _ _ oM k (an g) (an l)
 refine(d.and h.st).imp ?_;rintro a b ⟨d,e⟩;rcases Nat.lt_or_ge (f a).a8.length (f b).a8.length with c|c
 . exact .inl c
 exact .inr ⟨oM,e oM⟩
end
structure GQ(E:Nat->List Nat)(n:Nat)(pl:Nat->Nat)(D:Nat->Nat->Bool):Prop where
 P:DJ E n pl
 D:∀d b,D d b=true↔CZ E d b
 B:∀b,b<n->∀t∈E b,pl t<=pl b->CZ E t b
 R:∀x,x<n->DR E (λ_=>True) 0 x
section
variable {E:Nat->List Nat} {n:Nat} {pl:Nat->Nat} {D:Nat->Nat->Bool} {a b h x y p:Nat}
theorem GQ.ig(g:GQ E n pl D)(j:AR E D n h x):CZ E h x:=by
 rcases j with rfl|⟨t,i,e⟩
 . exact CZ.jp _ _
 obtain⟨_,_,b⟩:=(Dt _ _ _ _ _).1 i;induction e with
 |here _=>exact(g.D _ _).1 b
 | step f a l k=>obtain⟨_,c⟩:=(CK _ _ _ _).1 a;exact λd=>k (.step d c f.jM)
theorem GQ.ij(g:GQ E n pl D)(b:h<n)(e:AR E D n h x):x<n:=by
 rcases e with rfl|⟨t,d,c⟩
 . exact b
 cases c with
 |here _=>exact((Dt _ _ _ _ _).1 d).1
 |step _ a _=>exact((CK _ _ _ _).1 a).1
theorem GQ.pred(g:AR E D n h x)(b:x≠h)(c:p<n)(a:x∈E p):AR E D n h p:=by
 rcases g with rfl|⟨t,f,d⟩
 . exact absurd rfl b
 by_cases e:p=h
 . exact .inl e
 exact .inr ⟨t,f,.step d ((CK _ _ _ _).2 ⟨c,a⟩) e⟩
theorem GQ.head(g:GQ E n pl D)(c:b<n)(f:x∈E b)(d:CZ E x b):b∈AH E D n x/\AR E D n x b:=by
 have a:b∈AH E D n x:=(Dt _ _ _ _ _).2 ⟨c,f,(g.D _ _).2 d⟩;refine⟨a,?_⟩;by_cases e:b=x
 . exact .inl e
 exact .inr ⟨b,a,.here e⟩
theorem GQ.comp(g:GQ E n pl D)(h:x<n)(c:CZ E a x)(d:CZ E b x):CZ E a b\/CZ E b a:=by
 have j:=IF g.P g.R h c;have k:=IF g.P g.R h d;have i:∀a b,CZ E a x->CZ E b x->pl a<pl b->CZ E a b:= λa b c d f l=>by exact c (l.trans ((d.iR g.P h).1.mono λy m e=>by subst e;omega))
 by_cases e:a=b
 . subst e;exact .inl (CZ.jp _ _)
 rcases Nat.lt_or_ge (pl a) (pl b)with f|f
 . exact .inl (i a b c d f)
 have:pl b≠pl a:= λq=>e (g.P.inj b a k j q).symm
 exact .inr (i b a d c oM)
theorem GQ.nest(g:GQ E n pl D)(i:b<n)(s:AR E D n a x)(d:AR E D n b x)(j:CZ E a b)(k:a≠b):(∀y,AR E D n b y->AR E D n a y)/\¬AR E D n b a:=by
 have r:=g.ij i d;have G:=(j.iR g.P i).2.2 k;have z:=IF g.P g.R i j;have p:∀y,AR E D n b y->y≠a:= λy f e=>by subst e;exact k (CZ.iS g.P i z j (g.ig f))
 have B:∀{x},DR E (λy=>pl b<=pl y) b x->AR E D n a x->x<n->AR E D n a b:=by
  intro x c;induction c with
  |here _=>exact λh _=>h
  | step c d u l=>intro h H;have f:=c.lt g.P.iN i;exact l (GQ.pred h (λe=>by subst e;omega) f d) f
 have m:AR E D n a b:=B ((g.ig d).iR g.P r).1 s r;refine⟨λy f=> ?_, λh=>p a h rfl⟩;rcases f with rfl|⟨t,q,c⟩
 . exact m
 obtain⟨C,F,I⟩:=(Dt _ _ _ _ _).1 q;have A:AR E D n a t:=GQ.pred m (Ne.symm k) C F;induction c with
 |here _=>exact A
 | step c d u l=>obtain⟨v,w⟩:=(CK _ _ _ _).1 d;exact GQ.pred l (p _ (.inr ⟨t,q,c⟩)) v w
theorem GQ.jL(g:GQ E n pl D)(e:a<n)(i:b<n)(c:AR E D n a x)(d:AR E D n b x)(f:a≠b):((∀y,AR E D n b y->AR E D n a y)/\¬AR E D n b a)\/((∀y,AR E D n a y->AR E D n b y)/\¬AR E D n a b):=by
 rcases g.comp (g.ij e c) (g.ig c) (g.ig d)with h|h
 . exact .inl (g.nest i c d h f)
 exact .inr (g.nest e d c h (Ne.symm f))
end
structure KE(E:Nat->List Nat)(n:Nat)(D:Nat->Nat->Bool)(Dn:Nat->Prop)(J:Nat->Nat):Prop where
 st:∀b,b<n->(J b=b/\∀h,Dn h->¬AR E D n h b)\/(Dn (J b)/\AR E D n (J b) b/\∀h,Dn h->AR E D n h b->∀y,AR E D n h y->AR E D n (J b) y)
 dl:∀h,Dn h->h<n
structure SH(E:Nat->List Nat)(n:Nat)(D:Nat->Nat->Bool)(Dn:Nat->Prop)(J:Nat->Nat)(inn:Nat->Prop)(h:Nat):Prop where
 lt:∀b,inn b->b<n
 hd:inn h
 pr:∀b,inn b->b≠h->∀p,p<n->b∈E p->inn p
 dn:∀x,inn x->x≠h->AH E D n x≠[]->Dn x
 jh:J h=h
 jo:∀b,inn b->J b=h->b=h
 z:inn 0->h=0
section
variable {E:Nat->List Nat} {n:Nat} {pl:Nat->Nat} {D:Nat->Nat->Bool} {Dn:Nat->Prop} {J:Nat->Nat} {inn:Nat->Prop} {a b h k x y p:Nat}
theorem GQ.same(g:GQ E n pl D)(e:a<n)(f:b<n)(c:∀y,AR E D n a y->AR E D n b y)(d:∀y,AR E D n b y->AR E D n a y):a=b:=(CZ.iS g.P e f (g.ig (c a (.inl rfl))) (g.ig (d b (.inl rfl)))).symm
theorem KE.iV(g:GQ E n pl D)(s:KE E n D Dn J)(c:b<n):CZ E (J b) b/\J b<n/\pl (J b)<=pl b:=by
 have a:CZ E (J b) b:=by
  rcases s.st b c with⟨h,_⟩|⟨_,h,_⟩
  . rw[h];exact CZ.jp _ _
  exact g.ig h
 exact⟨a,IF g.P g.R c a,(a.iR g.P c).2.1⟩
theorem SH.iN(g:GQ E n pl D)(s:KE E n D Dn J)(r:SH E n D Dn J inn h)(I:inn b)(i:x∈E b)(v:inn x)(G:J x≠J b)(H:J x≠h):J x=x/\pl b<pl x:=by
 have c:=r.lt b I;have w:=r.lt x v;have N:x≠h:= λe=>H (by rw[e,r.jh])
 have z:∀k,Dn k->AR E D n k b->AR E D n k x->J x=k->False:= λk d p t a=>by
  rcases s.st b c with⟨_,q⟩|⟨f,l,A⟩
  . exact q k d p
  rcases s.st x w with⟨_,u⟩|⟨P,Q,C⟩
  . exact u k d t
  rw[a]at C;have m:=A k d p;have F:=C _ f (m x t);exact G (by rw[a];exact g.same (s.dl k d) (s.dl _ f) m F)
 have a:J x=x:=by
  rcases s.st x w with⟨q,_⟩|⟨f,l,A⟩
  . exact q
  by_cases e:x=J x
  . exact e.symm
  exact(z _ f (GQ.pred l e c i) l rfl).elim
 refine⟨a,?_⟩;rcases Nat.lt_or_ge (pl b) (pl x)with j|j
 . exact j
 obtain⟨y,O⟩:=g.head c i (g.B b c x i j);have L:=r.dn x v N (λe=>by rw[e]at y;cases y);exact(z x L O (.inl rfl) a).elim
theorem SH.k7(g:GQ E n pl D)(s:KE E n D Dn J)(r:SH E n D Dn J inn h)(f:inn a)(i:inn b)(j:x∈E b)(k:inn x)(c:J x≠J b)(d:J x≠h)(e:J x=J a):pl b<pl a:=by obtain⟨l,m⟩:=r.iN g s i j k c d;have:=(s.iV g (r.lt a f)).2.2;rw[<-e,l]at this;omega
structure Ve(E:Nat->List Nat)(inn:Nat->Prop)(J:Nat->Nat)(h:Nat)(C t:Nat->Int):Prop where
 hd:t h=C h
 ed:∀b x,inn b->x∈E b->inn x->J x≠J b->J x≠h->t (J b)+C (J x)<=t (J x)
structure Yg(E:Nat->List Nat)(inn:Nat->Prop)(J:Nat->Nat)(h:Nat)(C s:Nat->Int):Prop where
 clo:Ve E inn J h C s
 le:∀t,Ve E inn J h C t->∀b,inn b->s (J b)<=t (J b)
theorem Yg.one{C s e:Nat->Int}(a:Yg E inn J h C s)(c:Yg E inn J h C e)(d:inn b):s (J b)=e (J b):=Int.le_antisymm (a.le _ c.clo b d) (c.le _ a.clo b d)
theorem Ve.iQ{C t:Nat->Int}(g:GQ E n pl D)(r:SH E n D Dn J inn h)(f:∀c,0<=C c)(i:Ve E inn J h C t)(u:inn b):0<=t (J b):=by
 suffices ∀m b,pl b<=m->inn b->0<=t (J b)from this _ b lR u
 intro m;induction m with
 | zero=>
   intro b s a;by_cases e:b=h
   . rw[e,r.jh,i.hd];exact f _
   (have d:b≠0:= λq=>by subst q;exact e (r.z a).symm);have:=g.P.gH b (r.lt b a) d;omega
 | succ m w=>
   intro b s a;by_cases e:b=h
   . rw[e,r.jh,i.hd];exact f _
   (have d:b≠0:= λq=>by subst q;exact e (r.z a).symm);obtain⟨q,x,p,A⟩:=g.P.par b (r.lt b a) d;have l:=r.pr b a e q x p;have v:=w q oM l;by_cases j:J b=J q
   . rw[j];exact v
   by_cases k:J b=h
   . exact absurd (r.jo b a k) e
   have y:=i.ed q b l p a j k;have:=f (J b);omega
structure SE(E:Nat->List Nat)(n:Nat)(D L:Nat->Nat->Bool)(Dn:Nat->Prop)(h:Nat):Prop where
 lt:h<n
 il:∀h y,L h y=true↔AR E D n h y
 s1:∀x,AH E D n x≠[]->((List.range n).filter (L x)).length<((List.range n).filter (L h)).length->Dn x
 s2:∀k,Dn k->k≠h/\((List.range n).filter (L k)).length<=((List.range n).filter (L h)).length
theorem SE.less{L:Nat->Nat->Bool}(g:GQ E n pl D)(c:∀h y,L h y=true↔AR E D n h y)(f:a<n)(d:∀y,AR E D n b y->AR E D n a y)(e:¬AR E D n b a):((List.range n).filter (L b)).length<((List.range n).filter (L a)).length:=J9 _ _ n a (λk _ i=>(c _ _).2 (d k ((c _ _).1 i))) f (by rw[<-Bool.not_eq_true,c];exact e) ((c _ _).2 (.inl rfl))
theorem SE.within{L:Nat->Nat->Bool}(g:GQ E n pl D)(s:KE E n D Dn J)(q:SE E n D L Dn h)(a:Dn k)(c:AR E D n h b)(d:AR E D n k b):(∀y,AR E D n k y->AR E D n h y)/\¬AR E D n k h:=by
 rcases g.jL q.lt (s.dl k a) c d (Ne.symm (q.s2 k a).1)with i|⟨e,f⟩
 . exact i
 have:=SE.less g q.il (s.dl k a) e f;have:=(q.s2 k a).2;omega
theorem SE.jw{L:Nat->Nat->Bool}(g:GQ E n pl D)(s:KE E n D Dn J)(q:SE E n D L Dn h):SH E n D Dn J (AR E D n h) h where
 lt b hb:=g.ij q.lt hb
 hd:=.inl rfl
 pr b hb hn p hp he:=GQ.pred hb hn hp he
 dn x hx hn hh:=by
  rcases g.jL q.lt (g.ij q.lt hx) hx (.inl rfl) (Ne.symm hn)with⟨a,c⟩|⟨a,c⟩
  . exact q.s1 x hh (SE.less g q.il q.lt a c)
  exact absurd hx c
 jh:=by
  rcases s.st h q.lt with⟨i,_⟩|⟨a,c,_⟩
  . exact i
  exact absurd c (q.within g s a (.inl rfl) c).2
 jo b hb e:=by
  rcases s.st b (g.ij q.lt hb)with⟨i,_⟩|⟨a,_,_⟩
  . rw[<-i,e]
  rw[e]at a;exact absurd rfl (q.s2 h a).1
 z h0:=(g.ig h0).ix
theorem SE.step{L:Nat->Nat->Bool}(g:GQ E n pl D)(s:KE E n D Dn J)(q:SE E n D L Dn h):KE E n D (λk=>Dn k\/k=h) (λb=>if L h b then h else J b) where
 st b hb:=by
  by_cases e:L h b=true
  . simp only[e,if_true];refine .inr ⟨sP,(q.il _ _).1 e, λk a c=> ?_⟩;rcases a with a|rfl
    . exact(q.within g s a ((q.il _ _).1 e) c).1
    exact λ_ h=>h
  simp only[kP e];have j:¬AR E D n h b:= λi=>e ((q.il _ _).2 i)
  rcases s.st b hb with⟨d,f⟩|⟨d,f,l⟩
  . exact .inl ⟨d, λk a=>a.elim (f k) (λe=>e▸j)⟩
  exact .inr ⟨.inl d,f, λk a c=>a.elim (λa=>l k a c) (λe=>absurd (e▸c) j)⟩
 dl k a:=a.elim (s.dl k) (λe=>e▸q.lt)
theorem KE.start:KE E n D (λ_=>False) (λb=>b):=⟨λb _=>.inl ⟨rfl, λ_ h=>h.elim⟩, λ_ h=>h.elim⟩
theorem KE.whole(g:GQ E n pl D)(s:KE E n D Dn J)(d:∀x,AH E D n x≠[]->Dn x)(c:¬Dn 0):SH E n D Dn J (λb=>b<n) 0 where
 lt b hb:=hb
 hd:=g.P.pos
 pr b hb hn p hp he:=hp
 dn x hx hn hh:=d x hh
 jh:=by
  rcases s.st 0 g.P.pos with⟨i,_⟩|⟨a,f,_⟩
  . exact i
  have:=(g.ig f).ix;rw[this]at a;exact absurd a c
 jo b hb e:=by
  rcases s.st b hb with⟨i,_⟩|⟨a,_,_⟩
  . rw[<-i,e]
  rw[e]at a;exact absurd a c
 z _:=rfl
end
structure Ij(E:Nat->List Nat)(ok:Nat->Prop)(f n:Nat)(L:List Nat):Prop where
 nodup:L.Nodup
 lt:∀x∈L,x<n
 reach:∀x∈L,DR E ok f x
 start:f∈L
theorem Ij.len{E:Nat->List Nat}{f n:Nat}{L:List Nat}(h:Ij E ok f n L): ↑L<=n:=by have:=Fv L n h.lt h.nodup;omega
theorem Ij.add{E:Nat->List Nat}{f n:Nat}{L:List Nat}(h:Ij E ok f n L){b y:Nat}(k:b∈L)(p:y∈E b)(m:ok y)(l:y<n)(i:y∉L):Ij E ok f n (L++[y]):=by
 refine⟨nG.2 ⟨h.nodup,sP, λa j c g e=> ?_⟩, λx d=> ?_, λx d=> ?_,kO.2 (.inl h.start)⟩
 . simp only[kY,lG,mS]at g;subst g e;exact i j
 . rcases kO.1 d with d|d
   . exact h.lt x d
   simp only[kY,lG,mS]at d;subst d;exact l
 rcases kO.1 d with d|d
 . exact h.reach x d
 simp only[kY,lG,mS]at d;subst d;exact .step (h.reach b k) p m
def DG(E:Nat->List Nat)(ok:Nat->Prop)(L:List Nat)(i:Nat):Prop:=∀j x,L[j]?=K x->j<i->∀y∈E x,ok y->y∈L
def Hs(E:Nat->List Nat)(ok:Nat->Prop)(L:List Nat)(b k:Nat):Prop:=∀y∈(E b).take k,ok y->y∈L
theorem DG.gX{E:Nat->List Nat}{L:List Nat}{i:Nat}(h:DG E ok L i)(e:i<= ↑L)(y:Nat):DG E ok (L++[y]) i:= λj x a b z d c=>by rw[lO oM]at a;exact kO.2 (.inl (h j x a b z d c))
theorem Hs.next{E:Nat->List Nat}{L c:List Nat}{b k y:Nat}(h:Hs E ok L b k)(g:∀x∈L,x∈c)(i:(E b)[k]?=K y)(e:ok y->y∈c):Hs E ok c b (k+1):= λz a d=>by
 obtain⟨f,rfl⟩:=i6.1 i;rw[kU f]at a;rcases kO.1 a with a|a
 . exact g z (h z a d)
 simp only[kY,lG,mS]at a;subst a;exact e d
theorem DG.next{E:Nat->List Nat}{L:List Nat}{i b:Nat}(h:DG E ok L i)(f:L[i]?=K b)(g:Hs E ok L b (E b).length):DG E ok L (i+1):= λj x a k y d c=>by
 by_cases e:j=i
 . subst e;rw[f]at a;(cases a);exact g y (by rw[k8 lR];exact d) c
 exact h j x a oM y d c
theorem Ij.iff{E:Nat->List Nat}{f n:Nat}{L:List Nat}(h:Ij E ok f n L)(d:DG E ok L L)(x:Nat):x∈L↔DR E ok f x:=by
 refine⟨h.reach x, λe=> ?_⟩;induction e with
 |here _=>exact h.start
 | step _ b c g=>obtain⟨j,a⟩:=lH g;exact d j _ a (i6.1 a).1 _ b c
structure SN(w u:Y)(n gs:Nat)(V:J)(P:Nat->Bool)(L:List Nat):Prop where
 seen:Gm u w gs n P
 list:Gh u w V L
 e8:Ah w w u
theorem SN.mark{n a:Nat}{V:J}{P Q:Nat->Bool}{L:List Nat}(h:SN w u n a V P L)(i:Nat)(b:Bool)(c:∀j,j<n->Q j=if j=i then b else P j):SN w (Aa u ⟨a,i,M⟩ b) n a V Q L:=⟨h.seen.set i b c,BE h.list h.seen dC i _,h.e8.setCell (AD h.seen).1 _⟩
theorem SN.al{n a:Nat}{V:J}{P:Nat->Bool}{L:List Nat}(h:SN w u n a V P L)(o:Obj):Ab (u.alloc o) w 2 1 V L (nv L)/\ ↑w<=(u.alloc o).heap.size:=⟨h.list.a7 (Aq _ _),kV h.e8.size (Aq _ _).size⟩
theorem SN.gX{w u b:Y}{n c:Nat}{V V':J}{P:Nat->Bool}{L:List Nat}{y:Nat}(h:SN w u n c V P L)(f:Ab b w 2 1 V' (L.length+1) (nv L++[iZ (y:Int)]))(d:(Ac u (Ak #[iZ (y:Int)] 2)).grownBy b V.ownBlock):SN w b n c V' P (L++[y]):=by have a:=Aq u (Ak #[y] 2);have g:=h.list.a7 a;refine⟨BJ (h.seen.a7 a) d g dC,?_,(Ar h.e8 lR a).grown d (kV h.e8.size a.size) (λi e=>(h.list.lt i e).1)⟩;unfold Gh;rw[kE,kK,Fx];exact f
theorem SN.a7{c:Y}{n b:Nat}{V:J}{P:Nat->Bool}{L:List Nat}(h:SN w u n b V P L)(a:Ah u u c):SN w c n b V P L:=⟨h.seen.a7 a,h.list.a7 a,Ar h.e8 lR a⟩
theorem T2(L:List Nat)(y:Nat)(n:Nat):∀j,j<n->(L++[y]).contains j=if j=y then true else L.contains j:= λj _=>by
 by_cases e:j=y
 . subst e;simp
 simp[e]
theorem Rp(g o c n f:Nat)(z:Int)(E:Nat->List Nat)(w:Y)(hn:n<=1048576)(hE:∀b,b<n->∀x∈E b,x<n)(aw:∀b,(E b).length<=2)(hf:f<n)(h:Km w g o n E):
 Ai Ap 93 #[sO g o n c,f,z] w λe w'=>∃gs P,e=Al (sG gs n n)/\Gm w' w gs n P/\(∀x,x<n->(P x=true↔DR E (λy=>(y:Int)≠z) f x))/\Ah w w w':=by
 obtain⟨j0,N,aA,aE,aF⟩:=lS Em;obtain⟨k0,C,aR,aS,aT⟩:=lS Bp;have H:=Av (d5 h (d5 hE aw));clear h hE aw;go_enter func93,ntmps93;by_cases q:(f:Int)=z
 . subst q;go_wp2_with (at_make;refine l8 _ rfl _ _ 67 rfl w 4 j0 false 1 underlying67 N aA aE Af Af _ _ n rfl rfl rfl rfl (by rw[aF];omega) oX lR ?_;intro s p v;rw[DX,Hv]at p);go_ret;refine⟨_,_,rfl,p, λx l=>⟨λq=>by simp at q, λq=>absurd rfl q.jx⟩,(kS _ _).grown v lR (λk C=>by cases C)⟩
 have q':((f:Int)==z)=false:=by simpa using q
 have aZ:(f:Int)<(n:Int):=oM;go_wp2_with (at_make;refine l8 _ rfl _ _ 67 rfl w 4 j0 false 1 underlying67 N aA aE Af Af _ _ n rfl rfl rfl rfl (by rw[aF];omega) oX lR ?_;intro s p v;rw[DX,Hv]at p;have z0:=oH p f;have d0:s ⟨w,f,M⟩=K ↑false:=Gm.cell p oM)
 have HS:Ae (SN w (Ac (Aa s ⟨w,f,M⟩ true) (Ak #[f] 2)) n w (sG s 1 1) (λx=>[f].contains x) [f]):=by
  have aM:Ah w w s:=(kS _ _).grown v lR (λk C=>by cases C);have k1:Gm (Aa s ⟨w,f,M⟩ true) w w n (λx=>[f].contains x):=Gm.set (P:= λ_=>false) p f true λj N=>by
   by_cases e:j=f
   . subst e;simp
   simp[e]
  have S:Ah w w (Aa s ⟨w,f,M⟩ true):=aM.setCell lR _;have aW:(Aa s ⟨w,f,M⟩ true).heap.size=s.heap.size:=lr ..
  rw[<-aW];generalize Aa s ⟨w,f,M⟩ true=W4 at k1 S⊢;exact⟨k1.a7 (Aq _ _),Ba (mj W4 #[f] 1 lR oX sP) S.size,Ar S lR (Aq _ _)⟩
 clear p v z0 d0;have R:Ae (Ij E (λy=>(y:Int)≠z) f n [f]):=⟨sP, λx l=>by simp at l;omega, λx l=>by simp at l;subst l;exact .here q,sP⟩;go_loopw [8,9] (λV i wr=>∃(L:List Nat) (k r cl:Nat),V=sG r L cl/\i=iZ k/\k<= ↑L/\ ↑L<=n/\Ae (SN w wr n w V (λx=>L.contains x) L/\Ij E (λy=>(y:Int)≠z) f n L/\DG E (λy=>(y:Int)≠z) L k)) (λ_ i _=>n-(intOf i).toNat)
 case atStart=>exact⟨[f],0,_,_,rfl,rfl,sP,R.len,HS,R, λj x N hl=>oM⟩
 clear HS R;obtain⟨L,k,r,cl,rfl,rfl,aP,A,d⟩:=hrel;by_cases D:k< ↑L
 . have au:(k:Int)<(L:Int):=oM;obtain⟨b,I⟩:∃b,L[k]?=K b:=⟨_,an D⟩;have aq:b<n:=d.2.1.lt b (i7 I);have aY:(b:Int)<(n:Int):=oM;have ae:=Av I;obtain⟨_,_,ee,_,l0⟩:=d.1.list.rd.at_ I;simp only[kI,mE,mV]at ee;obtain⟨rfl,rfl⟩:=ee;rw[lM]at l0;obtain⟨a,ca,T,g1⟩:=H.1 b aq;have HR:=Av g1;(replace T:=Au d.1.e8 T);have aX:=H.2.2 b;clear g1 I;go_wp2;go_loopw [8,11] (λV i wr=>∃(L:List Nat) (m r cl:Nat),V=sG r L cl/\i=iZ m/\m<=(E b).length/\k< ↑L/\ ↑L<=n/\Ae (SN w wr n w V (λx=>L.contains x) L/\Ij E (λy=>(y:Int)≠z) f n L/\DG E (λy=>(y:Int)≠z) L k/\L[k]?=K b/\Hs E (λy=>(y:Int)≠z) L b m)) (λ_ i _=>2-(intOf i).toNat)
   (case atStart=>exact⟨L,0,r,cl,rfl,rfl,oM,D,A,d.1,d.2.1,d.2.2,ae, λy B=>by simp at B⟩);clear l0 T d ae D au aP A;obtain⟨L,m,r,cl,rfl,rfl,hm,W,A,d⟩:=hrel;by_cases D:m<(E b).length
   . have au:(m:Int)<((E b).length:Int):=oM;obtain⟨y,B⟩:∃y,(E b)[m]?=K y:=⟨_,an D⟩;have aG:y<n:=H.2.1 b aq y (i7 B);have b7:(y:Int)<(n:Int):=oM;have G:=Av B;obtain⟨ga,oa,rfl,_,Q⟩:=HR.at_ B;have aI:=Av Q;(replace Q:=Au d.1.e8 Q);have X:=d.1.seen.cell aG;clear B;by_cases O:(y:Int)=z
     . subst O;have t:=Av (d.2.2.2.2.next (λx l=>l) G (λq=>absurd rfl q));go_wp2;go_roundw;(case rel=>exact⟨L,m+1,r,cl,rfl,by go_num,oM,W,A,d.1,d.2.1,d.2.2.1,d.2.2.2.1,t⟩);exact oI
     (have bf:((y:Int)==z)=false:=by simpa using O);(have bg:((y:Int) != z)=true:=by simpa using O);cases hc:L.contains y
     . simp only[hc]at X;have z0:=d.1.seen.frozen y;(have aU:y∉L:=by simpa using hc);have aj:=Av (d.1.mark y true (T2 L y n));have ah:=Av (d.2.1.add (i7 d.2.2.2.1) (i7 G) O aG aU);have ao:=ah.len;rw[kE,kK]at ao;have t:Ae (Hs E (λx=>(x:Int)≠z) (L++[y]) b (m+1)):=d.2.2.2.2.next (λx l=>kO.2 (.inl l)) G (λ_=>sP);(go_upto_region 15 with fail);refine Ax (λu=>Ae (SN w u n w (sG r L cl) (λx=>(L++[y]).contains x) L)) aj ?_;intro U F;clear aj X z0 Q;have y1:=Au F.e8 aI;go_wp2_with (at_builtin;refine wpList_append_lies _ rfl _ _ 46 rfl w 2 k0 (iZ 0) 1 8 underlying46 C aR aS aT rfl dC _ L (nv L) rfl (F.al (Ak #[iZ (y:Int)] 2)).1 U 1 1 [iZ (y:Int)] rfl rfl (Bw U (y:Int)) (λu hu=>by simp at hu;subst hu;rfl) oM (by simp[maxLen];omega) oM (F.al (Ak #[iZ (y:Int)] 2)).2 _ rfl ?_;intro g5 am w5 p v aJ aQ;have aH:Ae (SN w w5 n w (sG g5 (L.length+1) am) (λx=>(L++[y]).contains x) (L++[y])):=F.gX p v;clear p v aJ aQ);go_roundw;(case rel=>exact⟨L++[y],m+1,g5,am,by rw[kE,kK],by go_num,oM,by rw[kE];omega,by rw[kE,kK];exact ao,aH,ah,d.2.2.1.gX oM y,by rw[lO W];exact d.2.2.2.1,t⟩);exact oI
     simp only[hc]at X;have t:=Av (d.2.2.2.2.next (λx l=>l) G (λq=>by simpa using hc));go_wp2;go_roundw;(case rel=>exact⟨L,m+1,r,cl,rfl,by go_num,oM,W,A,d.1,d.2.1,d.2.2.1,d.2.2.2.1,t⟩);exact oI
   obtain rfl:m=(E b).length:=oM;have t:=Av (d.2.2.1.next d.2.2.2.1 d.2.2.2.2);go_wp2;go_roundw;(case rel=>exact⟨L,k+1,r,cl,rfl,by go_num,oM,A,d.1,d.2.1,t⟩);exact oI
 obtain rfl:k=L.length:=oM;have HE:Ae (∀x,x<n->(L.contains x=true↔DR E (λy=>(y:Int)≠z) f x)):= λx l=>by rw[<-d.2.1.iff d.2.2 x];simp
 go_wp2;go_ret;exact⟨_,_,rfl,d.1.seen,HE,d.1.e8⟩
structure GI(w:Y)(G n gp cp gi ci:Nat)(pl:Nat->Nat)(I:Nat->Int):Prop where
 p:w ⟨G,3,M⟩=K (sG gp n cp)
 i:w ⟨G,4,M⟩=K (sG gi n ci)
 pc:∀x,x<n->w ⟨gp,x,M⟩=K ↑(pl x:Int)
 ic:∀x,x<n->w ⟨gi,x,M⟩=K ↑(I x)
theorem GI.a7{j:Y}{G n f d e c:Nat}{g:Nat->Nat}{I:Nat->Int}(h:GI w G n f d e c g I)(a:Ah w w j):GI j G n f d e c g I:=⟨Au a h.p,Au a h.i, λx b=>Au a (h.pc x b), λx b=>Au a (h.ic x b)⟩
theorem PE(G n gp X gi W a b:Nat)(d:Nat->Nat)(I:Nat->Int)(w:Y)(hn:n<=1024)(P:OT n d I)(Q:d 0=0)(L:∀a b,a<n->b<n->d a=d b->a=b)(ha:a<n)(hb:b<n)(R:Kn I a)(S:Kn I b)(h:GI w G n gp X gi W d I):
 Ai Ap 136 #[.pointer G,(a:Int),(b:Int)] w λe w'=>∃m:Nat,e=Al m/\m<n/\Kn I m/\Cm I a b m/\Ah w w w':=by
 have H:=Av (d5 h (d5 P (d5 Q L)));have E:=Av (d5 R S);clear h P Q L R S;go_enter func136,ntmps136;go_wp2;go_loopw [1,2] (λv u wr=>∃x y:Nat,x<n/\y<n/\v=iZ (x:Int)/\u=iZ (y:Int)/\Ae (Kn I x/\Kn I y/\(∀m,Cm I x y m->Cm I a b m)/\Ah w w wr)) (λv u _=>d (intOf v).toNat+d (intOf u).toNat)
 case atStart=>exact⟨a,b,ha,hb,rfl,rfl,E.1,E.2, λm h=>h,kS _ _⟩
 obtain⟨x,y,l,r,rfl,rfl,f⟩:=hrel;by_cases e:x=y
 . subst e;go_wp2;go_ret;exact⟨x,rfl,l,f.1,f.2.2.1 x (Cm.same I x),f.2.2.2⟩
 have F:¬(x:Int)=(y:Int):=oM;have eB:((x:Int)==(y:Int))=false:=by simpa using F
 have eN:((x:Int) != (y:Int))=true:=by simpa using F
 have k:=H.1.a7 f.2.2.2;have A:=k.p;have s:=k.i;have T:=k.pc x l;have V:=k.pc y r;have t:=k.ic x l;have z:=k.ic y r;clear k;have ah:(x:Int)<(n:Int):=oM;have aj:(y:Int)<(n:Int):=oM;by_cases N:d y<d x
 . have ae:(d y:Int)<(d x:Int):=oM;(have C:x≠0:= λq=>by have:=H.2.2.1;rw[q]at N;omega);obtain⟨c,c1,c2,c3,c4⟩:=H.2.1.up x l C (f.1.resolve_left C);rw[c1]at t;have g:=Av (d5 c4 (d5 f.2.1 (d5 ((λm B=>f.2.2.1 m (Cm.left H.2.1 r N C c1 B)):(∀m,Cm I c y m->Cm I a b m)) (d5 f.2.2.2 c3))));clear c1 c4;go_wp2;go_quiet (fail);refine AX (λu=>Ae (Ah wr wr u)) (Az _ _ _) ?_;intro U j;(replace A:=Au j A);(replace s:=Au j s);(replace t:=Au j t);clear T V z;go_wp2;go_roundw;(case rel=>exact⟨c,y,c2,r,rfl,rfl,g.1,g.2.1,g.2.2.1,Ar g.2.2.2.1 lR j⟩);simp[intOf];have:=g.2.2.2.2;omega
 have ae:¬(d y:Int)<(d x:Int):=oM;have O:d x<d y:=by have:=H.2.2.2 x y l r;omega
 have D:y≠0:= λq=>by have:=H.2.2.1;rw[q]at O;omega
 obtain⟨c,c1,c2,c3,c4⟩:=H.2.1.up y r D (f.2.1.resolve_left D);rw[c1]at z;have g:=Av (d5 f.1 (d5 c4 (d5 ((λm B=>f.2.2.1 m (Cm.symm (Cm.left H.2.1 l O D c1 B.symm))):(∀m,Cm I x c m->Cm I a b m)) (d5 f.2.2.2 c3))));clear c1 c4;go_wp2;go_quiet (fail);refine AX (λu=>Ae (Ah wr wr u)) (Az _ _ _) ?_;intro U j;replace A:=Au j A
 replace s:=Au j s
 replace z:=Au j z
 clear T V t;go_wp2;go_roundw;case rel=>exact⟨x,c,l,c2,rfl,rfl,g.1,g.2.1,g.2.2.1,Ar g.2.2.2.1 lR j⟩
 simp[intOf];have:=g.2.2.2.2;omega
theorem Bf.skip{n:Nat}{I:Nat->Int}{z:Int}{p:Nat}(h:Bf n I c z)(j:¬Kn I p):Bf n I (c++[p]) z:=by
 have i:∀q,q∈c++[p]->q∈c\/q=p:= λq a=>by simpa using a
 rcases h with⟨f,g⟩|⟨m,f,g,l,⟨q,s,t⟩,u⟩
 . exact .inl ⟨f, λq a=>(i q a).elim (g q) (λe=>by rw[e];exact j)⟩
 refine .inr ⟨m,f,g,l,⟨q,kO.2 (.inl s),t⟩, λd=> ?_⟩;rw[u d];exact⟨λk q a b=>(i q a).elim (λr=>k q r b) (λe=>absurd (e▸b) j), λk q a b=>k q (kO.2 (.inl a)) b⟩
theorem Bf.gH{n:Nat}{I:Nat->Int}{a:List Nat}{p:Nat}(h:Bf n I a (-1))(b:Kn I p)(l:p<n):Bf n I (a++[p]) (p:Int):=by
 have j:∀q,q∈a++[p]->q∈a\/q=p:= λq c=>by simpa using c
 rcases h with⟨f,g⟩|⟨m,f,_⟩
 . refine .inr ⟨p,rfl,l,b,⟨p,sP,b⟩, λd=>⟨λk q c i=>(j q c).elim (λr=>absurd i (g q r)) (λe=>e▸k), λk=>k p sP b⟩⟩
 omega
theorem Bf.jY{n:Nat}{I:Nat->Int}{p m b:Nat}(h:Bf n I c (m:Int))(w:Kn I p)(v:b<n)(t:Kn I b)(s:Cm I m p b):Bf n I (c++[p]) (b:Int):=by
 have u:∀q,q∈c++[p]->q∈c\/q=p:= λq a=>by simpa using a
 rcases h with⟨g,_⟩|⟨x,g,y,z,⟨q,i,j⟩,l⟩
 . omega
 obtain rfl:m=x:=oM;refine .inr ⟨b,rfl,v,t,⟨q,kO.2 (.inl i),j⟩, λd=> ?_⟩;rw[s d,l d];exact⟨λk q a f=>(u q a).elim (λr=>k.1 q r f) (λe=>e▸k.2), λk=>⟨λq a f=>k q (kO.2 (.inl a)) f,k p sP w⟩⟩
theorem Bf.some{n:Nat}{I:Nat->Int}{z:Int}(h:Bf n I e z)(d:z≠ -1):∃m:Nat,z=(m:Int)/\m<n/\Kn I m:=by
 rcases h with⟨a,_⟩|⟨m,a,b,c,_⟩
 . exact absurd a d
 exact⟨m,a,b,c⟩
theorem N2(G n C A B y:Nat)(j:Nat->Nat)(I:Nat->Int)(s:J)(d:List Nat)(w:Y)(hn:n<=1024)(W:OT n j I)(hz:j 0=0)(T:∀a b,a<n->b<n->j a=j b->a=b)(V:∀p∈d,p<n)(au:d.length<=4096)(L:I5 w s d)(h:GI w G n C A B y j I):
 Ai Ap 135 #[.pointer G,s] w λe O=>∃z,e=Al (iZ z)/\Bf n I d z/\Ah w w O:=by
 have H:=Av (d5 h (d5 L V));obtain⟨a1,c1,rfl⟩:=Rd.dk L;have HT:Ae (∀(a b:Nat) (U:Y),a<n->b<n->Kn I a->Kn I b->GI U G n C A B y j I->Ai Ap 136 #[.pointer G,(a:Int),(b:Int)] U λe O=>∃m:Nat,e=Al m/\m<n/\Kn I m/\Cm I a b m/\Ah U U O):= λa b U ha hb ka kb hU=>PE G n C A B y a b j I U hn W hz T ha hb ka kb hU
 clear h L V W hz T;go_enter func135,ntmps135;go_wp2;go_loopw [5,11] (λv i wr=>∃(k:Nat) (z:Int),k<= ↑d/\v=iZ z/\i=iZ k/\Ae (Bf n I (d.take k) z/\Ah w w wr)) (λ_ i _=> ↑d-(intOf i).toNat)
 case atStart=>exact⟨0,-1,oM,rfl,rfl,.inl ⟨rfl, λp l=>by simp at l⟩,kS _ _⟩
 obtain⟨k,z,hk,rfl,rfl,f⟩:=hrel;by_cases ah:k< ↑d
 . have am:(k:Int)<(d:Int):=oM;obtain⟨p,l⟩:∃p,d[k]?=K p:=⟨_,an ah⟩;have F:p<n:=H.2.2 p (i7 l);have aw:(p:Int)<(n:Int):=oM;(have x:Ae (d.take (k+1)=d.take k++[p]):=by obtain⟨hl,rfl⟩:=i6.1 l;exact kU hl);obtain⟨ga,oa,rfl,_,P⟩:=H.2.1.at_ l;(replace P:=Au f.2 P);have D:=H.1.a7 f.2;have i0:=D.i;have ip:=D.ic p F;clear l D;by_cases t:Kn I p
   . have r:Ae (Kn I p):=t;(go_upto_region 5 with fail);go_cut [8]from 15 to 26 (λc wx=>c=An true/\wx=wr)
     case first=>
      by_cases E:p=0
      . subst E;go_wp2;go_meet;exact⟨rfl,rfl⟩
      have aj:((p:Int)==0)=false:=oT;have u:=r.resolve_left E;(have ao:(I p== -1)=false:=by simpa using u);(have aq:(I p != -1)=true:=by simpa using u);go_wp2;go_meet;exact⟨rfl,rfl⟩
     case rest=>
      obtain⟨rfl,X⟩:=hcut;rw[X];clear X P i0 ip;by_cases N:z=-1
      . subst N;(have g:Ae (Bf n I (d.take (k+1)) (p:Int)):=by show Bf _ _ _ _;rw[x];exact f.1.gH r F);go_wp2;go_roundw;(case rel=>exact⟨k+1,_,oM,rfl,by go_num,g,f.2⟩);exact oI
      (have aA:(z== -1)=false:=by simpa using N);obtain⟨m,rfl,hm,ae⟩:=f.1.some N;go_wp2_with fail;refine(HT.o m p wr hm F ae r (H.1.a7 f.2)).mono ?_;rintro e u1 ⟨m',rfl,h1,R,S,Q⟩;have g:Ae (Bf n I (d.take (k+1)) (m':Int)/\Ah w w u1):=by refine⟨?_,Ar f.2 lR Q⟩;rw[x];exact f.1.jY r h1 R S
      clear R S Q;go_wp2;go_roundw;(case rel=>exact⟨k+1,_,oM,rfl,by go_num,g⟩);exact oI
   (have E:¬p=0:= λq=>t (.inl q));(have u:I p=-1:=lW λq=>t (.inr q));have aj:((p:Int)==0)=false:=oT;rw[u]at ip;(have g:Ae (Bf n I (d.take (k+1)) z):=by show Bf _ _ _ _;rw[x];exact f.1.skip t);go_wp2;go_roundw;(case rel=>exact⟨k+1,z,oM,by trivial,by go_num,g,f.2⟩);exact oI
 obtain rfl:k=d.length:=oM;have g:Ae (Bf n I d z):=by have:=f.1;rw[k8 lR]at this;exact this
 go_wp2;go_ret;exact⟨z,rfl,g,f.2⟩
structure LV where
 h:Int
 xa:Option Addr
 xn:Nat
 xc:Nat
 ya:Option Addr
 yn:Nat
 yc:Nat
instance:Inhabited LV:=⟨⟨0,none,0,0,none,0,0⟩⟩
def LV.enc(x:LV):List Value:=[.int .i64 x.h,.slice x.xa x.xn x.xc,.slice x.ya x.yn x.yc]
def LV.cmp(x y:LV):Int:=if x.yn<y.yn then -1 else if y.yn<x.yn then 1 else if x.h<y.h then -1 else if y.h<x.h then 1 else 0
theorem LV.lt_iff(x y:LV):ltOf LV.cmp x y=decide (x.yn<y.yn\/x.yn=y.yn/\x.h<y.h):=by
 unfold ltOf LV.cmp;by_cases h1:x.yn<y.yn
 . simp[h1]
 by_cases h2:y.yn<x.yn
 . have:¬(x.yn<y.yn\/x.yn=y.yn/\x.h<y.h):=by omega
   simp[h1,h2];omega
 have e:x.yn=y.yn:=by omega
 by_cases h3:x.h<y.h
 . simp[e,h3]
 by_cases h4:y.h<x.h<;>simp[e,h3,h4]
theorem LV.swo:Go.Sort.SWO (ltOf LV.cmp) where
 irrefl x:=by rw[LV.lt_iff];simp
 trans x y z h1 h2:=by rw[LV.lt_iff]at*;simp at*;omega
 ntrans x y z h1 h2:=by rw[LV.lt_iff]at*;simp at*;omega
structure Ck(f:Nat->Int)(S:Nat->Prop)(m:Int):Prop where
 nn:0<=m
 ub:∀b,S b->f b<=m
 at_:m=0\/∃b,S b/\f b=m
theorem Ck.one{f d:Nat->Int}{m i:Int}(h:Ck f S m)(c:Ck d S i)(g:∀b,S b->f b=d b):m=i:=by
 have j:=h.nn;have k:=c.nn;apply Int.le_antisymm
 . rcases h.at_ with e|⟨b,a,e⟩
   . omega
   have:=c.ub b a;have:=g b a;omega
 rcases c.at_ with e|⟨b,a,e⟩
 . omega
 have:=h.ub b a;have:=g b a;omega
theorem Ck.le{f:Nat->Int}{m B:Int}(h:Ck f S m)(d:0<=B)(a:∀b,S b->f b<=B):m<=B:=by
 rcases h.at_ with e|⟨b,c,e⟩
 . omega
 have:=a b c;omega
theorem Ck.none{f:Nat->Int}(h:∀b,¬S b):Ck f S 0:=⟨Int.le_refl _, λb a=>(h b a).elim,.inl rfl⟩
theorem Ck.add{f:Nat->Int}{m:Int}{b:Nat}(h:Ck f S m)(c:∀x,S' x↔S x\/x=b):Ck f S' (max m (f b)):=by
 have g:=h.nn;refine⟨oM, λx a=> ?_,?_⟩
 . rcases(c x).1 a with a|rfl
   . have:=h.ub x a;omega
   omega
 rcases Int.le_total m (f b)with d|d
 . exact .inr ⟨b,(c b).2 (.inr rfl),oM⟩
 rw[Int.max_eq_left d];exact h.at_.imp_right λ⟨x,a,e⟩=>⟨x,(c x).2 (.inl a),e⟩
theorem Ck.iff{f:Nat->Int}{m:Int}(h:Ck f S m)(a:∀x,S' x↔S x):Ck f S' m:=⟨h.nn, λb c=>h.ub b ((a b).1 c),h.at_.imp_right λ⟨x,d,e⟩=>⟨x,(a x).2 d,e⟩⟩
section
variable {E:Nat->List Nat} {n:Nat} {D L:Nat->Nat->Bool} {inn bk:Nat->Prop} {J:Nat->Nat} {C s s':Nat->Int} {h:Nat} {iv:Int}
structure SG(E:Nat->List Nat)(inn:Nat->Prop)(J:Nat->Nat)(h:Nat)(C s:Nat->Int):Prop where
 jv:Yg E inn J h C s
 sm:∀b,inn b->s (J b)<=4294967295
def KP(E:Nat->List Nat)(inn:Nat->Prop)(J:Nat->Nat)(h:Nat)(C:Nat->Int):Prop:=∀t,Ve E inn J h C t->∃b,inn b/\4294967295<t (J b)
theorem SG.not(p:SG E inn J h C s)(q:KP E inn J h C):False:=by obtain⟨b,a,c⟩:=q s p.jv.clo;have:=p.sm b a;omega
def Vk(E:Nat->List Nat)(inn:Nat->Prop)(b:Nat):Prop:=inn b/\∃x∈E b,¬inn x
def NX(E:Nat->List Nat)(inn bk:Nat->Prop)(J:Nat->Nat)(h:Nat)(C:Nat->Int)(iv:Int)(r:Option Int):Prop:=(r=M/\KP E inn J h C)\/∃s a c,SG E inn J h C s/\Ck (λb=>s (J b)) bk a/\Ck (λb=>s (J b)) (Vk E inn) c/\r=if 4294967295<iv*a+c then M else K (iv*a+c)
theorem NX.one{r j:Option Int}(l:∀b,bk b->inn b)(d:NX E inn bk J h C iv r)(a:NX E inn bk J h C iv j):r=j:=by
 rcases d with⟨rfl,d⟩|⟨s,u,v,p,m,n,e⟩
 . rcases a with⟨rfl,_⟩|⟨s',k,t,c,g,i,f⟩
   . rfl
   exact(c.not d).elim
 rcases a with⟨rfl,a⟩|⟨s',k,t,c,g,i,f⟩
 . exact(p.not a).elim
 obtain rfl:=m.one g λb q=>p.jv.one c.jv (l b q)
 obtain rfl:=n.one i λb q=>p.jv.one c.jv q.1
 rw[e,f]
def QN(E:Nat->List Nat)(n:Nat)(a:Nat->Prop)(J:Nat->Nat)(C:Nat->Int)(r:Int):Prop:=(r=-1/\KP E (λb=>b<n) J 0 C)\/∃s,SG E (λb=>b<n) J 0 C s/\Ck (λb=>s (J b)) (λb=>b<n/\a b) r
theorem QN.one{r f:Int}(c:QN E n g J C r)(a:QN E n g J C f):r=f:=by
 rcases c with⟨rfl,c⟩|⟨s,p,m⟩
 . rcases a with⟨rfl,_⟩|⟨s',d,e⟩
   . rfl
   exact(d.not c).elim
 rcases a with⟨rfl,a⟩|⟨s',d,e⟩
 . exact(p.not a).elim
 exact m.one e λb q=>p.jv.one d.jv q.1
inductive QK (E:Nat->List Nat) (n:Nat) (D L:Nat->Nat->Bool) (iv:Nat->Int) (rt:Nat->Prop):List Nat->(Nat->Nat)->(Nat->Int)->Int->Prop
 |nil {J:Nat->Nat} {C:Nat->Int} {r:Int}:QN E n rt J C r->QK E n D L iv rt [] J C r
 |bad {h:Nat} {hs:List Nat} {J:Nat->Nat} {C:Nat->Int}:NX E (λb=>L h b=true) (· ∈AH E D n h) J h C (iv h) M->QK E n D L iv rt (h::hs) J C (-1)
 |step {h:Nat} {hs:List Nat} {J:Nat->Nat} {C:Nat->Int} {v r:Int}:NX E (λb=>L h b=true) (· ∈AH E D n h) J h C (iv h) (K v)->QK E n D L iv rt hs (λb=>if L h b then h else J b) (λc=>if c=h then v else C c) r->QK E n D L iv rt (h::hs) J C r
theorem QK.one{iv:Nat->Int}(d:∀h b,b∈AH E D n h->L h b=true){J:Nat->Nat}{C:Nat->Int}{r f:Int}(i:QK E n D L iv g e J C r)(c:QK E n D L iv g e J C f):r=f:=by
 induction i with
 |nil h=>cases c with|nil a=>exact h.one a
 | bad h=>
   cases c with
   |bad _=>rfl
   |step a _=>cases h.one (d _) a
 | step h _ j=>
   cases c with
   |bad a=>cases h.one (d _) a
   |step a q=>cases h.one (d _) a;exact j q
end
structure KM(D:DataW Unit)(left:Lit->Bool)(zs:List Int):Prop where
 nodup:zs.Nodup
 mem:∀z,z∈zs↔Dg z/\Go.Maps.has D (.int Af z)=true/\left (.int Af z)=false
theorem KM.start(D:DataW Unit):KM D (Go.Maps.has D) []:=⟨List.nodup_nil, λz=>⟨λh=>(by cases h), λh=>by rw[h.2.1]at h;exact absurd h.2.2 sP⟩⟩
theorem DA(z x:Int):(Lit.int Af z).sameKey (.int Af x)=decide (z=x):=by
 by_cases h:z=x
 . subst h;simp[Lit.sameKey]
 rw[Go.Maps.sameKey_ne (λe=>h (by cases e;rfl))];simp[h]
theorem KM.step{D:DataW Unit}{left:Lit->Bool}{zs:List Int}{x:Int}{y:DataW Unit}(h:KM D left zs)(hw:Dg x)(k:left (.int Af x)=true)(j:∀m,D.atKey (.int Af x) m=y):KM D (λz=>left z&& !z.sameKey (.int Af x)) (zs++[x]):=by
 have l:x∉zs:= λe=>by have:=((h.mem x).1 e).2.2;rw[k]at this;cases this
 refine⟨?_, λz=> ?_⟩
 . rw[nG];refine⟨h.nodup,sP,?_⟩;intro a i b g;simp only[kY,lG,mS]at g;subst g;exact λe=>l (e▸i)
 rw[kO,h.mem];simp only[kY,lG,mS,DA];constructor
 . rintro(⟨c,d,f⟩|rfl)
   . exact⟨c,d,by simp[f]⟩
   exact⟨hw,Go.Maps.has_true_of_atKey j,sP⟩
 rintro⟨c,d,f⟩;by_cases e:z=x
 . exact .inr e
 refine .inl ⟨c,d,?_⟩;simpa[e]using f
theorem C5(zs:List Int):Ad As zs=zs.map (Value.int Af):=by
 induction zs with
 |nil=>rfl
 |cons z r a=>simp[As,a]
theorem Nu(zs:List Int)(h:zs.Nodup):(zs.mergeSort λx y=>decide (x<=y)).Pairwise (· < ·):=by have d:(zs.mergeSort λx y=>decide (x<=y)).Pairwise (λa b=>decide (a<=b)=true):=List.pairwise_mergeSort (λa b c d e=>by simp at*;omega) (λa b=>oT) zs;have e:(zs.mergeSort λx y=>decide (x<=y)).Nodup:=(nS zs _).nodup_iff.2 h;refine(d.and e).imp ?_;rintro a b ⟨f,g⟩;simp at f;omega
theorem IU(b d:Nat)(D:DataW Unit)(w:Y)(aR:d<=1048576)(h:AW w b d D):
 Ai Ap 102 #[.map (K b)] w λe B=>∃(g cap:Nat) (zs:List Int),e=Al (Z g zs cap)/\Ab B w 2 1 (Z g zs cap) zs (Ad As zs)/\zs.Pairwise (· < ·)/\(∀z,z∈zs↔Dg z/\Go.Maps.has D (.int Af z)=true)/\Ah w w B:=by
 obtain⟨T,I,Q,R,S⟩:=lS Bp;have m:w.ownsMap Ap 2 (unitElem (H:=Unit)) b d D:=h;have ah:=m.lt;have aW:=m.size_le;clear h;go_enter func102,ntmps102;go_wp2_with (first
  |(at_len;refine wpList_len_own _ rfl _ 154 rfl 2 207 underlying154 _ b d _ rfl m ?_)
  |(at_make;refine wpList_make_own _ rfl _ _ 46 rfl w 2 T (iZ 0) 1 underlying46 I Q R _ _ _ (Go.Maps.size D) rfl rfl rfl (by rw[S];omega) oX lR ?_;intro C aH l)
  |(at_range;refine wpList_range_own _ rfl _ 154 rfl 2 207 EL underlying154 _ b d _ rfl (m.kept l sP) ?_;intro w0 aG F aU)
  |go_in)
 go_frame;go_loopw [3] (λv wr=>∃(left:Lit->Bool) (p:Nat) (zs:List Int),wr.ranges Ap 2 (unitElem (H:=Unit)) b C d D left p/\ ↑zs+p<=Go.Maps.size D/\Ab wr w 2 1 v zs (zs.map (Value.int Af))/\v≠sN/\KM D left zs/\Ah w w wr) (λ_ wr=>wr.rangeLeft b C)
 case atStart=>exact⟨_,_,[],aG,sP,aH.kept F (Or.inr (by simp[Value.ownBlock])),sP,KM.start D,((kS _ _).grown l lR (λj a=>by cases a)).grown F l.size (λj a=>by cases a)⟩
 case round=>
  obtain⟨left,p,zs,t,aS,A,aE,r,f⟩:=hrel;go_wp2_with (first
   |(at_next;refine wpList_next_ranges _ rfl _ rfl 2 EL (unitElem (H:=Unit)) (Value.int Af) (λ(_:Unit)=>Value.agg #[]) (λaX kl hk=>by obtain⟨x,hx,_⟩:=Go.Maps.keyOf_int_inv underlying2 hk;exact⟨x,hx⟩) (λv y P=>by obtain⟨rfl,_⟩:=unitElem_inv P;exact⟨(),rfl⟩) b C d _ _ _ rfl t ?_ ?_)
   |go_in)
  . intro aQ ao;rcases A.2 with⟨aw,_⟩|⟨g,cap,aP,rfl,E,s,V,W,X,h4⟩
    . exact absurd aw aE
    have hH:Go.Sort.Holds (Value.int Af) wr g 0 zs.toArray:=holds_of_blockI s (by simpa using h4);have aj:g<wr.heap.size:=(kM.1 s).1;have hc:=Qa g cap zs wr hH aj oM;have i:Ae ((zs.mergeSort λx y=>decide (x<=y)).Pairwise (· < ·)/\(∀z,z∈(zs.mergeSort λx y=>decide (x<=y))↔Dg z/\Go.Maps.has D (.int Af z)=true)/\(zs.mergeSort λx y=>decide (x<=y)).length= ↑zs):=by refine⟨Nu zs r.nodup, λz=> ?_,(nS zs _).length_eq⟩;rw[(nS zs _).mem_iff,r.mem];exact⟨λq=>⟨q.1,q.2.1⟩, λq=>⟨q.1,q.2,ao _⟩⟩
    go_wp2_with (go_at_call 127;refine hc.mono ?_;rintro e B ⟨rfl,nn,os,rfl⟩);go_ret;refine⟨g,cap,zs.mergeSort λx y=>decide (x<=y),?_,?_,i.1,i.2.1,f.grown (grownBy_sortedI _) f.size (λj a=>by cases a;exact E)⟩
    . rw[i.2.2];rfl
    rw[i.2.2,C5];exact ownsRow_sortedI i.2.2 E s V W X
  intro x c kl y w2 U am aq P ae L au k aI aT;obtain⟨x',ex,rfl,aM⟩:=Go.Maps.keyOf_int_inv underlying2 am;obtain rfl:x=x':=by cases ex;rfl
  have n:=A.kept k (Or.inr (Go.row_ne_iter A t).symm);clear aI;go_wp2_with (first
   |(at_builtin;refine wpList_append_own _ rfl _ _ 46 rfl w 2 T (iZ 0) 1 8 underlying46 I Q R S rfl dC _ _ _ rfl (n.alloc _) w2 1 1 [x] rfl rfl (Go.cell_one_new _ _ _) (λu O=>by simp at O;subst O;rfl) oX oM (by have:=f.size;have:=k.size;simp;omega) ?_;intro v' w3 aF G aA;go_frame)
   |go_in)
  have N:=(L.alloc (Ak #[x] 2)).kept G (Go.row_ne_low n ah) (Go.row_ne_iter n L);go_roundw;case rel=>refine⟨_,U,zs++[x],N,oT,by simpa using aF, λaJ=>by have:=(aA.1 aJ).2;omega,r.step aM aq ae,?_⟩;exact((f.grown k f.size (λj a=>by cases a;exact l.size)).alloc (by have:=f.size;have:=k.size;omega) _).grown G (by have:=f.size;have:=k.size;simp;omega) (λj a=>(n.lt j a).1)
  case measure=>rw[N.left_eq,t.left_eq];exact au
theorem VS(x y:Nat)(hx:x<18446744073709551616)(hy:y<18446744073709551616)(w:World):
 Calls Tryz.prog 158 #[.int .u64 x,.int .u64 y] w λe w'=>e=.returned (.tuple #[.int .u64 ((x*y / 18446744073709551616:Nat):Int),.int .u64 ((x*y % 18446744073709551616:Nat):Int)])/\w'=w:=by
 have h:=Any.bits_Mul Tryz.lMul x y hx hy w;exact h
theorem PZ(g cap:Nat)(zs:List Int)(w:World)(hH:Go.Sort.Holds (Value.int .i64) w g 0 zs.toArray)(hsz:zs.length<=9223372036854775807):
 Calls Tryz.prog 133 #[.slice (some ⟨g,0,none⟩) zs.length cap] w λe w'=>e=.returned (.tuple #[])/\∃n,w'=Go.Sort.putRow (Value.int .i64) (Go.Sort.ahead w n) g 0 zs.reverse.toArray:=by
 have h:=AnyG.slices_Reverse_int Tryz.lReverse g 0 cap zs w hH hsz;exact h
def Eu(k n:Nat):List Value:=List.replicate k (.int .i64 (-1))++List.replicate (n-k) (.int .i64 0)
theorem PW(k n:Nat)(h:k<=n):(Eu k n).length=n:=by simp[Eu];omega
theorem PX(k c n:Nat)(h:k+c<=n):splice (Eu k n) k (List.replicate c (.int .i64 (-1)))=Eu (k+c) n:=by
 unfold splice Eu;rw[List.take_left' (by simp),mK,List.drop_append,nD (by simp),lu,mK,List.drop_replicate,<-mm,List.replicate_append_replicate];congr 2
 omega
theorem Ph(W:World)(G k n dl dc sl sc c:Nat)(ad:Addr)(hg:AC W G (Eu k n).toArray 2)(hc:c=Nat.min sl dl)(hsrc:∀j,j<c->W.cell? (ad.add j)=some (.int .i64 (-1)))(hkc:k+c<=n):
 (Builtin.copy_ #[46,46] 3 #[.slice (some ⟨G,k,none⟩) dl dc,.slice (some ad) sl sc]).run Tryz.prog W=.ok (.int .i64 (c:Int)) (W.setRow G (Eu (k+c) n).toArray):=by
 obtain⟨k0,hk,hx0,hx1,hx2⟩:=lS Bp;have h:=run_copy_row (P:=Tryz.prog) W 46 46 3 2 G k dl dc ad sl sc (Eu k n).toArray 2 (List.replicate c (.int .i64 (-1))) Tryz.underlying46 (by rw[hk];simp[hx1]) hg (by rw[mK];exact hc) (λj v hj=>by obtain⟨h1,h2⟩:=i6.1 hj;rw[mK]at h1;rw[hsrc j h1,<-h2];simp) (by rw[mK,List.size_toArray,PW k n (by omega)];exact hkc) (λv hv=>by rw[(List.mem_replicate.1 hv).2];rfl);rw[h];have e:=PX k c n hkc;unfold splice at e;simp only[mK]at e⊢;rw[mm,e];rfl
theorem Xq(k n i:Nat)(h:i<k)(hk:k<=n):(Eu k n).toArray[i]?=some (.int .i64 (-1)):=by rw[kB];unfold Eu;rw[lO (by simpa using h)];simp[h]
theorem Un{B G n:Nat}(h:W.ownsRow B 2 1 (.slice (some ⟨G,0,none⟩) n n) n (madeCells (Value.int .i64 0).cells (n*1)).toList):AC W G (Eu 0 n).toArray 2:=by
 rcases h.2 with⟨h',_⟩|⟨g',cap',cur,h',hb,hg,h3,h4,h5,h6⟩
 . cases h'
 cases h'
 have e:cur=(Eu 0 n).toArray:=by rw[Jj n (λ_=>[]) []]at h6;rw[k8 (by simp[h5])]at h6;apply Array.toList_inj.1;rw[h6];simp[Bu,Eu,List.flatten_replicate_singleton]
 rw[<-e];exact hg
theorem LI{G:Nat}{cur new:Array Value}{t:TypeId}(h:AC W G cur t):AC (W.setRow G new) G new t:=setRow_heap W G _ _ t _ h
theorem RO(g n:Nat)(w:World)(h1:1<=n)(hn:n<=1024)(h:w.cell? ⟨g,0,none⟩=some (.int .i64 (-1))):
 Calls Tryz.prog 134 #[.slice (some ⟨g,0,none⟩) 1 1,.int .i64 (n:Int)] w λe w'=>∃g',e=.returned (.slice (some ⟨g',0,none⟩) n n)/\w'.ownsRow w.heap.size 2 1 (.slice (some ⟨g',0,none⟩) n n) n (List.replicate n (.int .i64 (-1)))/\Below w.heap.size w w':=by
 obtain⟨k0,hk,hx0,hx1,hx2⟩:=lS Bp;have hnI:¬(n:Int)<0:=by omega
 have hn2:(n:Int)<=1024:=by omega
 have hm1:1*n / 18446744073709551616=0:=by omega
 have hm2:1*n % 18446744073709551616=n:=by omega
 have HM:Hid (∀U:World,Calls Tryz.prog 158 #[.int .u64 1,.int .u64 (n:Int)] U λe w'=>e=.returned (.tuple #[.int .u64 0,.int .u64 (n:Int)])/\w'=U):= λU=>by have:=VS 1 n (by omega) (by omega) U;rw[hm1,hm2]at this;exact this
 clear hm1 hm2;go_enter Tryz.func134,Tryz.ntmps134;go_wp2_with fail;refine(HM.o w).mono ?_;rintro e u ⟨rfl,rfl⟩;have hgt:g<u.heap.size:=hC h;have HOC:Hid (u.cell? ⟨g,0,none⟩=some (.int .i64 (-1))):=h;clear h;go_upto_region 7 with(at_make;refine l8 _ rfl _ _ 46 rfl u.heap.size 2 k0 (.int .i64 0) 1 Tryz.underlying46 hk hx0 hx1 .i64 .i64 _ _ n rfl rfl rfl rfl (by rw[hx2];omega) (by unfold maxLen;omega) lR ?_;intro w3 hown hgrow)
 have hb3:Below u.heap.size u w3:=(kS _ _).grown hgrow lR (λk hk=>by cases hk);have k3:AC w3 u.heap.size (Eu 0 n).toArray 2:=Un hown;have hcp:=Ph w3 u.heap.size 0 n n n 1 1 1 ⟨g,0,none⟩ k3 (by simp[Nat.min_def];omega) (λj hj=>by
  obtain rfl:j=0:=by omega
  rw[Dk];exact Au hb3 HOC.o) (by omega)
 have HB4:Hid (AC (w3.setRow u.heap.size (Eu (0+1) n).toArray) u.heap.size (Eu (0+1) n).toArray 2/\Below u.heap.size u (w3.setRow u.heap.size (Eu (0+1) n).toArray)):=⟨LI k3,below_setRow hb3 lR _⟩
 clear hown hgrow hb3 k3;rw[lM]at hcp HB4;obtain⟨W4,hW4⟩:∃W,W=w3.setRow u.heap.size (Eu 1 n).toArray:=⟨_,rfl⟩;rw[<-hW4]at hcp HB4;clear hW4;obtain⟨G,hG⟩:∃G,G=u.heap.size:=⟨_,rfl⟩;rw[<-hG]at hcp HB4⊢;have HGG:Hid (G=u.heap.size):=hG;clear hG;go_wp2;go_loopw [8] (λi wr=>∃k:Nat,1<=k/\k<=n/\i=.int .i64 (k:Int)/\Hid (AC wr G (Eu k n).toArray 2/\Below u.heap.size u wr)) (λi _=>n-(intOf i).toNat)
 case atStart=>exact⟨1,by omega,h1,rfl,by rw[<-HGG.o];exact HB4⟩
 clear HB4 hcp;obtain⟨k,hk1,hkn,rfl,HL⟩:=hrel;by_cases hlt:k<n
 . (have hltI:(k:Int)<(n:Int):=by omega);have kD:=HL.o.1.a7 (At wr);have bD:=Ar HL.o.2 lR (At wr);obtain⟨c,hc⟩:∃c,c=Nat.min k (n-k):=⟨_,rfl⟩;have hcl:1<=c/\c<=k/\k+c<=n:=by have e:c=min k (n-k):=hc;omega
   have hcp:=Ph wr.drew G k n (n-k) (n-k) k n c ⟨G,0,none⟩ kD hc (λj hj=>by rw[Dk,lM,kD.cell j];exact Xq k n j (by omega) (by omega)) (by omega);have HN:Hid (AC (wr.drew.setRow G (Eu (k+c) n).toArray) G (Eu (k+c) n).toArray 2/\Below u.heap.size u (wr.drew.setRow G (Eu (k+c) n).toArray)):=⟨LI kD,below_setRow bD (by rw[HGG.o];exact Nat.le_refl _) _⟩
   clear kD bD hc;go_wp2;go_region;refine AX (λx=>Hid (AC x G (Eu (k+c) n).toArray 2/\Below u.heap.size u x)) HN ?_
   intro U HU;clear HN hcp;go_wp2;go_roundw;(case rel=>exact⟨k+c,by omega,by omega,by go_num,HU⟩);simp[intOf];omega
 obtain rfl:k=n:=by omega
 have HE:Hid (wr.ownsRow u.heap.size 2 1 (.slice (some ⟨G,0,none⟩) k k) k (List.replicate k (.int .i64 (-1)))):=by refine⟨by simp,.inr ⟨G,k,(Eu k k).toArray,rfl,by rw[HGG.o];exact Nat.le_refl _,HL.o.1,Nat.le_refl _,by unfold maxLen;omega,by simp[Eu],by simp[Eu]⟩⟩
 go_wp2;go_ret;exact⟨G,rfl,HE.o,HL.o.2⟩
theorem Hp{S S':List Nat}(n:Nat)(h:∀x∈S,x∈S'):A8 S' n<=A8 S n:=by unfold A8;rw[<-List.countP_eq_length_filter,<-List.countP_eq_length_filter];apply List.countP_mono_left;intro x _ a;simp only[Bool.not_eq_true',List.contains_eq_mem,nR]at a⊢;exact λq=>a (h x q)
theorem Vs.more{E:Nat->List Nat}{S O r S' a:List Nat}(h:Vs E S O r S' a):∀x∈S,x∈S':=by obtain⟨N,t⟩:=h.told;exact λx b=>(t.seen x).2 (.inl b)
theorem Ro(g o c n l:Nat)(E:Nat->List Nat)(w:Y)(hn:n<=1048576)(W:∀b,b<n->∀x∈E b,x<n)(am:∀b,(E b).length<=2)(h:Km w g o n E):
 ∀(m:Nat) (S O:List Nat) (b:Nat) (V:J) (u:Y),A8 S n=m->b<n->b∉S-> ↑O+A8 S n<=n->SN w u n l V (λx=>S.contains x) O->
 Ai Ap 59 #[sO g o n c,(b:Int),sG l n n,V] u λe I=>∃V' S' d,e=Al V'/\Vs E (b::S) O (E b) S' d/\SN w I n l V' (λx=>S'.contains x) (d++[b])/\(d++[b]).length+A8 S' n<= ↑O+A8 S n:=by
 obtain⟨k0,hk,aQ,aR,aS⟩:=lS Bp;have H:=Av (d5 h (d5 W am));clear h W am;intro m;induction m using Nat.strongRecOn with
 | ind m ih=>
   intro S O b V u hm C aH ae z;have IH:Ae (∀m',m'<m->∀(S O:List Nat) (b:Nat) (V:J) (u:Y),A8 S n=m'->b<n->b∉S-> ↑O+A8 S n<=n->SN w u n l V (λx=>S.contains x) O->
    Ai Ap 59 #[sO g o n c,(b:Int),sG l n n,V] u λe I=>∃V' S' d,e=Al V'/\Vs E (b::S) O (E b) S' d/\SN w I n l V' (λx=>S'.contains x) (d++[b])/\(d++[b]).length+A8 S' n<= ↑O+A8 S n):=ih
   have ao:=Ev S n b C aH;have s:=Av (d5 ao (d5 hm ae));obtain⟨p,q,rfl⟩:=AO z.list;have aX:(b:Int)<(n:Int):=oM;have d0:=z.seen.cell C;have z0:=z.seen.frozen b;have P:Ae (SN w (Aa u ⟨l,b,M⟩ true) n l (Z p O q) (λx=>(b::S).contains x) O):=z.mark b true λj hj=>by
    by_cases e:j=b
    . subst e;simp
    simp[e]
   obtain⟨a,ca,v,T⟩:=H.1 b C;have N:=Av (d5 v T);have aT:=H.2.2 b;clear ih z v T ao hm ae;go_enter func59,ntmps59;go_wp2;go_loopw [3,9] (λV i wr=>∃(S' d:List Nat) (k:Nat) (p:Option Addr) (q:Nat),V=Z p d q/\i=iZ k/\k<=(E b).length/\ ↑d+1<=n/\Ae (Vs E (b::S) O ((E b).take k) S' d/\SN w wr n l V (λx=>S'.contains x) d/\ ↑d+A8 S' n+1<= ↑O+A8 S n)) (λ_ i _=>2-(intOf i).toNat)
   (case atStart=>exact⟨b::S,O,0,p,q,rfl,rfl,oM,by have:=s.o;omega,by simpa using Vs.nil (b::S) O,P,by have:=s.o;omega⟩);clear P d0 z0;obtain⟨S',d,k,p,q,rfl,rfl,aY,hO,f⟩:=hrel;have v:=Au f.2.1.e8 N.1;by_cases aJ:k<(E b).length
   . have aZ:(k:Int)<((E b).length:Int):=oM;obtain⟨y,A⟩:∃y,(E b)[k]?=K y:=⟨_,an aJ⟩;have aw:y<n:=H.2.1 b C y (i7 A);have b7:(y:Int)<(n:Int):=oM;have HY:=Av A;obtain⟨ga,oa,rfl,_,L⟩:=N.2.at_ A;(replace L:=Au f.2.1.e8 L);have G:=f.2.1.seen.cell aw;(have Q:Ae ((E b).take (k+1)=(E b).take k++[y]):=by obtain⟨hl,rfl⟩:=i6.1 A;exact kU hl);clear A;cases hc:S'.contains y
     . simp only[hc]at G;(have au:y∉S':=by simpa using hc);have ah:=f.1.more;have aP:=Hp n ah;have HC:=Av (IH.o (A8 S' n) (by have:=s.o;omega) S' d y _ wr rfl aw au (by have:=f.2.2;have:=s.o;omega) f.2.1);clear ah aP;go_wp2_with fail;refine HC.mono ?_;rintro e u2 ⟨V2,B,t,rfl,aq,F,aI⟩;obtain⟨R,c2,rfl⟩:=AO F.list;have r:Ae (Vs E (b::S) O ((E b).take (k+1)) B (t++[y])/\SN w u2 n l (Z R (t++[y]).length c2) (λx=>B.contains x) (t++[y])/\(t++[y]).length+A8 B n+1<= ↑O+A8 S n):=by refine⟨?_,F,by have:=f.2.2;omega⟩;rw[Q];exact f.1.gX (.new au aq (.nil _ _))
       (have aF:(t++[y]).length+1<=n:=by have:=r.2.2;have:=s.o;omega);clear aq F aI G L v;go_wp2;go_roundw;(case rel=>exact⟨B,t++[y],k+1,R,c2,by rw[kE,kK],by go_num,oM,aF,r.1,by have:=r.2.1;rw[kE,kK]at this;exact this,r.2.2⟩);exact oI
     simp only[hc]at G;(have r:Ae (Vs E (b::S) O ((E b).take (k+1)) S' d):=by show Vs E (b::S) O ((E b).take (k+1)) S' d;rw[Q];exact f.1.gX (.old (by simpa using hc) (.nil _ _)));go_wp2;go_roundw;(case rel=>exact⟨S',d,k+1,p,q,rfl,by go_num,oM,hO,r,f.2.1,f.2.2⟩);exact oI
   obtain rfl:k=(E b).length:=oM;have aU:=s.o;have aW:=f.2.2;(go_upto_region 7 with fail);refine Ax (λu=>Ae (SN w u n l (Z p d q) (λx=>S'.contains x) d)) f.2.1 ?_;intro U D;clear v;go_wp2_with (at_builtin;refine wpList_append_lies _ rfl _ _ 46 rfl w 2 k0 (iZ 0) 1 8 underlying46 hk aQ aR aS rfl dC _ d (nv d) rfl (D.al (Ak #[(b:Int)] 2)).1 U 1 1 [(b:Int)] rfl rfl (Bw U (b:Int)) (λu hu=>by simp at hu;subst hu;rfl) oM (by simp[maxLen];omega) oM (D.al (Ak #[(b:Int)] 2)).2 _ rfl ?_;intro g5 aE w5 aj X aG aM;have aA:Ae (SN w w5 n l (sG g5 (d.length+1) aE) (λx=>S'.contains x) (d++[b])):=D.gX aj X;clear aj X aG aM);go_ret;refine⟨_,S',d,rfl,?_,aA,by rw[kE,kK];omega⟩;have:=f.1;rw[k8 lR]at this;exact this
def jf(I:List Nat)(b:Nat):Nat:=I.getD b 0
def cf(C:List Int)(c:Nat):Int:=C.getD c 0
def Ez(P:Nat->Bool)(n b:Nat):Prop:=b<n/\P b=true
theorem Ls{I:List Nat}{b t:Nat}(h:I[b]?=K t):jf I b=t:=by unfold jf;rw[kL,h];rfl
theorem DL{C:List Int}{b:Nat}{t:Int}(h:C[b]?=K t):cf C b=t:=by unfold cf;rw[kL,h];rfl
theorem Dl{C:List Int}{k b:Nat}{c y:Int}(h:C[k]?=K y):cf (C.set k c) b=if b=k then c else cf C b:=by
 have a:=(i6.1 h).1;unfold cf;rw[kL,kL,List.getElem?_set];by_cases e:b=k
 . subst e;simp[a]
 rw[kP (Ne.symm e),kP e]
structure KF(E:Nat->List Nat)(n:Nat)(P:Nat->Bool)(I:List Nat)(C:List Int)(f:Nat)(bd0 bd:Bool)(L:List Int):Prop where
 hd:cf L f=cf C f
 le:∀t,Ve E (Ez P n) (jf I) f (cf C) t->(∀b,Ez P n b->0<=t (jf I b))->∀b,Ez P n b->cf L (jf I b)<=t (jf I b)
 bad:bd=true->bd0=true\/∀t,Ve E (Ez P n) (jf I) f (cf C) t->(∀b,Ez P n b->0<=t (jf I b))->∃b,Ez P n b/\4294967295<t (jf I b)
 mono:bd0=true->bd=true
def XJ(P:Nat->Bool)(I:List Nat)(C:List Int)(f:Nat)(L:List Int)(b x:Nat):Prop:=P b=true->P x=true->jf I x≠jf I b->jf I x≠f->0<=cf L (jf I b)->cf L (jf I b)+cf C (jf I x)<=cf L (jf I x)
def Ye(E:Nat->List Nat)(n:Nat)(P:Nat->Bool)(I:List Nat)(C:List Int)(f:Nat)(L:List Int):Prop:=∀b,b<n->∀x∈E b,XJ P I C f L b x
def TT(E:Nat->List Nat)(O:List Nat)(P:Nat->Bool)(I:List Nat)(C:List Int)(f:Nat)(L0 L:List Int)(ag bd:Bool)(m:Nat):Prop:=ag=false->bd=false->L=L0/\∀j b,j<m->O[j]?=K b->∀x∈E b,XJ P I C f L0 b x
def XP(eb:List Nat)(P:Nat->Bool)(I:List Nat)(C:List Int)(f:Nat)(L0:List Int)(ag bd:Bool)(b q:Nat):Prop:=ag=false->bd=false->∀j x,j<q->eb[j]?=K x->XJ P I C f L0 b x
section
variable {E:Nat->List Nat} {n:Nat} {P:Nat->Bool} {I:List Nat} {C:List Int} {f:Nat} {bd0 bd:Bool} {L L0:List Int} {O eb:List Nat} {ag:Bool} {m b q x:Nat}
theorem KF.start(g:∀y∈L,y=-1)(a:L[f]?=K (-1)){y:Int}(c:cf C f=y)(m:∀b,Ez P n b->jf I b=f->b=f)(p:jf I f=f):KF E n P I C f bd bd (L.set f y):=by
 refine⟨by rw[Dl a,kZ rfl,c], λt j i b d=> ?_, λh=>.inl h, λh=>h⟩;rw[Dl a];by_cases e:jf I b=f
 . rw[kZ e,e,j.hd,c];exact Int.le_refl _
 rw[kP e];have k:=i b d;have l:cf L (jf I b)=-1\/cf L (jf I b)=0:=by
  unfold cf;rw[kL];cases h3:L[jf I b]? with
  |none=>exact .inr rfl
  |some z=>exact .inl (g z (i7 h3))
 omega
theorem KF.over(h:KF E n P I C f bd0 bd L)(g:Ez P n b)(q:Ez P n x)(p:x∈E b)(l:jf I x≠jf I b)(d:jf I x≠f)(r:0<=cf L (jf I b)){k:Int}(j:L[jf I x]?=K k)(u:cf L (jf I b)+cf C (jf I x)<=4294967295)(s:k<cf L (jf I b)+cf C (jf I x)):KF E n P I C f bd0 bd (L.set (jf I x) (cf L (jf I b)+cf C (jf I x))):=by
 refine⟨by rw[Dl j,kP (Ne.symm d)];exact h.hd, λt a i c m=> ?_,h.bad,h.mono⟩;rw[Dl j];by_cases e:jf I c=jf I x
 . rw[kZ e,e];have:=h.le t a i b g;have:=a.ed b x g p q l d;omega
 rw[kP e];exact h.le t a i c m
theorem KF.zero(h:KF E n P I C f bd0 bd L)(g:jf I x≠f)(d:L[jf I x]?=K j):KF E n P I C f bd0 bd (L.set (jf I x) 0):=by
 refine⟨by rw[Dl d,kP (Ne.symm g)];exact h.hd, λt i c a b=> ?_,h.bad,h.mono⟩;rw[Dl d];by_cases e:jf I a=jf I x
 . rw[kZ e];exact c a b
 rw[kP e];exact h.le t i c a b
theorem KF.im(h:KF E n P I C f bd0 bd L)(a:Ez P n b)(d:Ez P n x)(i:x∈E b)(e:jf I x≠jf I b)(g:jf I x≠f)(k:4294967295<cf L (jf I b)+cf C (jf I x)):KF E n P I C f bd0 true L:=⟨h.hd,h.le, λ_=>.inr λt c j=>⟨x,d,by have:=h.le t c j b a;have:=c.ed b x a i d e g;omega⟩, λ_=>rfl⟩
theorem KF.pass{y:Nat->Nat}{D:Nat->Nat->Bool}{F:Nat->Prop}(g:GQ E n y D)(r:SH E n D F (jf I) (Ez P n) f)(i:∀c,0<=cf C c)(h:KF E n P I C f bd0 bd L)(s:Ye E n P I C f L)(H:∀c,cf L c<=4294967295):SG E (Ez P n) (jf I) f (cf C) (cf L):=by
 have N:∀b,Ez P n b->0<=cf L (jf I b):=by
  intro b d;suffices ∀m b,y b<=m->Ez P n b->0<=cf L (jf I b)from this _ b lR d
  intro m;induction m with
  | zero=>
    intro b k a;by_cases e:b=f
    . rw[e,r.jh,h.hd];exact i _
    (have j:b≠0:= λq=>by subst q;exact e (r.z a).symm);have:=g.P.gH b (r.lt b a) j;omega
  | succ m Q=>
    intro b k a;by_cases e:b=f
    . rw[e,r.jh,h.hd];exact i _
    (have j:b≠0:= λq=>by subst q;exact e (r.z a).symm);obtain⟨q,A,B,S⟩:=g.P.par b (r.lt b a) j;have u:=r.pr b a e q A B;have w:=Q q oM u;by_cases l:jf I b=jf I q
    . rw[l];exact w
    by_cases p:jf I b=f
    . exact absurd (r.jo b a p) e
    have R:=s q A b B u.2 a.2 l p w;have:=i (jf I b);omega
 refine⟨⟨⟨h.hd, λb x d G O k a=>s b d.1 x G d.2 O.2 k a (N b d)⟩, λt v b d=>h.le t v (λb d=>v.iQ g r i d) b d⟩, λb d=>H _⟩
theorem KF.iH{l:Nat->Nat}{D:Nat->Nat->Bool}{d:Nat->Prop}(g:GQ E n l D)(r:SH E n D d (jf I) (Ez P n) f)(i:∀c,0<=cf C c)(h:KF E n P I C f false true L):KP E (Ez P n) (jf I) f (cf C):= λt a=>
 (h.bad rfl).elim (λe=>by cases e) λk=>k t a λb j=>a.iQ g r i j
end
end Go.Proofs.YtmalfecapdmdbaaGreat
