import Derived.Test.YtmalfecapdmdbaaGreatHo2
import Derived.Shelf.SlGeneric
import Derived.Shelf.SortG.Plain
import Derived.Shelf.SortG.SortNone
import Derived.Shelf.SlicesG.SearchI
import Derived.Shelf.SlicesG.Turned
import Derived.Ground.SlgnProg
import Derived.Sort.OwnSortedInts
import Derived.Deep.AppendLies
import Derived.Deep.RegionLaw
import Derived.Laws.StructEq
namespace Go.Proofs
open Go.Shelf
def Tryz.lSort_ren:Go.Shelf.Ren:=⟨λ |53=>127|64=>153|63=>152|78=>177|79=>178|70=>169|71=>170|72=>171|73=>172|74=>173|75=>174|59=>155|76=>175|77=>176|88=>198|89=>199|90=>200|91=>201|92=>202|68=>162|96=>216|n=>n, λ |22=>46|23=>2|3=>3|51=>234|0=>0|67=>86|69=>227|4=>4|61=>248|60=>247|44=>211|5=>5|9=>9|75=>262|79=>266|83=>276|84=>277|n=>n, λ |n=>n⟩
theorem Tryz.lSort:Go.Proofs.SlLaysN.n53 Tryz.prog Tryz.lSort_ren:={
 mixed:=by kernel_rfl
 f53:=⟨Tryz.f127.name,by decide,Tryz.func127.trans (congrArg some (by kernel_rfl))⟩
 f59:=⟨Tryz.f155.name,by decide,Tryz.func155.trans (congrArg some (by kernel_rfl))⟩
 f63:=⟨Tryz.f152.name,by decide,Tryz.func152.trans (congrArg some (by kernel_rfl))⟩
 f64:=Tryz.func153.trans (congrArg some (by kernel_rfl))
 f68:=⟨Tryz.f162.name,by decide,Tryz.func162.trans (congrArg some (by kernel_rfl))⟩
 f70:=⟨Tryz.f169.name,by decide,Tryz.func169.trans (congrArg some (by kernel_rfl))⟩
 f71:=⟨Tryz.f170.name,by decide,Tryz.func170.trans (congrArg some (by kernel_rfl))⟩
 f72:=⟨Tryz.f171.name,by decide,Tryz.func171.trans (congrArg some (by kernel_rfl))⟩
 f73:=⟨Tryz.f172.name,by decide,Tryz.func172.trans (congrArg some (by kernel_rfl))⟩
 f74:=⟨Tryz.f173.name,by decide,Tryz.func173.trans (congrArg some (by kernel_rfl))⟩
 f75:=⟨Tryz.f174.name,by decide,Tryz.func174.trans (congrArg some (by kernel_rfl))⟩
 f76:=⟨Tryz.f175.name,by decide,Tryz.func175.trans (congrArg some (by kernel_rfl))⟩
 f77:=⟨Tryz.f176.name,by decide,Tryz.func176.trans (congrArg some (by kernel_rfl))⟩
 f78:=Tryz.func177.trans (congrArg some (by kernel_rfl))
 f79:=Tryz.func178.trans (congrArg some (by kernel_rfl))
 f88:=⟨Tryz.f198.name,by decide,Tryz.func198.trans (congrArg some (by kernel_rfl))⟩
 f89:=Tryz.func199.trans (congrArg some (by kernel_rfl))
 f90:=Tryz.func200.trans (congrArg some (by kernel_rfl))
 f91:=⟨Tryz.f201.name,by decide,Tryz.func201.trans (congrArg some (by kernel_rfl))⟩
 f92:=⟨Tryz.f202.name,by decide,Tryz.func202.trans (congrArg some (by kernel_rfl))⟩
 f96:=⟨Tryz.f216.name,by decide,Tryz.func216.trans (congrArg some (by kernel_rfl))⟩
 t0:=Tryz.underlying0
 a0:=Tryz.isAgg0
 z0:=Tryz.sizeOf0
 v0:=Tryz.zeroValue0
 t3:=Tryz.underlying3
 a3:=Tryz.isAgg3
 z3:=Tryz.sizeOf3
 v3:=Tryz.zeroValue3
 t4:=Tryz.underlying4
 a4:=Tryz.isAgg4
 z4:=Tryz.sizeOf4
 v4:=Tryz.zeroValue4
 t5:=Tryz.underlying5
 a5:=Tryz.isAgg5
 z5:=Tryz.sizeOf5
 v5:=Tryz.zeroValue5
 t9:=Tryz.underlying9
 a9:=Tryz.isAgg9
 z9:=Tryz.sizeOf9
 v9:=Tryz.zeroValue9
 t22:=Tryz.underlying46
 a22:=Tryz.isAgg46
 z22:=Tryz.sizeOf46
 v22:=Tryz.zeroValue46
 t23:=Tryz.underlying2
 a23:=Tryz.isAgg2
 z23:=Tryz.sizeOf2
 v23:=Tryz.zeroValue2
 t44:=Tryz.underlying211
 a44:=Tryz.isAgg211
 z44:=Tryz.sizeOf211
 v44:=Tryz.zeroValue211
 t51:=Tryz.underlying234
 a51:=Tryz.isAgg234
 z51:=Tryz.sizeOf234
 v51:=Tryz.zeroValue234
 t60:=Tryz.underlying247
 a60:=Tryz.isAgg247
 z60:=Tryz.sizeOf247
 v60:=Tryz.zeroValue247
 t61:=Tryz.underlying248
 a61:=Tryz.isAgg248
 z61:=Tryz.sizeOf248
 v61:=Tryz.zeroValue248
 t67:=Tryz.underlying86
 a67:=Tryz.isAgg86
 z67:=Tryz.sizeOf86
 v67:=Tryz.zeroValue86
 t69:=Tryz.underlying227
 a69:=Tryz.isAgg227
 z69:=Tryz.sizeOf227
 v69:=Tryz.zeroValue227
 t75:=Tryz.underlying262
 a75:=Tryz.isAgg262
 z75:=Tryz.sizeOf262
 v75:=Tryz.zeroValue262
 t79:=Tryz.underlying266
 a79:=Tryz.isAgg266
 z79:=Tryz.sizeOf266
 v79:=Tryz.zeroValue266
 t83:=Tryz.underlying276
 a83:=Tryz.isAgg276
 z83:=Tryz.sizeOf276
 v83:=Tryz.zeroValue276
 t84:=Tryz.underlying277
 a84:=Tryz.isAgg277
 z84:=Tryz.sizeOf277
 v84:=Tryz.zeroValue277}
def Tryz.lSearch_ren:Go.Shelf.Ren:=⟨λ |49=>131|59=>155|60=>156|68=>162|n=>n, λ |22=>46|23=>2|3=>3|4=>4|51=>234|0=>0|n=>n, λ |n=>n⟩
theorem Tryz.lSearch:Go.Proofs.SlLaysN.n49 Tryz.prog Tryz.lSearch_ren:={
 mixed:=by kernel_rfl
 f49:=⟨Tryz.f131.name,by decide,Tryz.func131.trans (congrArg some (by kernel_rfl))⟩
 f59:=⟨Tryz.f155.name,by decide,Tryz.func155.trans (congrArg some (by kernel_rfl))⟩
 f60:=⟨Tryz.f156.name,by decide,Tryz.func156.trans (congrArg some (by kernel_rfl))⟩
 f68:=⟨Tryz.f162.name,by decide,Tryz.func162.trans (congrArg some (by kernel_rfl))⟩
 t0:=Tryz.underlying0
 a0:=Tryz.isAgg0
 z0:=Tryz.sizeOf0
 v0:=Tryz.zeroValue0
 t3:=Tryz.underlying3
 a3:=Tryz.isAgg3
 z3:=Tryz.sizeOf3
 v3:=Tryz.zeroValue3
 t4:=Tryz.underlying4
 a4:=Tryz.isAgg4
 z4:=Tryz.sizeOf4
 v4:=Tryz.zeroValue4
 t22:=Tryz.underlying46
 a22:=Tryz.isAgg46
 z22:=Tryz.sizeOf46
 v22:=Tryz.zeroValue46
 t23:=Tryz.underlying2
 a23:=Tryz.isAgg2
 z23:=Tryz.sizeOf2
 v23:=Tryz.zeroValue2
 t51:=Tryz.underlying234
 a51:=Tryz.isAgg234
 z51:=Tryz.sizeOf234
 v51:=Tryz.zeroValue234}
def Tryz.lContains_ren:Go.Shelf.Ren:=⟨λ |31=>138|29=>159|n=>n, λ |22=>46|23=>2|4=>4|3=>3|0=>0|n=>n, λ |n=>n⟩
theorem Tryz.lContains:Go.Proofs.SlLaysN.n31 Tryz.prog Tryz.lContains_ren:={
 mixed:=by kernel_rfl
 f29:=⟨Tryz.f159.name,by decide,Tryz.func159.trans (congrArg some (by kernel_rfl))⟩
 f31:=⟨Tryz.f138.name,by decide,Tryz.func138.trans (congrArg some (by kernel_rfl))⟩
 t0:=Tryz.underlying0
 a0:=Tryz.isAgg0
 z0:=Tryz.sizeOf0
 v0:=Tryz.zeroValue0
 t3:=Tryz.underlying3
 a3:=Tryz.isAgg3
 z3:=Tryz.sizeOf3
 v3:=Tryz.zeroValue3
 t4:=Tryz.underlying4
 a4:=Tryz.isAgg4
 z4:=Tryz.sizeOf4
 v4:=Tryz.zeroValue4
 t22:=Tryz.underlying46
 a22:=Tryz.isAgg46
 z22:=Tryz.sizeOf46
 v22:=Tryz.zeroValue46
 t23:=Tryz.underlying2
 a23:=Tryz.isAgg2
 z23:=Tryz.sizeOf2
 v23:=Tryz.zeroValue2}
end Go.Proofs
namespace Go.Proofs.YtmalfecapdmdbaaGreat
open Go.ChangeShapes Go.WideShapes Go.ChangeAt Go.RowKit Go.Proofs.Tryz
set_option linter.unusedVariables false
open Go.Value renaming slice → Z,bool → An,int → Ag,agg → Am
open Option renaming some → K,none → M
open Go renaming Value → J,World → Y,TypeId → Aj,Calls → Ai
open Go.World renaming ownsRow → Ab,setCell → Aa,alloc → Ac
open List renaming flatMap → Ad
open Go.RowKit renaming Hid → Ae,Below → Ah
open Go.IntKind renaming i64 → Af
open Go.Obj renaming cells → Ak
open Go.Proofs.Tryz renaming prog → Ap
open Go.Ending renaming returned → Al
set_option maxHeartbeats 2000000
set_option maxRecDepth 100000
variable {w u wr U:Y}{f base B d k n g q c b cap:Nat}{e:Aj}{s v V:J}{x:MI}{m:MB}{xs:List MI}{r:List J}{a:List MB}{z:Int}{D:List (MB×J)}
theorem Qa(g cap:Nat)(zs:List Int)(w:World)(hH:Go.Sort.Holds (Value.int .i64) w g 0 zs.toArray)(hb:g<w.heap.size)(hl:zs.length<4611686018427387904):
 Calls Tryz.prog 127 #[.slice (some ⟨g,0,none⟩) zs.length cap] w λe w'=>e=.returned (.tuple #[])/\∃n os,w'=Go.Sort.grow (Go.Sort.putRow (Value.int .i64) (Go.Sort.ahead w n) g 0 (zs.mergeSort λx y=>decide (x<=y)).toArray) os:=by
 have h:=AnyG.slices_Sort_int Tryz.lSort g 0 cap zs w hH hb hl;exact h
theorem Em:(Tryz.prog.info? 4).map (λi=>(i.zero,i.size,i.bytes))=K (K ↑false,1,1):=kR
theorem BJ{f:Y}{d:Aj}{x m:Nat}{xs i:List J}(h:Ab w base e k s n xs)(q:w.grownBy f v.ownBlock)(t:Ab w B d x v m i)(r:e≠d):Ab f base e k s n xs:=by
 refine⟨h.1,?_⟩;rcases h.2 with h|⟨g,cap,j,l,p,b,u⟩
 . exact .inl h
 refine .inr ⟨g,cap,j,l,p,?_,u⟩;rw[q.block g (kM.1 b).1 ?_]
 . exact b
 intro c;rcases t.2 with⟨rfl,_⟩|⟨A,y,z,rfl,_,a,_⟩
 . cases c
 simp only[Value.ownBlock,kI]at c;subst c;rw[b]at a;simp only[kI,mg]at a;exact r a.2.1
def CV(xs:List MI)(k n:Nat):List J:=(List.range (n+1)).map λj=>Value.bool (Bv xs k j)
theorem Jh(xs:List MI)(k n:Nat):(CV xs k n).length=n+1:=by simp[CV]
theorem Hf(xs:List MI)(k n j:Nat)(a:j<=n):(CV xs k n)[j]?=K ↑(Bv xs k j):=by simp[CV,show j<n+1 from oM]
theorem Rs(xs:List MI)(n:Nat):(List.replicate (n+1) (Value.bool false)).set 0 (An true)=CV xs 0 n:=by
 apply mP;intro j;by_cases b:j<n+1
 . rw[Hf _ _ _ _ oM,Kc];by_cases a:j=0
   . subst a;simp
   rw[mr oM];simp[a,b]
 rw[kW oT,kW (by simp[CV];omega)]
theorem Nb(xs:List MI)(k n c:Nat)(d:c<=n)(P:Nat->Bool)(h:∀j,P j=(Bv xs k j||decide (j=c))):(CV xs k n).set c true=(List.range (n+1)).map λj=>Value.bool (P j):=by
 apply mP;intro j;by_cases b:j<n+1
 . by_cases a:j=c
   . subst a;rw[mZ (by rw[Jh];omega)];simp[b,h]
   rw[mr oM,Hf _ _ _ _ oM];simp[b,h,a]
 rw[kW (by simp[CV];omega),kW oT]
theorem Rr(P:Nat->Bool)(n c:Nat)(d:c<=n)(Q:Nat->Bool)(h:∀j,Q j=(P j||decide (j=c))):((List.range (n+1)).map λj=>Value.bool (P j)).set c true=(List.range (n+1)).map λj=>Value.bool (Q j):=by
 apply mP;intro j;by_cases b:j<n+1
 . by_cases a:j=c
   . subst a;rw[mZ oT];simp[b,h]
   rw[mr oM];simp[b,h,a]
 rw[kW oT,kW oT]
theorem Tk(xs:List MI)(k n c:Nat)(x:MI)(g:xs[k]?=K x)(d:A6 x=true)(a:x.c=(c:Int))(b:c<=n)(f:k+1<=n):((CV xs k n).set c true).set (k+1) true=CV xs (k+1) n:=by
 rw[Nb xs k n c b (λj=>Bv xs k j||decide (j=c)) (λj=>rfl)];refine(Rr _ n (k+1) f (λj=>Bv xs (k+1) j) (λj=> ?_)).trans rfl;rw[DV xs k j x g];have e:decide ((c:Int)=(j:Int))=decide (j=c):=by
  by_cases h:j=c
  . simp[h]
  have:¬(c:Int)=(j:Int):=oM;simp[h,this]
 simp[F7,d,a,e,Bool.or_assoc]
theorem Ul(xs:List MI)(k n:Nat)(x:MI)(d:xs[k]?=K x)(a:A6 x=false)(c:x.op=29)(b:k+1<=n):(CV xs k n).set (k+1) true=CV xs (k+1) n:=by
 rw[Nb xs k n (k+1) b (λj=>Bv xs (k+1) j) (λj=> ?_)]
 . rfl
 rw[DV xs k j x d];simp[F7,a,c]
theorem Tl(xs:List MI)(k n:Nat)(x:MI)(c:xs[k]?=K x)(a:A6 x=false)(b:¬x.op=29):CV xs k n=CV xs (k+1) n:=by
 unfold CV;congr 1
 funext j
 rw[DV xs k j x c];simp[F7,a,b]
def Hl(xs:List MI)(j:Nat):List J:=As (Bb xs j)
theorem Dy(xs:List MI)(j:Nat):(Hl xs j).length=1:=rfl
def KW(m:MB):List J:=[m.gH,m.last,Z M 0 0]
theorem Fm(m:MB):(KW m).length=3:=rfl
theorem Vm(a:List MB)(b:MB)(i:Int):(Ad KW (a++[b])).set (a.length*3+1) i=Ad KW (a++[(⟨b.gH,i,b.next⟩:MB)]):=by
 have c:(Ad KW a).length= ↑a*3:=AE KW 3 Fm a
 simp only[lL,lD,mJ,m6];rw[m8 _ _ oM,c];simp[KW]
theorem Jg(xs:List MI)(n:Nat)(h:1<=n)(m:MB)(d:m∈Bq xs n):∃e:Nat,m.last=(e:Int)/\e<n:=by
 rw[Cp]at d;unfold build at d;obtain⟨i,b⟩:=lH d;rw[nH]at b;cases h1:(CS xs n)[i]? with
 |none=>rw[h1]at b;simp at b
 | some a =>
   cases h2:((CS xs n).tail++[n])[i]? with
   |none=>rw[h1,h2]at b;simp at b
   | some q=>
     rw[h1,h2]at b;simp only[kI]at b;subst b;have j:1<=q/\q<=n:=by
      rcases kO.1 (i7 h2)with c|c
      . have f:=Dm xs n;have g:=((C6 xs n q).1 (nm c)).1;cases hL:CS xs n with
        |nil=>rw[hL]at c;cases c
        | cons y r=>rw[hL]at f c;have:=(lg.1 f).1 q c;omega
      simp at c;omega
     exact⟨q-1,oS,oM⟩
def XQ(b:Bool):List J:=[b]
structure SW(w u:Y)(xs:List MI)(n k q:Nat)(V:J):Prop where
 lead:Ab u w 4 1 (Z (K ⟨(w:Nat)+1,0,M⟩) (n+1) (n+1)) (n+1) (CV xs n n)
 num:Ab u w 2 1 (sG q n n) n (Bu (Hl xs) [iZ 0] (List.range n) k n)
 o:Ab u w 126 3 V (Bq xs k).length (Ad KW (Bq xs k))
 e8:Ah w w u
theorem Oo{i c':Nat}{b:Aj}{xs:List J}(h:Ab u B e k (sG g n c) n xs)(l:Ab u i b q (sG d f c') f r)(p:e≠b):¬g=d:= λj=>by subst j;obtain⟨_,s,m⟩:=AD h;obtain⟨_,t,a⟩:=AD l;rw[m]at a;simp only[kI,mg]at a;exact p a.2.1
theorem BE{p:Nat}{b:Aj}{xs:List J}(h:Ab u B e k s n xs)(j:Ab u f b p (sG g d c) d r)(m:e≠b)(i:Nat)(z:J):Ab (Aa u ⟨g,i,M⟩ z) B e k s n xs:=by obtain⟨_,t,l⟩:=AD j;exact kN h (a:=⟨g,i,M⟩) (λq=>BF h l m _ q rfl) z
theorem SW.fin{b:MB}(i:k<n)(m:Ab u w 4 1 (Z (K ⟨(w:Nat)+1,0,M⟩) (n+1) (n+1)) (n+1) (CV xs n n))(d:Ab u w 2 1 (sG q n n) n (Bu (Hl xs) [iZ 0] (List.range n) k n))(h:Ab u w 126 3 (sG c (a.length+1) cap) (a.length+1) (Ad KW (a++[b])))(p:Ah w w u)(t:Bq xs (k+1)=a++[(⟨b.gH,(k:Int),b.next⟩:MB)])(s:Bb xs k=(a:Int)):
 SW w (Aa (Aa u ⟨q,k,M⟩ a) ⟨c,a.length*3+1,M⟩ k) xs n (k+1) q (sG c (a.length+1) cap):=by
 have v: ↑w<=q:=(AD d).1
 have r: ↑w<=c:=(AD h).1
 have l:=BE m d dC k a;have e:=BE h d dC k a;have f:=(d.stored k a).1;have j:(Bu (Hl xs) [iZ 0] (List.range n) k n).set k a=Bu (Hl xs) [iZ 0] (List.range n) (k+1) n:=by rw[CG _ _ _ _ _ i,UN _ _ _ _ k (by rw[AE (Hl xs) 1 (Dy xs),lh,mM];omega),El (Hl xs) _ _ k n k (by simp[i])];simp[Hl,As,s]
 rw[j]at f;refine⟨BE l e dC _ _,BE f e dC _ _,?_,(p.setCell v _).setCell r _⟩;have g:=(e.stored (a.length*3+1) k).1;rw[Vm]at g;rw[t,kE,kK];exact g
theorem XR{c:Y}{j a:Nat}(h:SW w wr xs k j q v)(x:Bq xs (j+1)=Bq xs j++[(⟨(j:Int),(j:Int),[]⟩:MB)])(u:Bb xs j=((Bq xs j).length:Int))(r:j<k)(f:Ab c w 126 3 (sG a ((Bq xs j).length+1) cap) ((Bq xs j).length+1) (Ad KW (Bq xs j)++[iZ j,iZ 0,sN]))(l:(Ac wr (Ak #[iZ j,iZ 0,sN] 126)).grownBy c v.ownBlock):
 Ae (SW w (Aa (Aa c ⟨q,j,M⟩ (iZ (Bq xs j).length)) ⟨a,(Bq xs j).length*3+1,M⟩ j) xs k (j+1) q (sG a ((Bq xs j).length+1) cap))/\¬a=q/\¬q=a/\c ⟨q,j,M⟩=K (iZ 0)/\c.frozen? ⟨q,j,M⟩=false/\c ⟨a,(Bq xs j).length*3+1,M⟩=K (iZ 0)/\c.frozen? ⟨a,(Bq xs j).length*3+1,M⟩=false:=by
 have d:=Aq wr (Ak #[j,iZ 0,sN] 126);have p:=Aw h.o d lR;have y:=BJ (Aw h.lead d lR) l p dC;have g:=BJ (Aw h.num d lR) l p dC;have bel:=(Ar h.e8 lR d).grown l (kV h.e8.size d.size) (λi t=>(p.lt i t).1);have s:=Oo f g dC;have m:=g.cellAt j oM;have n:=f.cellAt ((Bq xs j).length*3+1) oM;rw[CG _ _ _ _ _ r,kT (by rw[AE (Hl xs) 1 (Dy xs),lh,mM];omega),show j-(List.flatMap (Hl xs) (List.take j (List.range k))).length=0 by rw[AE (Hl xs) 1 (Dy xs),lh,mM];omega]at m;simp only[lK,i9]at m;rw[kT (by rw[AE KW 3 Fm];omega),show(Bq xs j).length*3+1-(List.flatMap KW (Bq xs j)).length=1 by rw[AE KW 3 Fm];omega]at n;simp only[kC,i9]at n;refine⟨SW.fin (b:=⟨(j:Int),0,[]⟩) r y g (by rw[lL];exact f) bel x u,s, λe=>s e.symm,m,g.frozenAt j,n,f.frozenAt _⟩
theorem DX(n:Nat):(madeCells (Value.bool false).cells (n*1)).toList=List.replicate n (An false):=by rw[Cb XQ [false] [] n false 1 rfl rfl oM];simp[Bu,List.flatten_replicate_singleton]
theorem Jj(n:Nat)(f:Nat->List J)(a:List Nat):(madeCells (Ag Af 0).cells (n*1)).toList=Bu f [iZ 0] a 0 n:=by rw[Cb f [iZ 0] a n (iZ 0) 1 rfl rfl oM]
structure SV(w u:Y)(xs:List MI)(n k:Nat):Prop where
 lead:Ab u w 4 1 (Z (K ⟨(w:Nat)+1,0,M⟩) (n+1) (n+1)) (n+1) (CV xs k n)
 o:AC u w #[] 126
 e8:Ah w w u
theorem SV.set{a:Nat}(h:SV w u xs n k)(j:Nat)(b:(CV xs k n).set j true=CV xs a n):SV w (Aa u ⟨(w:Nat)+1,j,M⟩ true) xs n a:=by refine⟨?_,h.o.other oS _,h.e8.setCell oS _⟩;have:=(h.lead.stored j true).1;rw[b]at this;exact this
theorem SV.kx(h:SV w u xs n k)(j a:Nat)(c:((CV xs k n).set j true).set a true=CV xs b n):SV w (Aa (Aa u ⟨(w:Nat)+1,j,M⟩ true) ⟨(w:Nat)+1,a,M⟩ true) xs n b:=by refine⟨?_,(h.o.other oS _).other oS _,(h.e8.setCell oS _).setCell oS _⟩;have:=((h.lead.stored j true).1.stored a true).1;rw[c]at this;exact this
def DH(c:MC):Prop:=Ec c.type=true/\(c.type=1->c.word<=1)
def Be(cs:List MC):Prop:=cs.length<=64/\∀j,j<cs.length->∀c,cs[j]?=K c->DH c
theorem CO{α:Type}{q:α->Prop}{xs:List α}{x:α}(b:xs[k]?=K x)(d:q x)(h:∀j,j<k->∀c,xs[j]?=K c->q c):∀j,j<k+1->∀c,xs[j]?=K c->q c:=by
 intro j f c a;by_cases e:j=k
 . subst e;rw[b]at a;exact(kH a)▸d
 exact h j oM c a
theorem Oe(v:VP)(p:MP)(w:Y)(Q:p.small)(h:Da w v p):
 Ai Ap 31 #[Am #[v.r,v.k,v.f,v.t]] w λe w'=>AJ e (Be p.ej)/\Ah w w w':=by
 have N:Ae (Rd w 2 v.k p.ej (Ad MC.cells p.ej)):=h.ej;have U:=Q.ej;obtain⟨s,vk,q,y⟩:=v;obtain⟨A,c1,B⟩:∃a c,vk=Z a p.ej c:=h.ej.dk;subst B;clear h Q;have d:Ae (Ah w w (Ac w (Ak #[s,Z A p.ej c1,q,y] 36))/\CX (Ac w (Ak #[s,Z A p.ej c1,q,y] 36)) w s (Z A p.ej c1) q y):=⟨Aq _ _,CX.new _ _ _ _ _ _⟩
 generalize S:p.ej=cs at*;clear S;generalize P:cs.length=n at U N d;have g:Ae (cs.length=n):=P;clear P;go_enter func31,ntmps31;go_wp2;go_loopw [3] (λi wr=>∃k:Nat,k<=n/\i=Ag Af k/\Ae (∀j,j<k->∀c,cs[j]?=K c->DH c)/\Ae (Ah w.heap.size w wr/\CX wr w.heap.size s (Z A n c1) q y)) (λi _=>n-(intOf i).toNat)
 case atStart=>exact⟨0,oM,rfl, λj hj=>oM,d⟩
 clear d;obtain⟨k,hk,rfl,G,d⟩:=hrel;obtain⟨X,p1,p2,p3⟩:=d.2;by_cases I:k<n
 . obtain⟨x,C⟩:∃x,cs[k]?=K x:=⟨_,an (by rw[g];exact I)⟩;rcases N.2 with⟨e0,_⟩|⟨b,o,c,B,H⟩
   . omega
   simp only[i8,lB]at B;obtain⟨rfl,rfl⟩:=B;have m:=Rd.elem MC.dr H k x C 0 _ rfl;have L:=Rd.elem MC.dr H k x C 1 _ rfl;rw[<-d.1.cell (hC m),kJ]at m;rw[<-d.1.cell (hC L)]at L;have z:Ae (cs[k]?=K x):=C;clear H C;have W:¬b=wr.heap.size:=mA (hC m);have V:b<wr.heap.size:=hC m;have l:Ae (Ah w w (Ac wr (Ak #[x.type,Ag .u32 x.word] 94))/\CX (Ac wr (Ak #[x.type,Ag .u32 x.word] 94)) w s (Z (K ⟨b,o,M⟩) n c1) q y):=⟨Ar d.1 lR (Aq _ _),d.2.alloc _⟩
   go_wp2_with fail;refine(DU x.type _).mono ?_;rintro e u ⟨rfl,rfl⟩;clear m L W V X p1 p2 p3;cases t1:Ec x.type
   . (have F:Ae (¬Be cs):= λe=>by have:=(e.2 k (by rw[g];exact I) x z).1;simp[t1]at this);clear t1;go_wp2;go_ret;exact⟨.no F,l.1⟩
   have O:Ae (Ec x.type=true):=t1;clear t1;by_cases D:x.type=1
   . rw[D]at l;by_cases q2:1<x.word
     . (have F:Ae (¬Be cs):= λe=>by have:=(e.2 k (by rw[g];exact I) x z).2 D;omega);go_wp2;go_ret;exact⟨.no F,l.1⟩
     have E:Ae (DH x):=⟨O, λ_=>oM⟩;go_wp2;go_roundw;(case rel=>exact⟨k+1,oM,by go_num,CO z E G,l⟩);exact oI
   (have ae:(x.type==1)=false:=by simpa using D);have E:Ae (DH x):=⟨O, λe=>absurd e D⟩;go_wp2;go_roundw;(case rel=>exact⟨k+1,oM,by go_num,CO z E G,l⟩);exact oI
 have T:n=k:=oM;subst T;have R:Ae (decide ((n:Int)<=64)=true↔Be cs):=by show _↔_;rw[mB];exact⟨λe=>⟨by rw[g];omega,by rw[g];exact G⟩, λe=>by have:=e.1;rw[g]at this;omega⟩
 go_wp2;go_ret;exact⟨.of R,d.1⟩
theorem Ba{xs:List J}(h:Ab w base e k v n xs)(d:b<=base):Ab w b e k v n xs:=⟨h.1,h.2.imp id λ⟨g,cap,a,c,f,r⟩=>⟨g,cap,a,c,kV d f,r⟩⟩
theorem AX{Q:Exit->Act->Y->Prop}{a:Act}(P:Y->Prop)(h:P U)(k:∀u,P u->Q .normal a u):Q .normal a U:=k U h
theorem Au{W:Y}(b:Ah W W u){a:Addr}{x:J}(h:W a=K x):u a=K x:=by rw[b.cell (hC h)];exact h
def FK(xs:List MI)(m:MB):MB:=⟨m.gH,m.last,Er xs (xs.getD m.last.toNat ⟨0,0,0,0⟩) m.last.toNat⟩
def AM(xs:List MI):List MB:=(Bq xs xs).map (FK xs)
structure TW(w u:Y)(xs:List MI)(n q:Nat)(V:J)(D:List (MB×J)):Prop where
 num:Ab u w 2 1 (sG q n n) n ((List.range n).flatMap (Hl xs))
 o:Ab u w 126 3 V (Bq xs n).length (Ad BN D++Ad KW ((Bq xs n).drop D))
 rows:∀x∈D,Ab u w 2 1 x.2 x.1.next (x.1.next.flatMap As)
 done:D.map Prod.fst=((Bq xs n).take D).map (FK xs)
 e8:Ah w w u
theorem TW.of(h:SW w u xs n n q V):TW w u xs n q V []:=by refine⟨?_,by simpa using h.o, λx a=>(by cases a),sP,h.e8⟩;have:=h.num;rw[Fp _ _ _ _ sP]at this;exact this
structure NW(wr U:Y)(x:MI)(V:J)(ns:List Int):Prop where
 e8:Ah wr wr U
 xb:AC U wr #[x.op,x.a,x.b,x.c] 72
 row:Ab U wr 2 1 V ns (Ad As ns)
theorem NW.of(wr:Y)(x:MI):NW wr (Ac (Ac wr (Ak #[x.op,x.a,x.b,x.c] 72)) (Ak #[] 2)) x (Z (K ⟨(wr:Nat)+1,0,M⟩) 0 0) []:=by
 have e:=Aq wr (Ak #[x.op,x.a,x.b,x.c] 72);have g:=AC.new wr #[x.op,x.a,x.b,x.c] 72;have i:(Ac wr (Ak #[x.op,x.a,x.b,x.c] 72)).heap.size= ↑wr+1:=sP
 generalize Ac wr (Ak #[x.op,x.a,x.b,x.c] 72)=d at e g i⊢;have f:=Aq d (Ak #[] 2);have h:=AC.new d #[] 2;rw[i]at h;exact⟨Ar e lR f,g.a7 f,⟨rfl,.inr ⟨(wr:Nat)+1,0,#[],rfl,Nat.le_succ _,h,Nat.le_refl _,mz _,rfl,rfl⟩⟩⟩
theorem NW.drew{a:List Int}(h:NW wr U x V a)(k:Nat):NW wr (U.drewN k) x V a:=⟨⟨h.e8.os,h.e8.tape,h.e8.output,h.e8.size,h.e8.block⟩,h.xb,⟨h.row.1,h.row.2⟩⟩
theorem NW.gX{c:Y}{V':J}{b:List Int}{m:Nat}(h:NW wr U x V b)(g:Ab c wr 2 1 V' m (Ad As b++[iZ z]))(f:m= ↑b+1)(d:(Ac U (Ak #[iZ z] 2)).grownBy c V.ownBlock):NW wr c x V' (b++[z]):=by have a:=Aq U (Ak #[z] 2);refine⟨(Ar h.e8 lR a).grown d (kV h.e8.size a.size) (λi e=>(h.row.lt i e).1),(h.xb.a7 a).grown d (Aw h.row a lR) dC,?_⟩;rw[kE,kK,<-f,lL];exact g
theorem Bw(U:Y)(z:Int):∀j u,[(iZ z:J)][j]?=K u->(Ac U (Ak #[z] 2)) ((⟨U,0,M⟩:Addr).add j)=K u:= λj u a=>by rw[Dk,lM,(AC.new U #[z] 2).cell j];simpa using a
theorem NW.al{a:List Int}(h:NW wr U x V a)(o:Obj):Ab (U.alloc o) wr 2 1 V a (Ad As a)/\ ↑wr<=(U.alloc o).heap.size:=⟨Aw h.row (Aq _ _) lR,kV h.e8.size (Aq _ _).size⟩
theorem TW.next{len:Nat}{e:Nat}{a:J}{i:List Int}(h:TW w wr xs n q (sG g len cap) D)(u:len=(Bq xs n).length)(v:(Bq xs n)[D.length]?=K m)(t:m.last=(e:Int))(B:xs[e]?=K x)(p:NW wr U x a i)(A:i=Er xs x e):TW w (Aa U ⟨g,D.length*3+2,M⟩ a) xs n q (sG g len cap) (D++[(FK xs m,a)]):=by
 subst u;have f:Ah wr wr U:=p.e8;have d:=Aw h.o f lR;obtain⟨k,l⟩:=i6.1 v;have j:FK xs m=⟨m.gH,m.last,i⟩:=by unfold FK;rw[t,A,kA,kL,B];rfl
 have z:=Ba p.row (b:=w) h.e8.size;refine⟨BE (Aw h.num f lR) d dC _ _,?_,?_,?_,(Ar h.e8 lR f).setCell (AD d).1 _⟩
 . have r:=(d.stored (D.length*3+2) a).1;(have s:(Ad BN D++Ad KW ((Bq xs n).drop D)).set (D.length*3+2) a=Ad BN (D++[(FK xs m,a)])++Ad KW ((Bq xs n).drop (D++[(FK xs m,a)]).length):=by rw[mD k,l,lD,m8 _ _ (by rw[AE BN 3 A9];omega),AE BN 3 A9,j];simp[KW,BN,List.length_append]);rw[s]at r;exact r
 . intro y c;rcases kO.1 c with c|c
   . exact BE (Aw (h.rows y c) f lR) d dC _ _
   simp only[kY,lG,mS]at c;subst c;simp only[j];exact BE z d dC _ _
 rw[mF,h.done,kE,kK,kU k,l];simp
theorem TW.rd(h:TW w u xs n q V D)(b: ↑xs=n)(a: ↑D=(Bq xs n).length):Kp u V (AM xs):=by
 have c:D.map Prod.fst=AM xs:=by rw[h.done,a,k8 lR];unfold AM;rw[b]
 have d:(AM xs).length=(Bq xs n).length:=by unfold AM;rw[lC,b]
 refine⟨D,c,?_, λx e=>Rd.gM (h.rows x e)⟩;have:=Rd.gM h.o;rw[a,nD lR]at this;rw[d];simpa using this
structure Ex(p:MP)(a b c:Int):Prop where
 low:0<=c
 jn:c<256
 jl:bits .and Af c (c+1)=0
 there:¬BC p a b=0
 one:∀j:Nat,(j:Int)<=c->BC p a (b+j)=BC p a b
theorem SX{p:MP}{r c:Int}(b:∀l∈p.bO,l.length<=1048576)(h:¬BC p r c=0):0<=c/\c<1048576:=by
 unfold BC at h;split at h
 . exact absurd rfl h
 rename_i g;refine⟨oM,?_⟩;by_cases a:r.toNat< ↑p.bO
 . have f:=b _ (mN a);(have e:p.bO.getD r.toNat []=p.bO[r.toNat]:=by rw[kL,an a];rfl);rw[e]at h;by_cases d:c.toNat<p.bO[r.toNat].length
   . omega
   exact absurd (by rw[kL,kW oM];rfl) h
 have e:p.bO.getD r.toNat []=[]:=by rw[kL,kW oM];rfl
 rw[e]at h;exact absurd rfl h
theorem TU(a:-9223372036854775808<=z:=by omega)(b:z<=9223372036854775807:=by omega):Dg z:=by simp[Dg,Lit.wf,IntKind.min,IntKind.max,IntKind.signed,IntKind.bits];omega
theorem Gs(h:Dg z):-9223372036854775808<=z/\z<=9223372036854775807:=by simpa[Dg,Lit.wf,IntKind.min,IntKind.max,IntKind.signed,IntKind.bits]using h
theorem Rj(v:VP)(p:MP)(op a b c:Int)(w:Y)(V:p.small)(L:p.bO.length=3)(O:Dg a)(P:Dg b)(R:Dg c)(h:Da w v p):
 Ai Ap 56 #[Am #[v.r,v.k,v.f,v.t],Am #[op,a,b,c]] w λe w'=>AJ e (Ex p a b c)/\Ah w w w':=by
 have l:Ae (Ah w w (Ac (Ac w (Ak #[v.r,v.k,v.f,v.t] 36)) (Ak #[op,a,b,c] 72))):=Ar (Aq _ _) lR (Aq _ _);have E:Ae (CX (Ac (Ac w (Ak #[v.r,v.k,v.f,v.t] 36)) (Ak #[op,a,b,c] 72)) w v.r v.k v.f v.t):=(CX.new w _ _ _ _ _).alloc _;have G:Ae (CX (Ac (Ac w (Ak #[v.r,v.k,v.f,v.t] 36)) (Ak #[op,a,b,c] 72)) ((w:Nat)+1) op a b c):=by have:=CX.new (Ac w (Ak #[v.r,v.k,v.f,v.t] 36)) op a b c 72;simpa[Ae]using this
 have H:=Av (d5 V (d5 L (d5 O (d5 P h))));obtain⟨c0,c1⟩:=Gs R;by_cases W:c<0
 . (have d:Ae (¬Ex p a b c):= λe=>absurd e.low oM);go_enter func56,ntmps56;go_wp2;go_ret;exact⟨.no d,l⟩
 by_cases X:256<=c
 . (have d:Ae (¬Ex p a b c):= λe=>absurd e.jn oM);go_enter func56,ntmps56;go_wp2;go_ret;exact⟨.no d,l⟩
 obtain⟨c,rfl⟩:=kX (show 0<=c from oM);have ah:c<256:=oM;have W:¬(c:Int)<0:=oM;have X:¬(256:Int)<=(c:Int):=oM;by_cases y:bits .and Af (c:Int) ((c:Int)+1)=0
 . have D:Ae (bits .and Af (c:Int) ((c:Int)+1)=0):=y;go_enter func56,ntmps56;go_wp2_with fail;refine(IG v p a b _ H.1 H.2.1 H.2.2.1 H.2.2.2.1 (H.2.2.2.2.a7 l lR)).mono ?_;rintro e u0 ⟨rfl,u⟩;have B:=Av (d5 (Ar l lR u) (d5 (E.a7 u) (G.a7 u)));generalize N:BC p a b=T;have m:=Av N;go_wp2;go_loopw [6] (λi wr=>∃k:Nat,k<=c+1/\i=iZ k/\Ae ((0<k->¬T=0)/\∀j:Nat,j<k->BC p a (b+j)=T)/\Ae (Ah w w wr/\CX wr w v.r v.k v.f v.t/\CX wr ((w:Nat)+1) op a b c)) (λi _=>c+1-(intOf i).toNat)
   (case atStart=>exact⟨0,oM,rfl,⟨λh=>oM, λj A=>oM⟩,B⟩);obtain⟨k,hk,rfl,s,g⟩:=hrel;obtain⟨p0,p1,p2,p3⟩:=g.2.1;obtain⟨i0,i1,i2,i3⟩:=g.2.2;by_cases am:k<c+1
   . have U:(k:Int)<=(c:Int):=oM;by_cases n:T=0
     . (have ae:(T==0)=true:=by simpa using n);(have d:Ae (¬Ex p a b c):= λe=>e.there (m.trans n));go_wp2;go_ret;exact⟨.no d,g.1⟩
     (have ae:(T==0)=false:=by simpa using n);have Q:=SX H.1.region (by rw[m];exact n);obtain⟨b0,b1⟩:=Q;have F:=Av n;go_wp2_with fail;refine(IG v p a (b+k) _ H.1 H.2.1 H.2.2.1 TU (H.2.2.2.2.a7 g.1 lR)).mono ?_;rintro e u1 ⟨rfl,x⟩;have z:=Av (d5 (Ar g.1 lR x) (d5 (g.2.1.a7 x) (g.2.2.a7 x)));by_cases q:BC p a (b+k)=T
     . rw[q];have C:Ae ((0<k+1->¬T=0)/\∀j:Nat,j<k+1->BC p a (b+j)=T):=⟨λ_=>F.o, λj A=>by
        by_cases e:j=k
        . rw[e];exact q
        exact s.2 j oM⟩
       go_wp2;go_roundw;(case rel=>exact⟨k+1,oM,by go_num,C,z⟩);exact oI
     (have d:Ae (¬Ex p a b c):= λe=>q ((e.one k U).trans m));(have aq:(BC p a (b+k)==T)=false:=by simpa using q);(have au:(BC p a (b+k) != T)=true:=by simpa using q);go_wp2;go_ret;exact⟨.no d,z.1⟩
   have S:k=c+1:=oM;subst S;have I:Ae (Ex p a b c):=⟨oM,oM,D,by rw[m];exact s.1 oM, λj A=>by rw[m];exact s.2 j oM⟩;have aj:¬((c:Int)+1)<=(c:Int):=oM;go_wp2;go_ret;exact⟨.gY I,g.1⟩
 have d:Ae (¬Ex p a b c):= λe=>y e.jl
 have ao:(bits .and Af (c:Int) ((c:Int)+1)==0)=false:=by simpa using y
 go_enter func56,ntmps56;go_wp2;go_ret;exact⟨.no d,l⟩
theorem EQ(s:J)(a:List Int)(w:Y)(A:a.length<=1048576)(h:Rd w 1 s a (Ad As a)):
 Ai Ap 95 #[s] w λe C=>e=Al (a.all Ec)/\C=w:=by
 have d:=Av h;obtain⟨D,c1,rfl⟩:=h.dk;generalize t:a.length=n at A d;have f:=Av t;generalize b:a.all Ec=R;have j:=Av b;go_enter func95,ntmps95;go_wp2;go_loopw [7] (λi wr=>∃k:Nat,k<=n/\i=iZ k/\Ae ((a.take k).all Ec=true)/\wr=w) (λi _=>n-(intOf i).toNat)
 case atStart=>exact⟨0,oM,rfl,by simp[Ae],rfl⟩
 obtain⟨k,F,rfl,l,rfl⟩:=hrel;by_cases z:k<n
 . obtain⟨x,q⟩:∃x,a[k]?=K x:=⟨_,an (by rw[f];exact z)⟩;rcases d.2 with⟨E,_⟩|⟨g,o,c,p,v⟩
   . omega
   simp only[i8,lB]at p;obtain⟨rfl,rfl⟩:=p;have B:=Rd.elem AA v k x q 0 _ rfl;rw[lN,kJ]at B;have m:=Av q;go_wp2_with fail;refine(DT x wr).mono ?_;rintro e u ⟨rfl,rfl⟩;cases hq:Ec x with
   | false=>(have b:R=false:=by rw[<-j];exact Sa _ _ _ (i7 m) hq);subst b;go_wp2;go_ret;exact⟨rfl,rfl⟩
   | true=>(have r:Ae ((a.take (k+1)).all Ec=true):=by show _=_;rw[OV _ _ _ _ m l];exact hq);go_wp2;go_roundw;(case rel=>exact⟨k+1,oM,by go_num,r,by trivial⟩);exact oI
 have y:k=n:=oM;subst y;have b:R=true:=by rw[<-j,<-l,<-f,List.take_length]
 subst b;go_wp2;go_ret;exact⟨rfl,rfl⟩
def GX(r:List Int):Prop:=r.length<=256/\r.all Ec=true
def AU(rs:List (List Int)):Prop:=rs.length=3/\∀j,j<rs.length->∀r,rs[j]?=K r->GX r
theorem Kz(s:J)(fs:List (List Int))(w:Y)(G:fs.length<=1048576)(O:∀f∈fs,f.length<=1048576)(h:Gi w s fs):
 Ai Ap 76 #[s] w λe Q=>AJ e (AU fs)/\Q=w:=by
 obtain⟨xs,B,A,L⟩:=h;have P:xs.length=fs.length:=by rw[<-B];simp
 have d:=Av (d5 A (d5 B (d5 L (d5 O P))));obtain⟨R,c1,rfl⟩:=A.dk;generalize H:fs.length=n at G d;have l:=Av H;by_cases D:n=3
 . subst D;go_enter func76,ntmps76;go_wp2;go_loopw [10] (λi wr=>∃k:Nat,k<=3/\i=iZ k/\Ae (∀j,j<k->∀r,fs[j]?=K r->GX r)/\wr=w) (λi _=>3-(intOf i).toNat)
   (case atStart=>exact⟨0,oM,rfl, λj W=>oM,rfl⟩);obtain⟨k,X,rfl,z,rfl⟩:=hrel;by_cases t:k<3
   . obtain⟨⟨f,v⟩,y⟩:∃x,xs[k]?=K x:=⟨_,an (by rw[d.2.2.2.2];exact t)⟩;have p:=Bo d.2.1 y;have q:=d.2.2.1 _ (i7 y);have g:=Av (d5 q (d5 (d.2.2.2.1 _ (i7 p)) p));rcases d.1.2 with⟨U,_⟩|⟨b,o,c,p,I⟩
     . omega
     simp only[i8,lB]at p;obtain⟨rfl,rfl⟩:=p;have C:=Rd.elem A5 I k _ y 0 _ rfl;rw[lN,kJ]at C;simp only[]at C q;obtain⟨S,T,F⟩:=q.dk;subst F;have hz:=g.2.1;by_cases q1:256<f.length
     . (have a:Ae (¬AU fs):= λe=>absurd (e.2 k (by rw[l];exact t) f g.2.2).1 oM);generalize f.length=m at*;go_wp2;go_ret;exact⟨.no a,rfl⟩
     go_wp2_with fail;refine(EQ _ f _ g.2.1 g.1).mono ?_;rintro e u ⟨rfl,rfl⟩;cases t1:f.all Ec
     . (have a:Ae (¬AU fs):= λe=>by have:=(e.2 k (by rw[l];exact t) f g.2.2).2;simp[t1]at this);go_wp2;go_ret;exact⟨.no a,rfl⟩
     have a:Ae (GX f):=⟨oM,t1⟩;go_wp2;go_roundw;(case rel=>exact⟨k+1,oM,by go_num,CO g.2.2 a z,by trivial⟩);exact oI
   have N:k=3:=oM;subst N;have E:Ae (AU fs):=⟨l,by rw[l];exact z⟩;go_wp2;go_ret;exact⟨.gY E,rfl⟩
 have a:Ae (¬AU fs):= λe=>D (by rw[<-l];exact e.1)
 have V:¬(n:Int)=3:=oM;go_enter func76,ntmps76;go_wp2;go_ret;exact⟨.no a,rfl⟩
theorem SO(h:WO z):0<=z/\z<=4294967295:=by simpa[WO,Lit.wf,IntKind.min,IntKind.max,IntKind.signed,IntKind.bits]using h
theorem NA(a b a' c:Int)(w:Y):(binOp .eql 180 (Am #[a,Ag .u32 b]) (Am #[a',Ag .u32 c])).run Ap w=.ok (An (decide (a=a'/\b=c))) w:=by
 have k:=underlying2;have g:=Tryz.isAgg2;have m:=Tryz.sizeOf2;have j:=underlying86;have f:=Tryz.isAgg86;have l:=Tryz.sizeOf86;have d:Tryz.prog.underlying 180=K (.struct (Tryz.prog.fieldsOf 180)):=kR;have e:Tryz.prog.stoodInHeld 180=false:=kR;rw[run_eql_struct,show(10000:Nat)=9999+1 from rfl,run_equalIn_agg w 9999 180 _ _ d e];simp only[Program.fieldsOf,underlying180];go_simp;by_cases h:a=a'
 . by_cases i:b=c<;>simp[*]
 simp[*]
theorem Pv(t x:Int)(w:Y)(i:0<=x):
 Ai Ap 96 #[Am #[t,Ag .u32 x]] w λe m=>AJ e (DH ⟨t,x⟩)/\Ah w w m:=by
 by_cases h:t=1
 . subst h;have j:∀w,(binOp .eql 180 (Am #[iZ 1,Ag .u32 x]) (Am #[iZ 1,Ag .u32 0])).run Ap w=.ok (An (decide (1=(1:Int)/\x=0))) w:=NA 1 x 1 0
   have g:∀w,(binOp .eql 180 (Am #[iZ 1,Ag .u32 x]) (Am #[iZ 1,Ag .u32 1])).run Ap w=.ok (An (decide (1=(1:Int)/\x=1))) w:=NA 1 x 1 1
   by_cases c:x=0
   . have a:decide (1=(1:Int)/\x=0)=true:=by simp[c]
     have f:Ae (DH ⟨1,x⟩):=⟨rfl, λ_=>oS⟩;rw[a]at j;clear c a g i;go_enter func96,ntmps96;go_wp2;go_ret;exact⟨.gY f,Aq _ _⟩
   have a:decide (1=(1:Int)/\x=0)=false:=by simp[c]
   rw[a]at j;by_cases d:x=1
   . have b:decide (1=(1:Int)/\x=1)=true:=by simp[d]
     have f:Ae (DH ⟨1,x⟩):=⟨rfl, λ_=>oS⟩;rw[b]at g;clear c a d b i;go_enter func96,ntmps96;go_wp2;go_ret;exact⟨.gY f,Aq _ _⟩
   have b:decide (1=(1:Int)/\x=1)=false:=by simp[d]
   (have l:Ae (¬DH ⟨1,x⟩):= λe=>by have:=e.2 rfl;simp only[]at this;omega);rw[b]at g;clear c a d b i;go_enter func96,ntmps96;go_wp2;go_ret;exact⟨.no l,Aq _ _⟩
 have n:(t==1)=false:=by simpa using h
 have k:Ae (Ec t=true↔DH ⟨t,x⟩):=⟨λe=>⟨e, λe=>absurd e h⟩, λe=>e.1⟩;go_enter func96,ntmps96;go_wp2_with fail;refine(DT t _).mono ?_;rintro e u ⟨rfl,rfl⟩;go_wp2;go_ret;exact⟨.of k,Aq _ _⟩
structure ML where
 head:Int
 back:List Int
 a8:List Int
structure DC where
 eC:Int
 at_:Int
 a8:List MB
 gJ:List Int
 gQ:List Int
 gE:List ML
def ints(l:List Nat):List Int:=l.map λ(x:Nat)=>(x:Int)
theorem AZ(l:List Nat):(ints l).length=l.length:=by simp[ints]
def nx(a:List MB)(b:Nat):List Nat:=match a[b]? with|some m=>m.next.map Int.toNat|none=>[]
def DY(c a:Int):DC:=⟨c,a,[],[],[],[]⟩
def Bt(E:Nat->List Nat)(D L:Nat->Nat->Bool)(n j:Nat):List ML:=(List.range j).filterMap λh=>if AH E D n h=[]then M else K ⟨(h:Int),ints (AH E D n h),ints ((List.range n).filter (L h))⟩
inductive Bg (xs:List MI):DC->Prop
 |none:¬A3 xs->Bg xs (DY 4 0)
 |off {x:MI}:A3 xs->xs[xs.length-1]?=K x->EO x=true->Bg xs (DY 1 ((xs:Int)-1))
 |lost {x:MI} {S O:List Nat} {b:Nat} {m:MB}:A3 xs->xs[xs.length-1]?=K x->EO x=false->Vs (nx (AM xs)) [] [] [0] S O->b<(AM xs).length->b∉S->(∀c,c<b->c∈S)->(AM xs)[b]?=K m->Bg xs (DY 2 m.gH)
 |two {x:MI} {S O:List Nat} {D:Nat->Nat->Bool} {b k t:Nat} {m:MB}:A3 xs->xs[xs.length-1]?=K x->EO x=false->Vs (nx (AM xs)) [] [] [0] S O->(∀c,c<(AM xs).length->c∈S)->(∀d b,D d b=true↔CZ (nx (AM xs)) d b)->FX (nx (AM xs)) (AM xs).length (Mb O D) b k t->(AM xs)[t]?=K m->Bg xs (DY 3 m.gH)
 |good {x:MI} {S O:List Nat} {D L:Nat->Nat->Bool} {I:Nat->Int}:A3 xs->xs[xs.length-1]?=K x->EO x=false->Vs (nx (AM xs)) [] [] [0] S O->(∀c,c<(AM xs).length->c∈S)->(∀d b,D d b=true↔CZ (nx (AM xs)) d b)->(∀b,b<(AM xs).length->∀t∈nx (AM xs) b,¬Mb O D b t)->
  (∀b,b<(AM xs).length->(b=0/\I b=-1)\/b≠0/\∃c:Nat,c<(AM xs).length/\I b=(c:Int)/\Gk (nx (AM xs)) b c)->(∀h y,L h y=true↔AR (nx (AM xs)) D (AM xs).length h y)->
  Bg xs ⟨0,0,AM xs,ints O.reverse,(List.range (AM xs).length).map I,Bt (nx (AM xs)) D L (AM xs).length (AM xs).length⟩
theorem Hz(h:A3 xs):0<(AM xs).length:=by unfold AM;rw[lC,BG];exact nM.2 (JH xs _ h.1)
theorem Ok(l:A3 xs){e:Nat}(f:(Bq xs xs)[b]?=K m)(j:m.last=(e:Int))(d:xs[e]?=K x){p:Int}(a:p∈AY xs x e):p.toNat∈CS xs xs:=by
 have k:e<xs.length:=(i6.1 d).1;rw[Cp]at f;unfold AY at a;rcases kO.1 a with a|a
 . by_cases h:EO x=true/\e+1< ↑xs
   . rw[kZ h]at a;simp only[kY,lG,mS]at a;subst a;rw[kA];exact K4 _ _ _ _ _ f j h.2
   rw[kP h]at a;cases a
 by_cases h:A6 x=true/\¬(EO x=true/\e+1< ↑xs/\x.c=((e+1:Nat):Int))
 . rw[kZ h]at a;simp only[kY,lG,mS]at a;subst a;obtain⟨g,n⟩:=l.2.2 e x d h.1;have i:(x.c.toNat:Int)=x.c:=n9 g;exact(C6 _ _ _).2 ⟨oM,Ly xs _ e _ x k d (by simp[F7,h.1,i])⟩
 rw[kP h]at a;cases a
theorem QZ{L:List Nat}(l:L.Pairwise (· < ·))(c:∀x∈L,x<n)(h:(build L n)[b]?=K m):∃e:Nat,m.last=(e:Int)/\e<n:=by
 unfold build at h;rw[nH]at h;cases h1:L[b]? with
 |none=>rw[h1]at h;simp at h
 | some a=>
   cases h2:(L.tail++[n])[b]? with
   |none=>rw[h1,h2]at h;simp at h
   | some q=>
     rw[h1,h2]at h;simp only[kI]at h;subst h;have j:=c a (i7 h1);have d:a<q/\q<=n:=by
      by_cases k:b< ↑L.tail
      . rw[lO k]at h2;have d:=nm (i7 h2);refine⟨?_,nw (c q d)⟩;(have i:L[b+1]?=K q:=by rw[<-h2];cases L<;>simp);obtain⟨p,f⟩:=i6.1 h1;obtain⟨r,g⟩:=i6.1 i;rw[<-f,<-g];exact(mi.1 l) b (b+1) p r oM
      rw[kT oM]at h2;have:=i7 h2;simp only[kY,lG,mS]at this;subst this;exact⟨j,Nat.le_refl _⟩
     exact⟨q-1,oS,oM⟩
theorem UB(h:(Bq xs xs)[b]?=K m):∃(e:Nat) (x:MI),m.last=(e:Int)/\xs[e]?=K x:=by rw[Cp]at h;obtain⟨e,a,c⟩:=QZ (Dm _ _) (λx d=>((C6 _ _ _).1 d).1) h;exact⟨e,_,a,an c⟩
theorem LR(f:A3 xs)(h:(AM xs)[b]?=K m)(g:z∈m.next):0<=z/\z<((AM xs).length:Int):=by
 unfold AM at h⊢;rw[lE]at h;obtain⟨i,a,rfl⟩:=mT.1 h;obtain⟨e,x,c,d⟩:=UB a;have j:(FK xs i).next=Er xs x e:=by unfold FK;rw[c,kA,kL,d];rfl
 rw[j,Nd xs b e x i f a c d]at g;obtain⟨p,k,rfl⟩:=lA.1 g;have:=nQ.2 (Ok f a c d k);rw[lC,BG];omega
theorem WA(h:a[b]?=K m):nx a b=m.next.map Int.toNat:=by unfold nx;rw[h]
theorem So(a:A3 xs)(h:(AM xs)[b]?=K m):m.next=ints (nx (AM xs) b):=by
 rw[WA h];unfold ints;rw[nE];symm
 rw[nF (g:=id),List.map_id];intro z c;exact n9 (LR a h c).1
theorem PG(d:A3 xs):∀b,b<(AM xs).length->∀x∈nx (AM xs) b,x<(AM xs).length:= λb a x c=>by rw[WA (an a)]at c;obtain⟨z,e,rfl⟩:=lA.1 c;have:=LR d (an a) e;omega
theorem Gb(b:A3 xs):(AM xs).length<=1024:=by unfold AM;rw[lC,BG];have:=mW (Bv xs xs) (List.range xs);have a:=b.2.1;simp only[mM]at this;exact kV this a
theorem Jk(a:List MB)(h:∀m∈a,m.next.length<=2)(b:Nat):(nx a b).length<=2:=by
 unfold nx;cases hb:a[b]? with
 |none=>simp
 |some m=>simpa using h m (i7 hb)
theorem Gc(xs:List MI):∀m∈AM xs,m.next.length<=2:=by intro f a;unfold AM at a;obtain⟨m,_,rfl⟩:=lA.1 a;simp only[FK,Er];split<;>split<;>simp
theorem Bg.one{r n:DC}(h:Bg xs r)(e:Bg xs n):r=n:=by
 have j:∀{E:Nat->List Nat} {D l:Nat->Nat->Bool},(∀d b,D d b=true↔CZ E d b)->(∀d b,l d b=true↔CZ E d b)->D=l:= λw x=>by
  funext d b
  rw[nO,w,x]
 cases h with
 | none g=>
   cases e with
   |none _=>rfl
   |_ a=>exact absurd a g
 | off g x1 o1=>
   cases e with
   |none a=>exact absurd g a
   |off _ _ _=>rfl
   | lost _ x2 o2|two _ x2 o2|good _ x2 o2=>rw[x1]at x2;(cases x2);rw[o1]at o2;cases o2
 | @lost _ _ _ b m g x1 o1 v1 b1 n1 l1 m1=>
   cases e with
   |none a=>exact absurd g a
   | off _ x2 o2=>rw[x1]at x2;(cases x2);rw[o1]at o2;cases o2
   | @lost _ _ _ b' m' _ x2 o2 v2 b2 n2 l2 m2=>
     obtain⟨rfl,rfl⟩:=v1.one v2;have:b=b':=by
      rcases Nat.lt_trichotomy b b' with q|q|q
      . exact absurd (l2 _ q) n1
      . exact q
      exact absurd (l1 _ q) n2
     subst this;rw[m1]at m2;(cases m2);rfl
   | two _ _ _ v2 s2|good _ _ _ v2 s2=>obtain⟨rfl,rfl⟩:=v1.one v2;exact absurd (s2 _ b1) n1
 | two g x1 o1 v1 s1 d1 f1 m1=>
   cases e with
   |none a=>exact absurd g a
   | off _ x2 o2=>rw[x1]at x2;(cases x2);rw[o1]at o2;cases o2
   | lost _ _ _ v2 b2 n2=>obtain⟨rfl,rfl⟩:=v1.one v2;exact absurd (s1 _ b2) n2
   | two _ _ _ v2 _ d2 f2 m2=>obtain⟨rfl,rfl⟩:=v1.one v2;obtain rfl:=j d1 d2;obtain rfl:=f1.one f2;rw[m1]at m2;(cases m2);rfl
   | good _ _ _ v2 _ d2 f2=>obtain⟨rfl,rfl⟩:=v1.one v2;obtain rfl:=j d1 d2;exact absurd f1.is (f2 _ f1.lt _ (i7 f1.at_))
 | good g x1 o1 v1 s1 d1 f1 i1 l1=>
   cases e with
   |none a=>exact absurd g a
   | off _ x2 o2=>rw[x1]at x2;(cases x2);rw[o1]at o2;cases o2
   | lost _ _ _ v2 b2 n2=>obtain⟨rfl,rfl⟩:=v1.one v2;exact absurd (s1 _ b2) n2
   | two _ _ _ v2 _ d2 f2 m2=>obtain⟨rfl,rfl⟩:=v1.one v2;obtain rfl:=j d1 d2;exact absurd f2.is (f1 _ f2.lt _ (i7 f2.at_))
   | good _ _ _ v2 _ d2 f2 i2 l2=>
     obtain⟨rfl,rfl⟩:=v1.one v2;obtain rfl:=j d1 d2;(have z:= λh y=>nO.2 ((l1 h y).trans (l2 h y).symm));(obtain rfl:=funext λh=>funext (z h));obtain⟨A,_⟩:=Es (Hz g) (PG g) v1 s1;(congr 1);apply nF;intro b f;have f:=mL.1 f;rcases i1 b f with⟨k,u⟩|⟨k,c,c1,c2,c3⟩
     . rcases i2 b f with⟨_,v⟩|⟨i,_⟩
       . rw[u,v]
       exact absurd k i
     rcases i2 b f with⟨i,_⟩|⟨i,c',p,s,t⟩
     . exact absurd i k
     rw[c2,s,c3.one A c1 p t]
end Go.Proofs.YtmalfecapdmdbaaGreat
