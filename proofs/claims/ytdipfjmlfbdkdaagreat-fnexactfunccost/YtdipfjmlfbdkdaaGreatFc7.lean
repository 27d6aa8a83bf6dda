import Derived.Test.YtdipfjmlfbdkdaaGreatFc6
import Derived.Deep.AppendLies
import Derived.Deep.RegionLaw
import Derived.Maps.RangeWalk
import Derived.Sort.KeysCollected
import Derived.Maps.AppendAt
import Derived.Laws.StructEq
namespace Go.Proofs.YtdipfjmlfbdkdaaGreat
open Go.ChangeShapes Go.WideShapes Go.ChangeAt Go.RowKit
set_option linter.unusedVariables false
set_option maxHeartbeats 4000000
set_option maxRecDepth 100000
theorem Dy:(Tryz.prog.info? 4).map (fun i=>(i.zero,i.size,i.bytes))=some (some (.bool false),1,1):=by kernel_rfl
theorem Bg{w w':World}{base B:Nat}{e e':TypeId}{s v:Value}{k k' n m:Nat}{xs bs:List Value}(h:w.ownsRow base e k s n xs)(hg:w.grownBy w' v.ownBlock)(ho:w.ownsRow B e' k' v m bs)(hne:e≠e'):w'.ownsRow base e k s n xs:=by
 refine⟨h.1,?_⟩;rcases h.2 with h|⟨g,cap,cur,e1,hb1,hgg,hr⟩
 . exact .inl h
 . refine .inr ⟨g,cap,cur,e1,hb1,?_,hr⟩
   rw[hg.block g (aQ.1 hgg).1 ?_]
   . exact hgg
   . intro hv
     rcases ho.2 with⟨rfl,_⟩|⟨g',cap',cur',rfl,_,hg',_⟩
     . cases hv
     . simp only[Value.ownBlock,aR]at hv
       subst hv;rw[hgg]at hg';simp only[aR,dD]at hg';exact hne hg'.2.1
def Cf(xs:List MI)(k n:Nat):List Value:=(List.range (n+1)).map fun j=>Value.bool (A8 xs k j)
theorem Ge(xs:List MI)(k n:Nat):(Cf xs k n).length=n+1:=by simp[Cf]
theorem ER(xs:List MI)(k n j:Nat)(hj:j<=n):(Cf xs k n)[j]?=some (.bool (A8 xs k j)):=by simp[Cf,show j<n+1 by omega]
theorem MO(xs:List MI)(n:Nat):(List.replicate (n+1) (Value.bool false)).set 0 (.bool true)=Cf xs 0 n:=by
 apply cI;intro j;by_cases hj:j<n+1
 . rw[ER _ _ _ _ (by omega),GY]
   by_cases h0:j=0
   . subst h0
     simp
   . rw[dC (by omega)]
     simp[h0,hj]
 . rw[aZ (by simp;omega),aZ (by simp[Cf];omega)]
theorem JI(xs:List MI)(k n c:Nat)(hc:c<=n)(P:Nat->Bool)(h:∀j,P j=(A8 xs k j||decide (j=c))):(Cf xs k n).set c (.bool true)=(List.range (n+1)).map fun j=>Value.bool (P j):=by
 apply cI;intro j;by_cases hj:j<n+1
 . by_cases h0:j=c
   . subst h0
     rw[dK (by rw[Ge];omega)];simp[hj,h]
   . rw[dC (by omega),ER _ _ _ _ (by omega)]
     simp[hj,h,h0]
 . rw[aZ (by simp[Cf];omega),aZ (by simp;omega)]
theorem MN(P:Nat->Bool)(n c:Nat)(hc:c<=n)(Q:Nat->Bool)(h:∀j,Q j=(P j||decide (j=c))):((List.range (n+1)).map fun j=>Value.bool (P j)).set c (.bool true)=(List.range (n+1)).map fun j=>Value.bool (Q j):=by
 apply cI;intro j;by_cases hj:j<n+1
 . by_cases h0:j=c
   . subst h0
     rw[dK (by simp;omega)];simp[hj,h]
   . rw[dC (by omega)]
     simp[hj,h,h0]
 . rw[aZ (by simp;omega),aZ (by simp;omega)]
theorem Ob(xs:List MI)(k n c:Nat)(x:MI)(hx:xs[k]?=some x)(hg:AB x=true)(hc:x.c=(c:Int))(hcn:c<=n)(hk:k+1<=n):((Cf xs k n).set c (.bool true)).set (k+1) (.bool true)=Cf xs (k+1) n:=by
 rw[JI xs k n c hcn (fun j=>A8 xs k j||decide (j=c)) (fun j=>rfl)];refine(MN _ n (k+1) hk (fun j=>A8 xs (k+1) j) (fun j=> ?_)).trans rfl;rw[CP xs k j x hx]
 have e:decide ((c:Int)=(j:Int))=decide (j=c):=by
  by_cases h:j=c
  . simp[h]
  . have:¬(c:Int)=(j:Int):=by omega
    simp[h,this]
 simp[Ea,hg,hc,e,Bool.or_assoc]
theorem Pb(xs:List MI)(k n:Nat)(x:MI)(hx:xs[k]?=some x)(hg:AB x=false)(hr:x.op=29)(hk:k+1<=n):(Cf xs k n).set (k+1) (.bool true)=Cf xs (k+1) n:=by
 rw[JI xs k n (k+1) hk (fun j=>A8 xs (k+1) j) (fun j=> ?_)]
 . rfl
 . rw[CP xs k j x hx]
   simp[Ea,hg,hr]
theorem Oc(xs:List MI)(k n:Nat)(x:MI)(hx:xs[k]?=some x)(hg:AB x=false)(hr:¬x.op=29):Cf xs k n=Cf xs (k+1) n:=by
 unfold Cf;congr 1
 funext j
 rw[CP xs k j x hx];simp[Ea,hg,hr]
def EW(xs:List MI)(j:Nat):List Value:=Ac (AD xs j)
theorem Cx(xs:List MI)(j:Nat):(EW xs j).length=1:=rfl
def Hw(m:MB):List Value:=[.int .i64 m.first,.int .i64 m.last,.slice none 0 0]
theorem Du(m:MB):(Hw m).length=3:=rfl
theorem PL(bs:List MB)(b:MB)(i:Int):((bs++[b]).flatMap Hw).set (bs.length*3+1) (.int .i64 i)=(bs++[(⟨b.first,i,b.next⟩:MB)]).flatMap Hw:=by
 have hA:(bs.flatMap Hw).length=bs.length*3:=As Hw 3 Du bs;simp only[bP,bT,List.flatMap_nil,dR];rw[dE _ _ (by omega),hA];simp[Hw]
theorem Gc(xs:List MI)(n:Nat)(h:1<=n)(m:MB)(hm:m∈AX xs n):∃e:Nat,m.last=(e:Int)/\e<n:=by
 rw[BP]at hm;unfold build at hm;obtain⟨i,hi⟩:=bH hm;rw[dp]at hi;cases h1:(BQ xs n)[i]? with
 |none=>rw[h1]at hi;simp at hi
 | some a =>
   cases h2:((BQ xs n).tail++[n])[i]? with
   |none=>rw[h1,h2]at hi;simp at hi
   | some q=>
     rw[h1,h2]at hi;simp only[aR]at hi;subst hi
     have hq:1<=q/\q<=n:=by
      rcases aU.1 (aE h2)with h3|h3
      . have hs:=DA xs n
        have hlt:=((Cp xs n q).1 (d7 h3)).1;cases hL:BQ xs n with
        |nil=>rw[hL]at h3;cases h3
        | cons y r=>
          rw[hL]at hs h3;have:=(bS.1 hs).1 q h3;omega
      . simp at h3
        omega
     exact⟨q-1,by simp only[];omega,by omega⟩
structure Hl(D:DataW Unit)(left:Lit->Bool)(zs:List Int):Prop where
 nodup:zs.Nodup
 mem:∀z,z∈zs↔CD z/\Go.Maps.has D (.int .i64 z)=true/\left (.int .i64 z)=false
theorem Hl.start(D:DataW Unit):Hl D (Go.Maps.has D) []:=⟨List.nodup_nil,fun z=>⟨fun h=>(by cases h),fun h=>by rw[h.2.1]at h;exact absurd h.2.2 (by simp)⟩⟩
theorem LH(z x:Int):(Lit.int .i64 z).sameKey (.int .i64 x)=decide (z=x):=by
 by_cases h:z=x
 . subst h
   simp[Lit.sameKey]
 . rw[Go.Maps.sameKey_ne (fun e=>h (by cases e;rfl))]
   simp[h]
theorem Hl.step{D:DataW Unit}{left:Lit->Bool}{zs:List Int}{x:Int}{y:DataW Unit}(h:Hl D left zs)(hw:CD x)(hl:left (.int .i64 x)=true)(hat:∀zd,D.atKey (.int .i64 x) zd=y):Hl D (fun z=>left z&& !z.sameKey (.int .i64 x)) (zs++[x]):=by
 have hx:x∉zs:=fun e=>by
  have:=((h.mem x).1 e).2.2;rw[hl]at this;cases this
 refine⟨?_,fun z=> ?_⟩
 . rw[dX]
   refine⟨h.nodup,by simp,?_⟩;intro a ha b hb;simp only[aa,ao,cH]at hb;subst hb;exact fun e=>hx (e▸ha)
 . rw [aU,h.mem]
   simp only[aa,ao,cH,LH];constructor
   . rintro(⟨h1,h2,h3⟩|rfl)
     . exact⟨h1,h2,by simp[h3]⟩
     . exact⟨hw,Go.Maps.has_true_of_atKey hat,by simp⟩
   . rintro⟨h1,h2,h3⟩
     by_cases e:z=x
     . exact .inr e
     . refine .inl ⟨h1,h2,?_⟩
       simpa[e]using h3
theorem Cj(zs:List Int):zs.flatMap Ac=zs.map (Value.int .i64):=by
 induction zs with
 |nil=>rfl
 |cons z r ih=>simp[Ac,ih]
theorem JT(zs:List Int)(h:zs.Nodup):(zs.mergeSort fun x y=>decide (x<=y)).Pairwise (· < ·):=by
 have h1:(zs.mergeSort fun x y=>decide (x<=y)).Pairwise (fun a b=>decide (a<=b)=true):=List.pairwise_mergeSort (fun a b c h1 h2=>by simp at*;omega) (fun a b=>by simp;omega) zs;have h2:(zs.mergeSort fun x y=>decide (x<=y)).Nodup:=(dd zs _).nodup_iff.2 h;refine(h1.and h2).imp ?_;rintro a b ⟨h3,h4⟩;simp at h3;omega
theorem IK(b cnt:Nat)(D:DataW Unit)(w:World)(hcnt:cnt<=1048576)(h:AU w b cnt D):
 Calls Tryz.prog 118 #[.map (some b)] w fun e w'=>∃(g cap:Nat) (zs:List Int),e=.returned (.slice (some ⟨g,0,none⟩) zs.length cap)/\w'.ownsRow w.heap.size 2 1 (.slice (some ⟨g,0,none⟩) zs.length cap) zs.length (zs.flatMap Ac)/\zs.Pairwise (· < ·)/\(∀z,z∈zs↔CD z/\Go.Maps.has D (.int .i64 z)=true)/\Below w.heap.size w w':=by
 obtain⟨i0,hi,hz0,hz1,hz2⟩:=bQ BE;have hown:w.ownsMap Tryz.prog 2 (unitElem (H:=Unit)) b cnt D:=h;have hbl:=hown.lt;have hsz:=hown.size_le;clear h;go_enter Tryz.func118,Tryz.ntmps118
 go_wp2_with (first
  |(at_len;refine wpList_len_own _ rfl _ 174 rfl 2 201 Tryz.underlying174 _ b cnt _ rfl hown ?_)
  |(at_make;refine wpList_make_own _ rfl _ _ 28 rfl w.heap.size 2 i0 (.int .i64 0) 1 Tryz.underlying28 hi hz0 hz1 _ _ _ (Go.Maps.size D) rfl rfl rfl (by rw[hz2];omega) (by unfold maxLen;omega) lR ?_;intro w1 hrow1 hg1)
  |(at_range;refine wpList_range_own _ rfl _ 174 rfl 2 201 Iw Tryz.underlying174 _ b cnt _ rfl (hown.kept hg1 (by simp)) ?_;intro w0 hrg0 hg0 hs0)
  |go_in)
 go_frame
 go_loopw [3] (fun v wr=>∃(left:Lit->Bool) (cn:Nat) (zs:List Int),wr.ranges Tryz.prog 2 (unitElem (H:=Unit)) b w1.heap.size cnt D left cn/\zs.length+cn<=Go.Maps.size D/\wr.ownsRow w.heap.size 2 1 v zs.length (zs.map (Value.int .i64))/\v≠ .slice none 0 0/\Hl D left zs/\Below w.heap.size w wr) (fun _ wr=>wr.rangeLeft b w1.heap.size)
 case atStart=>
  exact⟨_,_,[],hrg0,by simp,hrow1.kept hg0 (Or.inr (by simp[Value.ownBlock])),by simp,Hl.start D,((aX _ _).grown hg1 lR (fun j hj=>by cases hj)).grown hg0 hg1.size (fun j hj=>by cases hj)⟩
 case round=>
  obtain⟨left,cn,zs,hrg,hcs,hrow,hnn,hC,hnx⟩:=hrel
  go_wp2_with (first
   |(at_next;refine wpList_next_ranges _ rfl _ rfl 2 Iw (unitElem (H:=Unit)) (Value.int .i64) (fun(_:Unit)=>Value.agg #[]) (fun key kl hk=>by obtain⟨x,hx,_⟩:=Go.Maps.keyOf_int_inv Tryz.underlying2 hk;exact⟨x,hx⟩) (fun v y hv=>by obtain⟨rfl,_⟩:=unitElem_inv hv;exact⟨(),rfl⟩) b w1.heap.size cnt _ _ _ rfl hrg ?_ ?_)
   |go_in)
  . intro hc0 hl0
    rcases hrow.2 with⟨hnil,_⟩|⟨g,cap,cur,rfl,hbase,hb,h1,h2,h3,h4⟩
    . exact absurd hnil hnn
    have hH:Go.Sort.Holds (Value.int .i64) wr g 0 zs.toArray:=holds_of_blockI hb (by simpa using h4);have hgl:g<wr.heap.size:=(aQ.1 hb).1;have hc:=LJ g cap zs wr hH hgl (by omega)
    have HP:Hid ((zs.mergeSort fun x y=>decide (x<=y)).Pairwise (· < ·)/\(∀z,z∈(zs.mergeSort fun x y=>decide (x<=y))↔CD z/\Go.Maps.has D (.int .i64 z)=true)/\(zs.mergeSort fun x y=>decide (x<=y)).length=zs.length):=by
     refine⟨JT zs hC.nodup,fun z=> ?_,(dd zs _).length_eq⟩;rw[(dd zs _).mem_iff,hC.mem];exact⟨fun q=>⟨q.1,q.2.1⟩,fun q=>⟨q.1,q.2,hl0 _⟩⟩
    go_wp2_with (go_at_call 122;refine hc.mono ?_;rintro e w' ⟨rfl,nn,os,rfl⟩)
    go_ret
    refine⟨g,cap,zs.mergeSort fun x y=>decide (x<=y),?_,?_,HP.o.1,HP.o.2.1,hnx.grown (grownBy_sortedI _) hnx.size (fun j hj=>by cases hj;exact hbase)⟩
    . rw[HP.o.2.2]
      rfl
    . rw[HP.o.2.2,Cj]
      exact ownsRow_sortedI HP.o.2.2 hbase hb h1 h2 h3
  . intro x c kl y w2 cnt2 hkey hlk hv hat hrg2 hlt hg2 hs2 hen
    obtain⟨x',ex,rfl,hwx⟩:=Go.Maps.keyOf_int_inv Tryz.underlying2 hkey;obtain rfl:x=x':=by cases ex;rfl
    have hrow2:=hrow.kept hg2 (Or.inr (Go.row_ne_iter hrow hrg).symm);clear hs2
    go_wp2_with (first
     |(at_builtin;refine wpList_append_own _ rfl _ _ 28 rfl w.heap.size 2 i0 (.int .i64 0) 1 8 Tryz.underlying28 hi hz0 hz1 hz2 rfl (by decide) _ _ _ rfl (hrow2.alloc _) ⟨w2.heap.size,0,none⟩ 1 1 [.int .i64 x] rfl rfl (Go.cell_one_new _ _ _) (fun u hu=>by simp at hu;subst hu;rfl) (by unfold maxLen;omega) (by omega) (by have:=hnx.size;have:=hg2.size;simp;omega) ?_;intro v' w3 hown' hg3 hnil3;go_frame)
     |go_in)
    have hrg3:=(hrg2.alloc (.cells #[.int .i64 x] 2)).kept hg3 (Go.row_ne_low hrow2 hbl) (Go.row_ne_iter hrow2 hrg2);go_roundw
    case rel=>
     refine⟨_,cnt2,zs++[x],hrg3,by simp;omega,by simpa using hown',fun hv'=>by have:=(hnil3.1 hv').2;omega,hC.step hwx hlk hat,?_⟩;exact((hnx.grown hg2 hnx.size (fun j hj=>by cases hj;exact hg1.size)).alloc (by have:=hnx.size;have:=hg2.size;omega) _).grown hg3 (by have:=hnx.size;have:=hg2.size;simp;omega) (fun j hj=>(hrow2.lt j hj).1)
    case measure=>rw[hrg3.left_eq,hrg.left_eq];exact hlt
structure CL(p:MP)(a b c:Int):Prop where
 low:0<=c
 high:c<256
 mask:bits .and .i64 c (c+1)=0
 there:¬A3 p a b=0
 one:∀j:Nat,(j:Int)<=c->A3 p a (b+j)=A3 p a b
theorem NY{p:MP}{r c:Int}(hs:∀l∈p.regions,l.length<=1048576)(h:¬A3 p r c=0):0<=c/\c<1048576:=by
 unfold A3 at h;split at h
 . exact absurd rfl h
 . rename_i hq
   refine⟨by omega,?_⟩;by_cases hr:r.toNat<p.regions.length
   . have hm:=hs _ (bq hr)
     have e:p.regions.getD r.toNat []=p.regions[r.toNat]:=by rw[aJ,aA hr];rfl
     rw[e]at h;by_cases hc:c.toNat<p.regions[r.toNat].length
     . omega
     . exact absurd (by rw[aJ,aZ (by omega)];rfl) h
   . have e:p.regions.getD r.toNat []=[]:=by rw[aJ,aZ (by omega)];rfl
     rw[e]at h;exact absurd rfl h
theorem QH{z:Int}(h0:-9223372036854775808<=z:=by omega)(h1:z<=9223372036854775807:=by omega):CD z:=by simp[CD,Lit.wf,IntKind.min,IntKind.max,IntKind.signed,IntKind.bits];omega
theorem Ei{z:Int}(h:CD z):-9223372036854775808<=z/\z<=9223372036854775807:=by simpa[CD,Lit.wf,IntKind.min,IntKind.max,IntKind.signed,IntKind.bits]using h
theorem MA (v:VP)(p:MP)(op a b c:Int)(w:World)(hs:p.small)(h3:p.regions.length=3)(ha:CD a)(hb:CD b)(hc:CD c)(h:Dg w v p):
 Calls Tryz.prog 71 #[.agg #[v.r,v.k,v.f,v.t],.agg #[.int .i64 op,.int .i64 a,.int .i64 b,.int .i64 c]] w fun e w'=>Aj e (CL p a b c)/\Below w.heap.size w w':=by
 have HB:Hid (Below w.heap.size w ((w.alloc (.cells #[v.r,v.k,v.f,v.t] 35)).alloc (.cells #[.int .i64 op,.int .i64 a,.int .i64 b,.int .i64 c] 60))):=Ab (Aa _ _) lR (Aa _ _);have HP:Hid (Cd ((w.alloc (.cells #[v.r,v.k,v.f,v.t] 35)).alloc (.cells #[.int .i64 op,.int .i64 a,.int .i64 b,.int .i64 c] 60)) w.heap.size v.r v.k v.f v.t):=(Cd.new w _ _ _ _ _).alloc _
 have HX:Hid (Cd ((w.alloc (.cells #[v.r,v.k,v.f,v.t] 35)).alloc (.cells #[.int .i64 op,.int .i64 a,.int .i64 b,.int .i64 c] 60)) (w.heap.size+1) (.int .i64 op) (.int .i64 a) (.int .i64 b) (.int .i64 c)):=by
  have:=Cd.new (w.alloc (.cells #[v.r,v.k,v.f,v.t] 35)) (.int .i64 op) (.int .i64 a) (.int .i64 b) (.int .i64 c) 60;simpa[Hid]using this
 have H:Hid (p.small/\p.regions.length=3/\CD a/\CD b/\Dg w v p):=⟨hs,h3,ha,hb,h⟩
 obtain⟨c0,c1⟩:=Ei hc;clear hs h3 ha hb h hc;by_cases q0:c<0
 . have HN:Hid (¬CL p a b c):=fun e=>absurd e.low (by omega)
   clear H HP HX;go_enter Tryz.func71,Tryz.ntmps71;go_wp2
   go_ret
   exact⟨.no HN.o,HB.o⟩
 by_cases q1:256<=c
 . have HN:Hid (¬CL p a b c):=fun e=>absurd e.high (by omega)
   clear H HP HX;go_enter Tryz.func71,Tryz.ntmps71;go_wp2
   go_ret
   exact⟨.no HN.o,HB.o⟩
 obtain⟨c,rfl⟩:=aT (show 0<=c by omega);have hcn:c<256:=by omega
 clear c0 c1 q0 q1;have q0:¬(c:Int)<0:=by omega
 have q1:¬(256:Int)<=(c:Int):=by omega
 by_cases q2:bits .and .i64 (c:Int) ((c:Int)+1)=0
 . have HM :Hid (bits .and .i64 (c:Int) ((c:Int)+1)=0):=q2
   go_enter Tryz.func71,Tryz.ntmps71;go_wp2_with fail
   clear q2 q0 q1;refine(FI v p a b _ H.o.1 H.o.2.1 H.o.2.2.1 H.o.2.2.2.1 (H.o.2.2.2.2.keep HB.o lR)).mono ?_;rintro e u0 ⟨rfl,bl0⟩;have HB1:Hid (Below w.heap.size w u0/\Cd u0 w.heap.size v.r v.k v.f v.t/\Cd u0 (w.heap.size+1) (.int .i64 op) (.int .i64 a) (.int .i64 b) (.int .i64 (c:Int))):=⟨Ab HB.o lR bl0,HP.o.keep bl0,HX.o.keep bl0⟩
   clear bl0 HB HP HX;generalize hT:A3 p a b=T;have HT:Hid (A3 p a b=T):=hT;clear hT;go_wp2
   go_loopw [6] (fun i wr=>∃k:Nat,k<=c+1/\i=.int .i64 k/\Hid ((0<k->¬T=0)/\∀j:Nat,j<k->A3 p a (b+j)=T)/\Hid (Below w.heap.size w wr/\Cd wr w.heap.size v.r v.k v.f v.t/\Cd wr (w.heap.size+1) (.int .i64 op) (.int .i64 a) (.int .i64 b) (.int .i64 (c:Int)))) (fun i _=>c+1-(intOf i).toNat)
   case atStart=>exact⟨0,by omega,rfl,⟨fun h=>by omega,fun j hj=>by omega⟩,HB1⟩
   case round=>
    clear HB1;obtain⟨k,hk,rfl,HI,HW⟩:=hrel;obtain⟨p0,p1,p2,p3⟩:=HW.o.2.1;obtain⟨i0,i1,i2,i3⟩:=HW.o.2.2;by_cases hlt:k<c+1
    . have hlt':(k:Int)<=(c:Int):=by omega
      by_cases q3:T=0
      . have q3':(T==0)=true:=by simpa using q3
        have HN:Hid (¬CL p a b c):=fun e=>e.there (HT.o.trans q3)
        clear q3;go_wp2
        go_ret
        exact⟨.no HN.o,HW.o.1⟩
      . have q3':(T==0)=false:=by simpa using q3
        have hbb:=NY H.o.1.region (by rw[HT.o];exact q3);obtain⟨b0,b1⟩:=hbb;have HQ3:Hid (¬T=0):=q3;clear q3;go_wp2_with fail;refine(FI v p a (b+k) _ H.o.1 H.o.2.1 H.o.2.2.1 QH (H.o.2.2.2.2.keep HW.o.1 lR)).mono ?_;rintro e u1 ⟨rfl,bl1⟩;have HW2:Hid (Below w.heap.size w u1/\Cd u1 w.heap.size v.r v.k v.f v.t/\Cd u1 (w.heap.size+1) (.int .i64 op) (.int .i64 a) (.int .i64 b) (.int .i64 (c:Int))):=⟨Ab HW.o.1 lR bl1,HW.o.2.1.keep bl1,HW.o.2.2.keep bl1⟩
        clear bl1 HW p0 p1 p2 p3 i0 i1 i2 i3;by_cases q4:A3 p a (b+k)=T
        . rw[q4]
          have HI2:Hid ((0<k+1->¬T=0)/\∀j:Nat,j<k+1->A3 p a (b+j)=T):=⟨fun _=>HQ3.o,fun j hj=>by
           by_cases e:j=k
           . rw[e];exact q4
           . exact HI.o.2 j (by omega)⟩
          clear q4;go_wp2
          go_roundw
          case rel=>exact⟨k+1,by omega,by go_num,HI2,HW2⟩
          case measure=>simp[intOf];omega
        . have HN:Hid (¬CL p a b c):=fun e=>q4 ((e.one k hlt').trans HT.o)
          have q4':(A3 p a (b+k)==T)=false:=by simpa using q4
          have q4'':(A3 p a (b+k) != T)=true:=by simpa using q4
          go_wp2
          go_ret
          exact⟨.no HN.o,HW2.o.1⟩
    . have hkn:k=c+1:=by omega
      subst hkn;have HY:Hid (CL p a b c):=⟨by omega,by omega,HM.o,by rw[HT.o];exact HI.o.1 (by omega),fun j hj=>by rw[HT.o];exact HI.o.2 j (by omega)⟩;have hle:¬((c:Int)+1)<=(c:Int):=by omega
      go_wp2
      go_ret
      exact⟨.yes HY.o,HW.o.1⟩
 . have HN:Hid (¬CL p a b c):=fun e=>q2 e.mask
   have q2':(bits .and .i64 (c:Int) ((c:Int)+1)==0)=false:=by simpa using q2
   clear H HP HX;go_enter Tryz.func71,Tryz.ntmps71;go_wp2
   go_ret
   exact⟨.no HN.o,HB.o⟩
theorem El(s:Value)(ys:List Int)(w:World)(hn:ys.length<=1048576)(h:Rd w 1 s ys.length (ys.flatMap Ac)):
 Calls Tryz.prog 106 #[s] w fun e w'=>e=.returned (.bool (ys.all Db))/\w'=w:=by
 have H1:Hid (Rd w 1 s ys.length (ys.flatMap Ac)):=h;obtain⟨a1,c1,rfl⟩:=h.is_slice;clear h;generalize hLL:ys.length=n at hn H1;have HL:Hid (ys.length=n):=hLL;clear hLL;generalize hR:ys.all Db=R;have HR:Hid (ys.all Db=R):=hR;clear hR;go_enter Tryz.func106,Tryz.ntmps106;go_wp2
 go_loopw [7] (fun i wr=>∃k:Nat,k<=n/\i=.int .i64 k/\Hid ((ys.take k).all Db=true)/\wr=w) (fun i _=>n-(intOf i).toNat)
 case atStart=>exact⟨0,by omega,rfl,by simp[Hid],rfl⟩
 case round=>
  obtain⟨k,hk,rfl,HT,rfl⟩:=hrel;by_cases hlt:k<n
  . obtain⟨x,hx⟩:∃x,ys[k]?=some x:=⟨_,aA (by rw[HL.o];exact hlt)⟩
    rcases H1.o.2 with⟨e0,_⟩|⟨g,o,c,e1,hc1⟩
    . omega
    . simp only[aF,aw]at e1
      obtain⟨rfl,rfl⟩:=e1;have i0:=Rd.elem Ap hc1 k x hx 0 _ rfl;rw[bf,aS]at i0;have HX:Hid (ys[k]?=some x):=hx;clear hc1 hx;go_wp2_with fail
      refine(CM x wr).mono ?_;rintro e u ⟨rfl,rfl⟩;cases hq:Db x with
      | false=>
        have hR:R=false:=by
         rw[<-HR.o];exact Nn _ _ _ (aE HX.o) hq
        subst hR;clear hq;go_wp2
        go_ret
        exact⟨rfl,rfl⟩
      | true=>
        have HN:Hid ((ys.take (k+1)).all Db=true):=by
         show _=_;rw[KT _ _ _ _ HX.o HT.o];exact hq
        clear hq;go_wp2
        go_roundw
        case rel=>exact⟨k+1,by omega,by go_num,HN,by trivial⟩
        case measure=>simp[intOf];omega
  . have hkn:k=n:=by omega
    subst hkn
    have hR:R=true:=by
     rw[<-HR.o,<-HT.o,<-HL.o,List.take_length]
    subst hR;go_wp2
    go_ret
    exact⟨rfl,rfl⟩
def EH(r:List Int):Prop:=r.length<=256/\r.all Db=true
def Aq(rs:List (List Int)):Prop:=rs.length=3/\∀j,j<rs.length->∀r,rs[j]?=some r->EH r
theorem Hc (s:Value)(fs:List (List Int))(w:World)(hL:fs.length<=1048576)(hs:∀f∈fs,f.length<=1048576)(h:OI w s fs):
 Calls Tryz.prog 78 #[s] w fun e w'=>Aj e (Aq fs)/\w'=w:=by
 obtain⟨xs,hxs,hrd,hel⟩:=h;have hxl:xs.length=fs.length:=by rw[<-hxs];simp
 have H1:Hid (Rd w 1 s fs.length (xs.flatMap Bl)/\xs.map Prod.fst=fs/\(∀x∈xs,Rd w 1 x.2 x.1.length (x.1.flatMap Ac))/\(∀f∈fs,f.length<=1048576)/\xs.length=fs.length):=⟨hrd,hxs,hel,hs,hxl⟩
 obtain⟨a1,c1,rfl⟩:=hrd.is_slice;clear hrd hxs hel hs hxl;generalize hLL:fs.length=n at hL H1;have HL:Hid (fs.length=n):=hLL;clear hLL;by_cases q0:n=3
 . subst q0
   go_enter Tryz.func78,Tryz.ntmps78;go_wp2
   go_loopw [10] (fun i wr=>∃k:Nat,k<=3/\i=.int .i64 k/\Hid (∀j,j<k->∀r,fs[j]?=some r->EH r)/\wr=w) (fun i _=>3-(intOf i).toNat)
   case atStart=>exact⟨0,by omega,rfl,fun j hj=>by omega,rfl⟩
   case round=>
    obtain⟨k,hk,rfl,HT,rfl⟩:=hrel;by_cases hlt:k<3
    . obtain⟨⟨f,v⟩,hx⟩:∃x,xs[k]?=some x:=⟨_,aA (by rw[H1.o.2.2.2.2];exact hlt)⟩
      have e1:=BM H1.o.2.1 hx;have hf:=H1.o.2.2.1 _ (aE hx);have HX:Hid (Rd wr 1 v f.length (f.flatMap Ac)/\f.length<=1048576/\fs[k]?=some f):=⟨hf,H1.o.2.2.2.1 _ (aE e1),e1⟩
      clear e1;rcases H1.o.1.2 with⟨e0,_⟩|⟨b,o,c,e1,hc1⟩
      . omega
      . simp only[aF,aw]at e1
        obtain⟨rfl,rfl⟩:=e1;have i0:=Rd.elem AW hc1 k _ hx 0 _ rfl;rw[bf,aS]at i0;clear hc1 hx;simp only[]at i0 hf;obtain⟨av,cv,ev⟩:=hf.is_slice;subst ev;clear hf;have hz:=HX.o.2.1;by_cases q1:256<f.length
        . have HN:Hid (¬Aq fs):=fun e=>absurd (e.2 k (by rw[HL.o];exact hlt) f HX.o.2.2).1 (by omega)
          generalize f.length=m at*;go_wp2
          go_ret
          exact⟨.no HN.o,rfl⟩
        . go_wp2_with fail
          refine(El _ f _ HX.o.2.1 HX.o.1).mono ?_;rintro e u ⟨rfl,rfl⟩;cases t1:f.all Db
          . have HN:Hid (¬Aq fs):=fun e=>by have:=(e.2 k (by rw[HL.o];exact hlt) f HX.o.2.2).2;simp[t1]at this
            clear t1;go_wp2
            go_ret
            exact⟨.no HN.o,rfl⟩
          . have HN:Hid (EH f):=⟨by omega,t1⟩
            clear t1;go_wp2
            go_roundw
            case rel=>exact⟨k+1,by omega,by go_num,BW HX.o.2.2 HN.o HT.o,by trivial⟩
            case measure=>simp[intOf];omega
    . have hkn:k=3:=by omega
      subst hkn;have HY:Hid (Aq fs):=⟨HL.o,by rw[HL.o];exact HT.o⟩;go_wp2;go_ret;exact⟨.yes HY.o,rfl⟩
 . have HN:Hid (¬Aq fs):=fun e=>q0 (by rw[<-HL.o];exact e.1)
   have hi:¬(n:Int)=3:=by omega
   clear H1;go_enter Tryz.func78,Tryz.ntmps78;go_wp2
   go_ret
   exact⟨.no HN.o,rfl⟩
theorem NQ{z:Int}(h:QG z):0<=z/\z<=4294967295:=by simpa[QG,Lit.wf,IntKind.min,IntKind.max,IntKind.signed,IntKind.bits]using h
theorem JX(a b a' b':Int)(w:World):(binOp .eql 180 (.agg #[.int .i64 a,.int .u32 b]) (.agg #[.int .i64 a',.int .u32 b'])).run Tryz.prog w=.ok (.bool (decide (a=a'/\b=b'))) w:=by
 have u64:=Tryz.underlying2;have a64:=Tryz.isAgg2;have z64:=Tryz.sizeOf2;have u32:=Tryz.underlying70;have a32:=Tryz.isAgg70;have z32:=Tryz.sizeOf70;have hS:Tryz.prog.underlying 180=some (.struct (Tryz.prog.fieldsOf 180)):=by kernel_rfl
 have hp:Tryz.prog.stoodInHeld 180=false:=by kernel_rfl
 rw[run_eql_struct,show(10000:Nat)=9999+1 from rfl,run_equalIn_agg w 9999 180 _ _ hS hp];simp only[Program.fieldsOf,Tryz.underlying180];go_simp;by_cases h1:a=a'
 . by_cases h2:b=b'<;>simp[*]
 . simp[*]
theorem Lj(t x:Int)(w:World)(hx:0<=x):
 Calls Tryz.prog 107 #[.agg #[.int .i64 t,.int .u32 x]] w fun e w'=>Aj e (CA ⟨t,x⟩)/\Below w.heap.size w w':=by
 by_cases h1:t=1
 . subst h1
   have e0:∀w,(binOp .eql 180 (.agg #[.int .i64 1,.int .u32 x]) (.agg #[.int .i64 1,.int .u32 0])).run Tryz.prog w=.ok (.bool (decide (1=(1:Int)/\x=0))) w:=JX 1 x 1 0
   have e1:∀w,(binOp .eql 180 (.agg #[.int .i64 1,.int .u32 x]) (.agg #[.int .i64 1,.int .u32 1])).run Tryz.prog w=.ok (.bool (decide (1=(1:Int)/\x=1))) w:=JX 1 x 1 1
   by_cases h2:x=0
   . have e2:decide (1=(1:Int)/\x=0)=true:=by simp[h2]
     have HY:Hid (CA ⟨1,x⟩):=⟨rfl,fun _=>by simp only[];omega⟩;rw[e2]at e0;clear h2 e2 e1 hx;go_enter Tryz.func107,Tryz.ntmps107;go_wp2;go_ret;exact⟨.yes HY.o,Aa _ _⟩
   . have e2:decide (1=(1:Int)/\x=0)=false:=by simp[h2]
     rw[e2]at e0;by_cases h3:x=1
     . have e3:decide (1=(1:Int)/\x=1)=true:=by simp[h3]
       have HY:Hid (CA ⟨1,x⟩):=⟨rfl,fun _=>by simp only[];omega⟩;rw[e3]at e1;clear h2 e2 h3 e3 hx;go_enter Tryz.func107,Tryz.ntmps107;go_wp2;go_ret;exact⟨.yes HY.o,Aa _ _⟩
     . have e3:decide (1=(1:Int)/\x=1)=false:=by simp[h3]
       have HN:Hid (¬CA ⟨1,x⟩):=fun e=>by have:=e.2 rfl;simp only[]at this;omega
       rw[e3]at e1;clear h2 e2 h3 e3 hx;go_enter Tryz.func107,Tryz.ntmps107;go_wp2
       go_ret
       exact⟨.no HN.o,Aa _ _⟩
 . have h1':(t==1)=false:=by simpa using h1
   have HI:Hid (Db t=true↔CA ⟨t,x⟩):=⟨fun e=>⟨e,fun e=>absurd e h1⟩,fun e=>e.1⟩;go_enter Tryz.func107,Tryz.ntmps107;go_wp2_with fail
   refine(CM t _).mono ?_;rintro e u ⟨rfl,rfl⟩;go_wp2
   go_ret
   exact⟨.of HI.o,Aa _ _⟩
def Rh(b:Bool):List Value:=[.bool b]
structure SW(w u:World)(xs:List MI)(n k q:Nat)(V:Value):Prop where
 lead:u.ownsRow w.heap.size 4 1 (.slice (some ⟨w.heap.size+1,0,none⟩) (n+1) (n+1)) (n+1) (Cf xs n n)
 num:u.ownsRow w.heap.size 2 1 (.slice (some ⟨q,0,none⟩) n n) n (A7 (EW xs) [.int .i64 0] (List.range n) k n)
 o:u.ownsRow w.heap.size 58 3 V (AX xs k).length ((AX xs k).flatMap Hw)
 bel:Below w.heap.size w u
theorem Kx{u:World}{B B' g g' k k' n n' c c':Nat}{e e':TypeId}{xs ys:List Value}(h:u.ownsRow B e k (.slice (some ⟨g,0,none⟩) n c) n xs)(h':u.ownsRow B' e' k' (.slice (some ⟨g',0,none⟩) n' c') n' ys)(hne:e≠e'):¬g=g':=fun eq=>by
 subst eq;obtain⟨_,cur,h1⟩:=Am h;obtain⟨_,cur',h2⟩:=Am h';rw[h1]at h2;simp only[aR,dD]at h2;exact hne h2.2.1
theorem Bb{u:World}{B B' g k k' n n' c:Nat}{e e':TypeId}{s:Value}{xs ys:List Value}(h:u.ownsRow B e k s n xs)(h':u.ownsRow B' e' k' (.slice (some ⟨g,0,none⟩) n' c) n' ys)(hne:e≠e')(i:Nat)(z:Value):(u.setCell ⟨g,i,none⟩ z).ownsRow B e k s n xs:=by
 obtain⟨_,cur,h1⟩:=Am h';exact aP h (a:=⟨g,i,none⟩) (fun q=>Bc h h1 hne _ q rfl) z
theorem SW.fin{w u:World}{xs:List MI}{n k q gg cap:Nat}{bs:List MB}{b:MB}(hk:k<n)(h1:u.ownsRow w.heap.size 4 1 (.slice (some ⟨w.heap.size+1,0,none⟩) (n+1) (n+1)) (n+1) (Cf xs n n))(h2:u.ownsRow w.heap.size 2 1 (.slice (some ⟨q,0,none⟩) n n) n (A7 (EW xs) [.int .i64 0] (List.range n) k n))(h3:u.ownsRow w.heap.size 58 3 (.slice (some ⟨gg,0,none⟩) (bs.length+1) cap) (bs.length+1) ((bs++[b]).flatMap Hw))(h4:Below w.heap.size w u)(ho:AX xs (k+1)=bs++[(⟨b.first,(k:Int),b.next⟩:MB)])(hm:AD xs k=(bs.length:Int)):
 SW w ((u.setCell ⟨q,k,none⟩ (.int .i64 bs.length)).setCell ⟨gg,bs.length*3+1,none⟩ (.int .i64 k)) xs n (k+1) q (.slice (some ⟨gg,0,none⟩) (bs.length+1) cap):=by
 have hq:w.heap.size<=q:=(Am h2).1;have hg:w.heap.size<=gg:=(Am h3).1;have g1:=Bb h1 h2 (by decide) k (.int .i64 bs.length);have g3:=Bb h3 h2 (by decide) k (.int .i64 bs.length);have g2:=(h2.stored k (.int .i64 bs.length)).1
 have e2:(A7 (EW xs) [.int .i64 0] (List.range n) k n).set k (.int .i64 bs.length)=A7 (EW xs) [.int .i64 0] (List.range n) (k+1) n:=by
  rw[BN _ _ _ _ _ hk,Qd _ _ _ _ k (by rw[As (EW xs) 1 (Cx xs),bp,bo];omega),CX (EW xs) _ _ k n k (by simp[hk])];simp[EW,Ac,hm]
 rw[e2]at g2;refine⟨Bb g1 g3 (by decide) _ _,Bb g2 g3 (by decide) _ _,?_,(h4.setCell hq _).setCell hg _⟩;have g4:=(g3.stored (bs.length*3+1) (.int .i64 k)).1;rw[PL]at g4;rw[ho,aH,aI];exact g4
theorem Ri{w wr w3:World}{xs:List MI}{k j q gg cap:Nat}{v:Value}(h:SW w wr xs k j q v)(ho:AX xs (j+1)=AX xs j++[(⟨(j:Int),(j:Int),[]⟩:MB)])(hm:AD xs j=((AX xs j).length:Int))(hj:j<k)(hown:w3.ownsRow w.heap.size 58 3 (.slice (some ⟨gg,0,none⟩) ((AX xs j).length+1) cap) ((AX xs j).length+1) ((AX xs j).flatMap Hw++[.int .i64 j,.int .i64 0,.slice none 0 0]))(hg:(wr.alloc (.cells #[.int .i64 j,.int .i64 0,.slice none 0 0] 58)).grownBy w3 v.ownBlock):
 Hid (SW w ((w3.setCell ⟨q,j,none⟩ (.int .i64 (AX xs j).length)).setCell ⟨gg,(AX xs j).length*3+1,none⟩ (.int .i64 j)) xs k (j+1) q (.slice (some ⟨gg,0,none⟩) ((AX xs j).length+1) cap))/\¬gg=q/\¬q=gg/\w3.cell? ⟨q,j,none⟩=some (.int .i64 0)/\w3.frozen? ⟨q,j,none⟩=false/\w3.cell? ⟨gg,(AX xs j).length*3+1,none⟩=some (.int .i64 0)/\w3.frozen? ⟨gg,(AX xs j).length*3+1,none⟩=false:=by
 have bA:=Aa wr (.cells #[.int .i64 j,.int .i64 0,.slice none 0 0] 58);have r3:=Ag h.o bA lR;have r1:=Bg (Ag h.lead bA lR) hg r3 (by decide);have r2:=Bg (Ag h.num bA lR) hg r3 (by decide);have bel:=(Ab h.bel lR bA).grown hg (aY h.bel.size bA.size) (fun i hi=>(r3.lt i hi).1);have hne:=Kx hown r2 (by decide);have n0:=r2.cellAt j (by omega);have o0:=hown.cellAt ((AX xs j).length*3+1) (by omega);rw[BN _ _ _ _ _ hj,aW (by rw[As (EW xs) 1 (Cx xs),bp,bo];omega),show j-(List.flatMap (EW xs) (List.take j (List.range k))).length=0 by rw[As (EW xs) 1 (Cx xs),bp,bo];omega]at n0;simp only[cA,aM]at n0;rw[aW (by rw[As Hw 3 Du];omega),show(AX xs j).length*3+1-(List.flatMap Hw (AX xs j)).length=1 by rw[As Hw 3 Du];omega]at o0;simp only[aj,aM]at o0;refine⟨SW.fin (b:=⟨(j:Int),0,[]⟩) hj r1 r2 (by rw[bP];exact hown) bel ho hm,hne,fun e=>hne e.symm,n0,r2.frozenAt j,o0,hown.frozenAt _⟩
theorem CQ(n:Nat):(madeCells (Value.bool false).cells (n*1)).toList=List.replicate n (.bool false):=by
 rw[Bu Rh [.bool false] [] n (.bool false) 1 rfl rfl (by omega)];simp[A7,List.flatten_replicate_singleton]
theorem Gf(n:Nat)(f:Nat->List Value)(ys:List Nat):(madeCells (Value.int .i64 0).cells (n*1)).toList=A7 f [.int .i64 0] ys 0 n:=by
 rw[Bu f [.int .i64 0] ys n (.int .i64 0) 1 rfl rfl (by omega)]
structure SV(w u:World)(xs:List MI)(n k:Nat):Prop where
 lead:u.ownsRow w.heap.size 4 1 (.slice (some ⟨w.heap.size+1,0,none⟩) (n+1) (n+1)) (n+1) (Cf xs k n)
 o:Ak u w.heap.size #[] 58
 bel:Below w.heap.size w u
theorem SV.set{w u:World}{xs:List MI}{n k k':Nat}(h:SV w u xs n k)(j:Nat)(hl:(Cf xs k n).set j (.bool true)=Cf xs k' n):SV w (u.setCell ⟨w.heap.size+1,j,none⟩ (.bool true)) xs n k':=by
 refine⟨?_,h.o.other (by simp only[];omega) _,h.bel.setCell (by simp only[];omega) _⟩;have:=(h.lead.stored j (.bool true)).1;rw[hl]at this;exact this
theorem SV.set2{w u:World}{xs:List MI}{n k k':Nat}(h:SV w u xs n k)(j j':Nat)(hl:((Cf xs k n).set j (.bool true)).set j' (.bool true)=Cf xs k' n):SV w ((u.setCell ⟨w.heap.size+1,j,none⟩ (.bool true)).setCell ⟨w.heap.size+1,j',none⟩ (.bool true)) xs n k':=by
 refine⟨?_,(h.o.other (by simp only[];omega) _).other (by simp only[];omega) _,(h.bel.setCell (by simp only[];omega) _).setCell (by simp only[];omega) _⟩;have:=((h.lead.stored j (.bool true)).1.stored j' (.bool true)).1;rw[hl]at this;exact this
theorem Jo(x0 x1 x2 x3:Value)(g:VF)(f:MF)(n:Nat)(z:Int)(w:World)(hs:f.small)(h:C9 w g f)(hz:(f.params++f.locals)[n]?=some z):
 Calls Tryz.prog 142 #[.agg #[x0,x1,x2,x3,g.p,.int .i64 f.result,g.l,g.c],.int .i64 (n:Int)] w fun e w'=>e=.returned (.int .i64 z)/\Below w.heap.size w w':=by
 obtain⟨a1,c1,e1⟩:=h.1.is_slice;obtain⟨a2,c2,e2⟩:=h.2.1.is_slice;obtain⟨vp,vl,vc⟩:=g;obtain⟨s1,s2,s3⟩:=hs;simp only[]at e1 e2;subst e1 e2;have HB:Hid (Below w.heap.size w (w.alloc (.cells #[x0,x1,x2,x3,.slice a1 f.params.length c1,.int .i64 f.result,.slice a2 f.locals.length c2,vc] 83))):=Aa _ _;by_cases q:n<f.params.length
 . rw[bG q]at hz
   have hq:(n:Int)<(f.params.length:Int):=by omega
   rcases h.1.2 with⟨e0,_⟩|⟨gr,gor,gcr,e1,hc2⟩
   . omega
   simp only[aF,aw]at e1;obtain⟨rfl,rfl⟩:=e1;have l0:=Rd.elem Ap hc2 n z hz 0 _ rfl;rw[bf,aS]at l0;have l1:=(HB.o.cell (aC l0)).trans l0;have nb:¬gr=w.heap.size:=bJ (aC l0);clear h hz hc2;generalize f.params.length=N at*;generalize f.locals.length=M at*;go_enter Tryz.func142,Tryz.ntmps142;go_wp2
   go_ret
   exact⟨rfl,HB.o⟩
 . rw[aW (by omega)]at hz
   have hlt:=(aD.1 hz).1;obtain⟨d,rfl⟩:∃d,n=f.params.length+d:=⟨n-f.params.length,by omega⟩;rw[bg]at hz;have hq:¬((f.params.length+d:Nat):Int)<(f.params.length:Int):=by omega
   rcases h.2.1.2 with⟨e0,_⟩|⟨gr,gor,gcr,e1,hc2⟩
   . omega
   simp only[aF,aw]at e1;obtain⟨rfl,rfl⟩:=e1;have l0:=Rd.elem Ap hc2 d z hz 0 _ rfl;rw[bf,aS]at l0;have l1:=(HB.o.cell (aC l0)).trans l0;have nb:¬gr=w.heap.size:=bJ (aC l0);have hd:d<f.locals.length:=by omega
   clear h hz hc2 q hlt;generalize f.params.length=N at*;generalize f.locals.length=M at*;have hsub:((N+d:Nat):Int)-(N:Int)=(d:Int):=by omega
   go_enter Tryz.func142,Tryz.ntmps142;go_wp2
   go_ret
   exact⟨rfl,HB.o⟩
theorem H8(s:Value)(cs:List MC)(w:World)(hn:cs.length<=1048576)(hw:∀c∈cs,0<=c.word)(h:Rd w 2 s cs.length (cs.flatMap MC.cells)):
 Calls Tryz.prog 79 #[s] w fun e w'=>Aj e (AH cs)/\Below w.heap.size w w':=by
 have H1:Hid (Rd w 2 s cs.length (cs.flatMap MC.cells)):=h;obtain⟨a1,c1,rfl⟩:=h.is_slice;clear h;have HZ:Hid (∀c∈cs,0<=c.word):=hw;clear hw;generalize hLL:cs.length=n at hn H1;have HL:Hid (cs.length=n):=hLL;clear hLL;by_cases q0:64<n
 . have HN:Hid (¬AH cs):=fun e=>absurd e.1 (by rw[HL.o];omega)
   clear H1;go_enter Tryz.func79,Tryz.ntmps79;go_wp2
   go_ret
   exact⟨.no HN.o,aX _ _⟩
 go_enter Tryz.func79,Tryz.ntmps79;go_wp2
 go_loopw [10] (fun i wr=>∃k:Nat,k<=n/\i=.int .i64 k/\Hid (∀j,j<k->∀c,cs[j]?=some c->CA c)/\Hid (Below w.heap.size w wr)) (fun i _=>n-(intOf i).toNat)
 case atStart=>exact⟨0,by omega,rfl,fun j hj=>by omega,aX _ _⟩
 case round=>
  obtain⟨k,hk,rfl,HT,HW⟩:=hrel;by_cases hlt:k<n
  . obtain⟨x,hx⟩:∃x,cs[k]?=some x:=⟨_,aA (by rw[HL.o];exact hlt)⟩
    rcases H1.o.2 with⟨e0,_⟩|⟨b,o,c,e1,hc1⟩
    . omega
    . simp only[aF,aw]at e1
      obtain⟨rfl,rfl⟩:=e1;have i0:=Rd.elem MC.cells_length hc1 k x hx 0 _ rfl;have i1:=Rd.elem MC.cells_length hc1 k x hx 1 _ rfl;rw[<-HW.o.cell (aC i0),aS]at i0;rw[<-HW.o.cell (aC i1)]at i1;have HX:Hid (cs[k]?=some x):=hx;clear hc1 hx;have nb:¬b=wr.heap.size:=bJ (aC i0);have mb:b<wr.heap.size:=aC i0;have HW2:Hid (Below w.heap.size w (wr.alloc (.cells #[.int .i64 x.type,.int .u32 x.word] 114))):=Ab HW.o lR (Aa _ _);go_wp2_with fail
      refine(Lj x.type x.word _ (HZ.o x (aE HX.o))).mono ?_;rintro e u ⟨⟨b1,rfl,hb1⟩,blu⟩;have HW3:Hid (Below w.heap.size w u):=Ab HW2.o lR blu;clear i0 i1 nb mb blu HW2;cases b1
      . have HN:Hid (¬AH cs):=fun e=>absurd (hb1.2 (e.2 k (by rw[HL.o];exact hlt) x HX.o)) cU
        clear hb1;go_wp2
        go_ret
        exact⟨.no HN.o,HW3.o⟩
      . have HC:Hid (CA x):=hb1.1 rfl
        clear hb1;go_wp2
        go_roundw
        case rel=>exact⟨k+1,by omega,by go_num,BW HX.o HC.o HT.o,HW3⟩
        case measure=>simp[intOf];omega
  . have hkn:n=k:=by omega
    subst hkn;have HY:Hid (AH cs):=⟨by rw[HL.o];omega,by rw[HL.o];exact HT.o⟩;go_wp2;go_ret;exact⟨.yes HY.o,HW.o⟩
theorem Jh(v:VF)(f:MF)(w:World)(hs:f.small)(h:C9 w v f):
 Calls Tryz.prog 108 #[.agg #[v.p,.int .i64 f.result,v.l,v.c]] w fun e w'=>Aj e (B6 f)/\Below w.heap.size w w':=by
 have H1:Hid (C9 w v f/\f.small):=⟨h,hs⟩
 obtain⟨a1,c1,e1⟩:=h.1.is_slice;obtain⟨a2,c2,e2⟩:=h.2.1.is_slice;obtain⟨a3,c3,e3⟩:=h.2.2.is_slice;obtain⟨vp,vl,vc⟩:=v;obtain⟨s1,s2,s3⟩:=hs;simp only[]at e1 e2 e3;subst e1 e2 e3;clear h;have HB:Hid (Below w.heap.size w (w.alloc (.cells #[.slice a1 f.params.length c1,.int .i64 f.result,.slice a2 f.locals.length c2,.slice a3 f.code.length c3] 48))):=Aa _ _;by_cases q1:8<f.params.length
 . have HN:Hid (¬B6 f):=fun e=>absurd e.par (by omega)
   clear H1;generalize f.params.length=n1 at*;generalize f.locals.length=n2 at*;generalize f.code.length=n3 at*;go_enter Tryz.func108,Tryz.ntmps108;go_wp2
   go_ret
   exact⟨.no HN.o,HB.o⟩
 by_cases q2:32<f.params.length+f.locals.length
 . have HN:Hid (¬B6 f):=fun e=>absurd e.loc (by omega)
   clear H1;generalize f.params.length=n1 at*;generalize f.locals.length=n2 at*;generalize f.code.length=n3 at*;go_enter Tryz.func108,Tryz.ntmps108;go_wp2
   go_ret
   exact⟨.no HN.o,HB.o⟩
 by_cases q3:f.code.length=0
 . have HN:Hid (¬B6 f):=fun e=>e.code0 q3
   clear H1;generalize f.params.length=n1 at*;generalize f.locals.length=n2 at*;generalize f.code.length=n3 at*;subst q3;go_enter Tryz.func108,Tryz.ntmps108;go_wp2
   go_ret
   exact⟨.no HN.o,HB.o⟩
 by_cases q4:1024<f.code.length
 . have HN:Hid (¬B6 f):=fun e=>absurd e.code1 (by omega)
   clear H1;generalize f.params.length=n1 at*;generalize f.locals.length=n2 at*;generalize f.code.length=n3 at*;go_enter Tryz.func108,Tryz.ntmps108;go_wp2
   go_ret
   exact⟨.no HN.o,HB.o⟩
 have q1':¬(8:Int)<(f.params.length:Int):=by omega
 have q2':¬(32:Int)<(f.params.length:Int)+(f.locals.length:Int):=by omega
 have q3':((f.code.length:Int)==0)=false:=by simpa using q3
 have q4':¬(1024:Int)<(f.code.length:Int):=by omega
 have HQ:Hid (f.params.length<=8/\f.params.length+f.locals.length<=32/\¬f.code.length=0/\f.code.length<=1024):=⟨by omega,by omega,q3,by omega⟩
 go_enter Tryz.func108,Tryz.ntmps108;go_wp2_with fail
 refine(El _ f.params _ H1.o.2.1 (H1.o.1.1.keep HB.o lR)).mono ?_;rintro e u ⟨rfl,rfl⟩;cases t1:f.params.all Db
 . have HN:Hid (¬B6 f):=fun e=>by have:=e.pt;simp[t1]at this
   clear t1;go_wp2
   go_ret
   exact⟨.no HN.o,HB.o⟩
 have HT1:Hid (f.params.all Db=true):=t1;clear t1;go_wp2_with fail
 refine(El _ f.locals _ H1.o.2.2.1 (H1.o.1.2.1.keep HB.o lR)).mono ?_;rintro e u ⟨rfl,rfl⟩;cases t1:f.locals.all Db
 . have HN:Hid (¬B6 f):=fun e=>by have:=e.lt;simp[t1]at this
   clear t1;go_wp2
   go_ret
   exact⟨.no HN.o,HB.o⟩
 have HT2:Hid (f.locals.all Db=true):=t1;clear t1;generalize hR:f.result=R at*;have HE:Hid (f.result=R):=hR;clear hR q1 q2 q3 q4;by_cases q5:R=0
 . subst q5
   have HY:Hid (B6 f):=⟨HQ.o.1,HQ.o.2.1,HT1.o,HT2.o,.inl HE.o,HQ.o.2.2.1,HQ.o.2.2.2⟩;go_wp2
   go_ret
   exact⟨.yes HY.o,HB.o⟩
 . have q5':(R==0)=false:=by simpa using q5
   go_wp2_with fail
   refine(CM R _).mono ?_;rintro e u ⟨rfl,rfl⟩;cases t1:Db R
   . have HN:Hid (¬B6 f):=fun e=>by have:=e.res;rw[HE.o]at this;simp[q5,t1]at this
     clear t1;go_wp2
     go_ret
     exact⟨.no HN.o,HB.o⟩
   . have HY:Hid (B6 f):=⟨HQ.o.1,HQ.o.2.1,HT1.o,HT2.o,.inr (by rw[HE.o];exact t1),HQ.o.2.2.1,HQ.o.2.2.2⟩
     clear t1;go_wp2
     go_ret
     exact⟨.yes HY.o,HB.o⟩
end Go.Proofs.YtdipfjmlfbdkdaaGreat
