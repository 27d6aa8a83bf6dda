import Derived.Test.YtjpobijiblcgaaaGreatFw0
import Derived.Test.YtjpobijiblcgaaaGreatFw4
import Derived.Test.YtjpobijiblcgaaaGreatFw5
import Derived.Deep.AppendLies
import Derived.Deep.RegionLaw
import Derived.Maps.RangeWalk
import Derived.Sort.KeysCollected
import Derived.Maps.AppendAt
import Derived.Test.YtjpobijiblcgaaaGreatFw2
import Derived.Laws.StructEq
namespace Go.Proofs.YtjpobijiblcgaaaGreat
open Go.ChangeShapes Go.WideShapes Go.ChangeAt Go.RowKit
set_option linter.unusedVariables false
set_option maxHeartbeats 4000000
set_option maxRecDepth 100000
def H6(c:MC):Prop:=FC c.type=true/\(c.type=1->c.word<=1)
def BF(cs:List MC):Prop:=cs.length<=64/\∀j,j<cs.length->∀c,cs[j]?=some c->H6 c
theorem EI{α:Type}{q:α->Prop}{xs:List α}{k:Nat}{x:α}(h1:xs[k]?=some x)(hx:q x)(h:∀j,j<k->∀c,xs[j]?=some c->q c):∀j,j<k+1->∀c,xs[j]?=some c->q c:=by
 intro j hj c hc;by_cases e:j=k
 . subst e
   rw[h1]at hc;exact(bC hc)▸hx
 . exact h j (by omega) c hc
theorem J8 (v:VP)(p:MP)(w:World)(hs:p.small)(h:Fr w v p):
 Calls Tryz.prog 94 #[.agg #[v.r,v.k,v.f,v.t]] w fun e w'=>AM e (BF p.consts)/\Below w.heap.size w w':=by
 have H1:Hid (Rd w 2 v.k p.consts.length (p.consts.flatMap MC.cells)):=h.consts;have hn:=hs.consts;obtain⟨vr,vk,vf,vt⟩:=v;obtain⟨a1,c1,e1⟩:∃a c,vk=.slice a p.consts.length c:=h.consts.is_slice;subst e1;clear h hs;have HW:Hid (Below w.heap.size w (w.alloc (.cells #[vr,.slice a1 p.consts.length c1,vf,vt] 65))/\DS (w.alloc (.cells #[vr,.slice a1 p.consts.length c1,vf,vt] 65)) w.heap.size vr (.slice a1 p.consts.length c1) vf vt):=⟨Aa _ _,DS.new _ _ _ _ _ _⟩
 generalize hcs:p.consts=cs at*;clear hcs;generalize hLL:cs.length=n at hn H1 HW;have HL:Hid (cs.length=n):=hLL;clear hLL;go_enter Tryz.func94,Tryz.ntmps94;go_wp2
 go_loopw [3] (fun i wr=>∃k:Nat,k<=n/\i=.int .i64 k/\Hid (∀j,j<k->∀c,cs[j]?=some c->H6 c)/\Hid (Below w.heap.size w wr/\DS wr w.heap.size vr (.slice a1 n c1) vf vt)) (fun i _=>n-(intOf i).toNat)
 case atStart=>exact⟨0,by omega,rfl,fun j hj=>by omega,HW⟩
 case round =>
  clear HW;obtain⟨k,hk,rfl,HT,HW⟩:=hrel;obtain⟨p0,p1,p2,p3⟩:=HW.o.2;by_cases hlt:k<n
  . obtain ⟨x,hx⟩:∃x,cs[k]?=some x:=⟨_,aA (by rw[HL.o];exact hlt)⟩
    rcases H1.o.2 with⟨e0,_⟩|⟨b,o,c,e1,hc1⟩
    . omega
    . simp only[aI,bU]at e1
      obtain⟨rfl,rfl⟩:=e1;have i0:=Rd.elem MC.cells_length hc1 k x hx 0 _ rfl;have i1:=Rd.elem MC.cells_length hc1 k x hx 1 _ rfl;rw[<-HW.o.1.cell (aF i0),aw]at i0;rw[<-HW.o.1.cell (aF i1)]at i1;have HX:Hid (cs[k]?=some x):=hx;clear hc1 hx;have nb:¬b=wr.heap.size:=cI (aF i0);have mb:b<wr.heap.size:=aF i0;have HW2:Hid (Below w.heap.size w (wr.alloc (.cells #[.int .i64 x.type,.int .u32 x.word] 102))/\DS (wr.alloc (.cells #[.int .i64 x.type,.int .u32 x.word] 102)) w.heap.size vr (.slice (some ⟨b,o,none⟩) n c1) vf vt):=⟨Af HW.o.1 lR (Aa _ _),HW.o.2.alloc _⟩
      go_wp2_with fail
      refine(Dv x.type _).mono ?_;rintro e u ⟨rfl,rfl⟩;clear i0 i1 nb mb p0 p1 p2 p3;cases t1:FC x.type
      . have HN:Hid (¬BF cs):=fun e=>by have:=(e.2 k (by rw[HL.o];exact hlt) x HX.o).1;simp[t1]at this
        clear t1;go_wp2
        go_ret
        exact⟨.no HN.o,HW2.o.1⟩
      . have HT1:Hid (FC x.type=true):=t1
        clear t1;by_cases q1:x.type=1
        . rw[q1]at HW2
          by_cases q2:1<x.word
          . have HN:Hid (¬BF cs):=fun e=>by have:=(e.2 k (by rw[HL.o];exact hlt) x HX.o).2 q1;omega
            go_wp2
            go_ret
            exact⟨.no HN.o,HW2.o.1⟩
          . have HC:Hid (H6 x):=⟨HT1.o,fun _=>by omega⟩
            go_wp2
            go_roundw
            case rel=>exact⟨k+1,by omega,by go_num,EI HX.o HC.o HT.o,HW2⟩
            case measure=>simp[intOf];omega
        . have q1':(x.type==1)=false:=by simpa using q1
          have HC:Hid (H6 x):=⟨HT1.o,fun e=>absurd e q1⟩;go_wp2
          go_roundw
          case rel=>exact⟨k+1,by omega,by go_num,EI HX.o HC.o HT.o,HW2⟩
          case measure=>simp[intOf];omega
  . have hkn:n=k:=by omega
    subst hkn
    have HY:Hid (decide ((n:Int)<=64)=true↔BF cs):=by
     show _↔_;rw[dI];exact⟨fun e=>⟨by rw[HL.o];omega,by rw[HL.o];exact HT.o⟩,fun e=>by have:=e.1;rw[HL.o]at this;omega⟩
    go_wp2
    go_ret
    exact⟨.of HY.o,HW.o.1⟩
theorem C5:(Tryz.prog.info? 4).map (fun i=>(i.zero,i.size,i.bytes))=some (some (.bool false),1,1):=by kernel_rfl
theorem BP{w w':World}{base B:Nat}{e e':TypeId}{s v:Value}{k k' n m:Nat}{xs bs:List Value}(h:w.ownsRow base e k s n xs)(hg:w.grownBy w' v.ownBlock)(ho:w.ownsRow B e' k' v m bs)(hne:e≠e'):w'.ownsRow base e k s n xs:=by
 refine⟨h.1,?_⟩;rcases h.2 with h|⟨g,cap,cur,e1,hb1,hgg,hr⟩
 . exact .inl h
 . refine .inr ⟨g,cap,cur,e1,hb1,?_,hr⟩
   rw[hg.block g (an.1 hgg).1 ?_]
   . exact hgg
   . intro hv
     rcases ho.2 with⟨rfl,_⟩|⟨g',cap',cur',rfl,_,hg',_⟩
     . cases hv
     . simp only[Value.ownBlock,aJ]at hv
       subst hv;rw[hgg]at hg';simp only[aJ,dC]at hg';exact hne hg'.2.1
def CO(xs:List MI)(k n:Nat):List Value:=(List.range (n+1)).map fun j=>Value.bool (BD xs k j)
theorem GU(xs:List MI)(k n:Nat):(CO xs k n).length=n+1:=by simp[CO]
theorem FH(xs:List MI)(k n j:Nat)(hj:j<=n):(CO xs k n)[j]?=some (.bool (BD xs k j)):=by simp[CO,show j<n+1 by omega]
theorem Mt(xs:List MI)(n:Nat):(List.replicate (n+1) (Value.bool false)).set 0 (.bool true)=CO xs 0 n:=by
 apply cQ;intro j;by_cases hj:j<n+1
 . rw[FH _ _ _ _ (by omega),Hu]
   by_cases h0:j=0
   . subst h0
     simp
   . rw[cU (by omega)]
     simp[h0,hj]
 . rw[ae (by simp;omega),ae (by simp[CO];omega)]
theorem Jx(xs:List MI)(k n c:Nat)(hc:c<=n)(P:Nat->Bool)(h:∀j,P j=(BD xs k j||decide (j=c))):(CO xs k n).set c (.bool true)=(List.range (n+1)).map fun j=>Value.bool (P j):=by
 apply cQ;intro j;by_cases hj:j<n+1
 . by_cases h0:j=c
   . subst h0
     rw[cY (by rw[GU];omega)];simp[hj,h]
   . rw[cU (by omega),FH _ _ _ _ (by omega)]
     simp[hj,h,h0]
 . rw[ae (by simp[CO];omega),ae (by simp;omega)]
theorem Ms(P:Nat->Bool)(n c:Nat)(hc:c<=n)(Q:Nat->Bool)(h:∀j,Q j=(P j||decide (j=c))):((List.range (n+1)).map fun j=>Value.bool (P j)).set c (.bool true)=(List.range (n+1)).map fun j=>Value.bool (Q j):=by
 apply cQ;intro j;by_cases hj:j<n+1
 . by_cases h0:j=c
   . subst h0
     rw[cY (by simp;omega)];simp[hj,h]
   . rw[cU (by omega)]
     simp[hj,h,h0]
 . rw[ae (by simp;omega),ae (by simp;omega)]
theorem NF(xs:List MI)(k n c:Nat)(x:MI)(hx:xs[k]?=some x)(hg:AG x=true)(hc:x.c=(c:Int))(hcn:c<=n)(hk:k+1<=n):((CO xs k n).set c (.bool true)).set (k+1) (.bool true)=CO xs (k+1) n:=by
 rw[Jx xs k n c hcn (fun j=>BD xs k j||decide (j=c)) (fun j=>rfl)];refine(Ms _ n (k+1) hk (fun j=>BD xs (k+1) j) (fun j=> ?_)).trans rfl;rw[Dw xs k j x hx]
 have e:decide ((c:Int)=(j:Int))=decide (j=c):=by
  by_cases h:j=c
  . simp[h]
  . have:¬(c:Int)=(j:Int):=by omega
    simp[h,this]
 simp[Ef,hg,hc,e,Bool.or_assoc]
theorem OM(xs:List MI)(k n:Nat)(x:MI)(hx:xs[k]?=some x)(hg:AG x=false)(hr:x.op=29)(hk:k+1<=n):(CO xs k n).set (k+1) (.bool true)=CO xs (k+1) n:=by
 rw[Jx xs k n (k+1) hk (fun j=>BD xs (k+1) j) (fun j=> ?_)]
 . rfl
 . rw[Dw xs k j x hx]
   simp[Ef,hg,hr]
theorem NH(xs:List MI)(k n:Nat)(x:MI)(hx:xs[k]?=some x)(hg:AG x=false)(hr:¬x.op=29):CO xs k n=CO xs (k+1) n:=by
 unfold CO;congr 1
 funext j
 rw[Dw xs k j x hx];simp[Ef,hg,hr]
def FJ(xs:List MI)(j:Nat):List Value:=Ab (AO xs j)
theorem Dd(xs:List MI)(j:Nat):(FJ xs j).length=1:=rfl
def Io(m:MB):List Value:=[.int .i64 m.first,.int .i64 m.last,.slice none 0 0]
theorem DY(m:MB):(Io m).length=3:=rfl
theorem Pw(bs:List MB)(b:MB)(i:Int):((bs++[b]).flatMap Io).set (bs.length*3+1) (.int .i64 i)=(bs++[(⟨b.first,i,b.next⟩:MB)]).flatMap Io:=by
 have hA:(bs.flatMap Io).length=bs.length*3:=Ax Io 3 DY bs;simp only[a8,aW,cA,dU];rw[df _ _ (by omega),hA];simp[Io]
theorem GP(xs:List MI)(n:Nat)(h:1<=n)(m:MB)(hm:m∈A8 xs n):∃e:Nat,m.last=(e:Int)/\e<n:=by
 rw[Cb]at hm;unfold build at hm;obtain⟨i,hi⟩:=cH hm;rw[dS]at hi;cases h1:(CA xs n)[i]? with
 |none=>rw[h1]at hi;simp at hi
 | some a =>
   cases h2:((CA xs n).tail++[n])[i]? with
   |none=>rw[h1,h2]at hi;simp at hi
   | some q=>
     rw[h1,h2]at hi;simp only[aJ]at hi;subst hi
     have hq:1<=q/\q<=n:=by
      rcases aS.1 (aE h2)with h3|h3
      . have hs:=C8 xs n
        have hlt:=((Co xs n q).1 (eM h3)).1;cases hL:CA xs n with
        |nil=>rw[hL]at h3;cases h3
        | cons y r=>
          rw[hL]at hs h3;have:=(bi.1 hs).1 q h3;omega
      . simp at h3
        omega
     exact⟨q-1,by simp only[];omega,by omega⟩
structure Ih(D:DataW Unit)(left:Lit->Bool)(zs:List Int):Prop where
 nodup:zs.Nodup
 mem:∀z,z∈zs↔BN z/\Go.Maps.has D (.int .i64 z)=true/\left (.int .i64 z)=false
theorem Ih.start(D:DataW Unit):Ih D (Go.Maps.has D) []:=⟨List.nodup_nil,fun z=>⟨fun h=>(by cases h),fun h=>by rw[h.2.1]at h;exact absurd h.2.2 (by simp)⟩⟩
theorem LD(z x:Int):(Lit.int .i64 z).sameKey (.int .i64 x)=decide (z=x):=by
 by_cases h:z=x
 . subst h
   simp[Lit.sameKey]
 . rw[Go.Maps.sameKey_ne (fun e=>h (by cases e;rfl))]
   simp[h]
theorem Ih.step{D:DataW Unit}{left:Lit->Bool}{zs:List Int}{x:Int}{y:DataW Unit}(h:Ih D left zs)(hw:BN x)(hl:left (.int .i64 x)=true)(hat:∀zd,D.atKey (.int .i64 x) zd=y):Ih D (fun z=>left z&& !z.sameKey (.int .i64 x)) (zs++[x]):=by
 have hx:x∉zs:=fun e=>by
  have:=((h.mem x).1 e).2.2;rw[hl]at this;cases this
 refine⟨?_,fun z=> ?_⟩
 . rw[dn]
   refine⟨h.nodup,by simp,?_⟩;intro a ha b hb;simp only[aX,bB,cW]at hb;subst hb;exact fun e=>hx (e▸ha)
 . rw [aS,h.mem]
   simp only[aX,bB,cW,LD];constructor
   . rintro(⟨h1,h2,h3⟩|rfl)
     . exact⟨h1,h2,by simp[h3]⟩
     . exact⟨hw,Go.Maps.has_true_of_atKey hat,by simp⟩
   . rintro⟨h1,h2,h3⟩
     by_cases e:z=x
     . exact .inr e
     . refine .inl ⟨h1,h2,?_⟩
       simpa[e]using h3
theorem Db(zs:List Int):zs.flatMap Ab=zs.map (Value.int .i64):=by
 induction zs with
 |nil=>rfl
 |cons z r ih=>simp[Ab,ih]
theorem JJ(zs:List Int)(h:zs.Nodup):(zs.mergeSort fun x y=>decide (x<=y)).Pairwise (· < ·):=by
 have h1:(zs.mergeSort fun x y=>decide (x<=y)).Pairwise (fun a b=>decide (a<=b)=true):=List.pairwise_mergeSort (fun a b c h1 h2=>by simp at*;omega) (fun a b=>by simp;omega) zs;have h2:(zs.mergeSort fun x y=>decide (x<=y)).Nodup:=(dp zs _).nodup_iff.2 h;refine(h1.and h2).imp ?_;rintro a b ⟨h3,h4⟩;simp at h3;omega
theorem IR(b cnt:Nat)(D:DataW Unit)(w:World)(hcnt:cnt<=1048576)(h:BC w b cnt D):
 Calls Tryz.prog 33 #[.map (some b)] w fun e w'=>∃(g cap:Nat) (zs:List Int),e=.returned (.slice (some ⟨g,0,none⟩) zs.length cap)/\w'.ownsRow w.heap.size 2 1 (.slice (some ⟨g,0,none⟩) zs.length cap) zs.length (zs.flatMap Ab)/\zs.Pairwise (· < ·)/\(∀z,z∈zs↔BN z/\Go.Maps.has D (.int .i64 z)=true)/\Below w.heap.size w w':=by
 obtain⟨i0,hi,hz0,hz1,hz2⟩:=bH Bf;have hown:w.ownsMap Tryz.prog 2 (unitElem (H:=Unit)) b cnt D:=h;have hbl:=hown.lt;have hsz:=hown.size_le;clear h;go_enter Tryz.func33,Tryz.ntmps33
 go_wp2_with (first
  |(at_len;refine wpList_len_own _ rfl _ 81 rfl 2 94 Tryz.underlying81 _ b cnt _ rfl hown ?_)
  |(at_make;refine wpList_make_own _ rfl _ _ 26 rfl w.heap.size 2 i0 (iZ 0) 1 Tryz.underlying26 hi hz0 hz1 _ _ _ (Go.Maps.size D) rfl rfl rfl (by rw[hz2];omega) (by unfold maxLen;omega) lR ?_;intro w1 hrow1 hg1)
  |(at_range;refine wpList_range_own _ rfl _ 81 rfl 2 94 Jw Tryz.underlying81 _ b cnt _ rfl (hown.kept hg1 (by simp)) ?_;intro w0 hrg0 hg0 hs0)
  |go_in)
 go_frame
 go_loopw [3] (fun v wr=>∃(left:Lit->Bool) (cn:Nat) (zs:List Int),wr.ranges Tryz.prog 2 (unitElem (H:=Unit)) b w1.heap.size cnt D left cn/\zs.length+cn<=Go.Maps.size D/\wr.ownsRow w.heap.size 2 1 v zs.length (zs.map (Value.int .i64))/\v≠sN/\Ih D left zs/\Below w.heap.size w wr) (fun _ wr=>wr.rangeLeft b w1.heap.size)
 case atStart=>
  exact⟨_,_,[],hrg0,by simp,hrow1.kept hg0 (Or.inr (by simp[Value.ownBlock])),by simp,Ih.start D,((bY _ _).grown hg1 lR (fun j hj=>by cases hj)).grown hg0 hg1.size (fun j hj=>by cases hj)⟩
 case round=>
  obtain⟨left,cn,zs,hrg,hcs,hrow,hnn,hC,hnx⟩:=hrel
  go_wp2_with (first
   |(at_next;refine wpList_next_ranges _ rfl _ rfl 2 Jw (unitElem (H:=Unit)) (Value.int .i64) (fun(_:Unit)=>Value.agg #[]) (fun key kl hk=>by obtain⟨x,hx,_⟩:=Go.Maps.keyOf_int_inv Tryz.underlying2 hk;exact⟨x,hx⟩) (fun v y hv=>by obtain⟨rfl,_⟩:=unitElem_inv hv;exact⟨(),rfl⟩) b w1.heap.size cnt _ _ _ rfl hrg ?_ ?_)
   |go_in)
  . intro hc0 hl0
    rcases hrow.2 with⟨hnil,_⟩|⟨g,cap,cur,rfl,hbase,hb,h1,h2,h3,h4⟩
    . exact absurd hnil hnn
    have hH:Go.Sort.Holds (Value.int .i64) wr g 0 zs.toArray:=holds_of_blockI hb (by simpa using h4);have hgl:g<wr.heap.size:=(an.1 hb).1;have hc:=LE g cap zs wr hH hgl (by omega)
    have HP:Hid ((zs.mergeSort fun x y=>decide (x<=y)).Pairwise (· < ·)/\(∀z,z∈(zs.mergeSort fun x y=>decide (x<=y))↔BN z/\Go.Maps.has D (.int .i64 z)=true)/\(zs.mergeSort fun x y=>decide (x<=y)).length=zs.length):=by
     refine⟨JJ zs hC.nodup,fun z=> ?_,(dp zs _).length_eq⟩;rw[(dp zs _).mem_iff,hC.mem];exact⟨fun q=>⟨q.1,q.2.1⟩,fun q=>⟨q.1,q.2,hl0 _⟩⟩
    go_wp2_with (go_at_call 37;refine hc.mono ?_;rintro e w' ⟨rfl,nn,os,rfl⟩)
    go_ret
    refine⟨g,cap,zs.mergeSort fun x y=>decide (x<=y),?_,?_,HP.o.1,HP.o.2.1,hnx.grown (grownBy_sortedI _) hnx.size (fun j hj=>by cases hj;exact hbase)⟩
    . rw[HP.o.2.2]
      rfl
    . rw[HP.o.2.2,Db]
      exact ownsRow_sortedI HP.o.2.2 hbase hb h1 h2 h3
  . intro x c kl y w2 cnt2 hkey hlk hv hat hrg2 hlt hg2 hs2 hen
    obtain⟨x',ex,rfl,hwx⟩:=Go.Maps.keyOf_int_inv Tryz.underlying2 hkey;obtain rfl:x=x':=by cases ex;rfl
    have hrow2:=hrow.kept hg2 (Or.inr (Go.row_ne_iter hrow hrg).symm);clear hs2
    go_wp2_with (first
     |(at_builtin;refine wpList_append_own _ rfl _ _ 26 rfl w.heap.size 2 i0 (iZ 0) 1 8 Tryz.underlying26 hi hz0 hz1 hz2 rfl (by decide) _ _ _ rfl (hrow2.alloc _) ⟨w2.heap.size,0,none⟩ 1 1 [iZ x] rfl rfl (Go.cell_one_new _ _ _) (fun u hu=>by simp at hu;subst hu;rfl) (by unfold maxLen;omega) (by omega) (by have:=hnx.size;have:=hg2.size;simp;omega) ?_;intro v' w3 hown' hg3 hnil3;go_frame)
     |go_in)
    have hrg3:=(hrg2.alloc (.cells #[iZ x] 2)).kept hg3 (Go.row_ne_low hrow2 hbl) (Go.row_ne_iter hrow2 hrg2);go_roundw
    case rel=>
     refine⟨_,cnt2,zs++[x],hrg3,by simp;omega,by simpa using hown',fun hv'=>by have:=(hnil3.1 hv').2;omega,hC.step hwx hlk hat,?_⟩;exact((hnx.grown hg2 hnx.size (fun j hj=>by cases hj;exact hg1.size)).alloc (by have:=hnx.size;have:=hg2.size;omega) _).grown hg3 (by have:=hnx.size;have:=hg2.size;simp;omega) (fun j hj=>(hrow2.lt j hj).1)
    case measure=>rw[hrg3.left_eq,hrg.left_eq];exact hlt
theorem Mh(w u:World)(s:Cv)(k:GK)(p:Int)(v:VP)(vc:Value)(g:Gn)(left lv:Int)(D:List Av)(op a b c:Int)(h:SM w u s k p v vc g left lv D)(hl:g.code.length<=1000000)(hleft:-1000000<=left/\left<=1000000):
 Calls Tryz.prog 55 #[.pointer (some ⟨k.Gb,0,none⟩),iZ op,iZ a,iZ b,iZ c] u fun e u'=>e=.returned (iZ (g.code.length:Int))/\∃vc',SM w u' s k p v vc' ⟨g.code++[(⟨op,a,b,c⟩:MI)],g.consts,g.certs⟩ (left-1) lv D:=by
 obtain⟨iI,hi,hz0,hz1,hz2⟩:=bH KT;obtain⟨⟨a1,c1,e1⟩,_⟩:=h.bl.nrow;subst e1;have H:=Ah h;obtain⟨_,_,_,q3,_,_⟩:=h.cells;clear h;generalize hn:g.code.length=n at H q3 hl⊢;have HN:=Ah hn;clear hn;have E2:Hid (SM w (u.alloc (.cells #[iZ op,iZ a,iZ b,iZ c] 43)) s k p v (.slice a1 n c1) g left lv D):=H.o.keep (Aa _ _);go_enter Tryz.func55,Tryz.ntmps55;go_upto_region 2 with(at_builtin;refine wpList_append_lies _ rfl _ _ 23 rfl w.heap.size 43 iI (.agg #[iZ 0,iZ 0,iZ 0,iZ 0]) 4 32 Tryz.underlying23 hi hz0 hz1 hz2 rfl (by decide) _ n (g.code.flatMap MI.cells) rfl (by have:=E2.o.bl.nrow.2;rw[HN.o]at this;exact this) ⟨u.heap.size,0,none⟩ 1 1 [iZ op,iZ a,iZ b,iZ c] rfl rfl (Bn u _ _) (Dx [(⟨op,a,b,c⟩:MI)]) (by omega) (by simp[maxLen];omega) (by omega) E2.o.bl.size _ rfl ?_;intro g5 cap5 w5 hown hgrow hat hlt5;have HU:Hid (SM w (w5.setCell ⟨k.Gb,3,none⟩ (sG g5 (n+1) cap5)) s k p v (sG g5 (n+1) cap5) ⟨g.code++[(⟨op,a,b,c⟩:MI)],g.consts,g.certs⟩ left lv D/\w5.cell? ⟨k.Gb,3,none⟩=some (.slice a1 n c1)/\w5.frozen? ⟨k.Gb,3,none⟩=false):=E2.o.push [(⟨op,a,b,c⟩:MI)] (sG g5 (n+1) cap5) (by rw[HN.o];exact hown) hgrow (BH hat);have k1:=HU.o.2.1;have k2:=HU.o.2.2;clear hown hgrow hat hlt5)
 refine Al (fun U=>Hid (SM w U s k p v (sG g5 (n+1) cap5) ⟨g.code++[(⟨op,a,b,c⟩:MI)],g.consts,g.certs⟩ left lv D)) HU.o.1 ?_;clear k1 k2 HU E2 q3;intro U E3;obtain⟨_,_,_,_,q4,_⟩:=E3.o.cells;have z4:=E3.o.frozen 4;have E4:=Ah (E3.o.left_ (left-1));go_upto_region 3 with fail
 refine Al (fun U=>Hid (SM w U s k p v (sG g5 (n+1) cap5) ⟨g.code++[(⟨op,a,b,c⟩:MI)],g.consts,g.certs⟩ (left-1) lv D)) E4 ?_;clear E4 E3 q4 z4;intro U2 E5;obtain⟨_,_,_,q5,_,_⟩:=E5.o.cells;go_wp2_with fail
 go_ret
 exact⟨by simp,_,E5.o⟩
theorem Ar{w u:World}{s:Cv}{k:GK}{p left lv:Int}{sl:Nat}{D:List Av}(hk:CY k)(h:GS w u s k p left lv sl D)(hl:-900000<=left){op a b c:Int}(ho:BN op)(ha:BN a)(hb:BN b)(hc:BN c):
 Calls Tryz.prog 55 #[.pointer (some ⟨k.Gb,0,none⟩),iZ op,iZ a,iZ b,iZ c] u fun e u'=>∃n:Nat,e=.returned (iZ (n:Int))/\(n:Int)=k.L0-left/\GS w u' s k p (left-1) lv (sl-1) D:=by
 obtain⟨v,vc,g,h1,h2⟩:=h.ex;have:=h2.len;have:=hk.l0;refine(Mh w u s k p v vc g left lv D op a b c h1 (by omega) (by omega)).mono ?_;rintro e u' ⟨rfl,vc',h3⟩;refine⟨g.code.length,rfl,by omega,v,vc',_,h3,⟨?_,?_,h2.nt,?_,h2.wk,h2.wt⟩⟩
 . simp only[aG,aP];omega
 . have:=h2.nc;simp only[aG,aP];omega
 . intro x hx
   rcases aS.1 hx with e|e
   . exact h2.wc x e
   . rw[am.1 e]
     exact⟨ho,ha,hb,hc⟩
def MI.setf(x:MI)(i:Nat)(z:Int):MI:=match i with|0=>⟨z,x.a,x.b,x.c⟩|1=>⟨x.op,z,x.b,x.c⟩|2=>⟨x.op,x.a,z,x.c⟩|_=>⟨x.op,x.a,x.b,z⟩
theorem Ng{x:MI}(h:x.wf)(i:Nat){z:Int}(hz:BN z):(x.setf i z).wf:=by
 obtain⟨h1,h2,h3,h4⟩:=h;unfold MI.setf;split
 . exact⟨hz,h2,h3,h4⟩
 . exact⟨h1,hz,h3,h4⟩
 . exact⟨h1,h2,hz,h4⟩
 . exact⟨h1,h2,h3,hz⟩
theorem Jp{code:List MI}{j i:Nat}{x:MI}{z:Int}(hx:code[j]?=some x)(hi:i<4):(code.flatMap MI.cells).set (j*4+i) (.int .i64 z)=(code.set j (x.setf i z)).flatMap MI.cells:=by
 induction code generalizing j with
 |nil=>cases hx
 | cons y r ih=>
   cases j with
   | zero=>
     simp only[aM,aJ]at hx;subst hx;have:i=0\/i=1\/i=2\/i=3:=by omega
     rcases this with rfl|rfl|rfl|rfl<;>rfl
   | succ j=>
     simp only[aQ]at hx;rw[bI,aW,aW,<-ih hx,show(j+1)*4+i=j*4+i+1+1+1+1 by omega];rfl
section
variable {w u u':World} {s:Cv} {k:GK} {p left lv:Int} {sl:Nat} {D:List Av}
theorem GS.code(h:GS w u s k p left lv sl D){j:Nat}(hj:(j:Int)<k.L0-left):∃(gc cc:Nat),u.cell? ⟨k.Gb,3,none⟩=some (.slice (some ⟨gc,0,none⟩) (k.L0-left).toNat cc)/\∀i,i<4->(∃old:Int,u.cell? ⟨gc,j*4+i,none⟩=some (.int .i64 old))/\u.frozen? ⟨gc,j*4+i,none⟩=false/\∀z,BN z->GS w (u.setCell ⟨gc,j*4+i,none⟩ (.int .i64 z)) s k p left lv sl D:=by
 obtain⟨v,vc,g,h1,h2⟩:=h.ex;have hl:=h2.len;have ho:=h1.bl.nrow.2;rcases Ba ho with⟨e,h0⟩|⟨gc,cc,e⟩
 . omega
 have hc:=h1.cells.2.2.2.1;have hll:g.code.length=(k.L0-left).toNat:=by omega
 rw[e,hll]at hc;obtain⟨x,hx⟩:∃x,g.code[j]?=some x:=⟨_,aA (by omega)⟩;rw[e]at ho;refine⟨gc,cc,hc,fun i hi=> ?_⟩;have hce:=au ho (j*4+i) (by omega);rw[CH MI.cells 4 MI.cells_length g.code j i x hx hi]at hce
 obtain⟨old,hold⟩:∃old,x.cells[i]?=some (.int .i64 old):=by
  have:i=0\/i=1\/i=2\/i=3:=by omega
  rcases this with rfl|rfl|rfl|rfl<;>exact⟨_,rfl⟩
 rw[hold]at hce;refine⟨⟨old,hce⟩,ho.frozenAt _,fun z hz=>⟨v,vc,⟨g.code.set j (x.setf i z),g.consts,g.certs⟩,⟨?_⟩,⟨by simpa using hl,by simpa using h2.nc,h2.nt,fun y hy=> ?_,h2.wk,h2.wt⟩⟩⟩
 . exact h1.bl.set_n (n:=0) e (by simp) (j*4+i) (.int .i64 z) (Jp hx hi)
 . rcases dK hy with q|q
   . exact h2.wc y q
   . rw[q]
     exact Ng (h2.wc x (aE hx)) i hz
theorem GS.lvl(h:GS w u s k p left lv sl D):u.cell? ⟨k.Gb,5,none⟩=some (.int .i64 lv)/\u.frozen? ⟨k.Gb,5,none⟩=false/\∀x,GS w (u.setCell ⟨k.Gb,5,none⟩ (.int .i64 x)) s k p left x sl D:=by
 obtain⟨v,vc,g,h1,h2⟩:=h.ex;exact⟨h1.cells.2.2.2.2.2,h1.frozen 5,fun x=>⟨v,vc,g,h1.level_ x,h2⟩⟩
theorem CY.bound(h:CY k){n:Nat}(hn:n<=64):CY {k with nt:=n}:=⟨h.f3,h.fr,h.fi,h.gl,h.pr,h.lc,h.l0,h.wf,h.wr,h.nc,hn⟩
end
structure Eh(p:MP)(a b c:Int):Prop where
 low:0<=c
 high:c<256
 mask:bits .and .i64 c (c+1)=0
 there:¬Cn p a b=0
 one:∀j:Nat,(j:Int)<=c->Cn p a (b+j)=Cn p a b
theorem Nu{p:MP}{r c:Int}(hs:∀l∈p.regions,l.length<=1048576)(h:¬Cn p r c=0):0<=c/\c<1048576:=by
 unfold Cn at h;split at h
 . exact absurd rfl h
 . rename_i hq
   refine⟨by omega,?_⟩;by_cases hr:r.toNat<p.regions.length
   . have hm:=hs _ (bq hr)
     have e:p.regions.getD r.toNat []=p.regions[r.toNat]:=by rw[bQ,aA hr];rfl
     rw[e]at h;by_cases hc:c.toNat<p.regions[r.toNat].length
     . omega
     . exact absurd (by rw[bQ,ae (by omega)];rfl) h
   . have e:p.regions.getD r.toNat []=[]:=by rw[bQ,ae (by omega)];rfl
     rw[e]at h;exact absurd rfl h
theorem Ag{z:Int}(h0:-9223372036854775808<=z:=by omega)(h1:z<=9223372036854775807:=by omega):BN z:=by simp[BN,Lit.wf,IntKind.min,IntKind.max,IntKind.signed,IntKind.bits];omega
theorem Hb{z:Int}(h:BN z):-9223372036854775808<=z/\z<=9223372036854775807:=by simpa[BN,Lit.wf,IntKind.min,IntKind.max,IntKind.signed,IntKind.bits]using h
theorem Mj (v:VP)(p:MP)(op a b c:Int)(w:World)(hs:p.small)(h3:p.regions.length=3)(ha:BN a)(hb:BN b)(hc:BN c)(h:Fr w v p):
 Calls Tryz.prog 108 #[.agg #[v.r,v.k,v.f,v.t],.agg #[iZ op,iZ a,iZ b,iZ c]] w fun e w'=>AM e (Eh p a b c)/\Below w.heap.size w w':=by
 have HB:Hid (Below w.heap.size w ((w.alloc (.cells #[v.r,v.k,v.f,v.t] 65)).alloc (.cells #[iZ op,iZ a,iZ b,iZ c] 43))):=Af (Aa _ _) lR (Aa _ _);have HP:Hid (DS ((w.alloc (.cells #[v.r,v.k,v.f,v.t] 65)).alloc (.cells #[iZ op,iZ a,iZ b,iZ c] 43)) w.heap.size v.r v.k v.f v.t):=(DS.new w _ _ _ _ _).alloc _
 have HX:Hid (DS ((w.alloc (.cells #[v.r,v.k,v.f,v.t] 65)).alloc (.cells #[iZ op,iZ a,iZ b,iZ c] 43)) (w.heap.size+1) (iZ op) (iZ a) (iZ b) (iZ c)):=by
  have:=DS.new (w.alloc (.cells #[v.r,v.k,v.f,v.t] 65)) (iZ op) (iZ a) (iZ b) (iZ c) 43;simpa[Hid]using this
 have H:Hid (p.small/\p.regions.length=3/\BN a/\BN b/\Fr w v p):=⟨hs,h3,ha,hb,h⟩
 obtain⟨c0,c1⟩:=Hb hc;clear hs h3 ha hb h hc;by_cases q0:c<0
 . have HN:Hid (¬Eh p a b c):=fun e=>absurd e.low (by omega)
   clear H HP HX;go_enter Tryz.func108,Tryz.ntmps108;go_wp2
   go_ret
   exact⟨.no HN.o,HB.o⟩
 by_cases q1:256<=c
 . have HN:Hid (¬Eh p a b c):=fun e=>absurd e.high (by omega)
   clear H HP HX;go_enter Tryz.func108,Tryz.ntmps108;go_wp2
   go_ret
   exact⟨.no HN.o,HB.o⟩
 obtain⟨c,rfl⟩:=aq (show 0<=c by omega);have hcn:c<256:=by omega
 clear c0 c1 q0 q1;have q0:¬(c:Int)<0:=by omega
 have q1:¬(256:Int)<=(c:Int):=by omega
 by_cases q2:bits .and .i64 (c:Int) ((c:Int)+1)=0
 . have HM :Hid (bits .and .i64 (c:Int) ((c:Int)+1)=0):=q2
   go_enter Tryz.func108,Tryz.ntmps108;go_wp2_with fail
   clear q2 q0 q1;refine(Gs v p a b _ H.o.1 H.o.2.1 H.o.2.2.1 H.o.2.2.2.1 (H.o.2.2.2.2.keep HB.o lR)).mono ?_;rintro e u0 ⟨rfl,bl0⟩;have HB1:Hid (Below w.heap.size w u0/\DS u0 w.heap.size v.r v.k v.f v.t/\DS u0 (w.heap.size+1) (iZ op) (iZ a) (iZ b) (iZ (c:Int))):=⟨Af HB.o lR bl0,HP.o.keep bl0,HX.o.keep bl0⟩
   clear bl0 HB HP HX;generalize hT:Cn p a b=T;have HT:Hid (Cn p a b=T):=hT;clear hT;go_wp2
   go_loopw [6] (fun i wr=>∃k:Nat,k<=c+1/\i=iZ k/\Hid ((0<k->¬T=0)/\∀j:Nat,j<k->Cn p a (b+j)=T)/\Hid (Below w.heap.size w wr/\DS wr w.heap.size v.r v.k v.f v.t/\DS wr (w.heap.size+1) (iZ op) (iZ a) (iZ b) (iZ (c:Int)))) (fun i _=>c+1-(intOf i).toNat)
   case atStart=>exact⟨0,by omega,rfl,⟨fun h=>by omega,fun j hj=>by omega⟩,HB1⟩
   case round=>
    clear HB1;obtain⟨k,hk,rfl,HI,HW⟩:=hrel;obtain⟨p0,p1,p2,p3⟩:=HW.o.2.1;obtain⟨i0,i1,i2,i3⟩:=HW.o.2.2;by_cases hlt:k<c+1
    . have hlt':(k:Int)<=(c:Int):=by omega
      by_cases q3:T=0
      . have q3':(T==0)=true:=by simpa using q3
        have HN:Hid (¬Eh p a b c):=fun e=>e.there (HT.o.trans q3)
        clear q3;go_wp2
        go_ret
        exact⟨.no HN.o,HW.o.1⟩
      . have q3':(T==0)=false:=by simpa using q3
        have hbb:=Nu H.o.1.region (by rw[HT.o];exact q3);obtain⟨b0,b1⟩:=hbb;have HQ3:Hid (¬T=0):=q3;clear q3;go_wp2_with fail;refine(Gs v p a (b+k) _ H.o.1 H.o.2.1 H.o.2.2.1 Ag (H.o.2.2.2.2.keep HW.o.1 lR)).mono ?_;rintro e u1 ⟨rfl,bl1⟩;have HW2:Hid (Below w.heap.size w u1/\DS u1 w.heap.size v.r v.k v.f v.t/\DS u1 (w.heap.size+1) (iZ op) (iZ a) (iZ b) (iZ (c:Int))):=⟨Af HW.o.1 lR bl1,HW.o.2.1.keep bl1,HW.o.2.2.keep bl1⟩
        clear bl1 HW p0 p1 p2 p3 i0 i1 i2 i3;by_cases q4:Cn p a (b+k)=T
        . rw[q4]
          have HI2:Hid ((0<k+1->¬T=0)/\∀j:Nat,j<k+1->Cn p a (b+j)=T):=⟨fun _=>HQ3.o,fun j hj=>by
           by_cases e:j=k
           . rw[e];exact q4
           . exact HI.o.2 j (by omega)⟩
          clear q4;go_wp2
          go_roundw
          case rel=>exact⟨k+1,by omega,by go_num,HI2,HW2⟩
          case measure=>simp[intOf];omega
        . have HN:Hid (¬Eh p a b c):=fun e=>q4 ((e.one k hlt').trans HT.o)
          have q4':(Cn p a (b+k)==T)=false:=by simpa using q4
          have q4'':(Cn p a (b+k) != T)=true:=by simpa using q4
          go_wp2
          go_ret
          exact⟨.no HN.o,HW2.o.1⟩
    . have hkn:k=c+1:=by omega
      subst hkn;have HY:Hid (Eh p a b c):=⟨by omega,by omega,HM.o,by rw[HT.o];exact HI.o.1 (by omega),fun j hj=>by rw[HT.o];exact HI.o.2 j (by omega)⟩;have hle:¬((c:Int)+1)<=(c:Int):=by omega
      go_wp2
      go_ret
      exact⟨.yes HY.o,HW.o.1⟩
 . have HN:Hid (¬Eh p a b c):=fun e=>q2 e.mask
   have q2':(bits .and .i64 (c:Int) ((c:Int)+1)==0)=false:=by simpa using q2
   clear H HP HX;go_enter Tryz.func108,Tryz.ntmps108;go_wp2
   go_ret
   exact⟨.no HN.o,HB.o⟩
def Il(r:List Int):Prop:=r.length<=256/\r.all FC=true
def Bb(rs:List (List Int)):Prop:=rs.length=3/\∀j,j<rs.length->∀r,rs[j]?=some r->Il r
def Re(b:Bool):List Value:=[.bool b]
structure SW(w u:World)(xs:List MI)(n k q:Nat)(V:Value):Prop where
 lead:u.ownsRow w.heap.size 4 1 (.slice (some ⟨w.heap.size+1,0,none⟩) (n+1) (n+1)) (n+1) (CO xs n n)
 num:u.ownsRow w.heap.size 2 1 (sG q n n) n (Cs (FJ xs) [iZ 0] (List.range n) k n)
 o:u.ownsRow w.heap.size 32 3 V (A8 xs k).length ((A8 xs k).flatMap Io)
 bel:Below w.heap.size w u
theorem Kg{u:World}{B B' g g' k k' n n' c c':Nat}{e e':TypeId}{xs ys:List Value}(h:u.ownsRow B e k (sG g n c) n xs)(h':u.ownsRow B' e' k' (sG g' n' c') n' ys)(hne:e≠e'):¬g=g':=fun eq=>by
 subst eq;obtain⟨_,cur,h1⟩:=At h;obtain⟨_,cur',h2⟩:=At h';rw[h1]at h2;simp only[aJ,dC]at h2;exact hne h2.2.1
theorem Bz{u:World}{B B' g k k' n n' c:Nat}{e e':TypeId}{s:Value}{xs ys:List Value}(h:u.ownsRow B e k s n xs)(h':u.ownsRow B' e' k' (sG g n' c) n' ys)(hne:e≠e')(i:Nat)(z:Value):(u.setCell ⟨g,i,none⟩ z).ownsRow B e k s n xs:=by
 obtain⟨_,cur,h1⟩:=At h';exact aR h (a:=⟨g,i,none⟩) (fun q=>A7 h h1 hne _ q rfl) z
theorem SW.fin{w u:World}{xs:List MI}{n k q gg cap:Nat}{bs:List MB}{b:MB}(hk:k<n)(h1:u.ownsRow w.heap.size 4 1 (.slice (some ⟨w.heap.size+1,0,none⟩) (n+1) (n+1)) (n+1) (CO xs n n))(h2:u.ownsRow w.heap.size 2 1 (sG q n n) n (Cs (FJ xs) [iZ 0] (List.range n) k n))(h3:u.ownsRow w.heap.size 32 3 (sG gg (bs.length+1) cap) (bs.length+1) ((bs++[b]).flatMap Io))(h4:Below w.heap.size w u)(ho:A8 xs (k+1)=bs++[(⟨b.first,(k:Int),b.next⟩:MB)])(hm:AO xs k=(bs.length:Int)):
 SW w ((u.setCell ⟨q,k,none⟩ (iZ bs.length)).setCell ⟨gg,bs.length*3+1,none⟩ (iZ k)) xs n (k+1) q (sG gg (bs.length+1) cap):=by
 have hq:w.heap.size<=q:=(At h2).1;have hg:w.heap.size<=gg:=(At h3).1;have g1:=Bz h1 h2 (by decide) k (iZ bs.length);have g3:=Bz h3 h2 (by decide) k (iZ bs.length);have g2:=(h2.stored k (iZ bs.length)).1
 have e2:(Cs (FJ xs) [iZ 0] (List.range n) k n).set k (iZ bs.length)=Cs (FJ xs) [iZ 0] (List.range n) (k+1) n:=by
  rw[Fd _ _ _ _ _ hk,Rq _ _ _ _ k (by rw[Ax (FJ xs) 1 (Dd xs),bh,cM];omega),KN (FJ xs) _ _ k n k (by simp[hk])];simp[FJ,Ab,hm]
 rw[e2]at g2;refine⟨Bz g1 g3 (by decide) _ _,Bz g2 g3 (by decide) _ _,?_,(h4.setCell hq _).setCell hg _⟩;have g4:=(g3.stored (bs.length*3+1) (iZ k)).1;rw[Pw]at g4;rw[ho,aG,aP];exact g4
theorem Rf{w wr w3:World}{xs:List MI}{k j q gg cap:Nat}{v:Value}(h:SW w wr xs k j q v)(ho:A8 xs (j+1)=A8 xs j++[(⟨(j:Int),(j:Int),[]⟩:MB)])(hm:AO xs j=((A8 xs j).length:Int))(hj:j<k)(hown:w3.ownsRow w.heap.size 32 3 (sG gg ((A8 xs j).length+1) cap) ((A8 xs j).length+1) ((A8 xs j).flatMap Io++[iZ j,iZ 0,sN]))(hg:(wr.alloc (.cells #[iZ j,iZ 0,sN] 32)).grownBy w3 v.ownBlock):
 Hid (SW w ((w3.setCell ⟨q,j,none⟩ (iZ (A8 xs j).length)).setCell ⟨gg,(A8 xs j).length*3+1,none⟩ (iZ j)) xs k (j+1) q (sG gg ((A8 xs j).length+1) cap))/\¬gg=q/\¬q=gg/\w3.cell? ⟨q,j,none⟩=some (iZ 0)/\w3.frozen? ⟨q,j,none⟩=false/\w3.cell? ⟨gg,(A8 xs j).length*3+1,none⟩=some (iZ 0)/\w3.frozen? ⟨gg,(A8 xs j).length*3+1,none⟩=false:=by
 have bA:=Aa wr (.cells #[iZ j,iZ 0,sN] 32);have r3:=Aj h.o bA lR;have r1:=BP (Aj h.lead bA lR) hg r3 (by decide);have r2:=BP (Aj h.num bA lR) hg r3 (by decide);have bel:=(Af h.bel lR bA).grown hg (aY h.bel.size bA.size) (fun i hi=>(r3.lt i hi).1);have hne:=Kg hown r2 (by decide);have n0:=r2.cellAt j (by omega);have o0:=hown.cellAt ((A8 xs j).length*3+1) (by omega);rw[Fd _ _ _ _ _ hj,bV (by rw[Ax (FJ xs) 1 (Dd xs),bh,cM];omega),show j-(List.flatMap (FJ xs) (List.take j (List.range k))).length=0 by rw[Ax (FJ xs) 1 (Dd xs),bh,cM];omega]at n0;simp only[ah,aM]at n0;rw[bV (by rw[Ax Io 3 DY];omega),show(A8 xs j).length*3+1-(List.flatMap Io (A8 xs j)).length=1 by rw[Ax Io 3 DY];omega]at o0;simp only[aQ,aM]at o0;refine⟨SW.fin (b:=⟨(j:Int),0,[]⟩) hj r1 r2 (by rw[a8];exact hown) bel ho hm,hne,fun e=>hne e.symm,n0,r2.frozenAt j,o0,hown.frozenAt _⟩
theorem CR(n:Nat):(madeCells (Value.bool false).cells (n*1)).toList=List.replicate n (.bool false):=by
 rw[DC Re [.bool false] [] n (.bool false) 1 rfl rfl (by omega)];simp[Cs,List.flatten_replicate_singleton]
theorem GW(n:Nat)(f:Nat->List Value)(ys:List Nat):(madeCells (Value.int .i64 0).cells (n*1)).toList=Cs f [iZ 0] ys 0 n:=by
 rw[DC f [iZ 0] ys n (iZ 0) 1 rfl rfl (by omega)]
structure SV(w u:World)(xs:List MI)(n k:Nat):Prop where
 lead:u.ownsRow w.heap.size 4 1 (.slice (some ⟨w.heap.size+1,0,none⟩) (n+1) (n+1)) (n+1) (CO xs k n)
 o:An u w.heap.size #[] 32
 bel:Below w.heap.size w u
theorem SV.set{w u:World}{xs:List MI}{n k k':Nat}(h:SV w u xs n k)(j:Nat)(hl:(CO xs k n).set j (.bool true)=CO xs k' n):SV w (u.setCell ⟨w.heap.size+1,j,none⟩ (.bool true)) xs n k':=by
 refine⟨?_,h.o.other (by simp only[];omega) _,h.bel.setCell (by simp only[];omega) _⟩;have:=(h.lead.stored j (.bool true)).1;rw[hl]at this;exact this
theorem SV.set2{w u:World}{xs:List MI}{n k k':Nat}(h:SV w u xs n k)(j j':Nat)(hl:((CO xs k n).set j (.bool true)).set j' (.bool true)=CO xs k' n):SV w ((u.setCell ⟨w.heap.size+1,j,none⟩ (.bool true)).setCell ⟨w.heap.size+1,j',none⟩ (.bool true)) xs n k':=by
 refine⟨?_,(h.o.other (by simp only[];omega) _).other (by simp only[];omega) _,(h.bel.setCell (by simp only[];omega) _).setCell (by simp only[];omega) _⟩;have:=((h.lead.stored j (.bool true)).1.stored j' (.bool true)).1;rw[hl]at this;exact this
end Go.Proofs.YtjpobijiblcgaaaGreat
