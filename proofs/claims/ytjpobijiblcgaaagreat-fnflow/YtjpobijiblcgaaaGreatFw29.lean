import Derived.Test.YtjpobijiblcgaaaGreatFw0
import Derived.Test.YtjpobijiblcgaaaGreatFw4
import Derived.Test.YtjpobijiblcgaaaGreatFw27
import Derived.Deep.RegionHeld
namespace Go.Proofs.YtjpobijiblcgaaaGreat
open Go.ChangeShapes Go.WideShapes Go.ChangeAt Go.RowKit
set_option linter.unusedVariables false
set_option maxHeartbeats 8000000
set_option maxRecDepth 100000
def Do(L:List Int):Nat:=(L.map fun x=>(4294967296-x).toNat).sum
theorem NU{L:List Int}{k:Nat}{x c:Int}(h:L[k]?=some x)(hx:x<c)(hc:c<=4294967295):Do (L.set k c)<Do L:=by
  induction L generalizing k with
  |nil=>cases h
  | cons y r ih=>
    cases k with
    | zero=>
      simp only[aM,aJ]at h;subst h;simp only[Do,bF,dF,List.sum_cons];omega
    | succ k=>
      simp only[aQ]at h;have:=ih h;simp only[Do,bI,dF,List.sum_cons]at this⊢;omega
def Ru(x:Int):Prop:=-1<=x/\x<=4294967295
theorem JV{C:List Int}{k:Nat}{c:Int}:(C.flatMap Ab).set k (iZ c)=(C.set k c).flatMap Ab:=by
  induction C generalizing k with
  |nil=>rfl
  | cons y r ih=>
    cases k with
    |zero=>rfl
    | succ k=>
      rw[bI,aW,aW];show Ab y++_=_;rw[<-ih];rfl
theorem Hv{P:Int->Prop}{L:List Int}{k:Nat}{c:Int}(h:∀x∈L,P x)(hc:P c):∀x∈L.set k c,P x:=fun x hx=>by
  rcases dK hx with e|e
  . exact h x e
  . subst e
    exact hc
structure Wy(w u0 u:World)(G n:Nat)(x:GV)(bad:Bool)(I:List Nat)(C:List Int)(gn cn:Nat)(P:Nat->Bool)(gB:Nat)(L:List Int):Prop where
  gr:Gr w u G n x bad I C
  in_:u.ownsRow w.heap.size 4 1 (sG gn n cn) n (bv P n)
  own:u.ownsRow u0.heap.size 2 1 (sG gB n n) n (L.flatMap Ab)
  ll:L.length=n
  lb:∀y∈L,Ru y
  lo:w.heap.size<=u0.heap.size/\G<u0.heap.size/\x.gi<u0.heap.size/\x.gc<u0.heap.size/\gn<u0.heap.size
  fr:∀b,b<u0.heap.size->b≠G->u.heap[b]?=u0.heap[b]?
section
variable {w u0 u:World} {G n:Nat} {x:GV} {bad:Bool} {I:List Nat} {C:List Int} {gn cn:Nat} {P:Nat->Bool} {gB:Nat} {L:List Int}
theorem Wy.bad_(h:Wy w u0 u G n x bad I C gn cn P gB L):Wy w u0 (u.setCell ⟨G,8,none⟩ (.bool true)) G n x true I C gn cn P gB L:=by
  have hgB:=(At h.own).1;have hl:=h.lo;refine{h with gr:=h.gr.bad_,in_:=BW h.in_ fun e=> ?_,own:=BW h.own (by omega),fr:=fun b h1 h2=>by rw[bO u ⟨G,8,none⟩ b _ h2];exact h.fr b h1 h2};obtain⟨_,c1,e1⟩:=At h.in_;have e3:=h.gr.blk;unfold An at e3;rw[e,e3]at e1;cases e1
theorem Wy.set(h:Wy w u0 u G n x bad I C gn cn P gB L)(k:Nat){c:Int}(hc:Ru c):Wy w u0 (u.setCell ⟨gB,k,none⟩ (iZ c)) G n x bad I C gn cn P gB (L.set k c):=by
  have hgB:=(At h.own).1;have hl:=h.lo;have hs:=(dA h.own k (iZ c)).1;rw[JV]at hs;exact{h with gr:=h.gr.other (by omega) (by omega) (by omega) (by omega),in_:=BW h.in_ (by omega),own:=hs,ll:=by rw[dD];exact h.ll,lb:=Hv h.lb hc,fr:=fun b h1 h2=>by rw[bO u ⟨gB,k,none⟩ b _ (by show b≠gB;omega)];exact h.fr b h1 h2}
theorem Wy.keep{u':World}(h:Wy w u0 u G n x bad I C gn cn P gB L)(hb:Below u.heap.size u u'):Wy w u0 u' G n x bad I C gn cn P gB L:=by
  have hfr:∀b,b<u0.heap.size->b≠G->u'.heap[b]?=u0.heap[b]?:=fun b h1 h2=>by
    obtain⟨h3,_,h4⟩:=At h.own;have:=(an.1 h4).1;rw[hb.block b (by omega)];exact h.fr b h1 h2
  exact{h with gr:=h.gr.keep hb,in_:=Aj h.in_ hb lR,own:=Aj h.own hb lR,fr:=hfr}
theorem Wy.at_(h:Wy w u0 u G n x bad I C gn cn P gB L){k:Nat}(hk:k<n):∃y,L[k]?=some y/\Ru y/\u.cell? ⟨gB,k,none⟩=some (iZ y)/\u.frozen? ⟨gB,k,none⟩=false:=by
  have hb':k<L.length:=by rw[h.ll];exact hk
  have:=au h.own k (by omega);rw[Ed (aA hb')]at this;exact⟨_,aA hb',h.lb _ (bq hb'),this,h.own.frozenAt k⟩
theorem Wy.inAt(h:Wy w u0 u G n x bad I C gn cn P gB L){k:Nat}(hk:k<n):u.cell? ⟨gn,k,none⟩=some (.bool (P k)):=by
  have:=au h.in_ k (by omega);rw[Ip _ _ _ hk]at this;exact this
end
def M9(u:World)(g n:Nat):Nat:=((List.range n).map fun i=>match u.cell? ⟨g,i,none⟩with|some (.int _ y)=>(4294967296-y).toNat|_=>0).sum
theorem Wy.rest{w u0 u:World}{G n:Nat}{x:GV}{bad:Bool}{I:List Nat}{C:List Int}{gn cn:Nat}{P:Nat->Bool}{gB:Nat}{L:List Int}(h:Wy w u0 u G n x bad I C gn cn P gB L):M9 u gB n=Do L:=by
  unfold M9 Do;congr 1
  apply cQ;intro k;by_cases hk:k<n
  . obtain⟨y,h1,_,h3,_⟩:=h.at_ hk
    rw[a7,a7,h1,eh hk];simp only[dZ,h3]
  . rw[ae (by simp;omega),ae (by rw[aj,h.ll];omega)]
def Hw(a:Value):Nat:=match a with|.bool true=>1|_=>0
theorem QQ(n:Nat):(madeCells (Value.int .i64 0).cells (n*1)).toList=(List.replicate n (0:Int)).flatMap Ab:=by
  rw[GW n (fun _=>[]) []];simp[Cs,List.flatten_replicate_singleton];induction n with
  |zero=>rfl
  |succ n ih=>rw[eT,eT,aW,<-ih];rfl
def Rc(w u:World)(G n:Nat)(x:GV)(I:List Nat)(C:List Int)(gn cn:Nat)(P:Nat->Bool)(e:Ending)(u':World):Prop:=∃gB bad L,e=.returned (sG gB n n)/\Wy w u u' G n x bad I C gn cn P gB L
theorem IE (w u : World)(G n:Nat)(x:GV)(bad:Bool)(I:List Nat)(C:List Int)(E:Nat->List Nat)(O:List Nat)(gn cn f:Nat)(P:Nat->Bool)(h0:n<=1048576)(hf:f<n)(h:Gr w u G n x bad I C)(hF:GF w n x E O)(hi:u.ownsRow w.heap.size 4 1 (sG gn n cn) n (bv P n)):
    Calls Tryz.prog 119 #[.pointer (some ⟨G,0,none⟩),iZ (f:Int),sG gn n cn] u (Rc w u G n x I C gn cn P):=by
  obtain⟨k0,hk,hx0,hx1,hx2⟩:=bH Bf;have hfI:(f:Int)<(n:Int):=by omega
  have H:Hid (Gr w u G n x bad I C/\GF w n x E O/\u.ownsRow w.heap.size 4 1 (sG gn n cn) n (bv P n)):=⟨h,hF,hi⟩
  obtain⟨p2,p3,p6,p7,p8,z8⟩:=h.cells;clear h hF hi;go_enter Tryz.func119,Tryz.ntmps119;go_wp2_with (at_make;refine cR _ rfl _ _ 26 rfl u.heap.size 2 k0 (iZ 0) 1 Tryz.underlying26 hk hx0 hx1 .i64 .i64 _ _ n rfl rfl rfl rfl (by rw[hx2];omega) (by unfold maxLen;omega) lR ?_;intro w3 hown hgrow;rw[QQ]at hown);have hb3:Below u.heap.size u w3:=(bY _ _).grown hgrow lR (fun k hk=>by cases hk);have HW:Hid (Wy w u w3 G n x bad I C gn cn P u.heap.size (List.replicate n 0)):=⟨H.o.1.keep hb3,Aj H.o.2.2 hb3 lR,hown,dO,fun y hy=>by rw[(List.mem_replicate.1 hy).2];exact⟨by omega,by omega⟩,⟨H.o.1.bel.size,H.o.1.blk.lt,by obtain⟨_,c,e⟩:=At H.o.1.is_;exact(an.1 e).1,by obtain⟨_,c,e⟩:=At H.o.1.cost;exact(an.1 e).1,by obtain⟨_,c,e⟩:=At H.o.2.2;exact(an.1 e).1⟩,fun b h1 _=>hb3.block b h1⟩;clear hown hgrow hb3 p2 p3 p6 p7 p8 z8;go_loopw [9] (fun i wr=>∃(k:Nat) (L:List Int),k<=n/\i=iZ k/\Hid (Wy w u wr G n x bad I C gn cn P u.heap.size L)) (fun i _=>n-(intOf i).toNat)
  case atStart=>exact⟨0,_,by omega,rfl,HW⟩
  case round=>
    clear HW;obtain⟨k,L,hk',rfl,HW⟩:=hrel;by_cases hlt:k<n
    . have hltI:(k:Int)<(n:Int):=by omega
      obtain⟨y,_,_,c0,z0⟩:=HW.o.at_ hlt;have HW2:Hid (Wy w u (wr.setCell ⟨u.heap.size,k,none⟩ (iZ (-1))) G n x bad I C gn cn P u.heap.size (L.set k (-1))):=HW.o.set k ⟨by omega,by omega⟩;go_wp2_with fail
      go_roundw
      case rel=>exact⟨k+1,_,by omega,by go_num,HW2⟩
      case measure=>simp[intOf];omega
    . have hkn:k=n:=by omega
      subst hkn;obtain⟨p2,p3,p6,p7,p8,z8⟩:=HW.o.gr.cells;obtain⟨yf,_,hyf,cf⟩:=HW.o.gr.costAt hf;obtain⟨y0,_,_,c0,z0⟩:=HW.o.at_ hf;have HW2:Hid (Wy w u (wr.setCell ⟨u.heap.size,f,none⟩ (iZ yf)) G k x bad I C gn cn P u.heap.size (L.set f yf)):=HW.o.set f ⟨by have:=hyf.1;omega,hyf.2⟩;clear HW;go_wp2_with fail;have hk0:0<k:=by omega
      go_loopw [10,11,12,13,14,15,16,17] (fun a _ _ _ _ _ _ _ wr=>∃(ag bd:Bool) (L:List Int),a=.bool ag/\Hid (Wy w u wr G k x bd I C gn cn P u.heap.size L)) (fun a _ _ _ _ _ _ _ wr=>M9 wr u.heap.size k+Hw a)
      case atStart=>exact⟨true,bad,_,rfl,HW2⟩
      case round=>
        clear HW2 c0 z0 cf p2 p3 p6 p7 p8 z8;obtain⟨ag,bd,L0,rfl,HW⟩:=hrel;obtain⟨p2,p3,p6,p7,p8,z8⟩:=HW.o.gr.cells;by_cases hag:ag=true/\bd=false
        case neg=>
          cases ag
          . clear hag
            go_wp2_with fail
            go_ret
            exact⟨_,_,_,rfl,HW.o⟩
          . have hbd:bd=true:=by cases bd<;>simp at hag⊢
            subst hbd;clear hag;go_wp2_with fail
            go_ret
            exact⟨_,_,_,rfl,HW.o⟩
        obtain⟨rfl,rfl⟩:=hag;have HR:Hid (M9 wr u.heap.size k=Do L0):=HW.o.rest;go_wp2_with fail
        go_loopw [10,11,12,13,14,15,16,17] (fun a i _ _ _ _ _ _ wr=>∃(m:Nat) (ag bd:Bool) (L:List Int),m<=k/\a=.bool ag/\i=iZ m/\Hid (Wy w u wr G k x bd I C gn cn P u.heap.size L/\Do L+Hw (.bool ag)<=Do L0)) (fun _ i _ _ _ _ _ _ _=>k-(intOf i).toNat)
        case atStart=>exact⟨0,false,_,_,by omega,rfl,rfl,HW.o,Nat.le_refl _⟩
        case round=>
          clear HW p2 p3 p6 p7 p8 z8;obtain⟨m,ag,bd,L1,hm,rfl,rfl,HW⟩:=hrel;by_cases hlt:m<k
          case neg=>
            go_wp2_with fail
            go_roundw
            case rel=>exact⟨ag,bd,L1,rfl,HW.o.1⟩
            case measure=>
              rw[HR.o,HW.o.1.rest];have:=HW.o.2;simp only[Hw]at this⊢;omega
          have hltI:(m:Int)<(k:Int):=by omega
          obtain⟨p2,p3,p6,p7,p8,z8⟩:=HW.o.1.gr.cells;obtain⟨b,hb,o0⟩:=(H.o.2.1.at_ HW.o.1.gr.bel).1 m hlt;have hbI:(b:Int)<(k:Int):=by omega
          obtain⟨t,_,ht,i0⟩:=HW.o.1.gr.isAt hb;have htI:(t:Int)<(k:Int):=by omega
          have n0:=HW.o.1.inAt hb;obtain⟨y,hy,hyb,b0,z0⟩:=HW.o.1.at_ ht;cases hP:P b
          case false=>
            rw[hP]at n0;go_wp2_with fail
            go_roundw
            case rel=>exact⟨m+1,ag,bd,L1,by omega,rfl,by go_num,HW⟩
            case measure=>simp[intOf];omega
          rw[hP]at n0;by_cases hy0:y<0
          . go_wp2_with fail
            go_roundw
            case rel=>exact⟨m+1,ag,bd,L1,by omega,rfl,by go_num,HW⟩
            case measure=>simp[intOf];omega
          obtain⟨a,c,g0',hr⟩:=H.o.2.1.gr b hb;have g0:=Ac HW.o.1.gr.bel g0';have HE:Hid (Gk w (.slice a (E b).length c) (E b)/\∀y∈E b,y<k):=⟨hr,H.o.2.1.eb b hb⟩
          have hE2:=H.o.2.1.sz b;have HY:Hid (∃y,L1[t]?=some y/\0<=y):=⟨y,hy,by omega⟩
          clear hr g0';generalize hEb:E b=eb at HE g0 hE2;clear hEb;go_wp2_with fail
          clear p2 p3 p6 p7 p8 z8 b0 z0 n0 o0 i0 g0 hy hyb hy0;go_loopw [10,15,16,17] (fun a j _ _ wr=>∃(q:Nat) (ag bd:Bool) (L:List Int),q<=eb.length/\a=.bool ag/\j=iZ q/\Hid (Wy w u wr G k x bd I C gn cn P u.heap.size L/\Do L+Hw (.bool ag)<=Do L0/\∃y,L[t]?=some y/\0<=y)) (fun _ j _ _ _=>eb.length-(intOf j).toNat)
          case atStart=>exact⟨0,ag,bd,L1,by omega,rfl,rfl,HW.o.1,HW.o.2,HY.o⟩
          case round=>
            clear HW HY;obtain⟨q,ag,bd,L2,hq,rfl,rfl,HW⟩:=hrel;by_cases hlq:q<eb.length
            case neg=>
              go_wp2_with fail
              go_roundw
              case rel=>exact⟨m+1,ag,bd,L2,by omega,rfl,by go_num,HW.o.1,HW.o.2.1⟩
              case measure=>simp[intOf];omega
            have hlqI:(q:Int)<(eb.length:Int):=by omega
            obtain⟨ga,oa,ea,_,e0⟩:=HE.o.1.at_ (aA hlq);have hto:eb[q]<k:=HE.o.2 _ (bq hlq);subst ea;generalize eb[q]=z at hto e0;have htoI:(z:Int)<(k:Int):=by omega
            have HT:Hid (w.cell? ⟨ga,oa+q,none⟩=some (iZ (z:Int))):=e0;clear e0;obtain⟨r,hr,hrk,_⟩:=HW.o.1.gr.isAt hto;have hrI:(r:Int)<(k:Int):=by omega
            have HC:Hid (∀(W:World) (bd:Bool) (L:List Int),Wy w u W G k x bd I C gn cn P u.heap.size L->W.cell? ⟨G,6,none⟩=some (sG x.gi k x.ci)/\W.cell? ⟨ga,oa+q,none⟩=some (iZ (z:Int))/\W.cell? ⟨x.gi,z,none⟩=some (iZ (r:Int))):=fun W bd L hW=>by
              obtain⟨y',h1,_,h2⟩:=hW.gr.isAt hto;rw[hr]at h1;cases h1
              exact⟨hW.gr.cells.2.2.1,Ac hW.gr.bel HT.o,h2⟩
            clear hr;go_upto_region 21 with fail
            have HD:Hid (Wy w u wr.drew G k x bd I C gn cn P u.heap.size L2/\Do L2+Hw (.bool ag)<=Do L0/\∃y,L2[t]?=some y/\0<=y):=⟨HW.o.1.keep (Ad _),HW.o.2⟩
            refine wp_region_held_drew (S:=fun W=>W.cell? ⟨G,6,none⟩=some (sG x.gi k x.ci)/\W.cell? ⟨ga,oa+q,none⟩=some (iZ (z:Int))/\W.cell? ⟨x.gi,z,none⟩=some (iZ (r:Int))) (by kernel_rfl) (by exact HC.o _ _ _ HD.o.1) (fun hHeld=> ?_)
            clear HW;generalize wr.drew=UD at HD hHeld⊢;refine Ak 0 ?_;refine Ak 1 ?_;refine Ak 2 ?_;refine Ak 3 ?_;refine Ak 4 ?_;refine Ak 5 ?_;refine Ak 6 ?_;refine Ak 7 ?_;refine Ak 8 ?_;refine Ak 9 ?_;refine Ak 10 ?_;refine wpAnyH_done (by kernel_rfl) ?_ _;clear hHeld;have n1:=HD.o.1.inAt hto;obtain⟨_,e1,_⟩:=HC.o _ _ _ HD.o.1;by_cases hsk:P z=false\/r=t\/r=f
            case pos=>
              cases hPz:P z
              case false=>
                rw[hPz]at n1;go_wp2_with fail
                go_roundw
                case rel=>exact⟨q+1,ag,bd,L2,by omega,rfl,by go_num,HD⟩
                case measure=>simp[intOf];omega
              rw[hPz]at n1;by_cases hrt:r=t
              . subst hrt
                go_wp2_with fail
                go_roundw
                case rel=>exact⟨q+1,ag,bd,L2,by omega,rfl,by go_num,HD⟩
                case measure=>simp[intOf];omega
              . have hrf:r=f:=by rcases hsk with e|e|e;{rw[hPz]at e;cases e};{exact absurd e hrt};{exact e}
                subst hrf;have hrt':((r:Int)==(t:Int))=false:=by simp;omega
                go_wp2_with fail
                go_roundw
                case rel=>exact⟨q+1,ag,bd,L2,by omega,rfl,by go_num,HD⟩
                case measure=>simp[intOf];omega
            have hPz:P z=true:=by cases e:P z;{exact absurd (.inl e) hsk};{rfl}
            rw[hPz]at n1;have hrt':((r:Int)==(t:Int))=false:=by simp;intro e;exact hsk (.inr (.inl (by omega)))
            have hrf':((r:Int)==(f:Int))=false:=by simp;intro e;exact hsk (.inr (.inr (by omega)))
            have HRT:Hid (r≠t):=fun e=>hsk (.inr (.inl e))
            clear hsk;go_upto_region 23 with fail
            obtain⟨yt,hyt,hyt0⟩:=HD.o.2.2;obtain⟨yr,hyr,hyrC,_⟩:=HD.o.1.gr.costAt hrk
            have HC2:Hid (∀(W:World) (bd:Bool),Wy w u W G k x bd I C gn cn P u.heap.size L2->W.cell? ⟨u.heap.size,t,none⟩=some (iZ yt)/\W.cell? ⟨G,7,none⟩=some (sG x.gc k x.cc)/\W.cell? ⟨x.gc,r,none⟩=some (iZ yr)):=fun W bd hW=>by
              obtain⟨y1,h1,_,h2⟩:=hW.gr.costAt hrk;obtain⟨y2,h3,_,h4,_⟩:=hW.at_ ht;rw[hyr]at h1;rw[hyt]at h3;cases h1
              cases h3
              exact⟨h4,hW.gr.cells.2.2.2.1,h2⟩
            have HYT:Hid (I5 yt/\I5 yr/\L2[t]?=some yt):=⟨⟨hyt0,by obtain⟨y2,h3,h4,_⟩:=HD.o.1.at_ ht;rw[hyt]at h3;cases h3;exact h4.2⟩,hyrC,hyt⟩
            have HF:Hid (Wy w u UD.drew G k x bd I C gn cn P u.heap.size L2/\Do L2+Hw (.bool ag)<=Do L0):=⟨HD.o.1.keep (Ad _),HD.o.2.1⟩
            clear hyt hyt0 hyr hyrC n1 e1;refine wp_region_held_drew (S:=fun W=>W.cell? ⟨u.heap.size,t,none⟩=some (iZ yt)/\W.cell? ⟨G,7,none⟩=some (sG x.gc k x.cc)/\W.cell? ⟨x.gc,r,none⟩=some (iZ yr)) (by kernel_rfl) (by exact HC2.o _ _ HF.o.1) (fun hHeld=> ?_)
            clear HD;generalize UD.drew=U2 at HF hHeld⊢;refine Ak 0 ?_;refine Ak 1 ?_;refine Ak 2 ?_;refine Ak 3 ?_;refine Ak 4 ?_;refine Ak 5 ?_;refine Ak 6 ?_;refine Ak 7 ?_;refine Ak 8 ?_;refine Ak 9 ?_;refine Ak 10 ?_;refine Ak 11 ?_;refine rdH 12 ?_;intro KC hKC;go_simp;refine(Ex G yt yr _ U2 HYT.o.1 HYT.o.2.1 HF.o.1.gr.cells.2.2.2.2.1 HF.o.1.gr.cells.2.2.2.2.2).mono ?_;rintro e U3 ⟨cc,rfl,hcc,hU⟩
            have HG:Hid (∃bd,Wy w u U3 G k x bd I C gn cn P u.heap.size L2):=by
              rcases hU with rfl|rfl
              . exact⟨_,HF.o.1⟩
              . exact⟨_,HF.o.1.bad_⟩
            have HL:Hid (Do L2+Hw (.bool ag)<=Do L0):=HF.o.2;clear hU HF;refine hKC.o _ _ (by obtain⟨bd,hW⟩:=HG.o;exact HC2.o _ _ hW) (fun hHeld=> ?_);clear hKC KC;refine Ak 13 ?_;refine wpAnyH_done (by kernel_rfl) ?_ _;clear hHeld;obtain⟨bd3,hW3⟩:=HG.o;have HW3:Hid (Wy w u U3 G k x bd3 I C gn cn P u.heap.size L2):=hW3;clear HG hW3;obtain⟨yo,hyo,_,o1,z1⟩:=HW3.o.at_ hrk;by_cases hgt:cc>yo
            . have HN:Hid (Wy w u (U3.setCell ⟨u.heap.size,r,none⟩ (iZ cc)) G k x bd3 I C gn cn P u.heap.size (L2.set r cc)/\Do (L2.set r cc)+Hw (.bool true)<=Do L0/\∃y,(L2.set r cc)[t]?=some y/\0<=y):=by
                refine⟨HW3.o.set r ⟨by have:=hcc.1;omega,hcc.2⟩,?_,yt,?_,HYT.o.1.1⟩
                . have h1:=NU hyo hgt hcc.2
                  have h2:=HL.o;show _+1<=_;omega
                . rw[cU HRT.o]
                  exact HYT.o.2.2
              go_wp2_with fail
              go_roundw
              case rel=>exact⟨q+1,true,bd3,_,by omega,rfl,by go_num,HN⟩
              case measure=>simp[intOf];omega
            . go_wp2_with fail
              go_roundw
              case rel=>exact⟨q+1,ag,bd3,L2,by omega,rfl,by go_num,HW3.o,HL.o,yt,HYT.o.2.2,HYT.o.1.1⟩
              case measure=>simp[intOf];omega
end Go.Proofs.YtjpobijiblcgaaaGreat
