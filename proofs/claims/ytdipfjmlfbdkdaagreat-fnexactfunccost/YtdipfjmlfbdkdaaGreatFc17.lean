import Derived.Test.YtdipfjmlfbdkdaaGreatFc16
namespace Go.Proofs.YtdipfjmlfbdkdaaGreat
open Go.ChangeShapes Go.WideShapes Go.ChangeAt Go.RowKit
set_option linter.unusedVariables false
set_option maxHeartbeats 8000000
set_option maxRecDepth 100000
theorem MH (g o c n gm cm h:Nat)(E:Nat->List Nat)(D Lf:Nat->Nat->Bool)(w:World)(hn:n<=1024)(hh:h<n)(hE:∀b,b<n->∀x∈E b,x<n)(hsz:∀b,(E b).length<=2)(hL:∀x,Lf h x=true↔Ar E D n h x)(hg:D6 w g o n E)(hm:Dt w gm n (fun b d=>D d b)):
 Calls Tryz.prog 46 #[.slice (some ⟨g,o,none⟩) n c,.slice (some ⟨gm,0,none⟩) n cm,.int .i64 (h:Int)] w fun e w'=>∃BV KV,e=.returned (.agg #[.int .i64 (h:Int),BV,KV])/\DQ w' w.heap.size BV (An E D n h)/\(An E D n h≠[]->DQ w' w.heap.size KV ((List.range n).filter (Lf h)))/\Below w.heap.size w w'/\(∀q,BV.ownBlock=some q->KV.ownBlock≠some q)/\∃ak nk ck,KV=.slice ak nk ck:=by
 obtain⟨j0,hj,hy0,hy1,hy2⟩:=bQ Dy;obtain⟨k0,hk,hx0,hx1,hx2⟩:=bQ BE;have H:Hid (D6 w g o n E/\(∀b,b<n->∀x∈E b,x<n)/\(∀b,(E b).length<=2)/\Dt w gm n (fun b d=>D d b)/\(∀x,Lf h x=true↔Ar E D n h x)):=⟨hg,hE,hsz,hm,hL⟩
 clear hg hE hsz hm hL;have hhI:(h:Int)<(n:Int):=by omega
 go_enter Tryz.func46,Tryz.ntmps46;go_upto_region 2 with fail
 refine Al (fun u=>Hid (Ak u w.heap.size #[.int .i64 0,.slice none 0 0,.slice none 0 0] 68/\Ak u (w.heap.size+1) #[.int .i64 (h:Int),.slice none 0 0,.slice none 0 0] 68/\Below w.heap.size w u)) ?_ ?_
 . have b1:=Aa w (.cells #[.int .i64 0,.slice none 0 0,.slice none 0 0] 68)
   have k1:=Ak.new w #[.int .i64 0,.slice none 0 0,.slice none 0 0] 68;have z1:(w.alloc (.cells #[.int .i64 0,.slice none 0 0,.slice none 0 0] 68)).heap.size=w.heap.size+1:=by simp
   generalize w.alloc (.cells #[.int .i64 0,.slice none 0 0,.slice none 0 0] 68)=W1 at b1 k1 z1⊢;have k2:=Ak.new W1 #[.int .i64 (h:Int),.slice none 0 0,.slice none 0 0] 68;rw[z1]at k2;exact⟨k1.keep (Aa _ _),k2,Ab b1 lR (Aa _ _)⟩
 intro U0 HU0;go_wp2_with (at_make;refine bZ _ rfl _ _ 74 rfl w.heap.size 4 j0 (.bool false) 1 Tryz.underlying74 hj hy0 hy1 .i64 .i64 _ _ n rfl rfl rfl rfl (by rw[hy2];omega) (by unfold maxLen;omega) HU0.o.2.2.size ?_;intro w3 hown hgrow;rw[CQ,Fc]at hown;have z0:=eH hown h;have d0:w3.cell? ⟨U0.heap.size,h,none⟩=some (.bool false):=Eg.cell hown hh)
 have HS:Hid (L1 w (w3.setCell ⟨U0.heap.size,h,none⟩ (.bool true)) n h (w.heap.size+1) U0.heap.size (.slice none 0 0) []):=by
  have hb3:Below U0.heap.size U0 w3:=(aX _ _).grown hgrow lR (fun k hk=>by cases hk);have l0:=HU0.o.1.lt;have l1:=HU0.o.2.1.lt;refine⟨(HU0.o.1.keep hb3).other (by simp only[];omega) _,(HU0.o.2.1.keep hb3).other (by simp only[];omega) _,Eg.set (P:=fun _=>false) hown h true fun j hj=> ?_,bL _ _ _ _,(Ab HU0.o.2.2 lR hb3).setCell (by simp only[];omega) _,by omega⟩;by_cases e:j=h
  . subst e;simp
  . simp[e]
 clear hown hgrow z0 d0 HU0;have HGI:Hid (U0.heap.size=U0.heap.size):=rfl;generalize U0.heap.size=gi at HS⊢;clear HGI;go_loopw [9] (fun i wr=>∃(b:Nat) (BV:Value),b<=n/\i=.int .i64 b/\Hid (L1 w wr n h (w.heap.size+1) gi BV (An E D b h))) (fun i _=>n-(intOf i).toNat)
 case atStart=>exact⟨0,_,by omega,rfl,HS⟩
 case round =>
  clear HS;obtain⟨b,BV,hb,rfl,HM⟩:=hrel;by_cases hlt:b<n
  . have hltI:(b:Int)<(n:Int):=by omega
    obtain⟨a,ca,g0,g1⟩:=H.o.1 b hlt;have HG:Hid (w.cell? ⟨g,o+b*3+2,none⟩=some (.slice a (E b).length ca)/\DR w (.slice a (E b).length ca) (E b)):=⟨g0,g1⟩
    obtain⟨rb,r0,r1⟩:=H.o.2.2.2.1 b hlt;have HRB:Hid (w.cell? ⟨gm,b,none⟩=some (.slice (some ⟨rb,0,none⟩) n n)/\w.cell? ⟨rb,h,none⟩=some (.bool (D h b))):=⟨r0,r1 h hh⟩
    have hE2:=H.o.2.2.1 b;have HLB:Hid ((An E D b h).length<=2*b):=D7 H.o.2.2.1 D h b;clear g0 g1 r0 r1;go_wp2
    go_loopw [10] (fun i wr=>∃(k:Nat) (BV:Value),k<=(E b).length/\i=.int .i64 k/\Hid (L1 w wr n h (w.heap.size+1) gi BV (An E D b h++Bt E D h b k))) (fun i _=>2-(intOf i).toNat)
    case atStart=>exact⟨0,BV,by omega,rfl,by rw[Hv,dR];exact HM⟩
    case round=>
     clear HM;obtain⟨k,BV,hk',rfl,HM⟩:=hrel;have g0:=Ad HM.o.bel HG.o.1;by_cases hlt2:k<(E b).length
     . have hlt2I:(k:Int)<((E b).length:Int):=by omega
       obtain⟨y,hy⟩:∃y,(E b)[k]?=some y:=⟨_,aA hlt2⟩;have HY:Hid ((E b)[k]?=some y):=hy;obtain⟨ga,oa,rfl,_,y0⟩:=HG.o.2.at_ hy;replace y0:=Ad HM.o.bel y0
       have m0:=Ad HM.o.bel HRB.o.1;have m1:=Ad HM.o.bel HRB.o.2;clear hy;by_cases e:y=h
       . subst e
         cases hD:D y b
         . rw[hD]at m1
           have HN:Hid (L1 w wr n y (w.heap.size+1) gi BV (An E D b y++Bt E D y b (k+1))):=by
            show L1 w wr n y _ _ _ _;rw[FU HY.o (fun q=>by rw[hD]at q;cases q.2)];exact HM.o
           go_wp2
           go_roundw
           case rel=>exact⟨k+1,BV,by omega,by go_num,HN⟩
           case measure=>simp[intOf];omega
         . rw[hD]at m1
           obtain⟨aB,cB,rfl⟩:=Ax HM.o.back
           have hlB:(An E D b y++Bt E D y b k).length<=4096:=by
            have h1:=HLB.o;have h2:=Gv E D y b k;rw[aH];omega
           generalize hLL:(An E D b y++Bt E D y b k)=BB at HM hlB;have HBB:Hid (An E D b y++Bt E D y b k=BB):=hLL;clear hLL;go_upto_region 11 with fail
           refine Al (fun u=>Hid (L1 w u n y (w.heap.size+1) gi (.slice aB BB.length cB) BB)) HM ?_;intro U HU;clear g0 y0 m0 m1 HM;have t1:=HU.o.blk.cell 1;simp only[am,aM,aj]at t1;go_wp2_with (at_builtin;refine wpList_append_lies _ rfl _ _ 28 rfl w.heap.size 2 k0 (.int .i64 0) 1 8 Tryz.underlying28 hk hx0 hx1 hx2 rfl (by decide) _ BB.length (nv BB) rfl (HU.o.al (.cells #[.int .i64 (b:Int)] 2)).1 ⟨U.heap.size,0,none⟩ 1 1 [.int .i64 (b:Int)] rfl rfl (A5 U (b:Int)) (fun u hu=>by simp at hu;subst hu;rfl) (by omega) (by simp[maxLen];omega) (by omega) (HU.o.al (.cells #[.int .i64 (b:Int)] 2)).2 _ rfl ?_;intro g5 cap5 w5 hown hgrow hat hlt3;obtain⟨kb5,l5⟩:=HU.o.app hown hgrow;have HU5:Hid (L1 w (w5.setCell ⟨w.heap.size+1,1,none⟩ (.slice (some ⟨g5,0,none⟩) (BB.length+1) cap5)) n y (w.heap.size+1) gi (.slice (some ⟨g5,0,none⟩) (BB.length+1) cap5) (BB++[b])):=l5;have t5:=kb5.cell 1;have z5:=kb5.frozen 1;simp only[am,aM,aj]at t5;clear hown hgrow hat hlt3 kb5 l5)
           have HN:Hid (L1 w (w5.setCell ⟨w.heap.size+1,1,none⟩ (.slice (some ⟨g5,0,none⟩) (BB.length+1) cap5)) n y (w.heap.size+1) gi (.slice (some ⟨g5,0,none⟩) (BB.length+1) cap5) (An E D b y++Bt E D y b (k+1))):=by
            show L1 w _ n y _ _ _ _;rw[Jz HY.o hD,<-dM,HBB.o];exact HU5.o
           go_roundw
           case rel=>exact⟨k+1,_,by omega,by go_num,HN⟩
           case measure=>simp[intOf];omega
       . have eI:((y:Int)==(h:Int))=false:=by simp;omega
         have HN:Hid (L1 w wr n h (w.heap.size+1) gi BV (An E D b h++Bt E D h b (k+1))):=by
          show L1 w wr n h _ _ _ _;rw[FU HY.o (fun q=>e q.1)];exact HM.o
         go_wp2
         go_roundw
         case rel=>exact⟨k+1,BV,by omega,by go_num,HN⟩
         case measure=>simp[intOf];omega
     . obtain rfl:k=(E b).length:=by omega
       rw[<-FD]at HM;go_wp2
       go_roundw
       case rel=>exact⟨b+1,BV,by omega,by go_num,HM⟩
       case measure=>simp[intOf];omega
  . have ebn : b = n:=by omega
    have hltI:¬(b:Int)<(n:Int):=by omega
    go_upto_region 12 with fail
    rw[ebn]at HM;clear ebn hlt hb hltI;obtain⟨w1,hw1⟩:∃W,W=wr:=⟨_,rfl⟩;subst hw1;obtain⟨aB,cB,rfl⟩:=Ax HM.o.back;obtain⟨B,hB⟩:∃B,B=An E D n h:=⟨_,rfl⟩;rw[<-hB]at HM
    have hlB:B.length<=2048:=by
     have:=D7 H.o.2.2.1 D h n;rw[hB];omega
    have hbn:∀x∈B,x<n:=fun x hx=>by rw[hB]at hx;exact((Cu E D n h x).1 hx).1
    have HB:Hid (B=An E D n h/\∀x∈B,x<n):=⟨hB,hbn⟩
    clear hB hbn
    have hgi:gi≠w.heap.size+1:=fun e=>by
     obtain⟨_,cur,h1⟩:=Am HM.o.inn;have h2:=HM.o.blk;unfold Ak at h2;rw[e,h2]at h1;simp only[aR,dD]at h1;exact absurd h1.2.1 (by decide)
    have hgr:gi≠w.heap.size:=fun e=>by
     obtain⟨_,cur,h1⟩:=Am HM.o.inn;have h2:=HM.o.res;unfold Ak at h2;rw[e,h2]at h1;simp only[aR,dD]at h1;exact absurd h1.2.1 (by decide)
    have HBK:Hid (0<B.length->∃gB,aB=some ⟨gB,0,none⟩/\gB≠gi/\∀k x:Nat,B[k]?=some x->w1.cell? ⟨gB,k,none⟩=some (.int .i64 (x:Int))):=fun hp=>by
     obtain⟨gB,oB,e1,_,e2⟩:=HM.o.back.rd.all hp;rcases Bv HM.o.back with⟨e3,e4⟩|⟨gg,cc,e3⟩
     . omega
     . simp only[aF,aw]at e3
       obtain⟨e3,_⟩:=e3;rw[e3]at e1;simp only[aR,cR,cw]at e1;obtain⟨rfl,rfl⟩:=e1;subst e3;refine⟨gg,rfl,fun e=> ?_,fun k x hx=>by have:=e2 k x hx;rw[bt]at this;exact this⟩;exact Kx HM.o.back HM.o.inn (by decide) e
    have HL0:Hid (L2 w w1 (w1.alloc (.cells #[] 2)) n gi (fun x=>(h::[]).contains x) (.slice (some ⟨w1.heap.size,0,none⟩) 0 0) []):=by
     have bA:=Aa w1 (.cells #[] 2);refine⟨HM.o.inn.keep bA,⟨rfl,.inr ⟨w1.heap.size,0,#[],rfl,Nat.le_refl _,Ak.new w1 #[] 2,Nat.le_refl _,dq _,rfl,rfl⟩⟩,fun k hk _=>bA.block k hk,Ab HM.o.bel lR bA,bA.size,HM.o.inn.lt⟩
    have HW:Hid (w.heap.size<=w1.heap.size):=HM.o.bel.size;go_wp2
    go_loopw [11,12] (fun V i wr=>∃(L:List Nat) (k gl cl:Nat),V=.slice (some ⟨gl,0,none⟩) L.length cl/\i=.int .i64 k/\k<=B.length/\Hid (L2 w w1 wr n gi (fun x=>(h::L).contains x) V L/\JY E D n h L/\Md h L (B.take k))) (fun _ i _=>B.length-(intOf i).toNat)
    case atStart=>exact⟨[],0,_,_,rfl,rfl,by omega,HL0.o,JY.nil,fun x hx=>by simp at hx⟩
    case round =>
     clear HL0;obtain⟨L,k,gl,cl,rfl,rfl,hkB,HL⟩:=hrel;have t1:wr.cell? ⟨w.heap.size+1,1,none⟩=some (.slice aB B.length cB):=HL.o.1.cell (HM.o.blk.cell 1) (Ne.symm hgi);by_cases hlt:k<B.length
     . have hltI:(k:Int)<(B.length:Int):=by omega
       obtain⟨x,hx⟩:∃x,B[k]?=some x:=⟨_,aA hlt⟩;have HX:Hid (B[k]?=some x):=hx;have hxn:x<n:=HB.o.2 x (aE hx);have hxnI:(x:Int)<(n:Int):=by omega
       obtain⟨gB,rfl,hgB,hcB⟩:=HBK.o (by omega);have HXC:Hid (w1.cell? ⟨gB,k,none⟩=some (.int .i64 (x:Int))):=hcB k x hx;have x0:=HL.o.1.cell HXC.o hgB;have s0:=HL.o.1.inn.cell hxn;clear hx hcB;cases hc:(h::L).contains x
       . simp only[hc]at s0
         have z0:=HL.o.1.inn.frozen x;have hxL:¬(x=h\/x∈L):=by simpa using hc
         have HSM:Hid (L2 w w1 (wr.setCell ⟨gi,x,none⟩ (.bool true)) n gi (fun j=>(h::(L++[x])).contains j) (.slice (some ⟨gl,0,none⟩) L.length cl) L):=HL.o.1.mark x true (K2 h L x n);have HCN:Hid (JY E D n h (L++[x])):=HL.o.2.1.add (fun e=>hxL (.inl e)) hxn ⟨x,by rw[<-HB.o.1];exact aE HX.o,.here (fun e=>hxL (.inl e))⟩ (fun e=>hxL (.inr e));have hLn:=HCN.o.len;rw[aH,aI]at hLn;have HN:Hid (Md h (L++[x]) (B.take (k+1))):=HL.o.2.2.next (fun y hy=>aU.2 (.inl hy)) HX.o (.inr (by simp));go_upto_region 18 with fail
         refine Al (fun u=>Hid (L2 w w1 u n gi (fun j=>(h::(L++[x])).contains j) (.slice (some ⟨gl,0,none⟩) L.length cl) L)) HSM ?_;intro U HU;clear HSM s0 z0 x0 t1;have t1:U.cell? ⟨w.heap.size+1,1,none⟩=some (.slice (some ⟨gB,0,none⟩) B.length cB):=HU.o.cell (HM.o.blk.cell 1) (Ne.symm hgi);have x0:=HU.o.cell HXC.o hgB;go_wp2_with (at_builtin;refine wpList_append_lies _ rfl _ _ 28 rfl w1.heap.size 2 k0 (.int .i64 0) 1 8 Tryz.underlying28 hk hx0 hx1 hx2 rfl (by decide) _ L.length (nv L) rfl (HU.o.al (.cells #[.int .i64 (x:Int)] 2)).1 ⟨U.heap.size,0,none⟩ 1 1 [.int .i64 (x:Int)] rfl rfl (A5 U (x:Int)) (fun u hu=>by simp at hu;subst hu;rfl) (by omega) (by simp[maxLen];omega) (by omega) (HU.o.al (.cells #[.int .i64 (x:Int)] 2)).2 _ rfl ?_;intro g5 cap5 w5 hown hgrow hat hlt3;have HU5:Hid (L2 w w1 w5 n gi (fun j=>(h::(L++[x])).contains j) (.slice (some ⟨g5,0,none⟩) (L.length+1) cap5) (L++[x])):=HU.o.app HW.o hown hgrow;clear hown hgrow hat hlt3);go_roundw
         case rel=>exact⟨L++[x],k+1,g5,cap5,by rw[aH,aI],by go_num,by omega,HU5.o,HCN.o,HN.o⟩
         case measure=>simp[intOf];omega
       . simp only[hc]at s0
         have hxL:x=h\/x∈L:=by simpa using hc
         have HN:Hid (Md h L (B.take (k+1))):=HL.o.2.2.next (fun y hy=>hy) HX.o hxL;go_wp2
         go_roundw
         case rel=>exact⟨L,k+1,gl,cl,rfl,by go_num,by omega,HL.o.1,HL.o.2.1,HN.o⟩
         case measure=>simp[intOf];omega
     . have HHB : Hid (Md h L (An E D n h)):=by
        have:=HL.o.2.2;rw[an (by omega),HB.o.1]at this;exact this
       have HL3:Hid (L2 w w1 wr n gi (fun x=>(h::L).contains x) (.slice (some ⟨gl,0,none⟩) L.length cl) L/\JY E D n h L/\Md h L (An E D n h)):=⟨HL.o.1,HL.o.2.1,HHB.o⟩
       clear HL HHB;have hLn:=HL3.o.2.1.len;go_wp2
       go_loopw [11,13] (fun V i wr=>∃(L:List Nat) (k gl cl:Nat),V=.slice (some ⟨gl,0,none⟩) L.length cl/\i=.int .i64 k/\k<=L.length/\L.length<=n/\Hid (L2 w w1 wr n gi (fun x=>(h::L).contains x) V L/\JY E D n h L/\Md h L (An E D n h)/\OC E n h L k)) (fun _ i _=>n-(intOf i).toNat)
       case atStart=>exact⟨L,0,gl,cl,rfl,rfl,by omega,hLn,HL3.o.1,HL3.o.2.1,HL3.o.2.2,fun j x hj hl=>by omega⟩
       case round =>
        clear HL3 hLn t1;obtain⟨L,i,gl,cl,rfl,rfl,hiL,hLn,HL⟩:=hrel;by_cases hlt3:i<L.length
        . have hlt3I:(i:Int)<(L.length:Int):=by omega
          obtain⟨x,hx⟩:∃x,L[i]?=some x:=⟨_,aA hlt3⟩;have HX:Hid (L[i]?=some x):=hx;clear hx;go_wp2
          go_loopw [11,14] (fun V j wr=>∃(L:List Nat) (b gl cl:Nat),V=.slice (some ⟨gl,0,none⟩) L.length cl/\j=.int .i64 b/\b<=n/\i<L.length/\L.length<=n/\Hid (L2 w w1 wr n gi (fun x=>(h::L).contains x) V L/\JY E D n h L/\Md h L (An E D n h)/\OC E n h L i/\L[i]?=some x/\IY E h L x b)) (fun _ j _=>n-(intOf j).toNat)
          case atStart=>exact⟨L,0,gl,cl,rfl,rfl,by omega,hlt3,hLn,HL.o.1,HL.o.2.1,HL.o.2.2.1,HL.o.2.2.2,HX.o,fun y hy=>by omega⟩
          case round=>
           clear HL HX hlt3 hlt3I hiL hLn;obtain⟨L,b,gl,cl,rfl,rfl,hb,hiL,hLn,HL⟩:=hrel;have hiLI:(i:Int)<(L.length:Int):=by omega
           by_cases hlt4:b<n
           . have hlt4I:(b:Int)<(n:Int):=by omega
             obtain⟨a,ca,g0,g1⟩:=H.o.1 b hlt4;have HG:Hid (w.cell? ⟨g,o+b*3+2,none⟩=some (.slice a (E b).length ca)/\DR w (.slice a (E b).length ca) (E b)):=⟨g0,g1⟩
             have hE2:=H.o.2.2.1 b;clear g0 g1;go_wp2
             go_loopw [11,15] (fun V j wr=>∃(L:List Nat) (m gl cl:Nat),V=.slice (some ⟨gl,0,none⟩) L.length cl/\j=.int .i64 m/\m<=(E b).length/\i<L.length/\L.length<=n/\Hid (L2 w w1 wr n gi (fun x=>(h::L).contains x) V L/\JY E D n h L/\Md h L (An E D n h)/\OC E n h L i/\L[i]?=some x/\IY E h L x b/\(x∈(E b).take m->b=h\/b∈L))) (fun _ j _=>2-(intOf j).toNat)
             case atStart=>exact⟨L,0,gl,cl,rfl,rfl,by omega,hiL,hLn,HL.o.1,HL.o.2.1,HL.o.2.2.1,HL.o.2.2.2.1,HL.o.2.2.2.2.1,HL.o.2.2.2.2.2,fun q=>by simp at q⟩
             case round=>
              clear HL hiL hiLI hLn;obtain⟨L,m,gl,cl,rfl,rfl,hm',hiL,hLn,HL⟩:=hrel;have hiLI:(i:Int)<(L.length:Int):=by omega
              have g0:=Ad HL.o.1.bel HG.o.1;by_cases hlt5:m<(E b).length
              . have hlt5I:(m:Int)<((E b).length:Int):=by omega
                obtain⟨y,hy⟩:∃y,(E b)[m]?=some y:=⟨_,aA hlt5⟩
                have HY:Hid ((E b).take (m+1)=(E b).take m++[y]/\y∈E b):=by
                 obtain⟨hl,rfl⟩:=aD.1 hy;exact⟨ah hl,bq hl⟩
                obtain⟨ga,oa,rfl,_,y0⟩:=HG.o.2.at_ hy;replace y0:=Ad HL.o.1.bel y0
                obtain⟨_,_,ee,_,l0⟩:=HL.o.1.list.rd.at_ HL.o.2.2.2.2.1;simp only[aR,cR,cw]at ee;obtain⟨rfl,rfl⟩:=ee;rw[bt]at l0;have s0:=HL.o.1.inn.cell hlt4;clear hy
                have hTN:Hid (∀L':List Nat,(x=y->b=h\/b∈L')->(∀z∈L,z∈L')->x∈(E b).take (m+1)->b=h\/b∈L'):=fun L' h1 h2 h3=>by
                 rw[HY.o.1]at h3;rcases aU.1 h3 with h3|h3
                 . exact(HL.o.2.2.2.2.2.2 h3).imp id (h2 b)
                 . simp only[aa,ao,cH]at h3
                   exact h1 h3
                by_cases e:y=x
                . subst e
                  cases hc:(h::L).contains b
                  . simp only[hc]at s0
                    have hbL:¬(b=h\/b∈L):=by simpa using hc
                    go_wp2
                    go_quiet (fail)
                    refine Av (fun u=>Hid (L2 w w1 u n gi (fun x=>(h::L).contains x) (.slice (some ⟨gl,0,none⟩) L.length cl) L)) (HL.o.1.keep (Af _ _ _)) ?_;intro U1 HU1;clear s0 y0 l0 g0;have s1:=HU1.o.inn.cell hlt4;have z1:=HU1.o.inn.frozen b;have HCN:Hid (JY E D n h (L++[b])):=HL.o.2.1.add (fun e=>hbL (.inl e)) hlt4 (HL.o.2.1.step (aE HL.o.2.2.2.2.1) hlt4 HY.o.2 (fun e=>hbL (.inl e))) (fun e=>hbL (.inr e));have hLn2:=HCN.o.len;rw[aH,aI]at hLn2;have HSM:Hid (L2 w w1 (U1.setCell ⟨gi,b,none⟩ (.bool true)) n gi (fun j=>(h::(L++[b])).contains j) (.slice (some ⟨gl,0,none⟩) L.length cl) L):=HU1.o.mark b true (K2 h L b n);go_upto_region 30 with fail
                    refine Al (fun u=>Hid (L2 w w1 u n gi (fun j=>(h::(L++[b])).contains j) (.slice (some ⟨gl,0,none⟩) L.length cl) L)) HSM ?_;intro U HU;clear HSM s1 z1 HU1;go_wp2_with (at_builtin;refine wpList_append_lies _ rfl _ _ 28 rfl w1.heap.size 2 k0 (.int .i64 0) 1 8 Tryz.underlying28 hk hx0 hx1 hx2 rfl (by decide) _ L.length (nv L) rfl (HU.o.al (.cells #[.int .i64 (b:Int)] 2)).1 ⟨U.heap.size,0,none⟩ 1 1 [.int .i64 (b:Int)] rfl rfl (A5 U (b:Int)) (fun u hu=>by simp at hu;subst hu;rfl) (by omega) (by simp[maxLen];omega) (by omega) (HU.o.al (.cells #[.int .i64 (b:Int)] 2)).2 _ rfl ?_;intro g5 cap5 w5 hown hgrow hat hlt9;have HU5:Hid (L2 w w1 w5 n gi (fun j=>(h::(L++[b])).contains j) (.slice (some ⟨g5,0,none⟩) (L.length+1) cap5) (L++[b])):=HU.o.app HW.o hown hgrow;clear hown hgrow hat hlt9);go_roundw
                    case rel=>exact⟨L++[b],m+1,g5,cap5,by rw[aH,aI],by go_num,by omega,by rw[aH];omega,by rw[aH,aI];exact hLn2,HU5.o,HCN.o,HL.o.2.2.1.app b,HL.o.2.2.2.1.app (by omega) b,by rw[bG hiL];exact HL.o.2.2.2.2.1,HL.o.2.2.2.2.2.1.app b,hTN.o (L++[b]) (fun _=>.inr (by simp)) (fun z hz=>aU.2 (.inl hz))⟩
                    case measure=>simp[intOf];omega
                  . simp only[hc]at s0
                    have hbL:b=h\/b∈L:=by simpa using hc
                    go_wp2
                    go_quiet (fail)
                    refine Av (fun u=>Hid (L2 w w1 u n gi (fun x=>(h::L).contains x) (.slice (some ⟨gl,0,none⟩) L.length cl) L)) (HL.o.1.keep (Af _ _ _)) ?_;intro U HU;go_wp2
                    go_roundw
                    case rel=>exact⟨L,m+1,gl,cl,rfl,by go_num,by omega,hiL,hLn,HU.o,HL.o.2.1,HL.o.2.2.1,HL.o.2.2.2.1,HL.o.2.2.2.2.1,HL.o.2.2.2.2.2.1,hTN.o L (fun _=>hbL) (fun z hz=>hz)⟩
                    case measure=>simp[intOf];omega
                . have eI:((y:Int)==(x:Int))=false:=by simp;omega
                  go_wp2
                  go_quiet (fail)
                  refine Av (fun u=>Hid (L2 w w1 u n gi (fun x=>(h::L).contains x) (.slice (some ⟨gl,0,none⟩) L.length cl) L)) (HL.o.1.keep (Af _ _ _)) ?_;intro U HU;go_wp2
                  go_roundw
                  case rel=>exact⟨L,m+1,gl,cl,rfl,by go_num,by omega,hiL,hLn,HU.o,HL.o.2.1,HL.o.2.2.1,HL.o.2.2.2.1,HL.o.2.2.2.2.1,HL.o.2.2.2.2.2.1,hTN.o L (fun q=>absurd q.symm e) (fun z hz=>hz)⟩
                  case measure=>simp[intOf];omega
              . obtain rfl:m=(E b).length:=by omega
                have HN:Hid (IY E h L x (b+1)):=HL.o.2.2.2.2.2.1.next (by have:=HL.o.2.2.2.2.2.2;rw[an lR]at this;exact this);go_wp2;go_roundw
                case rel=>exact⟨L,b+1,gl,cl,rfl,by go_num,by omega,hiL,hLn,HL.o.1,HL.o.2.1,HL.o.2.2.1,HL.o.2.2.2.1,HL.o.2.2.2.2.1,HN.o⟩
                case measure=>simp[intOf];omega
           . have ebn:b=n:=by omega
             have hlt4I:¬(b:Int)<(n:Int):=by omega
             have HN:Hid (OC E n h L (i+1)):=HL.o.2.2.2.1.next HL.o.2.2.2.2.1 (by have:=HL.o.2.2.2.2.2;rw[ebn]at this;exact this);go_wp2;go_roundw
             case rel=>exact⟨L,i+1,gl,cl,rfl,by go_num,by omega,hLn,HL.o.1,HL.o.2.1,HL.o.2.2.1,HN.o⟩
             case measure=>simp[intOf];omega
        . obtain rfl:i=L.length:=by omega
          have HLF:Hid (∀x,(h::L).contains x=Lf h x):=fun x=>by
           rw[db,HL.o.2.1.iff HL.o.2.2.1 HL.o.2.2.2 x,H.o.2.2.2.2 x]
          go_upto_region 31 with fail
          obtain⟨w2,hw2⟩:∃W,W=wr:=⟨_,rfl⟩;subst hw2
          have HL4:Hid (L4 w w2 w2 n h (w.heap.size+1) gi (.slice aB B.length cB) (.slice none 0 0) [] (Lf h)):=by
           have bk:=HL.o.1.blk HM.o.blk (Ne.symm hgi);refine⟨HL.o.1.blk HM.o.res (Ne.symm hgr),bk,HL.o.1.inn.congr fun j _=>HLF.o j,bL _ _ _ _,fun k hk _=>rfl,HL.o.1.bel,Nat.le_refl _,bk.lt⟩
          have HBR:Hid (DQ w2 w.heap.size (.slice aB B.length cB) B):=by
           obtain⟨_,cur,h1⟩:=Am HM.o.inn;exact HM.o.back.fx HL.o.1.fx (Bc HM.o.back h1 (by decide))
          have HNE:Hid (∀gg,(Value.slice aB B.length cB).ownBlock=some gg->gg≠w.heap.size+1/\gg≠w.heap.size):=fun gg hgg=>⟨HBR.o.ne_blk HL4.o.blk (by decide) gg hgg,HBR.o.ne_blk HL4.o.res (by decide) gg hgg⟩
          clear HL HM HBK HLF hiL hLn hlt3;go_wp2
          go_loopw [16] (fun i wr=>∃(b:Nat) (KV:Value),b<=n/\i=.int .i64 b/\(B.length=0->b=0)/\Hid (L4 w w2 wr n h (w.heap.size+1) gi (.slice aB B.length cB) KV ((List.range b).filter (Lf h)) (Lf h))) (fun i _=>n-(intOf i).toNat)
          case atStart=>exact⟨0,_,by omega,rfl,fun _=>rfl,HL4⟩
          case round=>
           clear HL4;obtain⟨b,KV,hb,rfl,hb0,HL⟩:=hrel;have t1:wr.cell? ⟨w.heap.size+1,1,none⟩=some (.slice aB B.length cB):=HL.o.blk.cell 1;by_cases hgo:b<n/\0<B.length
           . obtain⟨hlt,hp⟩:=hgo
             have hltI:(b:Int)<(n:Int):=by omega
             have hpI:(0:Int)<(B.length:Int):=by omega
             have s0:=HL.o.inn.cell hlt;cases hc:Lf h b
             . rw[hc]at s0
               have HN:Hid (L4 w w2 wr n h (w.heap.size+1) gi (.slice aB B.length cB) KV ((List.range (b+1)).filter (Lf h)) (Lf h)):=by
                show L4 _ _ _ _ _ _ _ _ _ _ _;rw[cj,ce];simp only[di,hc,d6,dj,if_false,dR];exact HL.o
               go_wp2
               go_roundw
               case rel=>exact⟨b+1,KV,by omega,by go_num,fun q=>by omega,HN⟩
               case measure=>simp[intOf];omega
             . rw[hc]at s0
               obtain⟨aK,cK,rfl⟩:=Ax HL.o.row
               have hlK:((List.range b).filter (Lf h)).length<=1024:=by
                have:=cJ (Lf h) (List.range b);simp only[bo]at this;omega
               generalize hLL:(List.range b).filter (Lf h)=K at HL hlK;have HK:Hid ((List.range b).filter (Lf h)=K):=hLL;clear hLL;go_upto_region 35 with fail
               refine Al (fun u=>Hid (L4 w w2 u n h (w.heap.size+1) gi (.slice aB B.length cB) (.slice aK K.length cK) K (Lf h))) HL ?_;intro U HU;clear s0 t1 HL;have t2:U.cell? ⟨w.heap.size+1,2,none⟩=some (.slice aK K.length cK):=HU.o.blk.cell 2;go_wp2_with (at_builtin;refine wpList_append_lies _ rfl _ _ 28 rfl w2.heap.size 2 k0 (.int .i64 0) 1 8 Tryz.underlying28 hk hx0 hx1 hx2 rfl (by decide) _ K.length (nv K) rfl (HU.o.al (.cells #[.int .i64 (b:Int)] 2)).1 ⟨U.heap.size,0,none⟩ 1 1 [.int .i64 (b:Int)] rfl rfl (A5 U (b:Int)) (fun u hu=>by simp at hu;subst hu;rfl) (by omega) (by simp[maxLen];omega) (by omega) (HU.o.al (.cells #[.int .i64 (b:Int)] 2)).2 _ rfl ?_;intro g5 cap5 w5 hown hgrow hat hlt9;obtain⟨kb5,l5⟩:=HU.o.app (d9 _) hown hgrow;have HU5:Hid (L4 w w2 (w5.setCell ⟨w.heap.size+1,2,none⟩ (.slice (some ⟨g5,0,none⟩) (K.length+1) cap5)) n h (w.heap.size+1) gi (.slice aB B.length cB) (.slice (some ⟨g5,0,none⟩) (K.length+1) cap5) (K++[b]) (Lf h)):=l5;have t5:w5.cell? ⟨w.heap.size+1,2,none⟩=some (.slice aK K.length cK):=kb5.cell 2;have z5:=kb5.frozen 2;clear hown hgrow hat hlt9 kb5 l5)
               have HN:Hid (L4 w w2 (w5.setCell ⟨w.heap.size+1,2,none⟩ (.slice (some ⟨g5,0,none⟩) (K.length+1) cap5)) n h (w.heap.size+1) gi (.slice aB B.length cB) (.slice (some ⟨g5,0,none⟩) (K.length+1) cap5) ((List.range (b+1)).filter (Lf h)) (Lf h)):=by
                show L4 _ _ _ _ _ _ _ _ _ _ _;rw[cj,ce,HK.o];simp only[di,hc,d6,if_true];exact HU5.o
               go_roundw
               case rel=>exact⟨b+1,_,by omega,by go_num,fun q=>by omega,HN⟩
               case measure=>simp[intOf];omega
           . have HN:Hid (L4 w w2 wr n h (w.heap.size+1) gi (.slice aB B.length cB) KV ((List.range b).filter (Lf h)) (Lf h)/\DQ wr w.heap.size (.slice aB B.length cB) B/\(B≠[]->b=n)):=by
              refine⟨HL.o,HBR.o.fx HL.o.fx fun gg hgg=>(HNE.o gg hgg).1,fun q=> ?_⟩;have:=dQ.2 q;omega
             obtain⟨aK,cK,rfl⟩:=Ax HL.o.row;have t0:wr.cell? ⟨w.heap.size+1,0,none⟩=some (.int .i64 (h:Int)):=HL.o.blk.cell 0;have t2:wr.cell? ⟨w.heap.size+1,2,none⟩=some (.slice aK ((List.range b).filter (Lf h)).length cK):=HL.o.blk.cell 2;have r0:wr.cell? ⟨w.heap.size,0,none⟩=some (.int .i64 0):=HL.o.res.cell 0;have r1:wr.cell? ⟨w.heap.size,1,none⟩=some (.slice none 0 0):=HL.o.res.cell 1;have r2:wr.cell? ⟨w.heap.size,2,none⟩=some (.slice none 0 0):=HL.o.res.cell 2;have f0:=HL.o.res.frozen 0;have f1:=HL.o.res.frozen 1;have f2:=HL.o.res.frozen 2;clear HL;by_cases hbn:b<n
             . have hltI:(b:Int)<(n:Int):=by omega
               have hpI:¬(0:Int)<(B.length:Int):=by omega
               go_wp2_with fail
               have R0:=HN.o.1.res.set 0 (.int .i64 (h:Int));have R1:=R0.set 1 (.slice aB B.length cB);have R2:=R1.set 2 (.slice aK ((List.range b).filter (Lf h)).length cK);have q0:=R2.cell 0;have q1:=R2.cell 1;have q2:=R2.cell 2;simp at q0 q1 q2;refine bC (v:=.agg #[.int .i64 (h:Int),.slice aB B.length cB,.slice aK ((List.range b).filter (Lf h)).length cK]) (by simp[results,Tryz.results46,go_sem,q0,q1,q2]) rfl ⟨_,_,rfl,?_,?_,?_,?_,_,_,_,rfl⟩
               . rw[<-HB.o.1]
                 have n0:∀i:Nat,(Value.slice aB B.length cB).ownBlock≠some (⟨w.heap.size,i,none⟩:Addr).block:=fun i q=>(HNE.o _ q).2 rfl
                 exact aP (aP (aP HN.o.2.1 (n0 0) _) (n0 1) _) (n0 2) _
               . intro hq
                 rw[<-HB.o.1]at hq;obtain rfl:=HN.o.2.2 hq;refine AF (base:=w2.heap.size) ?_ (by have:=HN.o.1.blt;omega)
                 have n0:∀i:Nat,(Value.slice aK ((List.range b).filter (Lf h)).length cK).ownBlock≠some (⟨w.heap.size,i,none⟩:Addr).block:=fun i q=>by
                  have h1:=(HN.o.1.row.lt _ q).1;have h2:=HN.o.1.blt;simp only[]at h1;omega
                 exact aP (aP (aP HN.o.1.row (n0 0) _) (n0 1) _) (n0 2) _
               . exact((HN.o.1.bel.setCell lR _).setCell lR _).setCell lR _
               . intro gg h1 h2
                 have h3:=(HBR.o.lt gg h1).2;have h4:=(HN.o.1.row.lt gg h2).1;omega
             . have hltI:¬(b:Int)<(n:Int):=by omega
               go_wp2_with fail
               have R0:=HN.o.1.res.set 0 (.int .i64 (h:Int));have R1:=R0.set 1 (.slice aB B.length cB);have R2:=R1.set 2 (.slice aK ((List.range b).filter (Lf h)).length cK);have q0:=R2.cell 0;have q1:=R2.cell 1;have q2:=R2.cell 2;simp at q0 q1 q2;refine bC (v:=.agg #[.int .i64 (h:Int),.slice aB B.length cB,.slice aK ((List.range b).filter (Lf h)).length cK]) (by simp[results,Tryz.results46,go_sem,q0,q1,q2]) rfl ⟨_,_,rfl,?_,?_,?_,?_,_,_,_,rfl⟩
               . rw[<-HB.o.1]
                 have n0:∀i:Nat,(Value.slice aB B.length cB).ownBlock≠some (⟨w.heap.size,i,none⟩:Addr).block:=fun i q=>(HNE.o _ q).2 rfl
                 exact aP (aP (aP HN.o.2.1 (n0 0) _) (n0 1) _) (n0 2) _
               . intro hq
                 rw[<-HB.o.1]at hq;obtain rfl:=HN.o.2.2 hq;refine AF (base:=w2.heap.size) ?_ (by have:=HN.o.1.blt;omega)
                 have n0:∀i:Nat,(Value.slice aK ((List.range b).filter (Lf h)).length cK).ownBlock≠some (⟨w.heap.size,i,none⟩:Addr).block:=fun i q=>by
                  have h1:=(HN.o.1.row.lt _ q).1;have h2:=HN.o.1.blt;simp only[]at h1;omega
                 exact aP (aP (aP HN.o.1.row (n0 0) _) (n0 1) _) (n0 2) _
               . exact((HN.o.1.bel.setCell lR _).setCell lR _).setCell lR _
               . intro gg h1 h2
                 have h3:=(HBR.o.lt gg h1).2;have h4:=(HN.o.1.row.lt gg h2).1;omega
theorem Cc.grow{w w':World}{base g:Nat}{A B:List (Value×List Int)}{V V':Value}{l l':List Int}(h:Cc w base (A++(V,l)::B))(ho:w'.ownsRow base 2 1 V' l'.length (l'.flatMap Ac))(hV:V'.ownBlock=some g)(hg:w.grownBy w' V.ownBlock)(hat:V.ownBlock=some g\/w.heap.size<=g):Cc w' base (A++(V',l')::B):=by
 obtain⟨pA,pB,pAB⟩:=dB.1 h.sep;obtain⟨pv,pB'⟩:=bS.1 pB
 have hsep:∀x:Value×List Int,x∈A++(V,l)::B->FN x (V,l)->FN x (V',l'):=fun x hx ha gg hgg e=>by
  rw[hV]at e;have e:=ae e;subst e;rcases hat with h1|h1
  . exact ha _ hgg h1
  . have:=((h.own x hx).lt _ hgg).2
    omega
 refine⟨fun x hx=> ?_,dB.2 ⟨pA,bS.2 ⟨fun y hy=>(hsep y (by simp[hy]) (pv y hy).symm).symm,pB'⟩,fun a ha b hb=> ?_⟩⟩
 . rcases aU.1 hx with hx|hx
   . exact Cs (h.own x (aU.2 (.inl hx))) hg (fun g hgx e=>pAB x hx (V,l) (by simp) g hgx e.symm)
   . rcases aa.1 hx with rfl|hx
     . exact ho
     . exact Cs (h.own x (aU.2 (.inr (bK _ hx)))) hg (fun g hgx e=>pv x hx g e.symm hgx)
 . rcases aa.1 hb with rfl|hb
   . exact hsep a (by simp[ha]) (pAB a ha (V,l) (by simp))
   . exact pAB a ha b (bK _ hb)
theorem Cc.keepB{u u':World}{B:Nat}{L:List (Value×List Int)}(h:Cc u B L)(hb:Below u.heap.size u u'):Cc u' B L:=⟨fun r hr=>Ag (h.own r hr) hb lR,h.sep⟩
theorem Cc.join{u u':World}{B:Nat}{L:List (Value×List Int)}{b:Value}{cb:List Int}(h:Cc u B L)(hb:Below u.heap.size u u')(hn:u'.ownsRow u.heap.size 2 1 b cb.length (cb.flatMap Ac))(hB:B<=u.heap.size):Cc u' B (L++[(b,cb)]):=by
 refine⟨fun x hx=> ?_,dB.2 ⟨h.sep,by simp,fun a ha c hc g hg e=> ?_⟩⟩
 . rcases aU.1 hx with hx|hx
   . exact Ag (h.own x hx) hb lR
   . simp only[aa,ao,cH]at hx
     subst hx;exact AF hn hB
 . simp only[aa,ao,cH]at hc
   subst hc;have h1:=((h.own a ha).lt g hg).2;have h2:=(hn.lt g e).1;omega
theorem Cc.join2{u u':World}{B:Nat}{L:List (Value×List Int)}{b c:Value}{cb cc:List Int}(h:Cc u B L)(hb:Below u.heap.size u u')(hn:u'.ownsRow u.heap.size 2 1 b cb.length (cb.flatMap Ac))(hm:u'.ownsRow u.heap.size 2 1 c cc.length (cc.flatMap Ac))(hne:∀g,b.ownBlock=some g->c.ownBlock≠some g)(hB:B<=u.heap.size):Cc u' B (L++[(b,cb),(c,cc)]):=by
 refine⟨fun x hx=> ?_,dB.2 ⟨h.sep,by simpa[FN]using hne,fun a ha y hy g hg e=> ?_⟩⟩
 . rcases aU.1 hx with hx|hx
   . exact Ag (h.own x hx) hb lR
   . simp only[aa,ao,cH]at hx
     rcases hx with rfl|rfl
     . exact AF hn hB
     . exact AF hm hB
 . simp only[aa,ao,cH]at hy
   have h1:=((h.own a ha).lt g hg).2;rcases hy with rfl|rfl
   . have h2:=(hn.lt g e).1
     omega
   . have h2:=(hm.lt g e).1
     omega
theorem Cc.other{w:World}{base b:Nat}{L:List (Value×List Int)}{cur:Array Value}{t:TypeId}(h:Cc w base L)(hb:Ak w b cur t)(hne:2≠t)(i:Nat)(x:Value):Cc (w.setCell ⟨b,i,none⟩ x) base L:=h.set hb hne i x
theorem Cc.grown_other{w w':World}{base B k m:Nat}{L:List (Value×List Int)}{v:Value}{e:TypeId}{bs:List Value}(h:Cc w base L)(hg:w.grownBy w' v.ownBlock)(ho:w.ownsRow B e k v m bs)(hne:2≠e):Cc w' base L:=⟨fun x hx=>Bg (h.own x hx) hg ho hne,h.sep⟩
def Ba(x:ML×Value×Value):List Value:=[.int .i64 x.1.head,x.2.1,x.2.2]
theorem BG(x:ML×Value×Value):(Ba x).length=3:=rfl
def Nl(w:World)(x:ML×Value×Value):Prop:=Rd w 1 x.2.1 x.1.back.length (x.1.back.flatMap Ac)/\Rd w 1 x.2.2 x.1.blocks.length (x.1.blocks.flatMap Ac)
def I6(w:World)(s:Value)(ls:List ML):Prop:=∃ys:List (ML×Value×Value),ys.map Prod.fst=ls/\Rd w 3 s ls.length (ys.flatMap Ba)/\∀y∈ys,Nl w y
theorem I6.keep{w w':World}{s:Value}{ls:List ML}(h:I6 w s ls){B:Nat}(hb:Below B w w')(hB:w.heap.size<=B):I6 w' s ls:=by
 obtain⟨ys,h1,h2,h3⟩:=h;exact⟨ys,h1,h2.keep hb hB,fun y hy=>⟨(h3 y hy).1.keep hb hB,(h3 y hy).2.keep hb hB⟩⟩
theorem I6.nil(w:World):I6 w (.slice none 0 0) []:=⟨[],rfl,⟨rfl,.inl ⟨rfl,_,_,rfl⟩⟩,fun y hy=>by cases hy⟩
def Df(ys:List (ML×Value×Value)):List (Value×List Int):=ys.flatMap fun y=>[(y.2.1,y.1.back),(y.2.2,y.1.blocks)]
def iv(f:Nat->Nat)(n:Nat):List Value:=(List.range n).map fun i=>Value.int .i64 (f i:Int)
theorem GC(f:Nat->Nat)(n:Nat):(iv f n).length=n:=by simp[iv]
theorem JG(f:Nat->Nat)(n i:Nat)(h:i<n):(iv f n)[i]?=some (.int .i64 (f i:Int)):=by simp[iv,h]
theorem O8{f g:Nat->Nat}{n i x:Nat}(h:∀j,j<n->g j=if j=i then x else f j):(iv f n).set i (.int .i64 (x:Int))=iv g n:=by
 apply cI;intro j;by_cases hj:j<n
 . rw[JG _ _ _ hj,h j hj]
   by_cases e:j=i
   . subst e
     rw[dK (by rw[GC];exact hj),a8 rfl]
   . rw[dC (by omega),JG _ _ _ hj,bF e]
 . rw[aZ (by simp[GC];omega),aZ (by rw[GC];omega)]
theorem NB(n:Nat):(madeCells (Value.int .i64 0).cells (n*1)).toList=iv (fun _=>0) n:=by
 rw[Gf n (fun _=>[]) []];simp[A7,iv,List.flatten_replicate_singleton];apply cI;intro j;by_cases hj:j<n
 . simp[hj]
 . rw[aZ (by simp;omega),aZ (by simp;omega)]
def IE(O:List Nat)(k x:Nat):Nat:=if(O.reverse.take k).contains x then B8 O x else 0
theorem JR(O:List Nat):IE O 0=fun _=>0:=by funext x;simp[IE]
theorem Lz(O:List Nat)(x:Nat)(h:x∈O):IE O O.length x=B8 O x:=by
 unfold IE;rw[an (by simp),a8 (by simpa using h)]
theorem JQ{O:List Nat}(hd:O.Nodup){k x:Nat}(hx:O.reverse[k]?=some x)(n:Nat):∀j,j<n->IE O (k+1) j=if j=x then k else IE O k j:=fun j _=>by
 obtain⟨hlt,e⟩:=aD.1 hx;have hd':O.reverse.Nodup:=List.pairwise_reverse.2 (hd.imp Ne.symm)
 have hpx:B8 O x=k:=by
  have hm:x∈O:=by rw[<-cW,<-e];exact bq hlt
  have h1:=FK hm;obtain⟨l1,e1⟩:=aD.1 h1;exact(List.getElem_inj hd').1 (e1.trans e.symm)
 unfold IE;rw[ah hlt,e];by_cases q:j=x
 . subst q
   rw[a8 (by simp),a8 rfl,hpx]
 . rw[bF q]
   have:(O.reverse.take k++[x]).contains j=(O.reverse.take k).contains j:=by simp[q]
   rw[this]
theorem PZ:(Tryz.prog.info? 3).map (fun i=>(i.zero,i.size,i.bytes))=some (some (.int .i64 0),1,8):=by kernel_rfl
structure PC(w u:World)(n X gp:Nat)(Vb Vo:Value)(O:List Nat)(k:Nat):Prop where
 blk:Ak u X #[.int .i64 0,.int .i64 0,Vb,Vo,.slice none 0 0,.slice none 0 0] 52
 place:u.ownsRow w.heap.size 3 1 (.slice (some ⟨gp,0,none⟩) n n) n (iv (IE O k) n)
 order:DQ u w.heap.size Vo (O.reverse.take k)
 bel:Below w.heap.size w u
 lt:w.heap.size<=X
theorem PC.keep{w u u':World}{n X gp k:Nat}{Vb Vo:Value}{O:List Nat}(h:PC w u n X gp Vb Vo O k)(hb:Below u.heap.size u u'):PC w u' n X gp Vb Vo O k:=⟨h.blk.keep hb,Ag h.place hb lR,h.order.keep hb,Ab h.bel lR hb,h.lt⟩
structure PD(w u:World)(n X gp:Nat)(Vb Vo:Value)(O:List Nat)(k:Nat):Prop where
 blk:Ak u X #[.int .i64 0,.int .i64 0,Vb,Vo,.slice none 0 0,.slice none 0 0] 52
 place:u.ownsRow w.heap.size 3 1 (.slice (some ⟨gp,0,none⟩) n n) n (iv (IE O (k+1)) n)
 order:DQ u w.heap.size Vo (O.reverse.take k)
 bel:Below w.heap.size w u
 lt:w.heap.size<=X
theorem PD.keep{w u u':World}{n X gp k:Nat}{Vb Vo:Value}{O:List Nat}(h:PD w u n X gp Vb Vo O k)(hb:Below u.heap.size u u'):PD w u' n X gp Vb Vo O k:=⟨h.blk.keep hb,Ag h.place hb lR,h.order.keep hb,Ab h.bel lR hb,h.lt⟩
theorem DS{w:World}{b base k n:Nat}{cur:Array Value}{t e:TypeId}{s:Value}{xs:List Value}(hb:Ak w b cur t)(h:w.ownsRow base e k s n xs)(hne:e≠t):s.ownBlock≠some b:=fun q=>Bc h hb hne b q rfl
theorem PC.set{w u:World}{n X gp k x:Nat}{Vb Vo:Value}{O:List Nat}(h:PC w u n X gp Vb Vo O k)(hd:O.Nodup)(hx:O.reverse[k]?=some x):PD w (u.setCell ⟨gp,x,none⟩ (.int .i64 (k:Int))) n X gp Vb Vo O k:=by
 refine⟨h.blk.other (fun e=>DS h.blk h.place (by decide) (by rw[e];rfl)) _,?_,Bb h.order h.place (by decide) _ _,h.bel.setCell (Am h.place).1 _,h.lt⟩;have:=(h.place.stored x (.int .i64 (k:Int))).1;rw[O8 (JQ hd hx n)]at this;exact this
theorem PD.al{w u:World}{n X gp k:Nat}{Vb Vo:Value}{O:List Nat}(h:PD w u n X gp Vb Vo O k):u.ownsRow w.heap.size 2 1 Vo (O.reverse.take k).length (nv (O.reverse.take k))/\w.heap.size<=u.heap.size:=⟨h.order,h.bel.size⟩
theorem PD.app{w u u':World}{n X gp k x:Nat}{Vb Vo V':Value}{O:List Nat}(h:PD w u n X gp Vb Vo O k)(hx:O.reverse[k]?=some x)(hown:u'.ownsRow w.heap.size 2 1 V' ((O.reverse.take k).length+1) (nv (O.reverse.take k)++[.int .i64 (x:Int)]))(hg:u.grownBy u' Vo.ownBlock):Ak u' X #[.int .i64 0,.int .i64 0,Vb,Vo,.slice none 0 0,.slice none 0 0] 52/\PC w (u'.setCell ⟨X,3,none⟩ V') n X gp Vb V' O (k+1):=by
 have kb:=h.blk.grown hg h.order (by decide);have kp:u'.ownsRow w.heap.size 3 1 (.slice (some ⟨gp,0,none⟩) n n) n (iv (IE O (k+1)) n):=Bg h.place hg h.order (by decide);have hbel:Below w.heap.size w u':=h.bel.grown hg h.bel.size (fun i hi=>(h.order.lt i hi).1);refine⟨kb,?_,aP kp (a:=⟨X,3,none⟩) (DS kb kp (by decide)) _,?_,hbel.setCell h.lt _,h.lt⟩
 . have:=kb.set 3 V'
   simpa using this
 . obtain⟨hlt,e⟩:=aD.1 hx
   unfold DQ;rw[ah hlt,e,DC,aH,aI];exact aP hown (a:=⟨X,3,none⟩) (DS kb hown (by decide)) _
end Go.Proofs.YtdipfjmlfbdkdaaGreat
