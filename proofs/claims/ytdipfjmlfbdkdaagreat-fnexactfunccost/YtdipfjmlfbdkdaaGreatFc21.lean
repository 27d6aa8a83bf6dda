import Derived.Test.YtdipfjmlfbdkdaaGreatFc20
namespace Go.Proofs.YtdipfjmlfbdkdaaGreat
open Go.ChangeShapes Go.WideShapes Go.ChangeAt Go.RowKit
set_option linter.unusedVariables false
set_option maxHeartbeats 8000000
set_option maxRecDepth 100000
theorem Kr (gb ob cb n:Nat)(E:Nat->List Nat)(w:World)(hn:n<=1024)(h0:0<n)(hE:∀b,b<n->∀x∈E b,x<n)(hsz:∀b,(E b).length<=2)(h:D6 w gb ob n E)(hI:∀b,b<n->∃f l:Int,w.cell? ⟨gb,ob+b*3,none⟩=some (.int .i64 f)/\w.cell? ⟨gb,ob+b*3+1,none⟩=some (.int .i64 l)):
 Calls Tryz.prog 85 #[.slice (some ⟨gb,ob,none⟩) n cb] w fun e w'=>∃(G gN cN gF gO cO gP:Nat) (S O:List Nat),e=.returned (.pointer (some ⟨G,0,none⟩))/\GM w w' n G gN cN gF gO cO gP E S O:=by
 obtain⟨k0,hk,hx0,hx1,hx2⟩:=bQ BE;obtain⟨j0,hj,hy0,hy1,hy2⟩:=bQ OX;have H:Hid (D6 w gb ob n E/\(∀b,b<n->∀x∈E b,x<n)/\(∀b,(E b).length<=2)/\(∀b,b<n->∃f l:Int,w.cell? ⟨gb,ob+b*3,none⟩=some (.int .i64 f)/\w.cell? ⟨gb,ob+b*3+1,none⟩=some (.int .i64 l))):=⟨h,hE,hsz,hI⟩
 clear h hE hsz hI;go_enter Tryz.func85,Tryz.ntmps85;go_upto_region 2 with fail
 go_cut [4]from 13 (fun s wx=>∃G gF gP,s=.pointer (some ⟨G,0,none⟩)/\Hid (Re w wx n G gF gP))
 case first=>
  obtain⟨wA,eA,oA,gA⟩:=run_make_full (P:=Tryz.prog) w.drew w.heap.size 22 28 j0 (.slice none 0 0) 1 Tryz.underlying22 hj hy0 hy1 .i64 .i64 n (by rw[hy2];omega) (by unfold maxLen;omega) lR;obtain⟨wAB,eAB,oAB,gAB⟩:=run_make_full (P:=Tryz.prog) wA w.heap.size 28 2 k0 (.int .i64 0) 1 Tryz.underlying28 hk hx0 hx1 .i64 .i64 n (by rw[hx2];omega) (by unfold maxLen;omega) gA.size;obtain⟨wB,eB,oB,gB⟩:=run_make_full (P:=Tryz.prog) w.drew w.heap.size 28 2 k0 (.int .i64 0) 1 Tryz.underlying28 hk hx0 hx1 .i64 .i64 n (by rw[hx2];omega) (by unfold maxLen;omega) lR;obtain⟨wBA,eBA,oBA,gBA⟩:=run_make_full (P:=Tryz.prog) wB w.heap.size 22 28 j0 (.slice none 0 0) 1 Tryz.underlying22 hj hy0 hy1 .i64 .i64 n (by rw[hy2];omega) (by unfold maxLen;omega) gB.size;rw[JJ]at oA oBA;rw[NB]at oB oAB;have HA:Hid (wAB.ownsRow w.heap.size 28 1 (.slice (some ⟨w.heap.size,0,none⟩) n n) n (List.replicate n (.slice none 0 0))/\wAB.ownsRow w.heap.size 2 1 (.slice (some ⟨wA.heap.size,0,none⟩) n n) n (iv (fun _=>0) n)/\Below w.heap.size w wAB):=⟨Ag oA (Cr gAB) lR,oAB,Ab (Ab (Ae w) lR (Cr gA)) lR (Cr gAB)⟩
  have HB:Hid (wBA.ownsRow w.heap.size 28 1 (.slice (some ⟨wB.heap.size,0,none⟩) n n) n (List.replicate n (.slice none 0 0))/\wBA.ownsRow w.heap.size 2 1 (.slice (some ⟨w.heap.size,0,none⟩) n n) n (iv (fun _=>0) n)/\Below w.heap.size w wBA):=⟨oBA,Ag oB (Cr gBA) lR,Ab (Ab (Ae w) lR (Cr gB)) lR (Cr gBA)⟩
  clear oA oAB oB oBA gA gAB gB gBA;go_region
  . go_wp2
    go_meet
    case rel=>exact⟨_,_,_,rfl,Re.of HA.o.1 HA.o.2.1 HA.o.2.2⟩
  . go_wp2
    go_meet
    case rel=>exact⟨_,_,_,rfl,Re.of HB.o.1 HB.o.2.1 HB.o.2.2⟩
 case rest =>
  obtain⟨G,gF,gP,rfl,HG0⟩:=hcut;obtain⟨w2,hw2⟩:∃W,W=wc:=⟨_,rfl⟩;subst hw2;have HW:Hid (w.heap.size<=w2.heap.size):=HG0.o.bel.size
  have HN0:Hid (NG w w2 w2 n G gF (.slice (some ⟨gP,0,none⟩) n n) (.slice none 0 0) [] ((List.range n).map fun x=>((.slice none 0 0:Value),AV E 0 x))):=by
   refine⟨HG0.o.blk,bL _ _ _ _,?_,⟨fun x hx=> ?_,?_⟩,fun k _ _ _=>rfl,Nat.le_refl _,HG0.o.bel,⟨HG0.o.ge,HG0.o.blk.lt,?_⟩⟩
   . have:=HG0.o.frow
     rw[dh]
     have e:(List.range n).map (Prod.fst ∘ fun x=>((.slice none 0 0:Value),AV E 0 x))=List.replicate n (.slice none 0 0):=by
      apply cI;intro j;by_cases hj:j<n
      . simp[hj]
      . rw[aZ (by simp;omega),aZ (by simp;omega)]
     rw[e];exact this
   . simp only[au]at hx
     obtain⟨y,⟨z,_,rfl⟩,rfl⟩:=hx;have:ints (AV E 0 z)=[]:=by simp[AV,ints]
     simp only[this];exact bL _ _ _ _
   . rw[dh]
     refine dH.2 (dg.imp fun _=> ?_);intro g hg;cases hg
   . obtain⟨_,cur,h1⟩:=Am HG0.o.frow
     exact(aQ.1 h1).1
  have HPR:Hid (w2.ownsRow w.heap.size 2 1 (.slice (some ⟨gP,0,none⟩) n n) n (iv (fun _=>0) n)/\Below w.heap.size w w2/\gP≠G/\gP≠gF):=⟨HG0.o.prow,HG0.o.bel,fun e=>DS HG0.o.blk HG0.o.prow (by decide) (by rw[e];rfl),fun e=>Kx HG0.o.prow HG0.o.frow (by decide) e⟩
  clear HG0;go_wp2
  go_loopw [21] (fun i wr=>∃(b:Nat) (NV:Value) (NS:List Value) (FS:List (Value×List Nat)),b<=n/\i=.int .i64 b/\NS.length=b/\FS.length=n/\Hid (NG w w2 wr n G gF (.slice (some ⟨gP,0,none⟩) n n) NV NS FS/\(∀x,x<n->∃V,FS[x]?=some (V,AV E b x))/\(∀x,x<b->∃a c,NS[x]?=some (.slice a (E x).length c)/\DR w (.slice a (E x).length c) (E x)))) (fun i _=>n-(intOf i).toNat)
  case atStart=>exact⟨0,_,[],_,by omega,rfl,rfl,by simp,HN0.o,fun x hx=>⟨.slice none 0 0,by simp[hx]⟩,fun x hx=>by omega⟩
  case round =>
   clear HN0;obtain⟨b,NV,NS,FS,hb,rfl,hNS,hFS,HL⟩:=hrel;have HNS:Hid (NS.length=b):=hNS;have hNl:NS.length<=1024:=by omega
   clear hNS;by_cases hlt:b<n
   . have hltI:(b:Int)<(n:Int):=by omega
     obtain⟨a,ca,g0,g1⟩:=H.o.1 b hlt;obtain⟨ff,ll,i0,i1⟩:=H.o.2.2.2 b hlt;have HGB:Hid (DR w (.slice a (E b).length ca) (E b)):=g1;replace g0:=Ad HL.o.1.bel g0
     replace i0:=Ad HL.o.1.bel i0
     replace i1:=Ad HL.o.1.bel i1
     have hE2:=H.o.2.2.1 b;obtain⟨aN,cN,eN⟩:=Ax HL.o.1.nrow;subst eN;clear g1;go_upto_region 6 with fail
     refine Al (fun u=>Hid (NG w w2 u n G gF (.slice (some ⟨gP,0,none⟩) n n) (.slice aN NS.length cN) NS FS/\Ak u wr.heap.size #[.int .i64 ff,.int .i64 ll,.slice a (E b).length ca] 58)) ⟨HL.o.1.keep (Aa _ _),Ak.new _ _ _⟩ ?_
     intro U HU;obtain⟨tb,htb⟩:∃tb,tb=wr.heap.size:=⟨_,rfl⟩;rw[<-htb]at HU⊢;have hmx:NS.length+1<=maxLen:=by unfold maxLen;omega
     have hby:(NS.length+1)*24<=140737488355328:=by omega
     clear htb g0 i0 i1;have bD:=Ae U;have bE:Below U.heap.size U (U.alloc (.cells #[.slice a (E b).length ca] 28)).drew:=Ab (Aa _ _) lR (Ae _);have x0:U.drew.cell? ⟨G,0,none⟩=some (.slice aN NS.length cN):=(HU.o.1.blk.keep bD).cell 0;have x1:(U.alloc (.cells #[.slice a (E b).length ca] 28)).drew.cell? ⟨G,0,none⟩=some (.slice aN NS.length cN):=(HU.o.1.blk.keep bE).cell 0;have x2:U.drew.cell? ⟨tb,2,none⟩=some (.slice a (E b).length ca):=(HU.o.2.keep bD).cell 2;have HUE:Hid (NG w w2 (U.alloc (.cells #[.slice a (E b).length ca] 28)).drew n G gF (.slice (some ⟨gP,0,none⟩) n n) (.slice aN NS.length cN) NS FS/\Ak (U.alloc (.cells #[.slice a (E b).length ca] 28)).drew tb #[.int .i64 ff,.int .i64 ll,.slice a (E b).length ca] 58):=⟨HU.o.1.keep bE,HU.o.2.keep bE⟩
     have HOC:Hid (∀j u,[(.slice a (E b).length ca:Value)][j]?=some u->(U.alloc (.cells #[.slice a (E b).length ca] 28)).drew.cell? ((⟨U.heap.size,0,none⟩:Addr).add j)=some u):=fun j u hj=>by
      rw[Ej,bt];have:=(Ak.new U #[.slice a (E b).length ca] 28).cell j;exact this.trans (by simpa using hj)
     have hne1:∀u∈[(.slice a (E b).length ca:Value)],u.oneCell'=true:=fun u hu=>by simp at hu;subst hu;rfl
     have HAP:Hid (∀g5 cap5 w5,w5.ownsRow w2.heap.size 28 1 (.slice (some ⟨g5,0,none⟩) (NS.length+1) cap5) (NS.length+1) (NS++[.slice a (E b).length ca])->(U.alloc (.cells #[.slice a (E b).length ca] 28)).drew.grownBy w5 (Value.slice aN NS.length cN).ownBlock->Ak w5 G #[.slice aN NS.length cN,.slice (some ⟨gF,0,none⟩) n n,.slice none 0 0,.slice (some ⟨gP,0,none⟩) n n,.slice none 0 0] 161/\NG w w2 (w5.setCell ⟨G,0,none⟩ (.slice (some ⟨g5,0,none⟩) (NS.length+1) cap5)) n G gF (.slice (some ⟨gP,0,none⟩) n n) (.slice (some ⟨g5,0,none⟩) (NS.length+1) cap5) (NS++[.slice a (E b).length ca]) FS/\Ak (w5.setCell ⟨G,0,none⟩ (.slice (some ⟨g5,0,none⟩) (NS.length+1) cap5)) tb #[.int .i64 ff,.int .i64 ll,.slice a (E b).length ca] 58):=fun g5 cap5 w5 hown hgrow=>by
      obtain⟨q1,q2⟩:=HUE.o.1.next HW.o hown hgrow;have k5:=HUE.o.2.grown hgrow HUE.o.1.nrow (by decide);refine⟨q1,q2,k5.other (fun e=> ?_) _⟩;simp only[]at e;unfold Ak at k5 q1;rw[e,q1]at k5;simp only[aR,dD]at k5;exact absurd k5.2.1 (by decide)
     clear bD bE;go_cut [34]from 26 to 36 (fun s wx=>∃g5 cap5,Hid (NG w w2 wx n G gF (.slice (some ⟨gP,0,none⟩) n n) (.slice (some ⟨g5,0,none⟩) (NS.length+1) cap5) (NS++[.slice a (E b).length ca]) FS/\Ak wx tb #[.int .i64 ff,.int .i64 ll,.slice a (E b).length ca] 58))
     case first=>
      go_region_law (first
       |(refine step_append_lies _ rfl (.tmp 30) (.tmp 33) 22 rfl w2.heap.size 28 j0 (.slice none 0 0) 1 24 Tryz.underlying22 hj hy0 hy1 hy2 rfl (by decide) (.slice aN NS.length cN) NS.length NS (by simp[Act.eval]) HUE.o.1.nrow ⟨U.heap.size,0,none⟩ 1 1 [.slice a (E b).length ca] (by simp[Act.eval]) rfl HOC.o hne1 Nat.one_pos hmx hby HUE.o.1.size _ rfl ?_;intro g5 cap5 w5 hown hgrow hat hlt9;obtain⟨kb5,l5,m5⟩:=HAP.o g5 cap5 w5 hown hgrow;have HU5:Hid (NG w w2 (w5.setCell ⟨G,0,none⟩ (.slice (some ⟨g5,0,none⟩) (NS.length+1) cap5)) n G gF (.slice (some ⟨gP,0,none⟩) n n) (.slice (some ⟨g5,0,none⟩) (NS.length+1) cap5) (NS++[.slice a (E b).length ca]) FS/\Ak (w5.setCell ⟨G,0,none⟩ (.slice (some ⟨g5,0,none⟩) (NS.length+1) cap5)) tb #[.int .i64 ff,.int .i64 ll,.slice a (E b).length ca] 58):=⟨l5,m5⟩;have t5:w5.cell? ⟨G,0,none⟩=some (.slice aN NS.length cN):=kb5.cell 0;have z5:=kb5.frozen 0;clear hown hgrow hat hlt9 kb5 l5 m5))
      all_goals
       go_wp2
       go_meet
       case rel=>exact⟨g5,cap5,HU5⟩
     case rest=>
      obtain⟨g5,cap5,HU5⟩:=hcut;clear x0 x1 x2 HUE HOC HAP HU;have t2:wc.cell? ⟨tb,2,none⟩=some (.slice a (E b).length ca):=HU5.o.2.cell 2;go_wp2
      go_loopw [40] (fun i wr=>∃(k:Nat) (FS:List (Value×List Nat)),k<=(E b).length/\i=.int .i64 k/\FS.length=n/\Hid (NG w w2 wr n G gF (.slice (some ⟨gP,0,none⟩) n n) (.slice (some ⟨g5,0,none⟩) (NS.length+1) cap5) (NS++[.slice a (E b).length ca]) FS/\(∀x,x<n->∃V,FS[x]?=some (V,AV E b x++De E b k x)))) (fun i _=>(E b).length-(intOf i).toNat)
      case atStart=>exact⟨0,FS,by omega,rfl,hFS,HU5.o.1,fun x hx=>by obtain⟨V,hV⟩:=HL.o.2.1 x hx;exact⟨V,by rw[Ms,dR];exact hV⟩⟩
      case round=>
       clear HU5 t2;obtain⟨k,FT,hk',rfl,hFT,HM⟩:=hrel;by_cases hlt2:k<(E b).length
       . have hlt2I:(k:Int)<((E b).length:Int):=by omega
         obtain⟨y,hy⟩:∃y,(E b)[k]?=some y:=⟨_,aA hlt2⟩;have hyn:y<n:=H.o.2.1 b hlt y (aE hy);have hynI:(y:Int)<(n:Int):=by omega
         have HY:Hid ((E b)[k]?=some y):=hy;obtain⟨ga,oa,rfl,_,y0⟩:=HGB.o.at_ hy;have HY0:Hid (w.cell? ⟨ga,oa+k,none⟩=some (.int .i64 (y:Int))):=y0;replace y0:=Ad HM.o.1.bel y0
         obtain⟨V,hV⟩:=HM.o.2 y hyn;obtain⟨aV,cV,eV⟩:=Ax (HM.o.1.fam.own (V,ints (AV E b y++De E b k y)) (au.2 ⟨(V,_),aE hV,rfl⟩));simp only[AA]at eV;subst eV
         have hll:(AV E b y++De E b k y).length<=4096:=by
          have h1:=GA H.o.2.2.1 b y;have h2:=JD E b k y;rw[aH];omega
         generalize hLV:AV E b y++De E b k y=lv at hV hll;have HLV:Hid (AV E b y++De E b k y=lv/\FT[y]?=some (.slice aV lv.length cV,lv)):=⟨hLV,hV⟩
         clear hy hV hLV;go_upto_region 10 with fail
         have HM1:Hid (NG w w2 wr n G gF (.slice (some ⟨gP,0,none⟩) n n) (.slice (some ⟨g5,0,none⟩) (NS.length+1) cap5) (NS++[.slice (some ⟨ga,oa,none⟩) (E b).length ca]) FT):=HM.o.1;refine Al (fun u=>Hid (NG w w2 u n G gF (.slice (some ⟨gP,0,none⟩) n n) (.slice (some ⟨g5,0,none⟩) (NS.length+1) cap5) (NS++[.slice (some ⟨ga,oa,none⟩) (E b).length ca]) FT)) HM1 ?_;intro U HU;clear y0 HM1;have hmx2:lv.length+1<=maxLen:=by unfold maxLen;omega
         have hby2:(lv.length+1)*8<=140737488355328:=by omega
         have bD:=Ae U;have bE:Below U.heap.size U (U.alloc (.cells #[.int .i64 (b:Int)] 2)).drew:=Ab (Aa _ _) lR (Ae _);have x0:U.drew.cell? ⟨G,1,none⟩=some (.slice (some ⟨gF,0,none⟩) n n):=(HU.o.blk.keep bD).cell 1;have x1:(U.alloc (.cells #[.int .i64 (b:Int)] 2)).drew.cell? ⟨G,1,none⟩=some (.slice (some ⟨gF,0,none⟩) n n):=(HU.o.blk.keep bE).cell 1
         have HFC:Hid (∀(u':World),u'.ownsRow w.heap.size 28 1 (.slice (some ⟨gF,0,none⟩) n n) n (FT.map Prod.fst)->u'.cell? ⟨gF,y,none⟩=some (.slice aV lv.length cV)):=fun u' hu'=>by
          have:=hu'.cellAt y (by omega);rw[bB,HLV.o.2]at this;exact this
         have x2:=HFC.o _ (HU.o.keep bD).frow;have x3:=HFC.o _ (HU.o.keep bE).frow;have HUE:Hid (NG w w2 (U.alloc (.cells #[.int .i64 (b:Int)] 2)).drew n G gF (.slice (some ⟨gP,0,none⟩) n n) (.slice (some ⟨g5,0,none⟩) (NS.length+1) cap5) (NS++[.slice (some ⟨ga,oa,none⟩) (E b).length ca]) FT):=HU.o.keep bE
         have HOW:Hid ((U.alloc (.cells #[.int .i64 (b:Int)] 2)).drew.ownsRow w2.heap.size 2 1 (.slice aV lv.length cV) lv.length (nv lv)):=by
          have:=HUE.o.fam.own (.slice aV lv.length cV,ints lv) (au.2 ⟨(_,lv),aE HLV.o.2,rfl⟩);rw[AA,<-Ck]at this;exact this
         have HOC:Hid (∀j u,[(.int .i64 (b:Int):Value)][j]?=some u->(U.alloc (.cells #[.int .i64 (b:Int)] 2)).drew.cell? ((⟨U.heap.size,0,none⟩:Addr).add j)=some u):=A5 U (b:Int);have hne2:∀u∈[(.int .i64 (b:Int):Value)],u.oneCell'=true:=fun u hu=>by simp at hu;subst hu;rfl
         have HAP:Hid (∀g6 cap6 w6,w6.ownsRow w2.heap.size 2 1 (.slice (some ⟨g6,0,none⟩) (lv.length+1) cap6) (lv.length+1) (nv lv++[.int .i64 (b:Int)])->(U.alloc (.cells #[.int .i64 (b:Int)] 2)).drew.grownBy w6 (Value.slice aV lv.length cV).ownBlock->((Value.slice aV lv.length cV).ownBlock=some g6\/g6=(U.alloc (.cells #[.int .i64 (b:Int)] 2)).drew.heap.size)->w6.cell? ⟨G,1,none⟩=some (.slice (some ⟨gF,0,none⟩) n n)/\w6.cell? ⟨gF,y,none⟩=some (.slice aV lv.length cV)/\w6.frozen? ⟨gF,y,none⟩=false/\NG w w2 (w6.setCell ⟨gF,y,none⟩ (.slice (some ⟨g6,0,none⟩) (lv.length+1) cap6)) n G gF (.slice (some ⟨gP,0,none⟩) n n) (.slice (some ⟨g5,0,none⟩) (NS.length+1) cap5) (NS++[.slice (some ⟨ga,oa,none⟩) (E b).length ca]) (FT.set y (.slice (some ⟨g6,0,none⟩) (lv.length+1) cap6,lv++[b]))):=fun g6 cap6 w6 hown hgrow hat=>by
          obtain⟨q1,q2⟩:=HUE.o.app HW.o HLV.o.2 hown hgrow hat;exact⟨(HUE.o.blk.grown hgrow HOW.o (by decide)).cell 1,HFC.o _ q1,q1.frozenAt y,q2⟩
         clear bD bE;go_wp2_with fail
         go_region_law (first
          |(refine step_append_lies _ rfl (.tmp 55) (.tmp 57) 28 rfl w2.heap.size 2 k0 (.int .i64 0) 1 8 Tryz.underlying28 hk hx0 hx1 hx2 rfl (by decide) (.slice aV lv.length cV) lv.length (nv lv) (by simp[Act.eval]) HOW.o ⟨U.heap.size,0,none⟩ 1 1 [.int .i64 (b:Int)] (by simp[Act.eval]) rfl HOC.o hne2 Nat.one_pos hmx2 hby2 HUE.o.size _ rfl ?_;intro g6 cap6 w6 hown hgrow hat hlt9;obtain⟨t6,t7,z6,l6⟩:=HAP.o g6 cap6 w6 hown hgrow hat;have HU6:Hid (NG w w2 (w6.setCell ⟨gF,y,none⟩ (.slice (some ⟨g6,0,none⟩) (lv.length+1) cap6)) n G gF (.slice (some ⟨gP,0,none⟩) n n) (.slice (some ⟨g5,0,none⟩) (NS.length+1) cap5) (NS++[.slice (some ⟨ga,oa,none⟩) (E b).length ca]) (FT.set y (.slice (some ⟨g6,0,none⟩) (lv.length+1) cap6,lv++[b]))):=l6;clear hown hgrow hat hlt9 l6))
         all_goals
          have HNF:Hid (∀x,x<n->∃V,(FT.set y (.slice (some ⟨g6,0,none⟩) (lv.length+1) cap6,lv++[b]))[x]?=some (V,AV E b x++De E b (k+1) x)):=fun x hx=>by
           rw[Mr HY.o x];by_cases e:x=y
           . subst e
             refine⟨.slice (some ⟨g6,0,none⟩) (lv.length+1) cap6,?_⟩;rw[a8 rfl,<-dM,HLV.o.1,dK (by omega)]
           . rw[bF e,dC (Ne.symm e)]
             exact HM.o.2 x hx
          clear x0 x1 x2 x3 HUE HOW HOC HAP HU HFC;go_wp2
          go_roundw
          case rel=>exact⟨k+1,FT.set y (.slice (some ⟨g6,0,none⟩) (lv.length+1) cap6,lv++[b]),by omega,by go_num,by rw[dZ];exact hFT,HU6.o,HNF.o⟩
          case measure=>simp[intOf];omega
       . obtain rfl:k=(E b).length:=by omega
         have HNN:Hid ((∀x,x<n->∃V,FT[x]?=some (V,AV E (b+1) x))/\(∀x,x<b+1->∃a' c,(NS++[.slice a (E b).length ca])[x]?=some (.slice a' (E x).length c)/\DR w (.slice a' (E x).length c) (E x))):=by
          refine⟨fun x hx=>by rw[Ij];exact HM.o.2 x hx,fun x hx=> ?_⟩;by_cases e:x<b
          . obtain⟨a',c',q1,q2⟩:=HL.o.2.2 x e
            exact⟨a',c',by rw[bG (by rw[HNS.o];exact e)];exact q1,q2⟩
          . have:x=b:=by omega
            subst this;refine⟨a,ca,?_,HGB.o⟩;rw[aW (by rw[HNS.o];exact Nat.le_refl _),HNS.o,cg];rfl
         go_wp2
         go_roundw
         case rel=>exact⟨b+1,_,NS++[.slice a (E b).length ca],FT,by omega,by go_num,by rw[aH,aI,HNS.o],hFT,HM.o.1,HNN.o.1,HNN.o.2⟩
         case measure=>simp[intOf];omega
   . have ebn:b=n:=by omega
     have hltI:¬(b:Int)<(n:Int):=by omega
     rw[ebn]at HL HNS;go_upto_region 13 with fail
     obtain⟨u3,hu3⟩:∃W,W=wr:=⟨_,rfl⟩;subst hu3
     obtain⟨gN,cN,eN⟩:∃g c,NV=.slice (some ⟨g,0,none⟩) n c:=by
      rcases Bv HL.o.1.nrow with⟨_,q⟩|⟨g,c,q⟩
      . rw[HNS.o]at q
        omega
      . rw[HNS.o]at q
        exact⟨g,c,q⟩
     subst eN;have HE3:Hid (CK u3 gN 0 n E/\CK u3 gF 0 n (AV E n)/\(gN≠G/\gF≠G/\gP≠G/\gN≠gP/\gF≠gP)/\(∀b a m c,b<n->u3.cell? ⟨gN,b,none⟩=some (.slice (some a) m c)->0<m->a.block≠G/\a.block≠gP)/\(∀b a m c,b<n->u3.cell? ⟨gF,b,none⟩=some (.slice (some a) m c)->a.block≠G/\a.block≠gP)):=Pi HL.o.1 HNS.o hFS HL.o.2.1 HL.o.2.2 HPR.o.1 HPR.o.2.2.1 HPR.o.2.2.2
     have HP3:Hid (Ak u3 G #[.slice (some ⟨gN,0,none⟩) n cN,.slice (some ⟨gF,0,none⟩) n n,.slice none 0 0,.slice (some ⟨gP,0,none⟩) n n,.slice none 0 0] 161/\u3.ownsRow w.heap.size 2 1 (.slice (some ⟨gP,0,none⟩) n n) n (iv (fun _=>0) n)/\Below w.heap.size w u3/\w.heap.size<=G/\gP<u3.heap.size):=by
      have hp:u3.ownsRow w.heap.size 2 1 (.slice (some ⟨gP,0,none⟩) n n) n (iv (fun _=>0) n):=by
       have h0:=HPR.o.1;refine⟨h0.1,h0.2.imp id ?_⟩;rintro⟨g',c',cur,e1,e2,e3,e4⟩;refine⟨g',c',cur,e1,e2,?_,e4⟩;cases e1
       rw[HL.o.1.fx gP (aQ.1 e3).1 HPR.o.2.2.1 HPR.o.2.2.2];exact e3
      refine⟨HL.o.1.blk,hp,HL.o.1.bel,HL.o.1.lt.1,?_⟩;obtain⟨_,cur,h1⟩:=Am hp;exact(aQ.1 h1).1
     clear HL HPR HNS hNl;have bA:=Aa u3 (.cells #[.int .i64 0] 2);have x0:u3.cell? ⟨G,0,none⟩=some (.slice (some ⟨gN,0,none⟩) n cN):=HP3.o.1.cell 0;have x1:(u3.alloc (.cells #[.int .i64 0] 2)).cell? ⟨G,0,none⟩=some (.slice (some ⟨gN,0,none⟩) n cN):=(HP3.o.1.keep bA).cell 0
     have HS0:Hid (DR (u3.alloc (.cells #[.int .i64 0] 2)) (.slice (some ⟨u3.heap.size,0,none⟩) 1 1) [0]):=by
      refine⟨rfl,.inr ⟨u3.heap.size,0,1,rfl,fun j v hj=> ?_⟩⟩;rw[bt,(Ak.new u3 #[.int .i64 0] 2).cell j];simpa[nv]using hj
     go_wp2_with fail
     refine(Fy gN 0 cN n E _ [0] _ [] _ hn H.o.2.1 (fun b=>by have:=H.o.2.2.1 b;omega) (HE3.o.1.keep bA) (fun x hx=>by simp at hx;omega) (by simp) HS0.o (.inl ⟨rfl,rfl⟩)).mono ?_;rintro e u5 ⟨V,S,O,rfl,hvs,hoO,b5⟩;obtain⟨N,tN⟩:=hvs.told;have hON:O=N:=by simpa using tN.o
     subst hON
     have h0O:0∈O:=by
      have:=tN.todo 0 (by simp);rcases(tN.seen 0).1 this with q|q
      . cases q
      . exact q
     have hOl:O.length<=n:=by
      have:=Eb O n (fun x hx=>by
       obtain⟨q,q1,q2⟩:=tN.from_ x hx;have:q=0:=by simpa using q1
       subst this;exact q2.lt H.o.2.1 h0) tN.nodup
      omega
     have hO1:0<O.length:=dQ.2 (fun q=>by rw[q]at h0O;cases h0O)
     have HON:Hid (O.Nodup/\(∀x∈O,x<n)/\Vs E [] [] [0] S O):=⟨tN.nodup,fun x hx=>by
      obtain⟨q,q1,q2⟩:=tN.from_ x hx;have:q=0:=by simpa using q1
      subst this;exact q2.lt H.o.2.1 h0,hvs⟩
     obtain⟨gO,cO,eO⟩:∃g c,V=.slice (some ⟨g,0,none⟩) O.length c:=by
      rcases Bv hoO with⟨_,q⟩|⟨g,c,q⟩
      . omega
      . exact⟨g,c,q⟩
     subst eO;have hb35:Below u3.heap.size u3 u5:=Ab bA lR b5;have HO5:Hid (DQ u5 u3.heap.size (.slice (some ⟨gO,0,none⟩) O.length cO) O/\Below u3.heap.size u3 u5):=⟨AF hoO bA.size,hb35⟩
     have kG:=HP3.o.1.keep hb35;have d2:u5.cell? ⟨G,2,none⟩=some (.slice none 0 0):=kG.cell 2;have z2:=kG.frozen 2;clear tN hvs hoO b5 bA x0 x1 HS0 hb35 kG h0O;go_upto_region 14 with fail
     have hgO:=(Am HO5.o.1).1
     have HU6:Hid (QD w u3 (u5.setCell ⟨G,2,none⟩ (.slice (some ⟨gO,0,none⟩) O.length cO)) n G gN cN gF gO cO gP O):=by
      have hG3:=HP3.o.1.lt;refine⟨?_,aP HO5.o.1 (a:=⟨G,2,none⟩) (by simp[Value.ownBlock];omega) _,?_,fun k hk h1 h2=> ?_,?_,?_⟩
      . have:=(HP3.o.1.keep HO5.o.2).set 2 (.slice (some ⟨gO,0,none⟩) O.length cO)
        simpa using this
      . exact aP (Ag HP3.o.2.1 HO5.o.2 lR) (a:=⟨G,2,none⟩) (by simp[Value.ownBlock];exact HE3.o.2.2.1.2.2.1) _
      . rw[bi u5 _ k _ h1]
        exact HO5.o.2.block k hk
      . rw[cM]
        exact HO5.o.2.size
      . exact(Ab HP3.o.2.2.1 lR HO5.o.2).setCell HP3.o.2.2.2.1 _
     refine Al (fun u=>Hid (QD w u3 u n G gN cN gF gO cO gP O)) HU6 ?_;intro U6 HU6';clear HU6 d2 z2 HO5;have o2:U6.cell? ⟨G,2,none⟩=some (.slice (some ⟨gO,0,none⟩) O.length cO):=HU6'.o.blk.cell 2;go_wp2_with fail
     refine(LG gO cO u3.heap.size O U6 (by omega) HU6'.o.ord).mono ?_;rintro e u7 ⟨rfl,ho7,g7⟩;have HU7:Hid (QD w u3 u7 n G gN cN gF gO cO gP O.reverse/\O.reverse.length=O.length):=⟨HU6'.o.rev hgO HP3.o.1.lt HP3.o.2.2.2.2 HP3.o.2.2.1.size ho7 g7,bV⟩
     clear ho7 g7 HU6' o2
     have HR:Hid (∀k x:Nat,O.reverse[k]?=some x->u7.cell? ⟨gO,k,none⟩=some (.int .i64 (x:Int))):=fun k x hx=>by
      obtain⟨_,_,ee,_,q⟩:=HU7.o.1.ord.rd.at_ hx;simp only[aR,cR,cw]at ee;obtain⟨rfl,rfl⟩:=ee;rw[bt]at q;exact q
     have o2:u7.cell? ⟨G,2,none⟩=some (.slice (some ⟨gO,0,none⟩) O.length cO):=by
      have:=HU7.o.1.blk.cell 2;rw[HU7.o.2]at this;exact this
     have hPO:gO≠gP:=by have:=HP3.o.2.2.2.2;omega
     have HNP:Hid (PJ w u7 u7 n gP O 0):=⟨by rw[JR];exact HU7.o.1.prow,fun _ _ _=>rfl,HU7.o.1.bel⟩;go_wp2;go_loopw [81] (fun i wr=>∃k:Nat,k<=O.length/\i=.int .i64 k/\Hid (PJ w u7 wr n gP O k)) (fun i _=>O.length-(intOf i).toNat)
     case atStart=>exact⟨0,by omega,rfl,HNP⟩
     case round=>
      clear HNP o2;obtain⟨k,hk',rfl,HM⟩:=hrel;by_cases hlt3:k<O.length
      . have hlt3I:(k:Int)<(O.length:Int):=by omega
        obtain⟨x,hx⟩:∃x,O.reverse[k]?=some x:=⟨_,aA (by rw[bV];exact hlt3)⟩;have hxn:x<n:=HON.o.2.1 x (cW.1 (aE hx));have hxnI:(x:Int)<(n:Int):=by omega
        have y0:=HM.o.cell (HR.o k x hx) hPO;have p3:wr.cell? ⟨G,3,none⟩=some (.slice (some ⟨gP,0,none⟩) n n):=HM.o.cell (HU7.o.1.blk.cell 3) (Ne.symm HE3.o.2.2.1.2.2.1);have c3:=HM.o.row.cellAt x (by omega);rw[JG _ _ _ hxn]at c3;have z3:=HM.o.row.frozenAt x;have HN3:Hid (PJ w u7 (wr.setCell ⟨gP,x,none⟩ (.int .i64 (k:Int))) n gP O (k+1)):=HM.o.set HON.o.1 hx;clear hx;go_wp2
        go_roundw
        case rel=>exact⟨k+1,by omega,by go_num,HN3⟩
        case measure=>simp[intOf];omega
      . obtain rfl:k=O.length:=by omega
        have HGM:Hid (GM w wr n G gN cN gF gO cO gP E S O):=QN HU7.o.1 HM.o HON.o.2.2 HON.o.2.1 HP3.o.2.2.2.1 HP3.o.1.lt HP3.o.2.2.2.2 HP3.o.2.2.1.size HE3.o.1 HE3.o.2.1 HE3.o.2.2.1 HE3.o.2.2.2.1 HE3.o.2.2.2.2;go_wp2
        go_ret
        exact⟨G,gN,cN,gF,gO,cO,gP,S,O,rfl,HGM.o⟩
end Go.Proofs.YtdipfjmlfbdkdaaGreat
