import Derived.Test.YtdipfjmlfbdkdaaGreatFc18
namespace Go.Proofs.YtdipfjmlfbdkdaaGreat
open Go.ChangeShapes Go.WideShapes Go.ChangeAt Go.RowKit
set_option linter.unusedVariables false
set_option maxHeartbeats 8000000
set_option maxRecDepth 100000
structure Ey(w:World)(vb vo vi vl:Value)(r:Dm):Prop where
 blocks:FR w vb r.blocks
 order:Rd w 1 vo r.order.length (r.order.flatMap Ac)
 idom:Rd w 1 vi r.idom.length (r.idom.flatMap Ac)
 loops:I6 w vl r.loops
theorem Ey.none(w:World)(c a:Int):Ey w (.slice none 0 0) (.slice none 0 0) (.slice none 0 0) (.slice none 0 0) (Dc c a):=⟨⟨[],rfl,⟨rfl,.inl ⟨rfl,_,_,rfl⟩⟩,fun y hy=>by cases hy⟩,⟨rfl,.inl ⟨rfl,_,_,rfl⟩⟩,⟨rfl,.inl ⟨rfl,_,_,rfl⟩⟩,I6.nil w⟩
def KK:Array Value:=#[.int .i64 0,.int .i64 0,.slice none 0 0,.slice none 0 0,.slice none 0 0,.slice none 0 0]
theorem Hp.keep{w w':World}{base:Nat}{V:Value}{bs:List MB}(h:Hp w base V bs)(hb:Below w.heap.size w w'):Hp w' base V bs:=by
 obtain⟨D,h1,h2,h3⟩:=h;exact⟨D,h1,Ag h2 hb lR,fun x hx=>Ag (h3 x hx) hb lR⟩
def six(U:World)(b:Nat)(x0 x1 x2 x3 x4 x5:Value):World:=(((((U.setCell ⟨b,0,none⟩ x0).setCell ⟨b,1,none⟩ x1).setCell ⟨b,2,none⟩ x2).setCell ⟨b,3,none⟩ x3).setCell ⟨b,4,none⟩ x4).setCell ⟨b,5,none⟩ x5
theorem Qf{U:World}{b:Nat}{t:TypeId}{y0 y1 y2 y3 y4 y5:Value}(h:Ak U b #[y0,y1,y2,y3,y4,y5] t)(x0 x1 x2 x3 x4 x5:Value):Ak (six U b x0 x1 x2 x3 x4 x5) b #[x0,x1,x2,x3,x4,x5] t:=by
 have:=(((((h.set 0 x0).set 1 x1).set 2 x2).set 3 x3).set 4 x4).set 5 x5;simpa[six]using this
theorem BU{U:World}{b:Nat}{t:TypeId}{y0 y1 y2 y3 y4 y5:Value}(h:Ak U b #[y0,y1,y2,y3,y4,y5] t)(x0 x1 x2 x3 x4 x5:Value):(six U b x0 x1 x2 x3 x4 x5).cell? ⟨b,0,none⟩=some x0/\(six U b x0 x1 x2 x3 x4 x5).cell? ⟨b,1,none⟩=some x1/\(six U b x0 x1 x2 x3 x4 x5).cell? ⟨b,2,none⟩=some x2/\(six U b x0 x1 x2 x3 x4 x5).cell? ⟨b,3,none⟩=some x3/\(six U b x0 x1 x2 x3 x4 x5).cell? ⟨b,4,none⟩=some x4/\(six U b x0 x1 x2 x3 x4 x5).cell? ⟨b,5,none⟩=some x5:=by
 have k:=Qf h x0 x1 x2 x3 x4 x5;exact⟨k.cell 0,k.cell 1,k.cell 2,k.cell 3,k.cell 4,k.cell 5⟩
theorem BT{w U:World}{B b:Nat}(h:Below B w U)(hb:B<=b)(x0 x1 x2 x3 x4 x5:Value):Below B w (six U b x0 x1 x2 x3 x4 x5):=(((((h.setCell hb _).setCell hb _).setCell hb _).setCell hb _).setCell hb _).setCell hb _
theorem Hk{U:World}{base b k n:Nat}{e:TypeId}{s:Value}{ys:List Value}(h:U.ownsRow base e k s n ys)(hne:s.ownBlock≠some b)(x0 x1 x2 x3 x4 x5:Value):(six U b x0 x1 x2 x3 x4 x5).ownsRow base e k s n ys:=aP (aP (aP (aP (aP (aP h (a:=⟨b,0,none⟩) hne _) (a:=⟨b,1,none⟩) hne _) (a:=⟨b,2,none⟩) hne _) (a:=⟨b,3,none⟩) hne _) (a:=⟨b,4,none⟩) hne _) (a:=⟨b,5,none⟩) hne _
theorem Fg{U:World}{base b k n:Nat}{e:TypeId}{s:Value}{ys:List Value}(h:U.ownsRow base e k s n ys)(hb:b<base)(x0 x1 x2 x3 x4 x5:Value):Rd (six U b x0 x1 x2 x3 x4 x5) k s n ys:=Rd.of_own (Hk h (fun q=>by have:=(h.lt b q).1;omega) x0 x1 x2 x3 x4 x5)
theorem MZ{U:World}{base b k n:Nat}{e:TypeId}{s:Value}{ys:List Value}(h:U.ownsRow base e k s n ys)(hb:b<base):s.ownBlock≠some b:=fun q=>by
 have:=(h.lt b q).1;omega
theorem Ak.keepB{w w':World}{B b:Nat}{cur:Array Value}{t:TypeId}(h:Ak w b cur t)(hb:Below B w w')(hlt:b<B):Ak w' b cur t:=by
 unfold Ak at*;rw[hb.block b hlt];exact h
theorem JC{xs:List MI}{n:Nat}{E:Nat->List Nat}{x:MI}{S O:List Nat}{D Lf:Nat->Nat->Bool}{I:Nat->Int}(e1:n=(Ao xs).length)(e2:E=nx (Ao xs))(hg:Aw xs)(hx:xs[xs.length-1]?=some x)(hon:DX x=false)(hv:Vs E [] [] [0] S O)(hs:∀c,c<n->c∈S)(hD:∀d b,D d b=true↔Ca E d b)(hb:∀b,b<n->∀t∈E b,¬IX O D b t)(hI:∀b,b<n->(b=0/\I b=-1)\/b≠0/\∃c:Nat,c<n/\I b=(c:Int)/\DO E b c)(hL:∀h y,Lf h y=true↔Ar E D n h y):AR xs ⟨0,0,Ao xs,ints O.reverse,(List.range n).map I,AZ E D Lf n n⟩:=by
 subst e1 e2;exact AR.good hg hx hon hv hs hD hb hI hL
theorem Pp{w u3 u6 wr:World}{n gb ob cb gp cV ci cl:Nat}{aV ai al:Option Addr}{O:List Nat}{bs:List MB}{Is:List Int}{ls:List ML}{ys:List (ML×Value×Value)}(hob:Hp u3 (w.heap.size+1) (.slice (some ⟨gb,ob,none⟩) n cb) bs)(hbx:Below u3.heap.size u3 wr)(h6:PC u3 u6 n u3.heap.size gp (.slice (some ⟨gb,ob,none⟩) n cb) (.slice aV n cV) O n)(hl:PF u6 wr u3.heap.size (.slice (some ⟨gb,ob,none⟩) n cb) (.slice aV n cV) (.slice ai n ci) Is (.slice al ys.length cl) ys)(hys:ys.map Prod.fst=ls)(hl3:w.heap.size<u3.heap.size)(hsz6:u3.heap.size<u6.heap.size)(hO:O.reverse.length<=n):Ey (six wr w.heap.size (.int .i64 0) (.int .i64 0) (.slice (some ⟨gb,ob,none⟩) n cb) (.slice aV n cV) (.slice ai n ci) (.slice al ys.length cl)) (.slice (some ⟨gb,ob,none⟩) n cb) (.slice aV n cV) (.slice ai n ci) (.slice al ys.length cl) ⟨0,0,bs,ints O.reverse,Is,ls⟩:=by
 generalize hS:(Value.int .i64 0)=v0;generalize (Value.slice (some ⟨gb,ob,none⟩) n cb)=vb at hob h6 hl⊢;have h1:=h6.order.fx hl.fx (h6.order.ne_blk h6.blk (by decide));have hr:=Fg h1 hl3 v0 v0 vb (.slice aV n cV) (.slice ai n ci) (.slice al ys.length cl);rw[an hO,Ck,<-AA]at hr;have h2:=Fg (hl.fam.own _ (bR ..)) (Nat.lt_trans hl3 hsz6) v0 v0 vb (.slice aV n cV) (.slice ai n ci) (.slice al ys.length cl);have h3:=Fg hl.lps (Nat.lt_trans hl3 hsz6) v0 v0 vb (.slice aV n cV) (.slice ai n ci) (.slice al ys.length cl);have h4:∀r∈Df ys,Rd (six wr w.heap.size v0 v0 vb (.slice aV n cV) (.slice ai n ci) (.slice al ys.length cl)) 1 r.1 r.2.length (r.2.flatMap Ac):=fun r hr=>Fg (hl.fam.own _ (bK _ hr)) (Nat.lt_trans hl3 hsz6) v0 v0 vb _ _ _
 obtain⟨D',k1,k2,k3⟩:=hob.keep hbx;have h5:=Fg k2 (d9 _) v0 v0 vb (.slice aV n cV) (.slice ai n ci) (.slice al ys.length cl);have h6':∀x∈D',Rd (six wr w.heap.size v0 v0 vb (.slice aV n cV) (.slice ai n ci) (.slice al ys.length cl)) 1 x.2 x.1.next.length (x.1.next.flatMap Ac):=fun x hx=>Fg (k3 x hx) (d9 _) v0 v0 vb _ _ _
 clear k2 k3 h1;generalize six wr w.heap.size v0 v0 vb (.slice aV n cV) (.slice ai n ci) (.slice al ys.length cl)=U at hr h2 h3 h4 h5 h6'⊢;have e1:ys.length=ls.length:=by rw[<-hys,a7]
 refine⟨⟨D',k1,h5,h6'⟩,hr,h2,⟨ys,hys,?_,fun y hy=>⟨?_,?_⟩⟩⟩
 . rw[e1]at h3
   simpa[e1]using h3
 . exact h4 (y.2.1,y.1.back) (dO.2 ⟨y,hy,by simp⟩)
 . exact h4 (y.2.2,y.1.blocks) (dO.2 ⟨y,hy,by simp⟩)
theorem Gk (s : Value) (xs:List MI)(w:World)(hn:xs.length<=1048576)(h:Rd w 4 s xs.length (xs.flatMap MI.cells)):
 Calls Tryz.prog 16 #[s] w fun e w'=>∃r vb vo vi vl,e=.returned (.agg #[.int .i64 r.code,.int .i64 r.at_,vb,vo,vi,vl])/\AR xs r/\Ey w' vb vo vi vl r/\Below w.heap.size w w':=by
 obtain⟨j0,hj,hy0,hy1,hy2⟩:=bQ Dy;obtain⟨k0,hk,hx0,hx1,hx2⟩:=bQ BE;obtain⟨i0,hi,hi0,hi1,hi2⟩:=bQ PZ;obtain⟨l0,hl,hl0,hl1,hl2⟩:=bQ Kk;have H:Hid (Rd w 4 s xs.length (xs.flatMap MI.cells)):=h;obtain⟨a1,c1,rfl⟩:=h.is_slice;clear h;have HE0:Hid (Ak (w.alloc (.cells KK 52)) w.heap.size KK 52/\Below w.heap.size w (w.alloc (.cells KK 52))):=⟨Ak.new _ _ _,Aa _ _⟩
 go_enter Tryz.func16,Tryz.ntmps16;go_wp2_with fail
 refine(IQ _ xs _ hn (H.o.keep HE0.o.2 lR)).mono ?_;rintro e u1 ⟨V,bs,rfl,hob,hbs,b1⟩;have hrd:=hob.rd;have hz0:(w.alloc (.cells KK 52)).heap.size=w.heap.size+1:=by simp
 rw[hz0]at hob;have HE1:Hid (Ak u1 w.heap.size KK 52/\Below w.heap.size w u1):=⟨HE0.o.1.keep b1,Ab HE0.o.2 lR b1⟩
 clear HE0 b1;have r0:u1.cell? ⟨w.heap.size,0,none⟩=some (.int .i64 0):=HE1.o.1.cell 0;have r1:u1.cell? ⟨w.heap.size,1,none⟩=some (.int .i64 0):=HE1.o.1.cell 1;have r2:u1.cell? ⟨w.heap.size,2,none⟩=some (.slice none 0 0):=HE1.o.1.cell 2;have r3:u1.cell? ⟨w.heap.size,3,none⟩=some (.slice none 0 0):=HE1.o.1.cell 3;have r4:u1.cell? ⟨w.heap.size,4,none⟩=some (.slice none 0 0):=HE1.o.1.cell 4;have r5:u1.cell? ⟨w.heap.size,5,none⟩=some (.slice none 0 0):=HE1.o.1.cell 5;have f0:=HE1.o.1.frozen 0;have f1:=HE1.o.1.frozen 1;have f2:=HE1.o.1.frozen 2;have f3:=HE1.o.1.frozen 3;have f4:=HE1.o.1.frozen 4;have f5:=HE1.o.1.frozen 5;rcases hbs with⟨hg,rfl⟩|⟨hg,rfl⟩
 . obtain⟨ab,cb,rfl⟩:∃a c,V=.slice a 0 c:=by
    obtain⟨ys,_,h2,_⟩:=hrd;exact h2.is_slice
   have HG:Hid (¬Aw xs):=hg;clear hrd hg hob;go_wp2_with fail
   obtain⟨q0,q1,q2,q3,q4,q5⟩:=BU HE1.o.1 (.int .i64 4) (.int .i64 0) (.slice none 0 0) (.slice none 0 0) (.slice none 0 0) (.slice none 0 0);simp only[six]at q0 q1 q2 q3 q4 q5;exact bC (v:=.agg #[.int .i64 4,.int .i64 0,.slice none 0 0,.slice none 0 0,.slice none 0 0,.slice none 0 0]) (by simp[results,Tryz.results16,go_sem,q0,q1,q2,q3,q4,q5]) rfl ⟨Dc 4 0,_,_,_,_,rfl,.none HG.o,Ey.none _ _ _,BT HE1.o.2 lR _ _ _ _ _ _⟩
 . obtain ⟨gb, ob, cb, rfl,hgr,hfi⟩:=hrd.graph hg
   have hpos:=Fe hg;have hle:=Ed hg;have hxl:=hg.1;obtain⟨x,hx⟩:∃x,xs[xs.length-1]?=some x:=⟨_,aA (by omega)⟩;have HG:Hid (Aw xs/\xs[xs.length-1]?=some x):=⟨hg,hx⟩
   have HB:Hid (FR u1 (.slice (some ⟨gb,ob,none⟩) (Ao xs).length cb) (Ao xs)/\D6 u1 gb ob (Ao xs).length (nx (Ao xs))/\(∀b m,(Ao xs)[b]?=some m->u1.cell? ⟨gb,ob+b*3,none⟩=some (.int .i64 m.first))):=⟨hrd,hgr,hfi⟩
   have HEE:Hid ((∀b,b<(Ao xs).length->∀x∈nx (Ao xs) b,x<(Ao xs).length)/\∀b,(nx (Ao xs) b).length<=2):=⟨Lu hg,Gg _ (Ee xs)⟩
   obtain⟨n,hnn⟩:∃n,n=(Ao xs).length:=⟨_,rfl⟩;obtain⟨E,hEE⟩:∃E,E=nx (Ao xs):=⟨_,rfl⟩;rw[<-hnn,<-hEE]at HB HEE;rw[<-hnn]at hpos hle⊢;have HN:Hid (n=(Ao xs).length/\E=nx (Ao xs)):=⟨hnn,hEE⟩
   have HOB:Hid (Hp u1 (w.heap.size+1) (.slice (some ⟨gb,ob,none⟩) n cb) (Ao xs)):=by rw[hnn];exact hob
   clear hrd hgr hfi hg hnn hEE hob;have hposI:¬(n:Int)=0:=by omega
   have hposB:((n:Int)==0)=false:=by simp;omega
   have x0:u1.cell? ⟨0,0,none⟩=u1.cell? ⟨0,0,none⟩:=rfl
   obtain⟨gx,ox,rfl,hop⟩:∃gx ox,a1=some ⟨gx,ox,none⟩/\u1.cell? ⟨gx,ox+(xs.length-1)*4,none⟩=some (.int .i64 x.op):=by
    rcases H.o.2 with⟨e0,_⟩|⟨gx,ox,cx,e1,hc1⟩
    . omega
    . simp only[aF,aw]at e1
      have:=Rd.elem MI.cells_length hc1 (xs.length-1) _ hx 0 _ rfl;rw[aS]at this;exact⟨gx,ox,e1.1,Ad HE1.o.2 this⟩
   clear x0 hx;obtain⟨lx,hlx⟩:∃lx,xs.length=lx+1:=⟨xs.length-1,by omega⟩;rw[hlx]at hop⊢;simp only[Nat.add_sub_cancel]at hop;have HLX:Hid (xs.length=lx+1):=hlx;have hlx2:lx<=1048576:=by omega
   have hlx3:(lx:Int)<=1048576:=by omega
   clear hlx hn;cases hon:DX x
   . have HON : Hid (DX x=false):=hon
     have hon2:x.op=25\/x.op=29:=by
      simp only[DX,Bool.and_eq_false_iff,dy,Classical.not_not]at hon;exact hon
     clear hon;go_upto_region 6 with fail
     go_cut [37]from 32 (fun c wx=>c=.bool false/\wx=u1)
     case first=>
      rcases hon2 with q|q
      . have q1:(x.op != 25)=false:=by simp[q]
        go_wp2
        go_meet
        case rel=>exact⟨rfl,rfl⟩
      . have q1:(x.op != 25)=true:=by simp[q]
        have q2:(x.op != 29)=false:=by simp[q]
        go_wp2
        go_meet
        case rel=>exact⟨rfl,rfl⟩
     case rest =>
      obtain⟨rfl,hwc⟩:=hcut;rw[hwc];clear hwc
      go_wp2_with (first
       |(at_make;refine bZ _ rfl _ _ 74 rfl u1.heap.size 4 j0 (.bool false) 1 Tryz.underlying74 hj hy0 hy1 .i64 .i64 _ _ n rfl rfl rfl rfl (by rw[hy2];omega) (by unfold maxLen;omega) lR ?_;intro w3 hown hgrow;rw[CQ,Fc]at hown)
       |fail)
      have HSN:Hid (SN u1 w3 n u1.heap.size (.slice none 0 0) (fun x=>([]:List Nat).contains x) []):=⟨Eg.congr hown (fun _ _=>rfl),bL _ _ _ _,(aX _ _).grown hgrow lR (fun k hk=>by cases hk)⟩;clear hown hgrow;refine(MJ gb ob cb n u1.heap.size E u1 (by omega) HEE.o.1 HEE.o.2 HB.o.2.1 (Az [] n) [] [] 0 _ w3 rfl hpos (by simp) (by rw[DD];simp) HSN.o).mono ?_;rintro e u2 ⟨V2,S,O',rfl,hvs,hsn,hlen⟩;obtain⟨O,hO⟩:∃O,O=O'++[0]:=⟨_,rfl⟩;rw[<-hO]at hsn hlen;have HVS:Hid (Vs E [] [] [0] S O):=by rw[hO];exact .new (by simp) hvs (.nil _ _)
      have HS2:Hid (SN u1 u2 n u1.heap.size V2 (fun x=>S.contains x) O):=hsn;obtain⟨aO,cO,rfl⟩:=Ax hsn.list;clear hO hvs hsn hlen HSN r0 r1 r2 r3 r4 r5 f0 f1 f2 f3 f4 f5;go_wp2
      go_loopw [8] (fun i wr=>∃b:Nat,b<=n/\i=.int .i64 b/\(∀c,c<b->c∈S)/\wr=u2) (fun i _=>n-(intOf i).toNat)
      case atStart=>exact⟨0,by omega,rfl,fun c hc=>by omega,rfl⟩
      case round =>
       obtain⟨b,hb,rfl,hbS,rfl⟩:=hrel;have HEB:Hid (Ak wr w.heap.size KK 52/\Below w.heap.size w wr):=⟨HE1.o.1.keep HS2.o.bel,Ab HE1.o.2 lR HS2.o.bel⟩
       by_cases hlt:b<n
       . have hltI:(b:Int)<(n:Int):=by omega
         have s0:=HS2.o.seen.cell hlt;cases hc:S.contains b
         . simp only[hc]at s0
           obtain⟨m,hm⟩:∃m,(Ao xs)[b]?=some m:=⟨_,aA (by rw[<-HN.o.1];exact hlt)⟩;have m0:=Ad HS2.o.bel (HB.o.2.2 b m hm);have HFO:Hid (AR xs (Dc 2 m.first)):=.lost HG.o.1 HG.o.2 HON.o (by rw[<-HN.o.2];exact HVS.o) (by rw[<-HN.o.1];exact hlt) (by simpa using hc) hbS hm;clear hm;have r0:wr.cell? ⟨w.heap.size,0,none⟩=some (.int .i64 0):=HEB.o.1.cell 0;have r1:wr.cell? ⟨w.heap.size,1,none⟩=some (.int .i64 0):=HEB.o.1.cell 1;have r2:wr.cell? ⟨w.heap.size,2,none⟩=some (.slice none 0 0):=HEB.o.1.cell 2;have r3:wr.cell? ⟨w.heap.size,3,none⟩=some (.slice none 0 0):=HEB.o.1.cell 3;have r4:wr.cell? ⟨w.heap.size,4,none⟩=some (.slice none 0 0):=HEB.o.1.cell 4;have r5:wr.cell? ⟨w.heap.size,5,none⟩=some (.slice none 0 0):=HEB.o.1.cell 5;have f0:=HEB.o.1.frozen 0;have f1:=HEB.o.1.frozen 1;have f2:=HEB.o.1.frozen 2;have f3:=HEB.o.1.frozen 3;have f4:=HEB.o.1.frozen 4;have f5:=HEB.o.1.frozen 5;go_wp2_with fail;obtain⟨q0,q1,q2,q3,q4,q5⟩:=BU HEB.o.1 (.int .i64 2) (.int .i64 m.first) (.slice none 0 0) (.slice none 0 0) (.slice none 0 0) (.slice none 0 0);simp only[six]at q0 q1 q2 q3 q4 q5
           exact bC (v:=.agg #[.int .i64 2,.int .i64 m.first,.slice none 0 0,.slice none 0 0,.slice none 0 0,.slice none 0 0]) (by simp[results,Tryz.results16,go_sem,q0,q1,q2,q3,q4,q5]) rfl ⟨Dc 2 m.first,_,_,_,_,rfl,HFO.o,Ey.none _ _ _,BT HEB.o.2 lR _ _ _ _ _ _⟩
         . simp only[hc]at s0
           have hbS2:∀c,c<b+1->c∈S:=fun c hc'=>by
            by_cases e:c=b
            . subst e;simpa using hc
            . exact hbS c (by omega)
           go_wp2
           go_roundw
           case rel=>exact⟨b+1,by omega,by go_num,hbS2,by trivial⟩
           case measure=>simp[intOf];omega
       . have ebn : b =n:=by omega
         have hltI:¬(b:Int)<(n:Int):=by omega
         rw[ebn]at hbS;obtain⟨hP,hnd,hOn,hOm,hO0⟩:=C5 hpos HEE.o.1 HVS.o hbS;have HPL:Hid (Ce E n (B8 O)/\O.Nodup/\(∀x,x∈O↔x<n)/\(∀c,c<n->c∈S)/\O.length=n):=⟨hP,hnd,hOm,hbS,hOn⟩
         obtain⟨u3,hu3⟩:∃W,W=wr:=⟨_,rfl⟩;subst hu3;clear hP hnd hOm hbS hO0;have HB3:Hid (FR u3 (.slice (some ⟨gb,ob,none⟩) n cb) (Ao xs)/\D6 u3 gb ob n E/\(∀b m,(Ao xs)[b]?=some m->u3.cell? ⟨gb,ob+b*3,none⟩=some (.int .i64 m.first))/\DR u3 (.slice aO O.length cO) O):=⟨HB.o.1.keep HS2.o.bel lR,HB.o.2.1.keep HS2.o.bel,fun b m hm=>Ad HS2.o.bel (HB.o.2.2 b m hm),HS2.o.list.rd⟩
         have HOB3:Hid (Hp u3 (w.heap.size+1) (.slice (some ⟨gb,ob,none⟩) n cb) (Ao xs)):=HOB.o.keep HS2.o.bel;clear HB HS2 HE1 HOB;rw[hOn]at HB3⊢;have HX0:Hid (Ak (u3.alloc (.cells #[.int .i64 0,.int .i64 0,.slice (some ⟨gb,ob,none⟩) n cb,.slice none 0 0,.slice none 0 0,.slice none 0 0] 52)) u3.heap.size #[.int .i64 0,.int .i64 0,.slice (some ⟨gb,ob,none⟩) n cb,.slice none 0 0,.slice none 0 0,.slice none 0 0] 52/\Below u3.heap.size u3 (u3.alloc (.cells #[.int .i64 0,.int .i64 0,.slice (some ⟨gb,ob,none⟩) n cb,.slice none 0 0,.slice none 0 0,.slice none 0 0] 52))):=⟨Ak.new _ _ _,Aa _ _⟩
         go_upto_region 16 with fail
         refine Al (fun u=>Hid (Ak u u3.heap.size #[.int .i64 0,.int .i64 0,.slice (some ⟨gb,ob,none⟩) n cb,.slice none 0 0,.slice none 0 0,.slice none 0 0] 52/\Below u3.heap.size u3 u)) HX0 ?_
         intro U0 HU0;clear HX0;go_wp2_with (at_make;refine bZ _ rfl _ _ 103 rfl u3.heap.size 3 i0 (.int .i64 0) 1 Tryz.underlying103 hi hi0 hi1 .i64 .i64 _ _ n rfl rfl rfl rfl (by rw[hi2];omega) (by unfold maxLen;omega) HU0.o.2.size ?_;intro w4 hown hgrow;rw[NB]at hown)
         have HPC:Hid (PC u3 w4 n u3.heap.size U0.heap.size (.slice (some ⟨gb,ob,none⟩) n cb) (.slice none 0 0) O 0):=by
          have hb4:Below U0.heap.size U0 w4:=(aX _ _).grown hgrow lR (fun k hk=>by cases hk);refine⟨HU0.o.1.keep hb4,?_,bL _ _ _ _,Ab HU0.o.2 lR hb4,Nat.le_refl _⟩;rw[JR];exact hown
         clear hown hgrow HU0;obtain⟨gp,hgp⟩:∃gp,gp=U0.heap.size:=⟨_,rfl⟩;rw[<-hgp]at HPC⊢;clear hgp
         obtain⟨gO,oO,rfl,hcO⟩:∃gO oO,aO=some ⟨gO,oO,none⟩/\Hid (∀k x:Nat,O[k]?=some x->u3.cell? ⟨gO,oO+k,none⟩=some (.int .i64 (x:Int))):=by
          obtain⟨g',o',h1,_,h2⟩:=HB3.o.2.2.2.all (by omega);exact⟨g',o',h1,h2⟩
         go_loopw [11] (fun i wr=>∃(j:Nat) (Vo:Value),j<=n/\i=.int .i64 ((j:Int)-1)/\Hid (PC u3 wr n u3.heap.size gp (.slice (some ⟨gb,ob,none⟩) n cb) Vo O (n-j))) (fun i _=>(intOf i+1).toNat)
         case atStart=>exact⟨n,_,Nat.le_refl _,rfl,by rw[cg];exact HPC⟩
         case round =>
          clear HPC;obtain⟨j,Vo,hj',rfl,HPC⟩:=hrel;cases j with
          | succ b'=>
            rw[show(((b'+1:Nat):Int)-1)=(b':Int)by omega];have hb'I:(b':Int)<(n:Int):=by omega
            obtain⟨x',hx'⟩:∃x',O[b']?=some x':=⟨_,aA (by omega)⟩;obtain⟨kk,hkk⟩:∃kk,kk=n-(b'+1):=⟨_,rfl⟩;rw[<-hkk]at HPC;have hkk2:n-b'=kk+1:=by omega
            have hkk3:kk<n:=by omega
            have hxr:O.reverse[kk]?=some x':=by
             rw[List.getElem?_reverse (by omega),hOn];rw[show n-1-kk=b' by omega];exact hx'
            have hxn:x'<n:=(HPL.o.2.2.1 x').1 (aE hx');have hxnI:(x':Int)<(n:Int):=by omega
            obtain⟨aV,cV,rfl⟩:=Ax HPC.o.order;have hlk:(O.reverse.take kk).length=kk:=by rw[bp,bV];omega
            rw[hlk]at HPC;have HLK:Hid ((O.reverse.take kk).length=kk):=hlk;have HXO:Hid (u3.cell? ⟨gO,oO+b',none⟩=some (.int .i64 (x':Int))/\O.reverse[kk]?=some x'):=⟨hcO.o b' x' hx',hxr⟩
            clear hx' hxr hkk hlk;have p0:=Ad HPC.o.bel HXO.o.1;have t3:wr.cell? ⟨u3.heap.size,3,none⟩=some (.slice aV kk cV):=HPC.o.blk.cell 3;have p1:=HPC.o.place.cellAt x' (by omega);rw[JG _ _ _ hxn]at p1;have z1:=HPC.o.place.frozenAt x';have HPD:Hid (PD u3 (wr.setCell ⟨gp,x',none⟩ (.int .i64 (kk:Int))).drew n u3.heap.size gp (.slice (some ⟨gb,ob,none⟩) n cb) (.slice aV kk cV) O kk):=(HPC.o.set HPL.o.2.1 HXO.o.2).keep (Ae _);go_wp2
            go_region
            refine Av (fun u=>Hid (PD u3 u n u3.heap.size gp (.slice (some ⟨gb,ob,none⟩) n cb) (.slice aV kk cV) O kk)) HPD ?_;intro U HU;clear HPD p0 t3 p1 z1 HPC;have bD:=Ae U;have bE:Below U.heap.size U (U.alloc (.cells #[.int .i64 (x':Int)] 2)).drew:=Ab (Aa _ _) lR (Ae _);have p0:=Ad bD (Ad HU.o.bel HXO.o.1);have t3:U.drew.cell? ⟨u3.heap.size,3,none⟩=some (.slice aV kk cV):=(HU.o.blk.keep bD).cell 3;have t4:(U.alloc (.cells #[.int .i64 (x':Int)] 2)).drew.cell? ⟨u3.heap.size,3,none⟩=some (.slice aV kk cV):=(HU.o.blk.keep bE).cell 3;have HUE:Hid (PD u3 (U.alloc (.cells #[.int .i64 (x':Int)] 2)).drew n u3.heap.size gp (.slice (some ⟨gb,ob,none⟩) n cb) (.slice aV kk cV) O kk):=HU.o.keep bE;have HOC:Hid (∀j u,[(.int .i64 (x':Int):Value)][j]?=some u->(U.alloc (.cells #[.int .i64 (x':Int)] 2)).drew.cell? ((⟨U.heap.size,0,none⟩:Addr).add j)=some u):=A5 U (x':Int)
            have HAL:Hid ((U.alloc (.cells #[.int .i64 (x':Int)] 2)).drew.ownsRow u3.heap.size 2 1 (.slice aV kk cV) kk (nv (O.reverse.take kk))/\u3.heap.size<=(U.alloc (.cells #[.int .i64 (x':Int)] 2)).drew.heap.size):=by
             have:=HUE.o.al;rw[HLK.o]at this;exact this
            clear bD bE;go_wp2_with fail
            go_region_law (first
             |(refine step_append_lies _ rfl (.tmp 83) (.tmp 88) 28 rfl u3.heap.size 2 k0 (.int .i64 0) 1 8 Tryz.underlying28 hk hx0 hx1 hx2 rfl (by decide) (.slice aV kk cV) kk (nv (O.reverse.take kk)) (by simp[Act.eval]) HAL.o.1 ⟨U.heap.size,0,none⟩ 1 1 [.int .i64 (x':Int)] (by simp[Act.eval]) rfl HOC.o (fun u hu=>by simp at hu;subst hu;rfl) (by omega) (by unfold maxLen;omega) (by omega) HAL.o.2 _ rfl ?_;intro g5 cap5 w5 hown hgrow hat hlt9;obtain⟨kb5,l5⟩:=HUE.o.app (V':=.slice (some ⟨g5,0,none⟩) (kk+1) cap5) HXO.o.2 (by rw[HLK.o];exact hown) hgrow;have HU5:Hid (PC u3 (w5.setCell ⟨u3.heap.size,3,none⟩ (.slice (some ⟨g5,0,none⟩) (kk+1) cap5)) n u3.heap.size gp (.slice (some ⟨gb,ob,none⟩) n cb) (.slice (some ⟨g5,0,none⟩) (kk+1) cap5) O (kk+1)):=l5;have t5:w5.cell? ⟨u3.heap.size,3,none⟩=some (.slice aV kk cV):=kb5.cell 3;have z5:=kb5.frozen 3;clear hown hgrow hat hlt9 kb5 l5))
            all_goals
             clear p0 t3 t4 t5 z5;go_wp2
             go_roundw
             case rel=>exact⟨b',_,by omega,by go_num,by rw[hkk2];exact HU5⟩
             case measure=>simp[intOf]
          | zero =>
            rw[Nat.sub_zero]at HPC;obtain⟨aV,cV,rfl⟩:=Ax HPC.o.order;have hlk:(O.reverse.take n).length=n:=by rw[bp,bV];omega
            rw[hlk]at HPC;clear hlk;go_upto_region 22 with fail
            obtain⟨u4,hu4⟩:∃W,W=wr:=⟨_,rfl⟩;subst hu4;obtain⟨D,hD⟩:∃D:Nat->Nat->Bool,∀d b,D d b=true↔Ca E d b:=⟨fun d b=> @decide _ (Classical.propDecidable (Ca E d b)),fun d b=>by simp⟩;have HD:Hid (∀d b,D d b=true↔Ca E d b):=hD;clear hD;go_wp2_with fail
            refine(MD gb ob cb n E D _ (by omega) hpos HD.o HEE.o.1 HEE.o.2 (HB3.o.2.1.keep HPC.o.bel)).mono ?_;rintro e u5 ⟨gm,cm,rfl,hmat,b5,hgm,hrm⟩
            have HMG:Hid (u3.heap.size<gm/\∀b r,b<n->u5.cell? ⟨gm,b,none⟩=some (.slice (some ⟨r,0,none⟩) n n)->u3.heap.size<r):=by
             have hlt4:=HPC.o.blk.lt;exact⟨by omega,fun b r hb hr=>by have:=hrm b r hb hr;omega⟩
            have HP5:Hid (PC u3 u5 n u3.heap.size gp (.slice (some ⟨gb,ob,none⟩) n cb) (.slice aV n cV) O n/\Dt u5 gm n (fun b d=>D d b)):=⟨HPC.o.keep b5,hmat⟩
            have HPC5:Hid (∀x,x<n->u5.cell? ⟨gp,x,none⟩=some (.int .i64 (B8 O x:Int))):=fun x hx=>by
             have:=HP5.o.1.place.cellAt x (by omega);rw[JG _ _ _ hx]at this;rw[this];congr 3
             have h1:=Lz O x ((HPL.o.2.2.1 x).2 hx);rw[hOn]at h1;rw[h1]
            clear hmat b5 HPC hgm hrm;go_wp2
            go_loopw [13] (fun i wr=>∃b:Nat,b<=n/\i=.int .i64 b/\Hid ((∀b',b'<b->∀t∈E b',¬IX O D b' t)/\Below u5.heap.size u5 wr)) (fun i _=>n-(intOf i).toNat)
            case atStart=>exact⟨0,by omega,rfl,fun b' hb'=>by omega,aX _ _⟩
            case round =>
             obtain⟨b,hb,rfl,HL⟩:=hrel;by_cases hlt:b<n
             . have hltI:(b:Int)<(n:Int):=by omega
               obtain⟨a,ca,g0,g1⟩:=(HB3.o.2.1.keep HP5.o.1.bel) b hlt;have HGB:Hid (u5.cell? ⟨gb,ob+b*3+2,none⟩=some (.slice a (E b).length ca)/\DR u5 (.slice a (E b).length ca) (E b)):=⟨g0,g1⟩
               obtain⟨rb,r0,r1⟩:=HP5.o.2 b hlt;have HRB:Hid (u5.cell? ⟨gm,b,none⟩=some (.slice (some ⟨rb,0,none⟩) n n)/\∀d,d<n->u5.cell? ⟨rb,d,none⟩=some (.bool (D d b))):=⟨r0,r1⟩
               have hE2:=HEE.o.2 b;clear g0 g1 r0 r1;go_wp2
               go_loopw [14] (fun i wr=>∃k:Nat,k<=(E b).length/\i=.int .i64 k/\Hid ((∀b',b'<b->∀t∈E b',¬IX O D b' t)/\(∀k' t,k'<k->(E b)[k']?=some t->¬IX O D b t)/\Below u5.heap.size u5 wr)) (fun i _=>2-(intOf i).toNat)
               case atStart=>exact⟨0,by omega,rfl,HL.o.1,fun k' t hk'=>by omega,HL.o.2⟩
               case round=>
                clear HL;obtain⟨k,hk',rfl,HL⟩:=hrel;have g0:=Ad HL.o.2.2 HGB.o.1;by_cases hlt2:k<(E b).length
                . have hlt2I:(k:Int)<((E b).length:Int):=by omega
                  obtain⟨t,ht⟩:∃t,(E b)[k]?=some t:=⟨_,aA hlt2⟩;have htn:t<n:=HEE.o.1 b hlt t (aE ht);have htnI:(t:Int)<(n:Int):=by omega
                  have HT:Hid ((E b)[k]?=some t):=ht;obtain⟨ga,oa,rfl,_,y0⟩:=HGB.o.2.at_ ht;replace y0:=Ad HL.o.2.2 y0
                  have m0:=Ad HL.o.2.2 HRB.o.1;have m1:=Ad HL.o.2.2 (HRB.o.2 t htn);have p0:=Ad HL.o.2.2 (HPC5.o t htn);have p1:=Ad HL.o.2.2 (HPC5.o b hlt);clear ht
                  have HNX:Hid (¬IX O D b t->∀k' t',k'<k+1->(E b)[k']?=some t'->¬IX O D b t'):=fun hnb k' t' h1 h2=>by
                   by_cases e:k'=k
                   . subst e
                     rw[HT.o]at h2;cases h2
                     exact hnb
                   . exact HL.o.2.1 k' t' (by omega) h2
                  by_cases hp:B8 O t<=B8 O b
                  . have hpI:(B8 O t:Int)<=(B8 O b:Int):=by omega
                    cases hc:D t b
                    . rw[hc]at m1
                      go_wp2
                      go_quiet (fail)
                      refine Av (fun u=>Hid (Below u5.heap.size u5 u)) (Ab HL.o.2.2 lR (Af _ _ _)) ?_;intro U HU;clear g0 y0 m0 m1 p0 p1;have HBU:Hid (Below u3.heap.size u3 U):=Ab HP5.o.1.bel lR HU.o;have HEU:Hid (Ak U w.heap.size KK 52/\Below w.heap.size w U):=⟨HEB.o.1.keep HBU.o,Ab HEB.o.2 lR HBU.o⟩
                      obtain⟨m,hm⟩:∃m,(Ao xs)[t]?=some m:=⟨_,aA (by rw[<-HN.o.1];exact htn)⟩;have m0:=Ad HBU.o (HB3.o.2.2.1 t m hm)
                      have HFO:Hid (AR xs (Dc 3 m.first)):=by
                       refine .two (D:=D) (b:=b) (k:=k) (t:=t) HG.o.1 HG.o.2 HON.o (S:=S) (O:=O) (by rw[<-HN.o.2];exact HVS.o) (by rw[<-HN.o.1];exact HPL.o.2.2.2.1) (by rw[<-HN.o.2];exact HD.o) ?_ hm;rw[<-HN.o.1,<-HN.o.2];refine⟨hlt,HT.o,⟨hp,by rw[hc];simp⟩,fun b' k' x' hb' hx' hl=> ?_⟩;rcases hl with q|⟨rfl,q⟩
                       . exact HL.o.1 b' q x' (aE hx')
                       . exact HL.o.2.1 k' x' q hx'
                      clear hm;have r0:U.cell? ⟨w.heap.size,0,none⟩=some (.int .i64 0):=HEU.o.1.cell 0;have r1:U.cell? ⟨w.heap.size,1,none⟩=some (.int .i64 0):=HEU.o.1.cell 1;have r2:U.cell? ⟨w.heap.size,2,none⟩=some (.slice none 0 0):=HEU.o.1.cell 2;have r3:U.cell? ⟨w.heap.size,3,none⟩=some (.slice none 0 0):=HEU.o.1.cell 3;have r4:U.cell? ⟨w.heap.size,4,none⟩=some (.slice none 0 0):=HEU.o.1.cell 4;have r5:U.cell? ⟨w.heap.size,5,none⟩=some (.slice none 0 0):=HEU.o.1.cell 5;have f0:=HEU.o.1.frozen 0;have f1:=HEU.o.1.frozen 1;have f2:=HEU.o.1.frozen 2;have f3:=HEU.o.1.frozen 3;have f4:=HEU.o.1.frozen 4;have f5:=HEU.o.1.frozen 5;go_wp2_with fail
                      obtain⟨q0,q1,q2,q3,q4,q5⟩:=BU HEU.o.1 (.int .i64 3) (.int .i64 m.first) (.slice none 0 0) (.slice none 0 0) (.slice none 0 0) (.slice none 0 0);simp only[six]at q0 q1 q2 q3 q4 q5;exact bC (v:=.agg #[.int .i64 3,.int .i64 m.first,.slice none 0 0,.slice none 0 0,.slice none 0 0,.slice none 0 0]) (by simp[results,Tryz.results16,go_sem,q0,q1,q2,q3,q4,q5]) rfl ⟨Dc 3 m.first,_,_,_,_,rfl,HFO.o,Ey.none _ _ _,BT HEU.o.2 lR _ _ _ _ _ _⟩
                    . rw[hc]at m1
                      have HN2:=HNX.o (fun q=>q.2 hc);have HN3:Hid _:=HN2;clear HN2;go_wp2
                      go_quiet (fail)
                      refine Av (fun u=>Hid (Below u5.heap.size u5 u)) (Ab HL.o.2.2 lR (Af _ _ _)) ?_;intro U HU;clear g0 y0 m0 m1 p0 p1;go_wp2
                      go_roundw
                      case rel=>exact⟨k+1,by omega,by go_num,HL.o.1,HN3.o,HU.o⟩
                      case measure=>simp[intOf];omega
                  . have hpI:¬(B8 O t:Int)<=(B8 O b:Int):=by omega
                    have HN2:=HNX.o (fun q=>hp q.1);have HN3:Hid _:=HN2;clear HN2;go_wp2
                    go_quiet (fail)
                    refine Av (fun u=>Hid (Below u5.heap.size u5 u)) (Ab HL.o.2.2 lR (Af _ _ _)) ?_;intro U HU;clear g0 y0 m0 m1 p0 p1;go_wp2
                    go_roundw
                    case rel=>exact⟨k+1,by omega,by go_num,HL.o.1,HN3.o,HU.o⟩
                    case measure=>simp[intOf];omega
                . obtain rfl:k=(E b).length:=by omega
                  have HN2:Hid (∀b',b'<b+1->∀t∈E b',¬IX O D b' t):=fun b' hb' t ht=>by
                   by_cases e:b'=b
                   . subst e
                     obtain⟨q,hq⟩:=bH ht;exact HL.o.2.1 q t (aD.1 hq).1 hq
                   . exact HL.o.1 b' (by omega) t ht
                  go_wp2
                  go_roundw
                  case rel=>exact⟨b+1,by omega,by go_num,HN2.o,HL.o.2.2⟩
                  case measure=>simp[intOf];omega
             . have ebn:b=n:=by omega
               have hltI:¬(b:Int)<(n:Int):=by omega
               rw[ebn]at HL;go_upto_region 32 with fail
               obtain⟨u6,hu6⟩:∃W,W=wr:=⟨_,rfl⟩;subst hu6;have HNB:Hid (∀b,b<n->∀t∈E b,¬IX O D b t):=HL.o.1;have HP6:Hid (PC u3 u6 n u3.heap.size gp (.slice (some ⟨gb,ob,none⟩) n cb) (.slice aV n cV) O n/\Dt u6 gm n (fun b d=>D d b)):=⟨HP5.o.1.keep HL.o.2,HP5.o.2.keep HL.o.2⟩
               have hsz6:u3.heap.size<u6.heap.size:=HP6.o.1.blk.lt
               have HMG6:Hid (u3.heap.size<gm/\∀b r,b<n->u6.cell? ⟨gm,b,none⟩=some (.slice (some ⟨r,0,none⟩) n n)->u3.heap.size<r):=by
                refine⟨HMG.o.1,fun b r hb hr=> ?_⟩;obtain⟨r',h1,_⟩:=HP5.o.2 b hb;have h2:=Ad HL.o.2 h1;rw[hr]at h2;cases h2
                exact HMG.o.2 b _ hb h1
               clear HP5 HPC5 HL HMG
               have hrch:∀x,x<n->CJ E (fun _=>True) 0 x:=fun x hx=>by
                obtain⟨N,t⟩:=HVS.o.told
                have hxN:x∈N:=by
                 rcases(t.seen x).1 (HPL.o.2.2.2.1 x hx)with q|q
                 . cases q
                 . exact q
                obtain⟨q,q1,q2⟩:=t.from_ x hxN;have:q=0:=by simpa using q1
                subst this;exact q2.mono fun _ _=>trivial
               have hidx:∀b,b<n->∃z:Int,(b=0/\z=-1)\/b≠0/\∃c:Nat,c<n/\z=(c:Int)/\DO E b c:=fun b hb=>by
                by_cases e:b=0
                . exact⟨-1,.inl ⟨e,rfl⟩⟩
                . obtain⟨c,h1,h2⟩:=Ny HPL.o.1 hrch hb e
                  exact⟨c,.inr ⟨e,c,h1,rfl,h2⟩⟩
               obtain⟨I,hI⟩:=Go.Deep.choose_lt hidx;have HI:Hid (∀b,b<n->(b=0/\I b=-1)\/b≠0/\∃c:Nat,c<n/\I b=(c:Int)/\DO E b c):=hI
               have HID:Hid (∀b,b<n->∀U:World,Dt U gm n (fun b d=>D d b)->Calls Tryz.prog 45 #[.slice (some ⟨gm,0,none⟩) n cm,.int .i64 (b:Int)] U fun e w'=>e=.returned (.int .i64 (I b))/\w'=U):=fun b hb U hU=>by
                refine(MG gm cm n b D U (by omega) hb hU).mono ?_;rintro e w' ⟨best,most,rfl,hbest,rfl⟩;refine⟨?_,rfl⟩;have h1:=hbest.end_ HPL.o.1 hrch HD.o hb;rcases h1 with⟨e1,e2⟩|⟨e1,c,c1,c2,c3⟩
                . rcases hI b hb with⟨_,e4⟩|⟨e3,_⟩
                  . rw[e2,e4]
                  . exact absurd e1 e3
                . rcases hI b hb with⟨e3,_⟩|⟨_,c',c1',c2',c3'⟩
                  . exact absurd e3 e1
                  . rw[c2,c2',c3.one HPL.o.1 c1 c1' c3']
               obtain⟨Lf,hLf⟩:∃L:Nat->Nat->Bool,∀h y,L h y=true↔Ar E D n h y:=⟨fun h y=> @decide _ (Classical.propDecidable (Ar E D n h y)),fun h y=>by simp⟩;have HLF:Hid (∀h y,Lf h y=true↔Ar E D n h y):=hLf;clear hLf hI hidx hrch;have HPF0:Hid (PF u6 u6 u3.heap.size (.slice (some ⟨gb,ob,none⟩) n cb) (.slice aV n cV) (.slice none 0 0) [] (.slice none 0 0) []):=⟨HP6.o.1.blk,⟨fun x hx=>by simp[Df]at hx;subst hx;exact bL _ _ _ _,by simp[Df]⟩,bL _ _ _ _,fun k _ _=>rfl,Nat.le_refl _,aX _ _,hsz6⟩
               have HMK:Hid (∀(U:World) (Vb Vi:Value) (Is:List Int) (Vl:Value) (ys:List (ML×Value×Value)),PF u6 U u3.heap.size Vb (.slice aV n cV) Vi Is Vl ys->Dt U gm n (fun b d=>D d b)):=fun U Vb Vi Is Vl ys hU b hb=>by
                obtain⟨r,h1,h2⟩:=HP6.o.2 b hb;have hgm:gm≠u3.heap.size:=by have:=HMG6.o.1;omega
                have hr:r≠u3.heap.size:=by have:=HMG6.o.2 b r hb h1;omega
                exact⟨r,hU.cell h1 hgm,fun d hd=>hU.cell (h2 d hd) hr⟩
               go_wp2
               go_loopw [16] (fun i wr=>∃(b:Nat) (Vi Vl:Value) (ys:List (ML×Value×Value)),b<=n/\i=.int .i64 b/\ys.length<=b/\Hid (PF u6 wr u3.heap.size (.slice (some ⟨gb,ob,none⟩) n cb) (.slice aV n cV) Vi ((List.range b).map I) Vl ys/\ys.map Prod.fst=AZ E D Lf n b)) (fun i _=>n-(intOf i).toNat)
               case atStart=>exact⟨0,_,_,[],by omega,rfl,by simp,HPF0.o,rfl⟩
               case round=>
                clear HPF0;obtain⟨b,Vi,Vl,ys,hb,rfl,hyl,HL⟩:=hrel;by_cases hlt:b<n
                . have hltI:(b:Int)<(n:Int):=by omega
                  have hil:((List.range b).map I).length=b:=by simp
                  obtain⟨ai,ci,e0⟩:=Ax (HL.o.1.fam.own _ (bR ..));simp only[hil]at e0;subst e0;obtain⟨al,cl,e0⟩:=Ax HL.o.1.lps;subst e0;generalize hIs:(List.range b).map I=Is at HL hil;have HIS:Hid ((List.range b).map I=Is/\Is.length=b):=⟨hIs,hil⟩
                  clear hIs hil;have bD:=Ae wr;have bE:Below wr.heap.size wr (wr.alloc (.cells #[.int .i64 (I b)] 2)).drew:=Ab (Aa _ _) lR (Ae _);have t3:wr.drew.cell? ⟨u3.heap.size,4,none⟩=some (.slice ai b ci):=(HL.o.1.blk.keep bD).cell 4;have t4:(wr.alloc (.cells #[.int .i64 (I b)] 2)).drew.cell? ⟨u3.heap.size,4,none⟩=some (.slice ai b ci):=(HL.o.1.blk.keep bE).cell 4;have HUE:Hid (PF u6 (wr.alloc (.cells #[.int .i64 (I b)] 2)).drew u3.heap.size (.slice (some ⟨gb,ob,none⟩) n cb) (.slice aV n cV) (.slice ai b ci) Is (.slice al ys.length cl) ys):=HL.o.1.keep bE;have HOC:Hid (∀j u,[(.int .i64 (I b):Value)][j]?=some u->(wr.alloc (.cells #[.int .i64 (I b)] 2)).drew.cell? ((⟨wr.heap.size,0,none⟩:Addr).add j)=some u):=A5 wr (I b)
                  have HAL:Hid ((wr.alloc (.cells #[.int .i64 (I b)] 2)).drew.ownsRow u6.heap.size 2 1 (.slice ai b ci) b (Is.flatMap Ac)/\u6.heap.size<=(wr.alloc (.cells #[.int .i64 (I b)] 2)).drew.heap.size):=by
                   have h1:=HUE.o.fam.own (.slice ai b ci,Is) (bR ..);simp only[HIS.o.2]at h1;exact⟨h1,HUE.o.size⟩
                  have HMT:Hid (Dt wr.drew gm n (fun b d=>D d b)):=HMK.o _ _ _ _ _ _ (HL.o.1.keep bD)
                  have HIM:Hid (∀g5 cap5 w5,w5.ownsRow u6.heap.size 2 1 (.slice (some ⟨g5,0,none⟩) (b+1) cap5) (b+1) (Is.flatMap Ac++[.int .i64 (I b)])->(wr.alloc (.cells #[.int .i64 (I b)] 2)).drew.grownBy w5 (Value.slice ai b ci).ownBlock->((Value.slice ai b ci).ownBlock=some g5\/g5=(wr.alloc (.cells #[.int .i64 (I b)] 2)).drew.heap.size)->Ak w5 u3.heap.size #[.int .i64 0,.int .i64 0,.slice (some ⟨gb,ob,none⟩) n cb,.slice aV n cV,.slice ai b ci,.slice al ys.length cl] 52/\PF u6 (w5.setCell ⟨u3.heap.size,4,none⟩ (.slice (some ⟨g5,0,none⟩) (b+1) cap5)) u3.heap.size (.slice (some ⟨gb,ob,none⟩) n cb) (.slice aV n cV) (.slice (some ⟨g5,0,none⟩) (b+1) cap5) (Is++[I b]) (.slice al ys.length cl) ys):=fun g5 cap5 w5 hown hgrow hat=>by
                   have l5:=HUE.o.idom (g:=g5) (cap:=cap5) (z:=I b) (by rw[HIS.o.2];exact hown) hgrow hat;rw[HIS.o.2]at l5;exact l5
                  have hmx:b+1<=maxLen:=by unfold maxLen;omega
                  have hby:(b+1)*8<=140737488355328:=by omega
                  have hne1:∀u∈[(.int .i64 (I b):Value)],u.oneCell'=true:=fun u hu=>by simp at hu;subst hu;rfl
                  clear bD bE;go_wp2_with fail
                  go_region_law (first
                   |(refine step_append_lies _ rfl (.tmp 147) (.tmp 151) 28 rfl u6.heap.size 2 k0 (.int .i64 0) 1 8 Tryz.underlying28 hk hx0 hx1 hx2 rfl (by decide) (.slice ai b ci) b (Is.flatMap Ac) (by simp[Act.eval]) HAL.o.1 ⟨wr.heap.size,0,none⟩ 1 1 [.int .i64 (I b)] (by simp[Act.eval]) rfl HOC.o hne1 Nat.one_pos hmx hby HAL.o.2 _ rfl ?_;intro g5 cap5 w5 hown hgrow hat hlt9;obtain⟨kb5,l5⟩:=HIM.o g5 cap5 w5 hown hgrow hat;have HU5:Hid (PF u6 (w5.setCell ⟨u3.heap.size,4,none⟩ (.slice (some ⟨g5,0,none⟩) (b+1) cap5)) u3.heap.size (.slice (some ⟨gb,ob,none⟩) n cb) (.slice aV n cV) (.slice (some ⟨g5,0,none⟩) (b+1) cap5) (Is++[I b]) (.slice al ys.length cl) ys):=l5;have t5:w5.cell? ⟨u3.heap.size,4,none⟩=some (.slice ai b ci):=kb5.cell 4;have z5:=kb5.frozen 4;clear hown hgrow hat hlt9 kb5 l5)
                   |(go_simp;go_at_call 45;refine(HID.o b hlt _ HMT.o).mono ?_;rintro e u7 ⟨rfl,rfl⟩))
                  all_goals
                   refine Av (fun u=>Hid (PF u6 u u3.heap.size (.slice (some ⟨gb,ob,none⟩) n cb) (.slice aV n cV) (.slice (some ⟨g5,0,none⟩) (b+1) cap5) (Is++[I b]) (.slice al ys.length cl) ys)) HU5 ?_;intro U HU;clear t3 t4 t5 z5 HU5 HUE HOC HAL HMT;go_wp2_with fail
                   refine(MH gb ob cb n gm cm b E D Lf U hle hlt HEE.o.1 HEE.o.2 (HLF.o b) (HB3.o.2.1.keep (HP6.o.1.bel.trans HU.o.bel)) (HMK.o _ _ _ _ _ _ HU.o)).mono ?_;rintro e u8 ⟨BV,KV,rfl,oB,oK,b8,hne8,aK,nK,cK,rfl⟩;obtain⟨aB,cB,rfl⟩:=Ax oB;have HU8:Hid (PF u6 (u8.alloc (.cells #[.int .i64 (b:Int),.slice aB (An E D n b).length cB,.slice aK nK cK] 68)) u3.heap.size (.slice (some ⟨gb,ob,none⟩) n cb) (.slice aV n cV) (.slice (some ⟨g5,0,none⟩) (b+1) cap5) (Is++[I b]) (.slice al ys.length cl) ys/\Ak (u8.alloc (.cells #[.int .i64 (b:Int),.slice aB (An E D n b).length cB,.slice aK nK cK] 68)) u8.heap.size #[.int .i64 (b:Int),.slice aB (An E D n b).length cB,.slice aK nK cK] 68/\Below U.heap.size U (u8.alloc (.cells #[.int .i64 (b:Int),.slice aB (An E D n b).length cB,.slice aK nK cK] 68))):=⟨HU.o.keep (Ab b8 lR (Aa _ _)),Ak.new _ _ _,Ab b8 lR (Aa _ _)⟩
                   have HIN:Hid ((List.range (b+1)).map I=Is++[I b]):=by show(List.range (b+1)).map I=_;rw[cj,bx,HIS.o.1];rfl
                   by_cases hBL:An E D n b=[]
                   . have hbl0:(An E D n b).length=0:=by rw[hBL];rfl
                     have HLT:Hid (ys.map Prod.fst=AZ E D Lf n (b+1)):=by
                      show _=_;rw[Di,a8 hBL,dR];exact HL.o.2
                     rw[hbl0]at HU8⊢;have t1:(u8.alloc (.cells #[.int .i64 (b:Int),.slice aB 0 cB,.slice aK nK cK] 68)).cell? ⟨u8.heap.size,1,none⟩=some (.slice aB 0 cB):=HU8.o.2.1.cell 1;clear oB oK b8 hne8;go_wp2
                     go_roundw
                     case rel=>exact⟨b+1,_,_,ys,by omega,by go_num,by omega,by rw[HIN.o];exact HU8.o.1,HLT.o⟩
                     case measure=>simp[intOf];omega
                   . have hbp:0<(An E D n b).length:=dQ.2 hBL
                     have hbpI:(0:Int)<((An E D n b).length:Int):=by omega
                     have hbm:(An E D n b).length<=2048:=by have:=D7 HEE.o.2 D b n;omega
                     obtain⟨aK',cK',eK⟩:=Ax (oK hBL);simp only[aF]at eK;obtain⟨rfl,rfl,rfl⟩:=eK;have HRW:Hid (DQ u8 U.heap.size (.slice aB (An E D n b).length cB) (An E D n b)/\DQ u8 U.heap.size (.slice aK ((List.range n).filter (Lf b)).length cK) ((List.range n).filter (Lf b))/\(∀q,(Value.slice aB (An E D n b).length cB).ownBlock=some q->(Value.slice aK ((List.range n).filter (Lf b)).length cK).ownBlock≠some q)):=⟨oB,oK hBL,hne8⟩
                     have HLT:Hid ((ys++[((⟨(b:Int),ints (An E D n b),ints ((List.range n).filter (Lf b))⟩:ML),(.slice aB (An E D n b).length cB:Value),(.slice aK ((List.range n).filter (Lf b)).length cK:Value))]).map Prod.fst=AZ E D Lf n (b+1)):=by
                      show _=_;rw[Di,bF hBL,bx,HL.o.2];rfl
                     clear oB oK b8 hne8;obtain⟨lb,hlb⟩:∃lb,lb=(An E D n b).length:=⟨_,rfl⟩;obtain⟨lk,hlk⟩:∃lk,lk=((List.range n).filter (Lf b)).length:=⟨_,rfl⟩;rw[<-hlb]at hbp hbpI hbm;rw[<-hlb,<-hlk]at HRW HU8 HLT⊢;have HLL:Hid (lb=(An E D n b).length/\lk=((List.range n).filter (Lf b)).length):=⟨hlb,hlk⟩
                     clear hlb hlk;go_upto_region 37 with fail
                     refine Al (fun u=>Hid (PF u6 u u3.heap.size (.slice (some ⟨gb,ob,none⟩) n cb) (.slice aV n cV) (.slice (some ⟨g5,0,none⟩) (b+1) cap5) (Is++[I b]) (.slice al ys.length cl) ys/\Ak u u8.heap.size #[.int .i64 (b:Int),.slice aB lb cB,.slice aK lk cK] 68/\Below u8.heap.size u8 u/\Below U.heap.size U u)) ⟨HU8.o.1,HU8.o.2.1,Aa _ _,HU8.o.2.2⟩ ?_
                     intro U9 HU9;clear HU8;have s0:U9.cell? ⟨u8.heap.size,0,none⟩=some (.int .i64 (b:Int)):=HU9.o.2.1.cell 0;have s1:U9.cell? ⟨u8.heap.size,1,none⟩=some (.slice aB lb cB):=HU9.o.2.1.cell 1;have s2:U9.cell? ⟨u8.heap.size,2,none⟩=some (.slice aK lk cK):=HU9.o.2.1.cell 2;have x5:U9.cell? ⟨u3.heap.size,5,none⟩=some (.slice al ys.length cl):=HU9.o.1.blk.cell 5;have bN:=Aa U9 (.cells #[.int .i64 (b:Int),.slice aB lb cB,.slice aK lk cK] 68);have HPN:Hid (PF u6 (U9.alloc (.cells #[.int .i64 (b:Int),.slice aB lb cB,.slice aK lk cK] 68)) u3.heap.size (.slice (some ⟨gb,ob,none⟩) n cb) (.slice aV n cV) (.slice (some ⟨g5,0,none⟩) (b+1) cap5) (Is++[I b]) (.slice al ys.length cl) ys/\u6.heap.size<=(U9.alloc (.cells #[.int .i64 (b:Int),.slice aB lb cB,.slice aK lk cK] 68)).heap.size/\Below U.heap.size U (U9.alloc (.cells #[.int .i64 (b:Int),.slice aB lb cB,.slice aK lk cK] 68))):=⟨HU9.o.1.keep bN,(HU9.o.1.keep bN).size,Ab HU9.o.2.2.2 lR bN⟩
                     have HNW:Hid (∀j u,[(.int .i64 (b:Int):Value),.slice aB lb cB,.slice aK lk cK][j]?=some u->(U9.alloc (.cells #[.int .i64 (b:Int),.slice aB lb cB,.slice aK lk cK] 68)).cell? ((⟨U9.heap.size,0,none⟩:Addr).add j)=some u):=fun j u hj=>World.news_of_block (Ak.new U9 #[.int .i64 (b:Int),.slice aB lb cB,.slice aK lk cK] 68) j u hj
                     have HGO:Hid (∀g9 cap9 w9,w9.ownsRow u6.heap.size 68 3 (.slice (some ⟨g9,0,none⟩) (ys.length+1) cap9) (ys.length+1) (ys.flatMap Ba++[.int .i64 (b:Int),.slice aB lb cB,.slice aK lk cK])->(U9.alloc (.cells #[.int .i64 (b:Int),.slice aB lb cB,.slice aK lk cK] 68)).grownBy w9 (Value.slice al ys.length cl).ownBlock->Ak w9 u3.heap.size #[.int .i64 0,.int .i64 0,.slice (some ⟨gb,ob,none⟩) n cb,.slice aV n cV,.slice (some ⟨g5,0,none⟩) (b+1) cap5,.slice al ys.length cl] 52/\PF u6 (w9.setCell ⟨u3.heap.size,5,none⟩ (.slice (some ⟨g9,0,none⟩) (ys.length+1) cap9)) u3.heap.size (.slice (some ⟨gb,ob,none⟩) n cb) (.slice aV n cV) (.slice (some ⟨g5,0,none⟩) (b+1) cap5) (Is++[I b]) (.slice (some ⟨g9,0,none⟩) (ys.length+1) cap9) (ys++[((⟨(b:Int),ints (An E D n b),ints ((List.range n).filter (Lf b))⟩:ML),(.slice aB lb cB:Value),(.slice aK lk cK:Value))])):=fun g9 cap9 w9 hown hgrow=>by
                      have k1:=Ag HRW.o.1 (Ab HU9.o.2.2.1 lR bN) lR;have k2:=Ag HRW.o.2.1 (Ab HU9.o.2.2.1 lR bN) lR;rw[Ck,<-AA]at k1 k2;exact HU.o.loop (m:=⟨(b:Int),ints (An E D n b),ints ((List.range n).filter (Lf b))⟩) HPN.o.2.2 k1 k2 HRW.o.2.2 hown hgrow
                     have hmx9:ys.length+1<=maxLen:=by unfold maxLen;omega
                     have hby9:(ys.length+1)*56<=140737488355328:=by omega
                     have hne9:∀u∈[(.int .i64 (b:Int):Value),.slice aB lb cB,.slice aK lk cK],u.oneCell'=true:=fun u hu=>by simp at hu;rcases hu with rfl|rfl|rfl<;>rfl
                     go_wp2_with (at_builtin;refine wpList_append_lies _ rfl _ _ 50 rfl u6.heap.size 68 l0 (.agg #[.int .i64 0,.slice none 0 0,.slice none 0 0]) 3 56 Tryz.underlying50 hl hl0 hl1 hl2 rfl (by decide) _ ys.length (ys.flatMap Ba) rfl HPN.o.1.lps ⟨U9.heap.size,0,none⟩ 1 1 [.int .i64 (b:Int),.slice aB lb cB,.slice aK lk cK] rfl rfl HNW.o hne9 Nat.one_pos hmx9 hby9 HPN.o.2.1 _ rfl ?_;intro g9 cap9 w9 hown9 hgrow9 hat9 hlt9;obtain⟨kb9,l9⟩:=HGO.o g9 cap9 w9 hown9 hgrow9;have HU10:Hid (PF u6 (w9.setCell ⟨u3.heap.size,5,none⟩ (.slice (some ⟨g9,0,none⟩) (ys.length+1) cap9)) u3.heap.size (.slice (some ⟨gb,ob,none⟩) n cb) (.slice aV n cV) (.slice (some ⟨g5,0,none⟩) (b+1) cap5) (Is++[I b]) (.slice (some ⟨g9,0,none⟩) (ys.length+1) cap9) (ys++[((⟨(b:Int),ints (An E D n b),ints ((List.range n).filter (Lf b))⟩:ML),(.slice aB lb cB:Value),(.slice aK lk cK:Value))])):=l9;have x6:w9.cell? ⟨u3.heap.size,5,none⟩=some (.slice al ys.length cl):=kb9.cell 5;have z9:=kb9.frozen 5;clear hown9 hgrow9 hat9 hlt9 kb9 l9)
                     go_roundw
                     case rel=>exact⟨b+1,_,_,_,by omega,by go_num,by rw[aH,aI];omega,by rw[HIN.o];exact HU10.o,HLT.o⟩
                     case measure=>simp[intOf];omega
                . have ebn:b=n:=by omega
                  have hltI:¬(b:Int)<(n:Int):=by omega
                  rw[ebn]at HL;obtain⟨ai,ci,e0⟩:=Ax (HL.o.1.fam.own _ (bR ..));simp only[a7,bo]at e0;subst e0;obtain⟨al,cl,e0⟩:=Ax HL.o.1.lps;subst e0;have HBX:Hid (Below u3.heap.size u3 wr):=HP6.o.1.bel.trans HL.o.1.bel;have HEW:Hid (Ak wr w.heap.size KK 52/\Below w.heap.size w wr/\w.heap.size<u3.heap.size):=⟨HEB.o.1.keep HBX.o,Ab HEB.o.2 lR HBX.o,HEB.o.1.lt⟩
                  have HFO:Hid (AR xs ⟨0,0,Ao xs,ints O.reverse,(List.range n).map I,AZ E D Lf n n⟩):=JC HN.o.1 HN.o.2 HG.o.1 HG.o.2 HON.o HVS.o HPL.o.2.2.2.1 HD.o HNB.o HI.o HLF.o;have HRF:Hid (Ey (six wr w.heap.size (.int .i64 0) (.int .i64 0) (.slice (some ⟨gb,ob,none⟩) n cb) (.slice aV n cV) (.slice ai n ci) (.slice al ys.length cl)) (.slice (some ⟨gb,ob,none⟩) n cb) (.slice aV n cV) (.slice ai n ci) (.slice al ys.length cl) ⟨0,0,Ao xs,ints O.reverse,(List.range n).map I,AZ E D Lf n n⟩):=Pp HOB3.o HBX.o HP6.o.1 HL.o.1 HL.o.2 HEW.o.2.2 hsz6 (by rw[bV];omega);have t0:wr.cell? ⟨u3.heap.size,0,none⟩=some (.int .i64 0):=HL.o.1.blk.cell 0;have t1:wr.cell? ⟨u3.heap.size,1,none⟩=some (.int .i64 0):=HL.o.1.blk.cell 1;have t2:wr.cell? ⟨u3.heap.size,2,none⟩=some (.slice (some ⟨gb,ob,none⟩) n cb):=HL.o.1.blk.cell 2;have t3:wr.cell? ⟨u3.heap.size,3,none⟩=some (.slice aV n cV):=HL.o.1.blk.cell 3;have t4:wr.cell? ⟨u3.heap.size,4,none⟩=some (.slice ai n ci):=HL.o.1.blk.cell 4;have t5:wr.cell? ⟨u3.heap.size,5,none⟩=some (.slice al ys.length cl):=HL.o.1.blk.cell 5;have r0:wr.cell? ⟨w.heap.size,0,none⟩=some (.int .i64 0):=HEW.o.1.cell 0
                  have r1:wr.cell? ⟨w.heap.size,1,none⟩=some (.int .i64 0):=HEW.o.1.cell 1;have r2:wr.cell? ⟨w.heap.size,2,none⟩=some (.slice none 0 0):=HEW.o.1.cell 2;have r3:wr.cell? ⟨w.heap.size,3,none⟩=some (.slice none 0 0):=HEW.o.1.cell 3;have r4:wr.cell? ⟨w.heap.size,4,none⟩=some (.slice none 0 0):=HEW.o.1.cell 4;have r5:wr.cell? ⟨w.heap.size,5,none⟩=some (.slice none 0 0):=HEW.o.1.cell 5;have f0:=HEW.o.1.frozen 0;have f1:=HEW.o.1.frozen 1;have f2:=HEW.o.1.frozen 2;have f3:=HEW.o.1.frozen 3;have f4:=HEW.o.1.frozen 4;have f5:=HEW.o.1.frozen 5;clear HL HP6;go_wp2_with fail
                  obtain⟨q0,q1,q2,q3,q4,q5⟩:=BU HEW.o.1 (.int .i64 0) (.int .i64 0) (.slice (some ⟨gb,ob,none⟩) n cb) (.slice aV n cV) (.slice ai n ci) (.slice al ys.length cl);simp only[six]at q0 q1 q2 q3 q4 q5;exact bC (v:=.agg #[.int .i64 0,.int .i64 0,.slice (some ⟨gb,ob,none⟩) n cb,.slice aV n cV,.slice ai n ci,.slice al ys.length cl]) (by simp[results,Tryz.results16,go_sem,q0,q1,q2,q3,q4,q5]) rfl ⟨⟨0,0,Ao xs,ints O.reverse,(List.range n).map I,AZ E D Lf n n⟩,_,_,_,_,rfl,HFO.o,HRF.o,BT HEW.o.2.1 lR _ _ _ _ _ _⟩
   . have o1:¬x.op=25:=fun q=>by simp[DX,q]at hon
     have o2:¬x.op=29:=fun q=>by simp[DX,q]at hon
     have o1':(x.op==25)=false:=by simpa using o1
     have o2':(x.op==29)=false:=by simpa using o2
     have o1n:(x.op != 25)=true:=by simpa using o1
     have o2n:(x.op != 29)=true:=by simpa using o2
     go_wp2_with fail
     obtain⟨q0,q1,q2,q3,q4,q5⟩:=BU HE1.o.1 (.int .i64 1) (.int .i64 (lx:Int)) (.slice none 0 0) (.slice none 0 0) (.slice none 0 0) (.slice none 0 0);simp only[six]at q0 q1 q2 q3 q4 q5;refine bC (v:=.agg #[.int .i64 1,.int .i64 (lx:Int),.slice none 0 0,.slice none 0 0,.slice none 0 0,.slice none 0 0]) (by simp[results,Tryz.results16,go_sem,q0,q1,q2,q3,q4,q5]) rfl ⟨Dc 1 ((xs.length:Int)-1),_,_,_,_,?_,.off HG.o.1 HG.o.2 hon,Ey.none _ _ _,BT HE1.o.2 lR _ _ _ _ _ _⟩;have:((xs.length:Int)-1)=(lx:Int):=by rw[HLX.o];omega
     simp only[Dc,this]
end Go.Proofs.YtdipfjmlfbdkdaaGreat
