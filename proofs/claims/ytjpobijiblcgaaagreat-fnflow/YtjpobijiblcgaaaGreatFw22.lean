import Derived.Test.YtjpobijiblcgaaaGreatFw0
import Derived.Test.YtjpobijiblcgaaaGreatFw20
import Derived.Test.YtjpobijiblcgaaaGreatFw16
import Derived.Test.YtjpobijiblcgaaaGreatFw18
import Derived.Test.YtjpobijiblcgaaaGreatFw14
import Derived.Test.YtjpobijiblcgaaaGreatFw10
import Derived.Test.YtjpobijiblcgaaaGreatFw2
namespace Go.Proofs.YtjpobijiblcgaaaGreat
open Go.ChangeShapes Go.WideShapes Go.ChangeAt Go.RowKit
set_option linter.unusedVariables false
set_option maxHeartbeats 8000000
set_option maxRecDepth 100000
structure BK(w u:World)(n gB:Nat)(FS:List (Value×List Nat)):Prop where
 frow:u.ownsRow w.heap.size 26 1 (.slice (some ⟨gB,0,none⟩) n n) n (FS.map Prod.fst)
 fam:CJ u w.heap.size (FS.map fun x=>(x.1,ints x.2))
 bel:Below w.heap.size w u
theorem BK.keep{w u u':World}{n gB:Nat}{FS:List (Value×List Nat)}(h:BK w u n gB FS)(hb:Below u.heap.size u u'):BK w u' n gB FS:=⟨Aj h.frow hb lR,h.fam.keepB hb,Af h.bel lR hb⟩
theorem BK.app{w u u':World}{n gB g cap y b:Nat}{V:Value}{FS:List (Value×List Nat)}{l:List Nat}(h:BK w u n gB FS)(hy:FS[y]?=some (V,l))(hown:u'.ownsRow w.heap.size 2 1 (.slice (some ⟨g,0,none⟩) (l.length+1) cap) (l.length+1) (nv l++[.int .i64 (b:Int)]))(hg:u.grownBy u' V.ownBlock)(hat:V.ownBlock=some g\/g=u.heap.size):u'.ownsRow w.heap.size 26 1 (.slice (some ⟨gB,0,none⟩) n n) n (FS.map Prod.fst)/\BK w (u'.setCell ⟨gB,y,none⟩ (.slice (some ⟨g,0,none⟩) (l.length+1) cap)) n gB (FS.set y (.slice (some ⟨g,0,none⟩) (l.length+1) cap,l++[b])):=by
 obtain⟨hyl,hye⟩:=aD.1 hy;have hFS:FS=FS.take y++(V,l)::FS.drop (y+1):=by rw[<-hye,<-dJ hyl,dR]
 have hlen:(FS.take y).length=y:=by rw[bh];omega
 have oV:=h.fam.own (V,ints l) (bJ.2 ⟨(V,l),aE hy,rfl⟩);have kf:u'.ownsRow w.heap.size 26 1 (.slice (some ⟨gB,0,none⟩) n n) n (FS.map Prod.fst):=BP h.frow hg oV (by decide)
 have hset:FS.set y (.slice (some ⟨g,0,none⟩) (l.length+1) cap,l++[b])=FS.take y++(.slice (some ⟨g,0,none⟩) (l.length+1) cap,l++[b])::FS.drop (y+1):=by
  have:=Nf (FS.take y) (FS.drop (y+1)) (V,l) (.slice (some ⟨g,0,none⟩) (l.length+1) cap,l++[b]);rw[hlen,<-hFS]at this;exact this
 have km:CJ u' w.heap.size ((FS.set y (.slice (some ⟨g,0,none⟩) (l.length+1) cap,l++[b])).map fun x=>(x.1,ints x.2)):=by
  have h0:=h.fam;rw[hFS,br,dF]at h0;rw[hset,br,dF];refine CJ.grow (g:=g) h0 ?_ rfl hg (hat.imp id fun e=>by omega);simp only[];rw[Az,aG,aP,<-CS,En];exact hown
 obtain⟨hge,cur,hcur⟩:=At kf;refine⟨kf,?_,⟨fun x hx=>aR (km.own x hx) (a:=⟨gB,y,none⟩) (fun e=>A7 (km.own x hx) hcur (by decide) gB e rfl) _,km.sep⟩,(h.bel.grown hg h.bel.size (fun i hi=>(oV.lt i hi).1)).setCell hge _⟩;have:=(kf.stored y (.slice (some ⟨g,0,none⟩) (l.length+1) cap)).1;rw[List.map_set];exact this
theorem Kr{E:Nat->List Nat}{D:Nat->Nat->Bool}{b k y:Nat}(hy:(E b)[k]?=some y)(x:Nat):Cr E D x b (k+1)=if x=y/\D y b=true then Cr E D x b k++[b]else Cr E D x b k:=by
 by_cases e:x=y
 . subst e
   by_cases q:D x b=true
   . rw[cD ⟨rfl,q⟩,Jk hy q]
   . rw[bu (fun r=>q r.2),GA hy (fun r=>q r.2)]
 . rw[bu (fun r=>e r.1),GA hy (fun r=>e r.1.symm)]
def Qm(w w':World)(n:Nat)(E:Nat->List Nat)(O:List Nat)(D:Nat->Nat->Bool)(e:Ending):Prop:=(∃b k y:Nat,e=.returned (.tuple #[.slice none 0 0,.int .i64 (y:Int)])/\Es E n (I6 O D) b k y)\/∃gB FS,e=.returned (.tuple #[.slice (some ⟨gB,0,none⟩) n n,.int .i64 (-1)])/\(∀b,b<n->∀t∈E b,¬I6 O D b t)/\BK w w' n gB FS/\FS.length=n/\∀x,x<n->∃V,FS[x]?=some (V,Au E D n x)
theorem I9 (G n gN cN gP cP gi ci:Nat)(E:Nat->List Nat)(O:List Nat)(I:Nat->Int)(D:Nat->Nat->Bool)(w:World)(hn:n<=1024)(hP:Dq E n (DE O))(hI:Kl E n (DE O) I)(hD:∀d b,D d b=true↔DA E d b)(hsz:∀b,(E b).length<=2)
 (h0:w.cell? ⟨G,0,none⟩=some (.slice (some ⟨gN,0,none⟩) n cN)) (hN:Er w gN 0 n E) (hG:GI w G n gP cP gi ci (DE O) I):
 Calls Tryz.prog 15 #[.pointer (some ⟨G,0,none⟩)] w fun e w'=>Qm w w' n E O D e/\Below w.heap.size w w':=by
 obtain⟨k0,hk,hx0,hx1,hx2⟩:=bH Bf;obtain⟨j0,hj,hy0,hy1,hy2⟩:=bH Me;have H:=Ah (aH hN (aH hG (aH hP (aH hI (aH hD (aH hsz h0))))));clear hN hG hP hI hD hsz;go_enter Tryz.func15,Tryz.ntmps15;go_upto_region 2 with(at_make;refine cR _ rfl _ _ 47 rfl w.heap.size 26 j0 (.slice none 0 0) 1 Tryz.underlying47 hj hy0 hy1 .i64 .i64 _ _ n rfl rfl rfl rfl (by rw[hy2];omega) (by unfold maxLen;omega) lR ?_;intro w3 hown hgrow)
 rw[FV]at hown
 have HB0:Hid (BK w w3 n w.heap.size ((List.range n).map fun x=>((.slice none 0 0:Value),Au E D 0 x))):=by
  refine⟨?_,⟨fun x hx=> ?_,?_⟩,Cm hgrow⟩
  . rw[eF]
    have e:(List.range n).map (Prod.fst ∘ fun x=>((.slice none 0 0:Value),Au E D 0 x))=List.replicate n (.slice none 0 0):=by
     apply cQ;intro j;by_cases hj:j<n
     . simp[hj]
     . rw[ae (by simp;omega),ae (by simp;omega)]
    rw[e];exact hown
  . simp only[bJ]at hx
    obtain⟨y,⟨z,_,rfl⟩,rfl⟩:=hx;have:ints (Au E D 0 z)=[]:=by simp[Au,ints]
    simp only[this];exact ba _ _ _ _
  . rw[eF]
    refine dX.2 (dt.imp fun _=> ?_);intro g hg;cases hg
 have x0:=Ac HB0.o.bel h0;clear hown hgrow h0;obtain⟨gB,hgB⟩:∃gB,gB=w.heap.size:=⟨_,rfl⟩;have HGB:Hid (gB=w.heap.size):=hgB;rw[<-hgB]at⊢;have HB1:Hid (BK w w3 n gB ((List.range n).map fun x=>((.slice none 0 0:Value),Au E D 0 x))):=by rw[HGB.o];exact HB0
 clear hgB HB0;go_wp2
 go_loopw [20] (fun i wr=>∃(b:Nat) (FS:List (Value×List Nat)),b<=n/\i=.int .i64 b/\FS.length=n/\Hid (BK w wr n gB FS/\(∀x,x<n->∃V,FS[x]?=some (V,Au E D b x))/\(∀b',b'<b->∀t∈E b',¬I6 O D b' t))) (fun i _=>n-(intOf i).toNat)
 case atStart=>exact⟨0,_,by omega,rfl,by simp,HB1.o,fun x hx=>⟨.slice none 0 0,by simp[hx]⟩,fun b' hb'=>by omega⟩
 case round =>
  clear HB1 x0;obtain⟨b,FS,hb,rfl,hFS,HL⟩:=hrel;by_cases hlt:b<n
  . have hltI :(b:Int)<(n:Int):=by omega
    obtain⟨a,ca,g0,g1⟩:=H.o.1 b hlt;rw[bG]at g0;have HGR:Hid (Gk w (.slice a (E b).length ca) (E b)):=g1;replace g0:=Ac HL.o.1.bel g0
    have hE2:=H.o.2.2.2.2.2.1 b;clear g1;go_wp2
    go_loopw [27] (fun i wr=>∃(k:Nat) (FS:List (Value×List Nat)),k<=(E b).length/\i=.int .i64 k/\FS.length=n/\Hid (BK w wr n gB FS/\(∀x,x<n->∃V,FS[x]?=some (V,Au E D b x++Cr E D x b k))/\(∀b',b'<b->∀t∈E b',¬I6 O D b' t)/\(∀k' t,k'<k->(E b)[k']?=some t->¬I6 O D b t))) (fun i _=>2-(intOf i).toNat)
    case atStart=>exact⟨0,FS,by omega,rfl,hFS,HL.o.1,fun x hx=>by obtain⟨V,hV⟩:=HL.o.2.1 x hx;exact⟨V,by rw[In,dU];exact hV⟩,HL.o.2.2,fun k' t hk'=>by omega⟩
    case round=>
     clear HL g0;obtain⟨k,FS,hk',rfl,hFS,HL⟩:=hrel;by_cases hlt2:k<(E b).length
     . have hlt2I:(k:Int)<((E b).length:Int):=by omega
       obtain⟨y,hy⟩:∃y,(E b)[k]?=some y:=⟨_,aA hlt2⟩;have hyn:y<n:=H.o.2.2.1.edge b hlt y (aE hy);have hynI:(y:Int)<(n:Int):=by omega
       have HY:Hid ((E b)[k]?=some y):=hy;obtain⟨ga,oa,rfl,_,y0⟩:=HGR.o.at_ hy;replace y0:=Ac HL.o.1.bel y0
       have hg:=H.o.2.1.keep HL.o.1.bel;have p0:=hg.p;have py:=hg.pc y hyn;have pb:=hg.pc b hlt;clear hy hg
       have HNX:Hid (¬I6 O D b y->∀k' t',k'<k+1->(E b)[k']?=some t'->¬I6 O D b t'):=fun hnb k' t' h1 h2=>by
        by_cases e:k'=k
        . subst e
          rw[HY.o]at h2;cases h2
          exact hnb
        . exact HL.o.2.2.2 k' t' (by omega) h2
       by_cases hp:DE O b<DE O y
       . have hpI:(DE O b:Int)<(DE O y:Int):=by omega
         have HN:Hid ((∀x,x<n->∃V,FS[x]?=some (V,Au E D b x++Cr E D x b (k+1)))/\∀k' t',k'<k+1->(E b)[k']?=some t'->¬I6 O D b t'):=by
          refine⟨fun x hx=> ?_,HNX.o (fun q=>by have:=q.1;omega)⟩;rw[Kr HY.o x,bu]
          . exact HL.o.2.1 x hx
          . rintro⟨_,q⟩
            have:=(((H.o.2.2.2.2.1 y b).1 q).way H.o.2.2.1 hlt).2.1;omega
         go_wp2
         go_quiet (fail)
         refine AE (fun u=>Hid (BK w u n gB FS)) (HL.o.1.keep (Am _ _ _)) ?_;intro U HU;clear y0 p0 py pb;go_wp2
         go_roundw
         case rel=>exact⟨k+1,FS,by omega,by go_num,hFS,HU.o,HN.o.1,HL.o.2.2.1,HN.o.2⟩
         case measure=>simp[intOf];omega
       . have hpI:¬(DE O b:Int)<(DE O y:Int):=by omega
         go_wp2
         go_quiet (fail)
         refine AE (fun u=>Hid (BK w u n gB FS)) (HL.o.1.keep (Am _ _ _)) ?_;intro U HU;clear y0 p0 py pb;go_wp2_with fail
         refine(Lm G n gP cP gi ci y b (DE O) I U hn H.o.2.2.2.1.dinv.tree H.o.2.2.1.zero H.o.2.2.1.inj hyn hlt (H.o.2.2.2.1.all y hyn) (H.o.2.2.2.1.all b hlt) (H.o.2.1.keep HU.o.bel)).mono ?_;rintro e u5 ⟨m,rfl,hm,hkm,hM,b5⟩
         have HMY:Hid (m=y↔D y b=true):=by
          rw[H.o.2.2.2.2.1,<-H.o.2.2.2.1.dom y b hlt];constructor
          . intro e
            subst e;exact((hM m).1 .here).2
          . intro q
            exact DI.anti H.o.2.2.2.1.dinv.tree hyn ((hM m).1 .here).1 ((hM y).2 ⟨.here,q⟩)
         have HU5:Hid (BK w u5 n gB FS):=HU.o.keep b5;clear hM b5 HU;by_cases hmy:m=y
         . subst hmy
           have HDy:Hid (D m b=true):=HMY.o.1 rfl;obtain⟨V,hV⟩:=HL.o.2.1 m hyn;obtain⟨aV,cV,eV⟩:=AJ (HL.o.1.fam.own (V,ints (Au E D b m++Cr E D m b k)) (bJ.2 ⟨(V,_),aE hV,rfl⟩));simp only[Az]at eV;subst eV
           have hll:(Au E D b m++Cr E D m b k).length<=4096:=by
            have h1:=Et H.o.2.2.2.2.2.1 D m b;have h2:=Hc E D m b k;rw[aG];omega
           generalize hLV:Au E D b m++Cr E D m b k=lv at hV hll;have HLV:=Ah (aH hLV hV);clear hV hLV HMY
           have HFC:Hid (∀(u':World),u'.ownsRow w.heap.size 26 1 (.slice (some ⟨gB,0,none⟩) n n) n (FS.map Prod.fst)->u'.cell? ⟨gB,m,none⟩=some (.slice aV lv.length cV)):=fun u' hu'=>by
            have:=hu'.cellAt m (by omega);rw[a7,HLV.o.2]at this;exact this
           have bE:=Aa u5 (.cells #[.int .i64 (b:Int)] 2);have x2:=HFC.o _ HU5.o.frow;have HUE:=Ah (aH (HU5.o.keep bE) (aY HU5.o.bel.size bE.size))
           have HOW:Hid ((u5.alloc (.cells #[.int .i64 (b:Int)] 2)).ownsRow w.heap.size 2 1 (.slice aV lv.length cV) lv.length (nv lv)):=by
            have:=HUE.o.1.fam.own (.slice aV lv.length cV,ints lv) (bJ.2 ⟨(_,lv),aE HLV.o.2,rfl⟩);rw[Az,<-CS]at this;exact this
           have HAP:Hid (∀g6 cap6 w6,w6.ownsRow w.heap.size 2 1 (.slice (some ⟨g6,0,none⟩) (lv.length+1) cap6) (lv.length+1) (nv lv++[.int .i64 (b:Int)])->(u5.alloc (.cells #[.int .i64 (b:Int)] 2)).grownBy w6 (Value.slice aV lv.length cV).ownBlock->((Value.slice aV lv.length cV).ownBlock=some g6\/g6=(u5.alloc (.cells #[.int .i64 (b:Int)] 2)).heap.size)->w6.cell? ⟨gB,m,none⟩=some (.slice aV lv.length cV)/\w6.frozen? ⟨gB,m,none⟩=false/\BK w (w6.setCell ⟨gB,m,none⟩ (.slice (some ⟨g6,0,none⟩) (lv.length+1) cap6)) n gB (FS.set m (.slice (some ⟨g6,0,none⟩) (lv.length+1) cap6,lv++[b]))):=fun g6 cap6 w6 hown hgrow hat=>by
            obtain⟨q1,q2⟩:=HUE.o.1.app HLV.o.2 hown hgrow hat;exact⟨HFC.o _ q1,q1.frozenAt m,q2⟩
           clear bE;go_wp2_with (at_builtin;refine wpList_append_lies _ rfl _ _ 26 rfl w.heap.size 2 k0 (.int .i64 0) 1 8 Tryz.underlying26 hk hx0 hx1 hx2 rfl (by decide) _ lv.length (nv lv) rfl HOW.o ⟨u5.heap.size,0,none⟩ 1 1 [.int .i64 (b:Int)] rfl rfl (Bg u5 (b:Int)) (fun u hu=>by simp at hu;subst hu;rfl) (by omega) (by simp[maxLen];omega) (by omega) HUE.o.2 _ rfl ?_;intro g6 cap6 w6 hown hgrow hat hlt9;obtain⟨t6,z6,l6⟩:=HAP.o g6 cap6 w6 hown hgrow hat;have HU6:Hid (BK w (w6.setCell ⟨gB,m,none⟩ (.slice (some ⟨g6,0,none⟩) (lv.length+1) cap6)) n gB (FS.set m (.slice (some ⟨g6,0,none⟩) (lv.length+1) cap6,lv++[b]))):=l6;clear hown hgrow hat hlt9 l6)
           have HN:Hid ((∀x,x<n->∃V,(FS.set m (.slice (some ⟨g6,0,none⟩) (lv.length+1) cap6,lv++[b]))[x]?=some (V,Au E D b x++Cr E D x b (k+1)))/\∀k' t',k'<k+1->(E b)[k']?=some t'->¬I6 O D b t'):=by
            refine⟨fun x hx=> ?_,HNX.o (fun q=>q.2 HDy.o)⟩;rw[Kr HY.o x];by_cases e:x=m
            . subst e
              refine⟨.slice (some ⟨g6,0,none⟩) (lv.length+1) cap6,?_⟩;rw[cD ⟨rfl,HDy.o⟩,<-cJ,HLV.o.1,cY (by omega)]
            . rw[bu (fun r=>e r.1),cU (Ne.symm e)]
              exact HL.o.2.1 x hx
           clear x2 HUE HOW HAP HFC;go_roundw
           case rel=>exact⟨k+1,FS.set m (.slice (some ⟨g6,0,none⟩) (lv.length+1) cap6,lv++[b]),by omega,by go_num,by rw[dD];exact hFS,HU6.o,HN.o.1,HL.o.2.2.1,HN.o.2⟩
           case measure=>simp[intOf];omega
         . have hmyB:((m:Int)==(y:Int))=false:=by simp;omega
           have hDy:¬D y b=true:=fun q=>hmy (HMY.o.2 q)
           have HFB:Hid (Es E n (I6 O D) b k y):=⟨hlt,HY.o,⟨by omega,hDy⟩,fun b' k' x' hb' hx' hl=>by
            rcases hl with q|⟨rfl,q⟩
            . exact HL.o.2.2.1 b' q x' (aE hx')
            . exact HL.o.2.2.2 k' x' q hx'⟩
           go_wp2
           go_ret2
           exact⟨Or.inl ⟨b,k,y,rfl,HFB.o⟩,HU5.o.bel⟩
     . obtain rfl:k=(E b).length:=by omega
       have HN:Hid ((∀x,x<n->∃V,FS[x]?=some (V,Au E D (b+1) x))/\∀b',b'<b+1->∀t∈E b',¬I6 O D b' t):=by
        refine⟨fun x hx=>by rw[Gl];exact HL.o.2.1 x hx,fun b' hb' t ht=> ?_⟩;by_cases e:b'=b
        . subst e
          obtain⟨q,hq⟩:=cH ht;exact HL.o.2.2.2 q t (aD.1 hq).1 hq
        . exact HL.o.2.2.1 b' (by omega) t ht
       go_wp2
       go_roundw
       case rel=>exact⟨b+1,FS,by omega,by go_num,hFS,HL.o.1,HN.o.1,HN.o.2⟩
       case measure=>simp[intOf];omega
  . have ebn:b=n:=by omega
    have hltI:¬(b:Int)<(n:Int):=by omega
    rw[ebn]at HL;go_wp2
    go_ret2
    exact⟨Or.inr ⟨gB,FS,rfl,HL.o.2.2,HL.o.1,hFS,HL.o.2.1⟩,HL.o.1.bel⟩
structure LP(w u:World)(V:Value)(ys:List (ML×Value×Value)):Prop where
 lps:u.ownsRow w.heap.size 35 3 V ys.length (ys.flatMap Bw)
 fam:CJ u w.heap.size (ys.map fun y=>(y.2.2,y.1.blocks))
 bel:Below w.heap.size w u
theorem LP.keep{w u u':World}{V:Value}{ys:List (ML×Value×Value)}(h:LP w u V ys)(hb:Below u.heap.size u u'):LP w u' V ys:=⟨Aj h.lps hb lR,h.fam.keepB hb,Af h.bel lR hb⟩
theorem LP.add{w u u1 u':World}{g cap:Nat}{V BV KV:Value}{ys:List (ML×Value×Value)}{m:ML}(h:LP w u V ys)(hb:Below u.heap.size u u1)(h2:u1.ownsRow u.heap.size 2 1 KV m.blocks.length (m.blocks.flatMap Ab))(hown:u'.ownsRow w.heap.size 35 3 (sG g (ys.length+1) cap) (ys.length+1) (ys.flatMap Bw++[iZ m.head,BV,KV]))(hg:u1.grownBy u' V.ownBlock):LP w u' (sG g (ys.length+1) cap) (ys++[(m,BV,KV)]):=by
 have h':=h.keep hb
 have kf:CJ u1 w.heap.size ((ys++[(m,BV,KV)]).map fun y=>(y.2.2,y.1.blocks)):=by
  have:=h.fam.join hb h2 h.bel.size;simpa using this
 refine⟨?_,kf.grown_other hg h'.lps (by decide),h'.bel.grown hg h'.bel.size (fun i hi=>(h'.lps.lt i hi).1)⟩;rw[aG,aP,a8];exact hown
theorem Kw{E:Nat->List Nat}{D:Nat->Nat->Bool}{n b:Nat}{S O:List Nat}{Lf:Nat->Bool}(hE:∀b,b<n->∀x∈E b,x<n)(hb:b<n)(hv:Vs (Bc E n) [b] [] (Au E D n b) S O)(hL:∀x,Lf x=true↔Dh E D n b x):((ints (O++[b])).mergeSort fun x y=>decide (x<=y))=ints ((List.range n).filter Lf)/\O.length+1<=n:=by
 obtain⟨N,t⟩:=hv.told;obtain rfl:O=N:=by simpa using t.o
 have hfr:∀q,q<n->∀x∈Bc E n q,x<n:=fun q _ x hx=>((Du E n q x).1 hx).1
 have hOlt:∀x∈O,x<n:=fun x hx=>by
  obtain⟨q,q1,q2⟩:=t.from_ x hx;exact q2.lt hfr ((FP E D n b q).1 q1).1
 have hbO:b∉O:=fun q=>t.fresh b q (bc ..)
 have hnd:(O++[b]).Nodup:=dn.2 ⟨t.nodup,by simp,fun a ha c hc e=>by
  simp only[aX,bB,cW]at hc;subst hc e;exact hbO ha⟩
 have hm:∀x,x∈O++[b]↔Dh E D n b x:=fun x=>by
  rw[aS,am];unfold Dh;rw[Or.comm];refine or_congr_right ?_;rw[t.iff x];constructor
  . rintro⟨q,q1,q2⟩
    exact⟨q,q1,q2.mono fun y hy e=>hy (by rw[e];simp)⟩
  . rintro⟨q,q1,q2⟩
    exact⟨q,q1,q2.mono fun y hy e=>hy (by simpa using e)⟩
 have hint:(ints (O++[b])).Nodup:=by
  unfold ints;refine dX.2 (hnd.imp fun h e=>h (by omega))
 refine⟨?_,?_⟩
 . refine Gv _ _ (JJ _ hint) ?_ fun z=> ?_
   . unfold ints
     refine dX.2 ((List.Pairwise.filter _ dt).imp fun h=>by omega)
   . rw [(dp _ _).mem_iff]
     unfold ints;rw[bJ,bJ];constructor
     . rintro⟨x,h1,h2⟩
       refine⟨x,db.2 ⟨c6.2 ?_,(hL x).2 ((hm x).1 h1)⟩,h2⟩;rcases aS.1 h1 with q|q
       . exact hOlt x q
       . have:x=b:=by simpa using q
         omega
     . rintro⟨x,h1,h2⟩
       exact⟨x,(hm x).2 ((hL x).1 (db.1 h1).2),h2⟩
 . have:=Ey (O++[b]) n (fun x hx=>by
  rcases aS.1 hx with q|q
  . exact hOlt x q
  . have:x=b:=by simpa using q
    omega) hnd
   rw[aG,aP]at this;omega
theorem NI(G n gF cF gB:Nat)(E:Nat->List Nat)(D Lf:Nat->Nat->Bool)(FS:List (Value×List Nat))(w:World)(hn:n<=1024)(hE:∀b,b<n->∀x∈E b,x<n)(hsz:∀b,(E b).length<=2)(hL:∀h x,Lf h x=true↔Dh E D n h x)(h1:w.cell? ⟨G,1,none⟩=some (sG gF n cF))(hF:Er w gF 0 n (Bc E n))(hB:∀x,x<n->∃V,FS[x]?=some (V,Au E D n x)/\w.cell? ⟨gB,x,none⟩=some V/\Gk w V (Au E D n x)):
 Calls Tryz.prog 16 #[.pointer (some ⟨G,0,none⟩),sG gB n n] w fun e w'=>∃V,e=.returned V/\∃ys,LP w w' V ys/\ys.map Prod.fst=Bh E D Lf n n/\List.Sublist (ys.map fun y=>(y.2.1,y.1.back)) (FS.map fun x=>(x.1,ints x.2)):=by
 obtain⟨k0,hk,hx0,hx1,hx2⟩:=bH Bf;obtain⟨l0,hl,hl0,hl1,hl2⟩:=bH Mc;have H:=Ah (aH hF (aH hE (aH hsz (aH hL (aH h1 hB)))));clear hF hE hsz hL h1 hB;go_enter Tryz.func16,Tryz.ntmps16;go_wp2
 go_loopw [5,12] (fun V i wr=>∃(b:Nat) (ys:List (ML×Value×Value)) (a:Option Addr) (c:Nat),b<=n/\i=iZ b/\V=.slice a ys.length c/\ys.length<=b/\Hid (LP w wr V ys/\ys.map Prod.fst=Bh E D Lf n b/\List.Sublist (ys.map fun y=>(y.2.1,y.1.back)) ((FS.take b).map fun x=>(x.1,ints x.2)))) (fun _ i _=>n-(intOf i).toNat)
 case atStart=>exact⟨0,[],none,0,by omega,rfl,rfl,by simp,⟨ba _ _ _ _,⟨fun x hx=>(by cases hx),List.Pairwise.nil⟩,bY _ _⟩,rfl,by simp⟩
 case round=>
  obtain⟨b,ys,al,cl,hb,rfl,rfl,hyl,HL⟩:=hrel;by_cases hlt:b<n
  . have hltI:(b:Int)<(n:Int):=by omega
    obtain⟨VB,q1,q2,q3⟩:=H.o.2.2.2.2.2 b hlt;obtain⟨aB,cB,rfl⟩:=Rd.is_slice q3;have HV:=Ah (aH q1 q3)
    have HTK:Hid ((FS.take (b+1)).map (fun x=>(x.1,ints x.2))=(FS.take b).map (fun x=>(x.1,ints x.2))++[(.slice aB (Au E D n b).length cB,ints (Au E D n b))]):=by
     obtain⟨hl,e⟩:=aD.1 q1;show _=_;rw[a6 hl,e,br];rfl
    replace q2:=Ac HL.o.1.bel q2
    have hbm:(Au E D n b).length<=2048:=by have:=Et H.o.2.2.1 D b n;omega
    clear q1 q3;by_cases hBL:Au E D n b=[]
    . have hbl0:(Au E D n b).length=0:=by rw[hBL];rfl
      have HN:Hid (ys.map Prod.fst=Bh E D Lf n (b+1)/\List.Sublist (ys.map fun y=>(y.2.1,y.1.back)) ((FS.take (b+1)).map fun x=>(x.1,ints x.2))):=by
       refine⟨?_,?_⟩
       . rw[DO,cD hBL,dU]
         exact HL.o.2.1
       . rw[HTK.o]
         exact HL.o.2.2.trans (dB _ _)
      rw[hbl0]at q2;go_wp2
      go_roundw
      case rel=>exact⟨b+1,ys,al,cl,by omega,by go_num,by trivial,by omega,HL.o.1,HN.o.1,HN.o.2⟩
      case measure=>simp[intOf];omega
    . have hbp:0<(Au E D n b).length:=dN.2 hBL
      have hbpB:(((Au E D n b).length:Int)==0)=false:=by simp;omega
      have hbpI:¬((Au E D n b).length:Int)=0:=by omega
      have f1:=Ac HL.o.1.bel H.o.2.2.2.2.1;have bA:=Aa wr (.cells #[iZ (b:Int)] 2);have f2:=Ac bA f1;have HAA:=Ah (aH (Af HL.o.1.bel lR bA) (aH (((An.new wr #[iZ (b:Int)] 2).cell 0):(wr.alloc (.cells #[iZ (b:Int)] 2)).cell? ⟨wr.heap.size,0,none⟩=some (iZ (b:Int))) bA));clear bA;go_wp2_with fail
      refine(Gg gF 0 cF n (Bc E n) _ (Au E D n b) _ [b] _ hn (fun q hq x hx=>((Du E n q x).1 hx).1) (fun q=>by have:=He H.o.2.2.1 n q;omega) (H.o.1.keep HAA.o.1) (fun x hx=>((FP E D n b x).1 hx).1) (by omega) (HV.o.2.keep HAA.o.1) (.inr ⟨b,wr.heap.size,1,rfl,hlt,rfl,HAA.o.2.1⟩)).mono ?_;rintro e u2 ⟨V2,S2,O2,rfl,hv2,ho2,b2⟩;obtain⟨a2,c2,rfl⟩:=AJ ho2;obtain⟨hsort,hOl⟩:=Kw H.o.2.1 hlt hv2 (H.o.2.2.2.1 b);have HO2:Hid (EM u2 wr.heap.size (.slice a2 O2.length c2) O2/\Below wr.heap.size wr u2/\((ints (O2++[b])).mergeSort fun x y=>decide (x<=y))=ints ((List.range n).filter (Lf b))):=⟨AP ho2 HAA.o.2.2.size,Af HAA.o.2.2 lR b2,hsort⟩
      have hA2:=Aa u2 (.cells #[iZ (b:Int)] 2);have HOA:Hid ((u2.alloc (.cells #[iZ (b:Int)] 2)).ownsRow wr.heap.size 2 1 (.slice a2 O2.length c2) O2.length (nv O2)/\wr.heap.size<=(u2.alloc (.cells #[iZ (b:Int)] 2)).heap.size/\Below wr.heap.size wr (u2.alloc (.cells #[iZ (b:Int)] 2))):=⟨HO2.o.1.keep hA2,aY HO2.o.2.1.size hA2.size,Af HO2.o.2.1 lR hA2⟩
      clear hv2 ho2 b2 hsort HAA f1 f2 hA2
      go_wp2_with (first
       |(at_builtin;refine wpList_append_lies _ rfl _ _ 26 rfl wr.heap.size 2 k0 (iZ 0) 1 8 Tryz.underlying26 hk hx0 hx1 hx2 rfl (by decide) _ O2.length (nv O2) rfl HOA.o.1 ⟨u2.heap.size,0,none⟩ 1 1 [iZ (b:Int)] rfl rfl (Bg u2 (b:Int)) (fun u hu=>by simp at hu;subst hu;rfl) (by omega) (by simp[maxLen];omega) (by omega) HOA.o.2.1 _ rfl ?_;intro g3 cap3 w3 hown hgrow hat hlt9;have HO3:Hid (w3.ownsRow wr.heap.size 2 1 (sG g3 (O2.length+1) cap3) (O2.length+1) (nv (O2++[b]))/\Below wr.heap.size wr w3):=⟨by rw[En];exact hown,HOA.o.2.2.grown hgrow HOA.o.2.2.size (fun i hi=>(HO2.o.1.lt i hi).1)⟩;clear hown hgrow hat hlt9)
       |fail)
      have HZ:Hid (w3.ownsRow wr.heap.size 2 1 (sG g3 (ints (O2++[b])).length cap3) (ints (O2++[b])).length ((ints (O2++[b])).flatMap Ab)/\(ints (O2++[b])).length=O2.length+1):=by
       have e:(ints (O2++[b])).length=O2.length+1:=by rw[Az,aG,aP]
       rw[e,<-CS];exact⟨HO3.o.1,rfl⟩
      have HSO:=Pd g3 cap3 wr.heap.size (ints (O2++[b])) w3 (by rw[HZ.o.2];omega) HZ.o.1;rw[HZ.o.2,HO2.o.2.2]at HSO;refine HSO.mono ?_;rintro e u4 ⟨rfl,ho4,g4⟩
      have hlenF:((List.range n).filter (Lf b)).length=O2.length+1:=by
       have:=congrArg List.length HO2.o.2.2;rw[(dp _ _).length_eq,HZ.o.2,Az]at this;exact this.symm
      have HU4:Hid (u4.ownsRow wr.heap.size 2 1 (sG g3 (O2.length+1) cap3) (ints ((List.range n).filter (Lf b))).length ((ints ((List.range n).filter (Lf b))).flatMap Ab)/\Below wr.heap.size wr u4):=by
       refine⟨by rw[Az,hlenF];exact ho4,HO3.o.2.grown g4 HO3.o.2.size (fun j hj=>by cases hj;exact(At HO3.o.1).1)⟩
      clear ho4 g4 HSO HZ HO3 HOA HO2 hlenF;have bN:=Aa u4 (.cells #[iZ (b:Int),.slice aB (Au E D n b).length cB,sG g3 (O2.length+1) cap3] 35)
      have HPN:Hid (LP w (u4.alloc (.cells #[iZ (b:Int),.slice aB (Au E D n b).length cB,sG g3 (O2.length+1) cap3] 35)) (.slice al ys.length cl) ys/\Below wr.heap.size wr (u4.alloc (.cells #[iZ (b:Int),.slice aB (Au E D n b).length cB,sG g3 (O2.length+1) cap3] 35))/\w.heap.size<=(u4.alloc (.cells #[iZ (b:Int),.slice aB (Au E D n b).length cB,sG g3 (O2.length+1) cap3] 35)).heap.size):=by
       have hb4:=Af HU4.o.2 lR bN;exact⟨HL.o.1.keep hb4,hb4,aY HL.o.1.bel.size hb4.size⟩
      have HNW:Hid (∀j u,[(iZ (b:Int):Value),.slice aB (Au E D n b).length cB,sG g3 (O2.length+1) cap3][j]?=some u->(u4.alloc (.cells #[iZ (b:Int),.slice aB (Au E D n b).length cB,sG g3 (O2.length+1) cap3] 35)).cell? ((⟨u4.heap.size,0,none⟩:Addr).add j)=some u):=fun j u hj=>World.news_of_block (An.new u4 #[iZ (b:Int),.slice aB (Au E D n b).length cB,sG g3 (O2.length+1) cap3] 35) j u hj
      have HGO:Hid (∀g9 cap9 w9,w9.ownsRow w.heap.size 35 3 (sG g9 (ys.length+1) cap9) (ys.length+1) (ys.flatMap Bw++[iZ (b:Int),.slice aB (Au E D n b).length cB,sG g3 (O2.length+1) cap3])->(u4.alloc (.cells #[iZ (b:Int),.slice aB (Au E D n b).length cB,sG g3 (O2.length+1) cap3] 35)).grownBy w9 (Value.slice al ys.length cl).ownBlock->LP w w9 (sG g9 (ys.length+1) cap9) (ys++[((⟨(b:Int),ints (Au E D n b),ints ((List.range n).filter (Lf b))⟩:ML),(.slice aB (Au E D n b).length cB:Value),(sG g3 (O2.length+1) cap3:Value))])):=fun g9 cap9 w9 hown hgrow=>HL.o.1.add (m:=⟨(b:Int),ints (Au E D n b),ints ((List.range n).filter (Lf b))⟩) HPN.o.2.1 (Aj HU4.o.1 bN lR) hown hgrow
      have HFN:Hid ((ys++[((⟨(b:Int),ints (Au E D n b),ints ((List.range n).filter (Lf b))⟩:ML),(.slice aB (Au E D n b).length cB:Value),(sG g3 (O2.length+1) cap3:Value))]).map Prod.fst=Bh E D Lf n (b+1)/\List.Sublist ((ys++[((⟨(b:Int),ints (Au E D n b),ints ((List.range n).filter (Lf b))⟩:ML),(.slice aB (Au E D n b).length cB:Value),(sG g3 (O2.length+1) cap3:Value))]).map fun y=>(y.2.1,y.1.back)) ((FS.take (b+1)).map fun x=>(x.1,ints x.2))):=by
       refine⟨?_,?_⟩
       . rw[DO,bu hBL,br,HL.o.2.1]
         rfl
       . rw[HTK.o,br]
         exact HL.o.2.2.append (List.Sublist.refl _)
      have hmx9:ys.length+1<=maxLen:=by unfold maxLen;omega
      have hby9:(ys.length+1)*56<=140737488355328:=by omega
      have hne9:∀u∈[(iZ (b:Int):Value),.slice aB (Au E D n b).length cB,sG g3 (O2.length+1) cap3],u.oneCell'=true:=fun u hu=>by simp at hu;rcases hu with rfl|rfl|rfl<;>rfl
      go_wp2_with (at_builtin;refine wpList_append_lies _ rfl _ _ 27 rfl w.heap.size 35 l0 (.agg #[iZ 0,sN,sN]) 3 56 Tryz.underlying27 hl hl0 hl1 hl2 rfl (by decide) _ ys.length (ys.flatMap Bw) rfl HPN.o.1.lps ⟨u4.heap.size,0,none⟩ 1 1 [iZ (b:Int),.slice aB (Au E D n b).length cB,sG g3 (O2.length+1) cap3] rfl rfl HNW.o hne9 Nat.one_pos hmx9 hby9 HPN.o.2.2 _ rfl ?_;intro g9 cap9 w9 hown9 hgrow9 hat9 hlt9;have HU10:Hid (LP w w9 (sG g9 (ys.length+1) cap9) (ys++[((⟨(b:Int),ints (Au E D n b),ints ((List.range n).filter (Lf b))⟩:ML),(.slice aB (Au E D n b).length cB:Value),(sG g3 (O2.length+1) cap3:Value))])):=HGO.o g9 cap9 w9 hown9 hgrow9;clear hown9 hgrow9 hat9 hlt9)
      go_roundw
      case rel=>exact⟨b+1,_,some ⟨g9,0,none⟩,cap9,by omega,by go_num,by rw[aG,aP],by rw[aG,aP];omega,HU10.o,HFN.o.1,HFN.o.2⟩
      case measure=>simp[intOf];omega
  . have ebn:b=n:=by omega
    have hltI:¬(b:Int)<(n:Int):=by omega
    rw[ebn]at HL;have HN:Hid (List.Sublist (ys.map fun y=>(y.2.1,y.1.back)) (FS.map fun x=>(x.1,ints x.2))):=HL.o.2.2.trans (List.Sublist.map _ (List.take_sublist _ _));go_wp2
    go_ret
    exact⟨_,rfl,ys,HL.o.1,HL.o.2.1,HN.o⟩
def Gi(p:MP)(f:MF):Prop:=∀k,k<f.code.length->∀x,f.code[k]?=some x->A9 p f x
def DJ(p:MP):Prop:=∀j,j<p.funcs.length->∀f,p.funcs[j]?=some f->Gi p f
def Bj(p:MP)(n:Int):Prop:=
 (n=1/\¬Bb p.regions)\/(n=2/\Bb p.regions/\¬BF p.consts)\/(n=3/\Bb p.regions/\BF p.consts/\¬Cj p.funcs)\/
 (n=4/\Bb p.regions/\BF p.consts/\Cj p.funcs/\¬DJ p)\/(n=5/\Bb p.regions/\BF p.consts/\Cj p.funcs/\DJ p/\¬Ci p)\/
 (n=0/\Bb p.regions/\BF p.consts/\Cj p.funcs/\DJ p/\Ci p)
theorem Bj.one{p:MP}{n m:Int}(h:Bj p n)(h':Bj p m):n=m:=by
 unfold Bj at h h';by_cases q1:Bb p.regions<;>by_cases q2:BF p.consts<;>by_cases q3:Cj p.funcs<;>by_cases q4:DJ p<;>by_cases q5:Ci p<;>simp[q1,q2,q3,q4,q5]at h h'<;>omega
def BU(e:Ending)(p:MP):Prop:=∃n,e=.returned (.int .i64 n)/\Bj p n
theorem BU.f1{p:MP}(h:¬Bb p.regions):BU (.returned (.int .i64 1)) p:=⟨_,rfl,.inl ⟨rfl,h⟩⟩
theorem BU.f2{p:MP}(h1:Bb p.regions)(h:¬BF p.consts):BU (.returned (.int .i64 2)) p:=⟨_,rfl,.inr (.inl ⟨rfl,h1,h⟩)⟩
theorem BU.f3{p:MP}(h1:Bb p.regions/\BF p.consts)(h:¬Cj p.funcs):BU (.returned (.int .i64 3)) p:=⟨_,rfl,.inr (.inr (.inl ⟨rfl,h1.1,h1.2,h⟩))⟩
theorem BU.f4{p:MP}(h1:Bb p.regions/\BF p.consts)(h2:Cj p.funcs)(h:¬DJ p):BU (.returned (.int .i64 4)) p:=⟨_,rfl,.inr (.inr (.inr (.inl ⟨rfl,h1.1,h1.2,h2,h⟩)))⟩
theorem BU.f5{p:MP}(h1:Bb p.regions/\BF p.consts)(h2:Cj p.funcs)(h3:DJ p)(h:¬Ci p):BU (.returned (.int .i64 5)) p:=⟨_,rfl,.inr (.inr (.inr (.inr (.inl ⟨rfl,h1.1,h1.2,h2,h3,h⟩))))⟩
theorem BU.f0{p:MP}(h1:Bb p.regions/\BF p.consts)(h2:Cj p.funcs)(h3:DJ p)(h:Ci p):BU (.returned (.int .i64 0)) p:=⟨_,rfl,.inr (.inr (.inr (.inr (.inr ⟨rfl,h1.1,h1.2,h2,h3,h⟩))))⟩
theorem KR{fs:List MF}{n:Nat}(hl:fs.length=n)(h0:¬n=0)(h1:n<=32)(h:∀j,j<n->∀f,fs[j]?=some f->BX f (decide (j=0))):Cj fs:=by
 refine⟨by rw[hl];exact h0,by rw[hl];exact h1,fun j hj f hf=>(h j (by omega) f hf).1,fun f hf=>(h 0 (by omega) f hf).2 (by simp)⟩
theorem KS{fs:List MF}{k:Nat}{f:MF}(h:Cj fs)(hf:fs[k]?=some f):BX f (decide (k=0)):=by
 refine⟨h.2.2.1 k (aD.1 hf).1 f hf,fun e=> ?_⟩;obtain rfl:k=0:=by simpa using e
 exact h.2.2.2 f hf
theorem PM{fs:List MF}{k:Nat}{f:MF}(h1:fs[k]?=some f)(hx:BX f (decide (k=0)))(h:∀j,j<k->∀f,fs[j]?=some f->BX f (decide (j=0))):∀j,j<k+1->∀f,fs[j]?=some f->BX f (decide (j=0)):=by
 intro j hj g hg;by_cases e:j=k
 . subst e
   rw[h1]at hg;exact(bC hg)▸hx
 . exact h j (by omega) g hg
structure MR(w u:World)(a b c d:Value):Prop where
 bel:Below w.heap.size w u
 prog:DS u w.heap.size a b c d
theorem MR.keep{w u u':World}{a b c d:Value}(h:MR w u a b c d)(hb:Below u.heap.size u u'):MR w u' a b c d:=⟨Af h.bel lR hb,h.prog.keep hb⟩
theorem MR.of(w:World)(a b c d:Value)(t:TypeId):MR w (w.alloc (.cells #[a,b,c,d] t)) a b c d:=⟨Aa _ _,DS.new _ _ _ _ _ _⟩
structure Pg(w:World)(vr vk vf vt:Value)(p:MP)(xs:List (List Int×Value))(ys:List (MF×VF)):Prop where
 small:p.small
 wf:p.wf
 rd:Fr w ⟨vr,vk,vf,vt⟩ p
 rr:Rd w 1 vr p.regions.length (xs.flatMap BL)
 rm:xs.map Prod.fst=p.regions
 re:∀x∈xs,Rd w 1 x.2 x.1.length (x.1.flatMap Ab)
 rl:xs.length=p.regions.length
 fr:Rd w 4 vf p.funcs.length (ys.flatMap AN)
 fm:ys.map Prod.fst=p.funcs
 fe:∀x∈ys,Hq w x.2 x.1
 fl:ys.length=p.funcs.length
theorem Pg.of{w:World}{v:VP}{p:MP}(hs:p.small)(hw:p.wf)(h:Fr w v p):∃xs ys,Pg w v.r v.k v.f v.t p xs ys:=by
 obtain⟨xs,h1,h2,h3⟩:=h.regions;obtain⟨ys,k1,k2,k3⟩:=h.funcs;exact⟨xs,ys,hs,hw,h,h2,h1,h3,by rw[<-h1];simp,k2,k1,k3,by rw[<-k1];simp⟩
theorem C6 (v :VP)(p:MP)(w:World)(hs:p.small)(hw:p.wf)(h:Fr w v p):
 Calls Tryz.prog 80 #[.agg #[v.r,v.k,v.f,v.t]] w fun e w'=>BU e p/\Below w.heap.size w w':=by
 obtain⟨xs,ys,hP⟩:=Pg.of hs hw h
 obtain⟨vr,vk,vf,vt⟩:=v
 simp only[]at hP
 obtain⟨r1,c1,e1⟩:=hP.rr.is_slice
 obtain⟨r3,c3,e3⟩:=hP.fr.is_slice
 have hm:=hs.funcs
 subst e1 e3
 clear hs hw h
 have HP:Hid _:=hP
 clear hP
 have HI:Hid _:=MR.of w (.slice r1 p.regions.length c1) vk (.slice r3 p.funcs.length c3) vt 65
 by_cases q0:p.regions.length=3
 . generalize hN :p.regions.length=n at*
   subst q0
   generalize hM:p.funcs.length=m at*
   have HL:=Ah (aH hN hM)
   have HP:Hid (Pg w (.slice r1 3 c1) vk (.slice r3 m c3) vt p xs ys):=HP
   clear hN hM
   go_enter Tryz.func80,Tryz.ntmps80
   go_wp2
   go_loopw [3] (fun i wr=>∃k:Nat,k<=3/\i=.int .i64 k/\Hid (∀j,j<k->∀r,p.regions[j]?=some r->Il r)/\Hid (MR w wr (.slice r1 3 c1) vk (.slice r3 m c3) vt)) (fun i _=>3-(intOf i).toNat)
   case atStart=>exact⟨0,by omega,rfl,fun j hj=>by omega,HI⟩
   case round =>
    clear HI
    obtain⟨k,hk,rfl,HT,HI⟩:=hrel
    obtain⟨p0,p1,p2,p3⟩:=HI.o.prog
    by_cases hlt:k<3
    . obtain⟨⟨f,v⟩,hx⟩:∃x,xs[k]?=some x:=⟨_,aA (by rw[HP.o.rl,HL.o.1];exact hlt)⟩
      have e1:=D1 HP.o.rm hx
      have hf:=(HP.o.re _ (aE hx)).keep HI.o.bel lR
      have HX:=Ah (aH hf (aH (HP.o.small.region _ (aE e1)) e1))
      clear e1
      rcases HP.o.rr.2 with⟨e0,_⟩|⟨b,o,c,e1,hc1⟩
      . rw[HL.o.1]at e0
        omega
      . rw [HL.o.1]at e1
        simp only[aI,bU]at e1
        obtain⟨rfl,rfl⟩:=e1
        have i0:=Rd.elem BT hc1 k _ hx 0 _ rfl
        rw[<-HI.o.bel.cell (aF i0)]at i0
        rw[cZ,aw]at i0
        clear hc1 hx
        simp only[]at i0 hf
        obtain⟨av,cv,ev⟩:=hf.is_slice
        subst ev
        clear hf
        have hz:=HX.o.2.1
        by_cases q1:256<f.length
        . have HN:Hid (¬Bb p.regions):=fun e=>absurd (e.2 k (by rw[HL.o.1];exact hlt) f HX.o.2.2).1 (by omega)
          have q1':(256:Int)<(f.length:Int):=by omega
          generalize f.length=z at*
          go_wp2
          go_ret
          exact⟨.f1 HN.o,HI.o.bel⟩
        . have q1':¬(256:Int)<(f.length:Int):=by omega
          go_wp2_with fail
          refine(FE _ f _ HX.o.2.1 HX.o.1).mono ?_
          rintro e u ⟨rfl,rfl⟩
          cases t1:f.all FC
          . have HN:Hid (¬Bb p.regions):=fun e=>by have:=(e.2 k (by rw[HL.o.1];exact hlt) f HX.o.2.2).2;simp[t1]at this
            clear t1
            go_wp2
            go_ret
            exact⟨.f1 HN.o,HI.o.bel⟩
          . have HN:Hid (Il f):=⟨by omega,t1⟩
            clear t1
            go_wp2
            go_roundw
            case rel=>exact⟨k+1,by omega,by go_num,EI HX.o.2.2 HN.o HT.o,HI⟩
            case measure=>simp[intOf];omega
    . have hkn : 3=k:=by omega
      subst hkn
      have HR:Hid (Bb p.regions):=⟨HL.o.1,by rw[HL.o.1];exact HT.o⟩
      clear HT hlt hk
      go_wp2_with fail
      refine(J8 ⟨.slice r1 3 c1,vk,.slice r3 m c3,vt⟩ p _ HP.o.small (HP.o.rd.keep HI.o.bel lR)).mono ?_
      rintro e u1 ⟨⟨b1,rfl,hb1⟩,bl1⟩
      have HI1:Hid (MR w u1 (.slice r1 3 c1) vk (.slice r3 m c3) vt):=HI.o.keep bl1
      clear bl1 p0 p1 p2 p3 HI
      cases b1
      . have HN:Hid (¬BF p.consts):=fun e=>by simp[e]at hb1
        clear hb1
        go_wp2
        go_ret
        exact⟨.f2 HR.o HN.o,HI1.o.bel⟩
      have HRC:=Ah (aH HR.o (hb1.1 rfl))
      clear hb1 HR
      obtain⟨p0,p1,p2,p3⟩:=HI1.o.prog
      by_cases q2:m=0
      . have HN:Hid (¬Cj p.funcs):=fun e=>e.1 (HL.o.2.trans q2)
        subst q2
        go_wp2
        go_ret
        exact⟨.f3 HRC.o HN.o,HI1.o.bel⟩
      have q2':((m:Int)==0)=false:=by simpa using q2
      by_cases q3:32<m
      . have HN:Hid (¬Cj p.funcs):=fun e=>absurd e.2.1 (by rw[HL.o.2];omega)
        have q3':(32:Int)<(m:Int):=by omega
        go_wp2
        go_ret
        exact⟨.f3 HRC.o HN.o,HI1.o.bel⟩
      have q3':¬(32:Int)<(m:Int):=by omega
      go_wp2
      clear p0 p1 p2 p3 q2' q3'
      go_loopw [4] (fun i wr=>∃k:Nat,k<=m/\i=.int .i64 k/\Hid (∀j,j<k->∀f,p.funcs[j]?=some f->BX f (decide (j=0)))/\Hid (MR w wr (.slice r1 3 c1) vk (.slice r3 m c3) vt)) (fun i _=>m-(intOf i).toNat)
      case atStart=>exact⟨0,by omega,rfl,fun j hj=>by omega,HI1⟩
      case round =>
       clear HI1
       obtain⟨k,hk,rfl,HT,HI⟩:=hrel
       obtain⟨p0,p1,p2,p3⟩:=HI.o.prog
       by_cases hlt:k<m
       . obtain⟨⟨f,v⟩,hx⟩:∃x,ys[k]?=some x:=⟨_,aA (by rw[HP.o.fl,HL.o.2];exact hlt)⟩
         have e1:=D1 HP.o.fm hx
         have HX:=Ah (aH ((HP.o.fe _ (aE hx)).keep HI.o.bel lR) (aH (HP.o.small.func _ (aE e1)) e1))
         clear e1
         rcases HP.o.fr.2 with⟨e0,_⟩|⟨b,o,c,e1,hc1⟩
         . rw[HL.o.2]at e0
           omega
         rw[HL.o.2]at e1
         simp only[aI,bU]at e1
         obtain⟨rfl,rfl⟩:=e1
         have i0:=Rd.elem Ao hc1 k _ hx 0 _ rfl
         have i1:=Rd.elem Ao hc1 k _ hx 1 _ rfl
         have i2:=Rd.elem Ao hc1 k _ hx 2 _ rfl
         have i3:=Rd.elem Ao hc1 k _ hx 3 _ rfl
         rw[<-HI.o.bel.cell (aF i0),aw]at i0
         rw[<-HI.o.bel.cell (aF i1)]at i1
         rw[<-HI.o.bel.cell (aF i2)]at i2
         rw[<-HI.o.bel.cell (aF i3)]at i3
         clear hc1 hx
         simp only[]at i0 i1 i2 i3
         go_wp2_with fail
         refine(Mi v f ((k:Int)==0) _ HX.o.2.1 HX.o.1).mono ?_
         rintro e u2 ⟨⟨b2,rfl,hb2⟩,bl2⟩
         have HI2:Hid (MR w u2 (.slice r1 3 c1) vk (.slice (some ⟨b,o,none⟩) m c3) vt):=HI.o.keep bl2
         have hk0:((k:Int)==0)=decide (k=0):=by
          by_cases e:k=0
          . subst e
            rfl
          . rw[eo e]
            simpa using e
         rw[hk0]at hb2
         clear bl2 HI p0 p1 p2 p3 i0 i1 i2 i3 hk0
         cases b2
         . have HN:Hid (¬Cj p.funcs):=fun e=>by simp[KS e HX.o.2.2]at hb2
           clear hb2
           go_wp2
           go_ret
           exact⟨.f3 HRC.o HN.o,HI2.o.bel⟩
         . have HC:Hid (BX f (decide (k=0))):=hb2.1 rfl
           clear hb2
           go_wp2
           go_roundw
           case rel=>exact⟨k+1,by omega,by go_num,PM HX.o.2.2 HC.o HT.o,HI2⟩
           case measure=>simp[intOf];omega
       . have hkn:m=k:=by omega
         subst hkn
         have HFo:Hid (Cj p.funcs):=KR HL.o.2 q2 (by omega) HT.o
         clear HT hlt hk
         go_wp2
         clear p0 p1 p2 p3
         go_loopw [5,6] (fun i kk wr=>∃k:Nat,k<=m/\i=.int .i64 k/\Hid (∀j,j<k->∀f,p.funcs[j]?=some f->Gi p f)/\Hid (MR w wr (.slice r1 3 c1) vk (.slice r3 m c3) vt)) (fun i _ _=>m-(intOf i).toNat)
         case atStart=>exact⟨0,by omega,rfl,fun j hj=>by omega,HI⟩
         case round=>
          clear HI
          obtain⟨k,hk,rfl,HT,HI⟩:=hrel
          obtain⟨p0,p1,p2,p3⟩:=HI.o.prog
          by_cases hlt:k<m
          . obtain⟨⟨f,v⟩,hx⟩:∃x,ys[k]?=some x:=⟨_,aA (by rw[HP.o.fl,HL.o.2];exact hlt)⟩
            have e1:=D1 HP.o.fm hx
            have HX:=Ah (aH (HP.o.fe _ (aE hx)) (aH (HP.o.small.func _ (aE e1)) (aH e1 (HP.o.wf.funcs _ (aE e1)))))
            clear e1
            rcases HP.o.fr.2 with⟨e0,_⟩|⟨b,o,c,e1,hc1⟩
            . rw[HL.o.2]at e0
              omega
            rw[HL.o.2]at e1
            simp only[aI,bU]at e1
            obtain⟨rfl,rfl⟩:=e1
            have HCF:Hid (w.cell? ⟨b,o+k*4,none⟩=some v.p/\w.cell? ⟨b,o+k*4+1,none⟩=some (.int .i64 f.result)/\w.cell? ⟨b,o+k*4+2,none⟩=some v.l/\w.cell? ⟨b,o+k*4+3,none⟩=some v.c):=⟨Rd.elem Ao hc1 k _ hx 0 _ rfl,Rd.elem Ao hc1 k _ hx 1 _ rfl,Rd.elem Ao hc1 k _ hx 2 _ rfl,Rd.elem Ao hc1 k _ hx 3 _ rfl⟩
            clear hc1 hx
            obtain⟨ac,cc,ec⟩:=HX.o.1.2.2.is_slice
            obtain⟨vp,vl,vc⟩:=v
            simp only[]at ec
            subst ec
            have hz:=HX.o.2.1.2.2
            generalize hZ:f.code.length=z at*
            have HZ:Hid (f.code.length=z):=hZ
            clear hZ
            have i3:=HCF.o.2.2.2
            rw[<-HI.o.bel.cell (aF i3)]at i3
            simp only[]at i3
            go_wp2
            clear p0 p1 p2 p3 i3
            go_loopw [6] (fun i wr=>∃q:Nat,q<=z/\i=.int .i64 q/\Hid (∀j,j<q->∀x,f.code[j]?=some x->A9 p f x)/\Hid (MR w wr (.slice r1 3 c1) vk (.slice (some ⟨b,o,none⟩) m c3) vt)) (fun i _=>z-(intOf i).toNat)
            case atStart=>exact⟨0,by omega,rfl,fun j hj=>by omega,HI⟩
            case round=>
             clear HI
             obtain⟨q,hq,rfl,HTT,HI⟩:=hrel
             obtain⟨p0,p1,p2,p3⟩:=HI.o.prog
             obtain⟨i0,i1,i2,i3⟩:=HCF.o
             rw[<-HI.o.bel.cell (aF i0)]at i0
             rw[<-HI.o.bel.cell (aF i1)]at i1
             rw[<-HI.o.bel.cell (aF i2)]at i2
             rw[<-HI.o.bel.cell (aF i3)]at i3
             by_cases hlq:q<z
             . obtain⟨x,hx⟩:∃x,f.code[q]?=some x:=⟨_,aA (by rw[HZ.o];exact hlq)⟩
               have hxw:=HX.o.2.2.2.code x (aE hx)
               rcases HX.o.1.2.2.2 with⟨e0,_⟩|⟨b',o',c',e1,hc2⟩
               . rw[HZ.o]at e0
                 omega
               rw[HZ.o]at e1
               simp only[aI,bU]at e1
               obtain⟨rfl,rfl⟩:=e1
               have j0:=Rd.elem MI.cells_length hc2 q x hx 0 _ rfl
               have j1:=Rd.elem MI.cells_length hc2 q x hx 1 _ rfl
               have j2:=Rd.elem MI.cells_length hc2 q x hx 2 _ rfl
               have j3:=Rd.elem MI.cells_length hc2 q x hx 3 _ rfl
               rw[<-HI.o.bel.cell (aF j0),aw]at j0
               rw[<-HI.o.bel.cell (aF j1)]at j1
               rw[<-HI.o.bel.cell (aF j2)]at j2
               rw[<-HI.o.bel.cell (aF j3)]at j3
               have HXX:Hid (f.code[q]?=some x/\x.wf):=⟨hx,hxw⟩
               clear hc2 hx hxw
               obtain⟨xo,xa,xb,xc⟩:=x
               simp only[]at j0 j1 j2 j3
               have inst:=AB.some wr
               have P0:=fun n:AB wr=>AB.cell p0 n
               have P1:=fun n:AB wr=>AB.cell p1 n
               have P2:=fun n:AB wr=>AB.cell p2 n
               have P3:=fun n:AB wr=>AB.cell p3 n
               have I0:=fun n:AB wr=>AB.cell i0 n
               have I1:=fun n:AB wr=>AB.cell i1 n
               have I2:=fun n:AB wr=>AB.cell i2 n
               have I3:=fun n:AB wr=>AB.cell i3 n
               have J0:=fun n:AB wr=>AB.cell j0 n
               have J1:=fun n:AB wr=>AB.cell j1 n
               have J2:=fun n:AB wr=>AB.cell j2 n
               have J3:=fun n:AB wr=>AB.cell j3 n
               by_cases hok:A9 p f ⟨xo,xa,xb,xc⟩
               . have HOK:Hid (A9 p f ⟨xo,xa,xb,xc⟩):=hok
                 clear hok
                 go_wp2_with fail
                 refine AV (by kernel_rfl) (by kernel_rfl) ?_
                 repeat(go_big_quiet_step ((go_at_call 96;rename_i n;exact(Ht ⟨.slice r1 3 c1,vk,.slice (some ⟨b,o,none⟩) m c3,vt⟩ p ⟨vp,vl,.slice (some ⟨b',o',none⟩) z cc⟩ f xo xa xb xc n.u HP.o.small HL.o.1 HX.o.2.1 HXX.o.2.2.1 HXX.o.2.2.2.1 HXX.o.2.2.2.2 (HP.o.rd.keep (Af HI.o.bel lR n.h) lR) (HX.o.1.keep (Af HI.o.bel lR n.h) lR)).mono fun e w'' h=>⟨h.1.true HOK.o,⟨⟨w'',Af n.h lR h.2⟩,rfl⟩⟩)))
                 refine wpQuiet_nil ?_
                 rintro w'' ⟨n,rfl⟩
                 have HI4:Hid (MR w n.u (.slice r1 3 c1) vk (.slice (some ⟨b,o,none⟩) m c3) vt):=HI.o.keep n.h
                 clear HI p0 p1 p2 p3 i0 i1 i2 i3 j0 j1 j2 j3 P0 P1 P2 P3 I0 I1 I2 I3 J0 J1 J2 J3 inst
                 go_wp2
                 go_roundw
                 case rel=>exact⟨q+1,by omega,by go_num,EI HXX.o.1 HOK.o HTT.o,HI4⟩
                 case measure=>simp[intOf];omega
               . have HOK:Hid (¬A9 p f ⟨xo,xa,xb,xc⟩):=hok
                 have HN:Hid (¬DJ p):=fun e=>hok (e k (by rw[HL.o.2];exact hlt) f HX.o.2.2.1 q (by rw[HZ.o];exact hlq) _ HXX.o.1)
                 clear hok
                 go_wp2_with fail
                 refine AV (by kernel_rfl) (by kernel_rfl) ?_
                 repeat(go_big_quiet_step ((go_at_call 96;rename_i n;exact(Ht ⟨.slice r1 3 c1,vk,.slice (some ⟨b,o,none⟩) m c3,vt⟩ p ⟨vp,vl,.slice (some ⟨b',o',none⟩) z cc⟩ f xo xa xb xc n.u HP.o.small HL.o.1 HX.o.2.1 HXX.o.2.2.1 HXX.o.2.2.2.1 HXX.o.2.2.2.2 (HP.o.rd.keep (Af HI.o.bel lR n.h) lR) (HX.o.1.keep (Af HI.o.bel lR n.h) lR)).mono fun e w'' h=>⟨h.1.false HOK.o,⟨⟨w'',Af n.h lR h.2⟩,rfl⟩⟩)))
                 refine wpQuiet_nil ?_
                 rintro w'' ⟨n,rfl⟩
                 have HI4:Hid (MR w n.u (.slice r1 3 c1) vk (.slice (some ⟨b,o,none⟩) m c3) vt):=HI.o.keep n.h
                 clear HI p0 p1 p2 p3 i0 i1 i2 i3 j0 j1 j2 j3 P0 P1 P2 P3 I0 I1 I2 I3 J0 J1 J2 J3 inst
                 go_wp2
                 go_ret
                 exact⟨.f4 HRC.o HFo.o HN.o,HI4.o.bel⟩
             . have hqz:z=q:=by omega
               subst hqz
               have HFC:Hid (Gi p f):=fun j hj x hx=>HTT.o j (by rw[<-HZ.o];exact hj) x hx
               go_wp2
               go_roundw
               case rel=>exact⟨k+1,by omega,by go_num,EI HX.o.2.2.1 HFC.o HT.o,HI⟩
               case measure=>simp[intOf];omega
          . have hkn:m=k:=by omega
            subst hkn
            have HCo:Hid (DJ p):=fun j hj f hf=>HT.o j (by rw[<-HL.o.2];exact hj) f hf
            go_wp2_with fail
            refine(K7 ⟨.slice r1 3 c1,vk,.slice r3 m c3,vt⟩ p _ HP.o.small HP.o.wf (HP.o.rd.keep HI.o.bel lR)).mono ?_
            rintro e u5 ⟨⟨b5,rfl,hb5⟩,bl5⟩
            have HI5:Hid (Below w.heap.size w u5):=Af HI.o.bel lR bl5
            clear bl5 p0 p1 p2 p3
            cases b5
            . have HN:Hid (¬Ci p):=fun e=>by simp[e]at hb5
              clear hb5
              go_wp2
              go_ret
              exact⟨.f5 HRC.o HFo.o HCo.o HN.o,HI5.o⟩
            . have HY:Hid (Ci p):=hb5.1 rfl
              clear hb5
              go_wp2
              go_ret
              exact⟨.f0 HRC.o HFo.o HCo.o HY.o,HI5.o⟩
 . have HN:Hid (¬Bb p.regions):=fun e=>q0 e.1
   have q0':((p.regions.length:Int)==3)=false:=by simp;omega
   have q0'':¬(p.regions.length:Int)=3:=by omega
   go_enter Tryz.func80,Tryz.ntmps80
   go_wp2
   go_ret
   exact⟨.f1 HN.o,HI.o.bel⟩
end Go.Proofs.YtjpobijiblcgaaaGreat
