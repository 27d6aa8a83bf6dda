import Derived.Test.YtjpobijiblcgaaaGreatFw0
import Derived.Test.YtjpobijiblcgaaaGreatFw27
namespace Go.Proofs.YtjpobijiblcgaaaGreat
open Go.ChangeShapes Go.WideShapes Go.ChangeAt Go.RowKit
set_option linter.unusedVariables false
set_option maxHeartbeats 8000000
set_option maxRecDepth 100000
theorem JX (s:Value)(xs:List MI)(w:World)(hn:xs.length<=1048576)(h:Rd w 4 s xs.length (xs.flatMap MI.cells)):
 Calls Tryz.prog 5 #[s] w fun e w'=>∃r vb vo vi vl F ys,e=.returned (.agg #[iZ r.code,iZ r.at_,vb,vo,vi,vl])/\Bm xs r/\Ii w' w.heap.size vb vo vi vl F ys r/\Below w.heap.size w w':=by
 have H:=Ah h;obtain⟨a1,c1,rfl⟩:=h.is_slice;clear h;have HE0:Hid (An (w.alloc (.cells P7 29)) w.heap.size P7 29/\Below w.heap.size w (w.alloc (.cells P7 29))):=⟨An.new _ _ _,Aa _ _⟩
 go_enter Tryz.func5,Tryz.ntmps5;go_wp2_with fail
 refine(Ix _ xs _ hn (H.o.keep HE0.o.2 lR)).mono ?_;rintro e u1 ⟨V,F,rfl,hob,hbs,b1⟩;have hz0:(w.alloc (.cells P7 29)).heap.size=w.heap.size+1:=by simp
 rw[hz0]at hob;have HE1:=Ah (aH (HE0.o.1.keep b1) (Af HE0.o.2 lR b1));clear HE0 b1 hz0;rcases hbs with⟨hg,rfl⟩|⟨hg,hF⟩
 . have r0:u1.cell? ⟨w.heap.size,0,none⟩=some (iZ 0):=HE1.o.1.cell 0
   have r1:u1.cell? ⟨w.heap.size,1,none⟩=some (iZ 0):=HE1.o.1.cell 1;have r2:u1.cell? ⟨w.heap.size,2,none⟩=some sN:=HE1.o.1.cell 2;have r3:u1.cell? ⟨w.heap.size,3,none⟩=some sN:=HE1.o.1.cell 3;have r4:u1.cell? ⟨w.heap.size,4,none⟩=some sN:=HE1.o.1.cell 4;have r5:u1.cell? ⟨w.heap.size,5,none⟩=some sN:=HE1.o.1.cell 5;have f0:=HE1.o.1.frozen 0;have f1:=HE1.o.1.frozen 1;have f2:=HE1.o.1.frozen 2;have f3:=HE1.o.1.frozen 3;have f4:=HE1.o.1.frozen 4;have f5:=HE1.o.1.frozen 5;obtain⟨ab,cb,rfl⟩:∃a c,V=.slice a 0 c:=AJ hob.row;have HG:=Ah hg;clear hg hob;go_wp2_with fail
   obtain⟨q0,q1,q2,q3,q4,q5⟩:=CD HE1.o.1 (iZ 4) (iZ 0) sN sN sN sN;simp only[six]at q0 q1 q2 q3 q4 q5;exact aT (v:=.agg #[iZ 4,iZ 0,sN,sN,sN,sN]) (by simp[results,Tryz.results5,go_sem,q0,q1,q2,q3,q4,q5]) rfl ⟨Dl 4 0,_,_,_,_,[],[],rfl,.none HG.o,Ii.none _ _ _ _,CC HE1.o.2 lR _ _ _ _ _ _⟩
 . have hrd :Ha u1 V (Ap xs):=by rw[<-hF];exact hob.rd
   obtain⟨gb,ob,cb,rfl,hgr,hfi⟩:=hrd.graph hg;have hin:=hob.ints hF rfl rfl;have hpos:=Ee hg;have hle:=DG hg;have hxl:=hg.1;obtain⟨x,hx⟩:∃x,xs[xs.length-1]?=some x:=⟨_,aA (by omega)⟩;have HG:=Ah (aH hg hx);have HEE:Hid ((∀b,b<(Ap xs).length->∀x∈nx (Ap xs) b,x<(Ap xs).length)/\∀b,(nx (Ap xs) b).length<=2):=⟨JB hg,FK _ (DT xs)⟩
   obtain⟨n,hnn⟩:∃n,n=(Ap xs).length:=⟨_,rfl⟩;obtain⟨E,hEE⟩:∃E,E=nx (Ap xs):=⟨_,rfl⟩;rw[<-hnn]at hgr hin;rw[<-hEE]at hgr;rw[<-hnn,<-hEE]at HEE;rw[<-hnn]at hpos hle hob⊢;have HB:=Ah (aH hob (aH hgr (aH hfi (aH hin hF))));have HN:=Ah (aH hnn hEE);clear hrd hgr hfi hg hnn hEE hob hin hF;have hposI:¬(n:Int)=0:=by omega
   have hposB:((n:Int)==0)=false:=by simp;omega
   obtain⟨gx,ox,rfl,hop⟩:∃gx ox,a1=some ⟨gx,ox,none⟩/\(u1.cell? ⟨gx,ox+(xs.length-1)*4,none⟩=some (iZ x.op)/\u1.cell? ⟨gx,ox+(xs.length-1)*4+1,none⟩=some (iZ x.a)/\u1.cell? ⟨gx,ox+(xs.length-1)*4+2,none⟩=some (iZ x.b)/\u1.cell? ⟨gx,ox+(xs.length-1)*4+3,none⟩=some (iZ x.c)):=by
    rcases H.o.2 with⟨e0,_⟩|⟨gx,ox,cx,e1,hc1⟩
    . omega
    . simp only[aI,bU]at e1
      have i0:=Rd.elem MI.cells_length hc1 (xs.length-1) _ hx 0 _ rfl;rw[aw]at i0;exact⟨gx,ox,e1.1,Ac HE1.o.2 i0,Ac HE1.o.2 (Rd.elem MI.cells_length hc1 (xs.length-1) _ hx 1 _ rfl),Ac HE1.o.2 (Rd.elem MI.cells_length hc1 (xs.length-1) _ hx 2 _ rfl),Ac HE1.o.2 (Rd.elem MI.cells_length hc1 (xs.length-1) _ hx 3 _ rfl)⟩
   clear hx;obtain⟨lx,hlx⟩:∃lx,xs.length=lx+1:=⟨xs.length-1,by omega⟩;rw[hlx]at hop⊢;simp only[Nat.add_sub_cancel]at hop;obtain⟨c0,c1',c2,c3⟩:=hop;have HLX:=Ah hlx;have hlx2:lx<=1048576:=by omega
   have hlx3:(lx:Int)<=1048576:=by omega
   clear hlx hn;go_wp2_with fail
   refine(Iv x u1).mono ?_;rintro e u2 ⟨rfl,b2⟩;have HE2:=Ah (aH (HE1.o.1.keep b2) (aH (Af HE1.o.2 lR b2) b2));have HW1:=Ah HE1.o.1.lt;have HW12:=Ah b2.size;clear b2 HE1 c0 c1' c2 c3;cases hon:Eg x
   . have HON:Hid (Eg x=false):=hon
     clear hon;go_wp2_with fail
     refine(Ka gb ob cb n E u2 hle hpos HEE.o.1 HEE.o.2 (HB.o.2.1.keep HE2.o.2.2) (fun b hb=>by obtain⟨f,l,q1,q2⟩:=HB.o.2.2.2.1 b hb;exact⟨f,l,Ac HE2.o.2.2 q1,Ac HE2.o.2.2 q2⟩)).mono ?_;rintro e u3 ⟨G,gN,cN,gF,gO,cO,gP,S,O,rfl,hgm⟩;have HGM:=Ah hgm;have HE3:=Ah (aH (HE2.o.1.keep hgm.bel) (aH (Af HE2.o.2.1 lR hgm.bel) (aH (Af HE2.o.2.2 lR hgm.bel) HW1.o)));clear hgm HE2;obtain⟨hOlt,hOnd,hOle,hOr⟩:=LF hpos HEE.o.1 HGM.o.vs;have HVO:Hid ((∀x∈O,x<n)/\O.Nodup/\(∀x∈O,CX E (fun _=>True) 0 x)):=⟨hOlt,hOnd,hOr⟩
     have HOR:Hid (∀k x:Nat,O.reverse[k]?=some x->u3.cell? ⟨gO,k,none⟩=some (iZ (x:Int))):=fun k x hx=>by
      have ho:=HGM.o.ord;rw[<-bg]at ho;obtain⟨_,_,ee,_,q⟩:=ho.rd.at_ hx;simp only[aJ,bf,cg]at ee;obtain⟨rfl,rfl⟩:=ee;rw[bG]at q;exact q
     have HLO:=OO G n gN cN gO cO O.reverse u3 hle (fun x hx=>hOlt x (dM.1 hx)) (by rw[bg];omega) (HGM.o.blk.cell 0) (by rw[bg];exact HGM.o.blk.cell 2) HOR.o;clear hOlt hOnd hOr;go_wp2_with fail;refine HLO.mono ?_;rintro e u4 ⟨g9,cap9,zs,rfl,own9,hsrt,hmem,b4⟩;have HE4:=Ah (aH (HE3.o.1.keep b4) (aH (Af HE3.o.2.1 lR b4) (aH (Af HE3.o.2.2.1 lR b4) b4)));clear HLO b4;cases zs with
     | cons z r=>
       obtain⟨b,rfl,hbn,hbO⟩:=(hmem z).1 (bc ..);have hbnI:(b:Int)<(n:Int):=by omega
       obtain⟨m,hm⟩:∃m,(Ap xs)[b]?=some m:=⟨_,aA (by rw[<-HN.o.1];exact hbn)⟩;have m0:=Ac HE4.o.2.2.1 (HB.o.2.2.1 b m hm);have z0:=own9.cellAt 0 (by simp);simp only[aW,Ab,ah,aM]at z0;have hlen:(0:Int)<(((b:Int)::r).length:Int):=by rw[bP];omega
       have HFO:Hid (Bm xs (Dl 2 m.first)):=.lost HG.o.1 HG.o.2 HON.o (S:=S) (O:=O) (by rw[<-HN.o.2];exact HGM.o.vs) (by rw[<-HN.o.1];exact hbn) (fun q=>hbO (dM.2 ((Ez HGM.o.vs b).1 q))) (fun c hc=>by
        refine(Ez HGM.o.vs c).2 (dM.1 (de fun q=> ?_));have h1:=(hmem (c:Int)).2 ⟨c,rfl,by omega,q⟩;rcases aX.1 h1 with e|e
        . omega
        . have:=(bi.1 hsrt).1 _ e
          omega) hm
       generalize hLL:((b:Int)::r).length=lz at hlen own9;clear own9 hsrt hmem hm hLL;have r0:u4.cell? ⟨w.heap.size,0,none⟩=some (iZ 0):=HE4.o.1.cell 0;have r1:u4.cell? ⟨w.heap.size,1,none⟩=some (iZ 0):=HE4.o.1.cell 1;have r2:u4.cell? ⟨w.heap.size,2,none⟩=some sN:=HE4.o.1.cell 2;have r3:u4.cell? ⟨w.heap.size,3,none⟩=some sN:=HE4.o.1.cell 3;have r4:u4.cell? ⟨w.heap.size,4,none⟩=some sN:=HE4.o.1.cell 4;have r5:u4.cell? ⟨w.heap.size,5,none⟩=some sN:=HE4.o.1.cell 5;have f0:=HE4.o.1.frozen 0;have f1:=HE4.o.1.frozen 1;have f2:=HE4.o.1.frozen 2;have f3:=HE4.o.1.frozen 3;have f4:=HE4.o.1.frozen 4;have f5:=HE4.o.1.frozen 5;go_wp2_with fail
       obtain⟨q0,q1,q2,q3,q4,q5⟩:=CD HE4.o.1 (iZ 2) (iZ m.first) sN sN sN sN;simp only[six]at q0 q1 q2 q3 q4 q5;exact aT (v:=.agg #[iZ 2,iZ m.first,sN,sN,sN,sN]) (by simp[results,Tryz.results5,go_sem,q0,q1,q2,q3,q4,q5]) rfl ⟨Dl 2 m.first,_,_,_,_,[],[],rfl,HFO.o,Ii.none _ _ _ _,CC HE4.o.2.1 lR _ _ _ _ _ _⟩
     | nil=>
       have hall:∀c,c<n->c∈O:=fun c hc=>dM.1 (de fun q=>by
        have:=(hmem (c:Int)).2 ⟨c,rfl,hc,q⟩;cases this)
       obtain⟨hP,hnd,hOn,hOm,hO0⟩:=De hpos HEE.o.1 HGM.o.vs (fun c hc=>(Ez HGM.o.vs c).2 (hall c hc));have HPL:=Ah (aH hP (aH hnd (aH hOm hOn)));clear own9 hsrt hmem hall hP hnd hOm hO0
       have HDO:=JT G n gN cN gF n gO cO gP n E O u4 hle HPL.o.1 HPL.o.2.2.2 HPL.o.2.1 HPL.o.2.2.1 (fun b=>by have:=He HEE.o.2 n b;omega) (by have ho:=HGM.o.ord;unfold EM at ho;rw[bg]at ho;have:=PY ho;rw[HPL.o.2.2.2]at this;exact this) (by have:=HGM.o.blk.keep HE4.o.2.2.2;rw[HPL.o.2.2.2]at this;exact this) (HGM.o.fr.keep HE4.o.2.2.2) (fun k x hx=>Ac HE4.o.2.2.2 (HOR.o k x hx)) (fun x hx=>Ac HE4.o.2.2.2 (HGM.o.pl x ((HPL.o.2.2.1 x).2 hx))) ⟨HGM.o.ne.1,HGM.o.ne.2.1,HGM.o.ne.2.2.1,HGM.o.ne.2.2.2,fun b a c hb hc=>by
        obtain⟨a',c',q1,_⟩:=HGM.o.fr b hb;rw[bG]at q1;have q2:=Ac HE4.o.2.2.2 q1;rw[hc]at q2;exact HGM.o.nf b a (Bc E n b).length c hb (q1.trans q2.symm)⟩
       go_wp2_with fail
       refine HDO.mono ?_;rintro e u5 ⟨rfl,gi,I,hdw,hdone⟩;have HGD:=Ah (aH (GD.of HGM.o HPL.o.2.2.2 HPL.o.2.2.1 HE4.o.2.2.2 hdw) hdone)
       have HE5:Hid (An u5 w.heap.size P7 29/\Below w.heap.size w u5/\Below u1.heap.size u1 u5):=by
        have h1:=HGM.o.ge;have h2:=HW12.o;have h3:=HW1.o;refine⟨?_,HE4.o.2.1.trans (hdw.bel.mono (by omega)),HE4.o.2.2.1.trans (hdw.bel.mono (by omega))⟩;have k:=HE4.o.1;unfold An at*;rw[hdw.fx w.heap.size (an.1 k).1 (by omega)];exact k
       clear HDO hdw hdone;obtain⟨D,hD⟩:∃D:Nat->Nat->Bool,∀d b,D d b=true↔DA E d b:=⟨fun d b=> @decide _ (Classical.propDecidable (DA E d b)),fun d b=>by simp⟩;have HD:=Ah hD;clear hD;have HBE:=I9 G n gN cN gP n gi n E O I D u5 hle HPL.o.1 HGD.o.2 HD.o HEE.o.2 (HGD.o.1.blk.cell 0) HGD.o.1.nx HGD.o.1.gi_;go_wp2_with fail
       refine HBE.mono ?_;rintro e u6 ⟨hback,b6⟩;have HE6:=Ah (aH (HE5.o.1.keep b6) (aH (Af HE5.o.2.1 lR b6) (aH (Af HE5.o.2.2 lR b6) (aH (HGD.o.1.keep b6) b6))));clear HBE b6;rcases hback with⟨b,k,y,rfl,hbad⟩|⟨gB,FS,rfl,hnb,hbk,hFSl,hFS⟩
       . have hyn:y<n:=HEE.o.1 b hbad.lt y (aE hbad.at_)
         have hynI:(y:Int)<(n:Int):=by omega
         have hyB:((y:Int)== -1)=false:=by simp
         have hyN:((y:Int) != -1)=true:=by simp
         obtain⟨m,hm⟩:∃m,(Ap xs)[y]?=some m:=⟨_,aA (by rw[<-HN.o.1];exact hyn)⟩;have m0:=Ac HE6.o.2.2.1 (HB.o.2.2.1 y m hm)
         have HFO:Hid (Bm xs (Dl 3 m.first)):=by
          refine .two (D:=D) (b:=b) (k:=k) (t:=y) HG.o.1 HG.o.2 HON.o (S:=S) (O:=O) (by rw[<-HN.o.2];exact HGM.o.vs) (by rw[<-HN.o.1];exact fun c hc=>(Ez HGM.o.vs c).2 ((HPL.o.2.2.1 c).2 hc)) (by rw[<-HN.o.2];exact HD.o) ?_ hm;rw[<-HN.o.1,<-HN.o.2];exact hbad
         clear hm hbad;have r0:u6.cell? ⟨w.heap.size,0,none⟩=some (iZ 0):=HE6.o.1.cell 0;have r1:u6.cell? ⟨w.heap.size,1,none⟩=some (iZ 0):=HE6.o.1.cell 1;have r2:u6.cell? ⟨w.heap.size,2,none⟩=some sN:=HE6.o.1.cell 2;have r3:u6.cell? ⟨w.heap.size,3,none⟩=some sN:=HE6.o.1.cell 3;have r4:u6.cell? ⟨w.heap.size,4,none⟩=some sN:=HE6.o.1.cell 4;have r5:u6.cell? ⟨w.heap.size,5,none⟩=some sN:=HE6.o.1.cell 5;have f0:=HE6.o.1.frozen 0;have f1:=HE6.o.1.frozen 1;have f2:=HE6.o.1.frozen 2;have f3:=HE6.o.1.frozen 3;have f4:=HE6.o.1.frozen 4;have f5:=HE6.o.1.frozen 5;go_wp2_with fail
         obtain⟨q0,q1,q2,q3,q4,q5⟩:=CD HE6.o.1 (iZ 3) (iZ m.first) sN sN sN sN;simp only[six]at q0 q1 q2 q3 q4 q5;exact aT (v:=.agg #[iZ 3,iZ m.first,sN,sN,sN,sN]) (by simp[results,Tryz.results5,go_sem,q0,q1,q2,q3,q4,q5]) rfl ⟨Dl 3 m.first,_,_,_,_,[],[],rfl,HFO.o,Ii.none _ _ _ _,CC HE6.o.2.1 lR _ _ _ _ _ _⟩
       . have HBK:Hid (BK u5 u6 n gB FS/\(∀b,b<n->∀t∈E b,¬I6 O D b t)/\FS.length=n/\∀x,x<n->∃V,FS[x]?=some (V,Au E D n x)):=⟨hbk,hnb,hFSl,hFS⟩
         clear hbk hnb hFSl hFS;obtain⟨Lf,hLf⟩:∃L:Nat->Nat->Bool,∀h y,L h y=true↔Dh E D n h y:=⟨fun h y=> @decide _ (Classical.propDecidable (Dh E D n h y)),fun h y=>by simp⟩;have HLF:=Ah hLf;clear hLf;have bD:=Ad u6
         have HLC:=NI G n gF n gB E D Lf FS u6.drew hle HEE.o.1 HEE.o.2 HLF.o ((HE6.o.2.2.2.1.blk.keep bD).cell 1) (HE6.o.2.2.2.1.fr.keep bD) (fun x hx=>by
          obtain⟨V,hV⟩:=HBK.o.2.2.2 x hx;refine⟨V,hV,?_,?_⟩
          . have:=(HBK.o.1.keep bD).frow.cellAt x (by omega)
            rw[a7,hV]at this;exact this
          . have:=Rd.of_own ((HBK.o.1.keep bD).fam.own (V,ints (Au E D n x)) (bJ.2 ⟨(V,_),aE hV,rfl⟩))
            simp only[Az]at this;rw[<-CS]at this;exact this)
         have HLC':=Ah HLC;have x2:u6.drew.cell? ⟨G,2,none⟩=some (sG gO n cO):=(HE6.o.2.2.2.1.blk.keep bD).cell 2;have x4:u6.drew.cell? ⟨G,4,none⟩=some (sG gi n n):=(HE6.o.2.2.2.1.blk.keep bD).cell 4;clear bD HLC;go_upto_region 15 with fail
         go_region_law ((go_simp;go_at_call 16;refine HLC'.o.mono ?_;rintro e u7 ⟨VL,rfl,ys,hlp,hys,hsub⟩;obtain⟨aL,cL,rfl⟩:=AJ hlp.lps;have B7:Hid (Below u6.heap.size u6 u7):=Eu hlp.bel lR;have H7:Hid (LP u6.drew u7 (.slice aL ys.length cL) ys/\ys.map Prod.fst=Bh E D Lf n n/\List.Sublist (ys.map fun y=>(y.2.1,y.1.back)) (FS.map fun x=>(x.1,ints x.2))):=⟨hlp,hys,hsub⟩;have y2:u7.cell? ⟨G,2,none⟩=some (sG gO n cO):=(HE6.o.2.2.2.1.blk.keep B7.o).cell 2;have y4:u7.cell? ⟨G,4,none⟩=some (sG gi n n):=(HE6.o.2.2.2.1.blk.keep B7.o).cell 4;have r0:u7.cell? ⟨w.heap.size,0,none⟩=some (iZ 0):=(HE6.o.1.keep B7.o).cell 0;have r1:u7.cell? ⟨w.heap.size,1,none⟩=some (iZ 0):=(HE6.o.1.keep B7.o).cell 1;have r2:u7.cell? ⟨w.heap.size,2,none⟩=some sN:=(HE6.o.1.keep B7.o).cell 2;have r3:u7.cell? ⟨w.heap.size,3,none⟩=some sN:=(HE6.o.1.keep B7.o).cell 3;have r4:u7.cell? ⟨w.heap.size,4,none⟩=some sN:=(HE6.o.1.keep B7.o).cell 4;have r5:u7.cell? ⟨w.heap.size,5,none⟩=some sN:=(HE6.o.1.keep B7.o).cell 5;have f0:=(HE6.o.1.keep B7.o).frozen 0;have f1:=(HE6.o.1.keep B7.o).frozen 1;have f2:=(HE6.o.1.keep B7.o).frozen 2;have f3:=(HE6.o.1.keep B7.o).frozen 3;have f4:=(HE6.o.1.keep B7.o).frozen 4;have f5:=(HE6.o.1.keep B7.o).frozen 5;clear hlp hys hsub))
         all_goals
          have HFO:=Ah (Jr HN.o.1 HN.o.2 HG.o.1 HG.o.2 HON.o HGM.o.vs (fun c hc=>(Ez HGM.o.vs c).2 ((HPL.o.2.2.1 c).2 hc)) HD.o HBK.o.2.1 (Nz HGD.o.2) HLF.o);have HOF:Hid (Ii (six u7 w.heap.size (iZ 0) (iZ 0) (sO gb ob n cb) (sG gO n cO) (sG gi n n) (.slice aL ys.length cL)) w.heap.size (sO gb ob n cb) (sG gO n cO) (sG gi n n) (.slice aL ys.length cL) F ys ⟨0,0,Ap xs,ints O.reverse,(List.range n).map I,Bh E D Lf n n⟩):=NN HB.o.1 HB.o.2.2.2.2 HW1.o HW12.o HE6.o.2.2.1 HGD.o.1 HE6.o.2.2.2.1 HPL.o.2.2.2 HE6.o.2.2.2.2 HBK.o.1 B7.o H7.o.1 H7.o.2.1 H7.o.2.2 _ _ _ _ _ _;have HB7:=Ah (aH (HE6.o.1.keep B7.o) (Af HE6.o.2.1 lR B7.o));clear x2 x4 y2 y4 r0 r1 r2 r3 r4 r5 f0 f1 f2 f3 f4 f5;go_wp2_with fail
          obtain⟨q0,q1,q2,q3,q4,q5⟩:=CD HB7.o.1 (iZ 0) (iZ 0) (sO gb ob n cb) (sG gO n cO) (sG gi n n) (.slice aL ys.length cL);simp only[six]at q0 q1 q2 q3 q4 q5;exact aT (v:=.agg #[iZ 0,iZ 0,sO gb ob n cb,sG gO n cO,sG gi n n,.slice aL ys.length cL]) (by simp[results,Tryz.results5,go_sem,q0,q1,q2,q3,q4,q5]) rfl ⟨⟨0,0,Ap xs,ints O.reverse,(List.range n).map I,Bh E D Lf n n⟩,_,_,_,_,F,ys,rfl,HFO.o,HOF.o,CC HB7.o.2 lR _ _ _ _ _ _⟩
   . have r0:u2.cell? ⟨w.heap.size,0,none⟩=some (iZ 0):=HE2.o.1.cell 0
     have r1:u2.cell? ⟨w.heap.size,1,none⟩=some (iZ 0):=HE2.o.1.cell 1;have r2:u2.cell? ⟨w.heap.size,2,none⟩=some sN:=HE2.o.1.cell 2;have r3:u2.cell? ⟨w.heap.size,3,none⟩=some sN:=HE2.o.1.cell 3;have r4:u2.cell? ⟨w.heap.size,4,none⟩=some sN:=HE2.o.1.cell 4;have r5:u2.cell? ⟨w.heap.size,5,none⟩=some sN:=HE2.o.1.cell 5;have f0:=HE2.o.1.frozen 0;have f1:=HE2.o.1.frozen 1;have f2:=HE2.o.1.frozen 2;have f3:=HE2.o.1.frozen 3;have f4:=HE2.o.1.frozen 4;have f5:=HE2.o.1.frozen 5;go_wp2_with fail
     obtain⟨q0,q1,q2,q3,q4,q5⟩:=CD HE2.o.1 (iZ 1) (iZ (lx:Int)) sN sN sN sN;simp only[six]at q0 q1 q2 q3 q4 q5;refine aT (v:=.agg #[iZ 1,iZ (lx:Int),sN,sN,sN,sN]) (by simp[results,Tryz.results5,go_sem,q0,q1,q2,q3,q4,q5]) rfl ⟨Dl 1 ((xs.length:Int)-1),_,_,_,_,[],[],?_,.off HG.o.1 HG.o.2 hon,Ii.none _ _ _ _,CC HE2.o.2.1 lR _ _ _ _ _ _⟩;have:((xs.length:Int)-1)=(lx:Int):=by rw[HLX.o];omega
     simp only[Dl,this]
end Go.Proofs.YtjpobijiblcgaaaGreat
