import Derived.Test.YtdipfjmlfbdkdaaGreatFc26
namespace Go.Proofs.YtdipfjmlfbdkdaaGreat
open Go.ChangeShapes Go.WideShapes Go.ChangeAt Go.RowKit
set_option linter.unusedVariables false
set_option maxHeartbeats 8000000
set_option maxRecDepth 100000
theorem Kj (s:Value)(xs:List MI)(w:World)(hn:xs.length<=1048576)(h:Rd w 4 s xs.length (xs.flatMap MI.cells)):
 Calls Tryz.prog 56 #[s] w fun e w'=>∃r vb vo vi vl F ys,e=.returned (.agg #[.int .i64 r.code,.int .i64 r.at_,vb,vo,vi,vl])/\AR xs r/\Cq w' w.heap.size vb vo vi vl F ys r/\Below w.heap.size w w':=by
 have H:Hid (Rd w 4 s xs.length (xs.flatMap MI.cells)):=h;obtain⟨a1,c1,rfl⟩:=h.is_slice;clear h;have HE0:Hid (Ak (w.alloc (.cells KK 52)) w.heap.size KK 52/\Below w.heap.size w (w.alloc (.cells KK 52))):=⟨Ak.new _ _ _,Aa _ _⟩
 go_enter Tryz.func56,Tryz.ntmps56;go_wp2_with fail
 refine(In _ xs _ hn (H.o.keep HE0.o.2 lR)).mono ?_;rintro e u1 ⟨V,F,rfl,hob,hbs,b1⟩;have hz0:(w.alloc (.cells KK 52)).heap.size=w.heap.size+1:=by simp
 rw[hz0]at hob;have HE1:Hid (Ak u1 w.heap.size KK 52/\Below w.heap.size w u1):=⟨HE0.o.1.keep b1,Ab HE0.o.2 lR b1⟩
 clear HE0 b1 hz0;rcases hbs with⟨hg,rfl⟩|⟨hg,hF⟩
 . have r0:u1.cell? ⟨w.heap.size,0,none⟩=some (.int .i64 0):=HE1.o.1.cell 0
   have r1:u1.cell? ⟨w.heap.size,1,none⟩=some (.int .i64 0):=HE1.o.1.cell 1;have r2:u1.cell? ⟨w.heap.size,2,none⟩=some (.slice none 0 0):=HE1.o.1.cell 2;have r3:u1.cell? ⟨w.heap.size,3,none⟩=some (.slice none 0 0):=HE1.o.1.cell 3;have r4:u1.cell? ⟨w.heap.size,4,none⟩=some (.slice none 0 0):=HE1.o.1.cell 4;have r5:u1.cell? ⟨w.heap.size,5,none⟩=some (.slice none 0 0):=HE1.o.1.cell 5;have f0:=HE1.o.1.frozen 0;have f1:=HE1.o.1.frozen 1;have f2:=HE1.o.1.frozen 2;have f3:=HE1.o.1.frozen 3;have f4:=HE1.o.1.frozen 4;have f5:=HE1.o.1.frozen 5;obtain⟨ab,cb,rfl⟩:∃a c,V=.slice a 0 c:=Ax hob.row;have HG:Hid (¬Aw xs):=hg;clear hg hob;go_wp2_with fail
   obtain⟨q0,q1,q2,q3,q4,q5⟩:=BU HE1.o.1 (.int .i64 4) (.int .i64 0) (.slice none 0 0) (.slice none 0 0) (.slice none 0 0) (.slice none 0 0);simp only[six]at q0 q1 q2 q3 q4 q5;exact bC (v:=.agg #[.int .i64 4,.int .i64 0,.slice none 0 0,.slice none 0 0,.slice none 0 0,.slice none 0 0]) (by simp[results,Tryz.results56,go_sem,q0,q1,q2,q3,q4,q5]) rfl ⟨Dc 4 0,_,_,_,_,[],[],rfl,.none HG.o,Cq.none _ _ _ _,BT HE1.o.2 lR _ _ _ _ _ _⟩
 . have hrd :FR u1 V (Ao xs):=by rw[<-hF];exact hob.rd
   obtain⟨gb,ob,cb,rfl,hgr,hfi⟩:=hrd.graph hg;have hin:=hob.ints hF rfl rfl;have hpos:=Fe hg;have hle:=Ed hg;have hxl:=hg.1;obtain⟨x,hx⟩:∃x,xs[xs.length-1]?=some x:=⟨_,aA (by omega)⟩;have HG:Hid (Aw xs/\xs[xs.length-1]?=some x):=⟨hg,hx⟩
   have HEE:Hid ((∀b,b<(Ao xs).length->∀x∈nx (Ao xs) b,x<(Ao xs).length)/\∀b,(nx (Ao xs) b).length<=2):=⟨Lu hg,Gg _ (Ee xs)⟩
   obtain⟨n,hnn⟩:∃n,n=(Ao xs).length:=⟨_,rfl⟩;obtain⟨E,hEE⟩:∃E,E=nx (Ao xs):=⟨_,rfl⟩;rw[<-hnn]at hgr hin;rw[<-hEE]at hgr;rw[<-hnn,<-hEE]at HEE;rw[<-hnn]at hpos hle hob⊢;have HB:Hid (Eu u1 (w.heap.size+1) (.slice (some ⟨gb,ob,none⟩) n cb) F/\D6 u1 gb ob n E/\(∀b m,(Ao xs)[b]?=some m->u1.cell? ⟨gb,ob+b*3,none⟩=some (.int .i64 m.first))/\(∀b,b<n->∃f l:Int,u1.cell? ⟨gb,ob+b*3,none⟩=some (.int .i64 f)/\u1.cell? ⟨gb,ob+b*3+1,none⟩=some (.int .i64 l))/\F.map Prod.fst=Ao xs):=⟨hob,hgr,hfi,hin,hF⟩
   have HN:Hid (n=(Ao xs).length/\E=nx (Ao xs)):=⟨hnn,hEE⟩
   clear hrd hgr hfi hg hnn hEE hob hin hF;have hposI:¬(n:Int)=0:=by omega
   have hposB:((n:Int)==0)=false:=by simp;omega
   obtain⟨gx,ox,rfl,hop⟩:∃gx ox,a1=some ⟨gx,ox,none⟩/\(u1.cell? ⟨gx,ox+(xs.length-1)*4,none⟩=some (.int .i64 x.op)/\u1.cell? ⟨gx,ox+(xs.length-1)*4+1,none⟩=some (.int .i64 x.a)/\u1.cell? ⟨gx,ox+(xs.length-1)*4+2,none⟩=some (.int .i64 x.b)/\u1.cell? ⟨gx,ox+(xs.length-1)*4+3,none⟩=some (.int .i64 x.c)):=by
    rcases H.o.2 with⟨e0,_⟩|⟨gx,ox,cx,e1,hc1⟩
    . omega
    . simp only[aF,aw]at e1
      have i0:=Rd.elem MI.cells_length hc1 (xs.length-1) _ hx 0 _ rfl;rw[aS]at i0;exact⟨gx,ox,e1.1,Ad HE1.o.2 i0,Ad HE1.o.2 (Rd.elem MI.cells_length hc1 (xs.length-1) _ hx 1 _ rfl),Ad HE1.o.2 (Rd.elem MI.cells_length hc1 (xs.length-1) _ hx 2 _ rfl),Ad HE1.o.2 (Rd.elem MI.cells_length hc1 (xs.length-1) _ hx 3 _ rfl)⟩
   clear hx;obtain⟨lx,hlx⟩:∃lx,xs.length=lx+1:=⟨xs.length-1,by omega⟩;rw[hlx]at hop⊢;simp only[Nat.add_sub_cancel]at hop;obtain⟨c0,c1',c2,c3⟩:=hop;have HLX:Hid (xs.length=lx+1):=hlx;have hlx2:lx<=1048576:=by omega
   have hlx3:(lx:Int)<=1048576:=by omega
   clear hlx hn;go_wp2_with fail
   refine(Il x u1).mono ?_;rintro e u2 ⟨rfl,b2⟩;have HE2:Hid (Ak u2 w.heap.size KK 52/\Below w.heap.size w u2/\Below u1.heap.size u1 u2):=⟨HE1.o.1.keep b2,Ab HE1.o.2 lR b2,b2⟩
   have HW1:Hid (w.heap.size<u1.heap.size):=HE1.o.1.lt;have HW12:Hid (u1.heap.size<=u2.heap.size):=b2.size;clear b2 HE1 c0 c1' c2 c3;cases hon:DX x
   . have HON:Hid (DX x=false):=hon
     clear hon;go_wp2_with fail
     refine(Kr gb ob cb n E u2 hle hpos HEE.o.1 HEE.o.2 (HB.o.2.1.keep HE2.o.2.2) (fun b hb=>by obtain⟨f,l,q1,q2⟩:=HB.o.2.2.2.1 b hb;exact⟨f,l,Ad HE2.o.2.2 q1,Ad HE2.o.2.2 q2⟩)).mono ?_;rintro e u3 ⟨G,gN,cN,gF,gO,cO,gP,S,O,rfl,hgm⟩;have HGM:Hid (GM u2 u3 n G gN cN gF gO cO gP E S O):=hgm;have HE3:Hid (Ak u3 w.heap.size KK 52/\Below w.heap.size w u3/\Below u1.heap.size u1 u3/\w.heap.size<u1.heap.size):=⟨HE2.o.1.keep hgm.bel,Ab HE2.o.2.1 lR hgm.bel,Ab HE2.o.2.2 lR hgm.bel,HW1.o⟩
     clear hgm HE2;obtain⟨hOlt,hOnd,hOle,hOr⟩:=Pw hpos HEE.o.1 HGM.o.vs;have HVO:Hid ((∀x∈O,x<n)/\O.Nodup/\(∀x∈O,CJ E (fun _=>True) 0 x)):=⟨hOlt,hOnd,hOr⟩
     have HOR:Hid (∀k x:Nat,O.reverse[k]?=some x->u3.cell? ⟨gO,k,none⟩=some (.int .i64 (x:Int))):=fun k x hx=>by
      have ho:=HGM.o.ord;rw[<-bV]at ho;obtain⟨_,_,ee,_,q⟩:=ho.rd.at_ hx;simp only[aR,cR,cw]at ee;obtain⟨rfl,rfl⟩:=ee;rw[bt]at q;exact q
     have HLO:=Pc G n gN cN gO cO O.reverse u3 hle (fun x hx=>hOlt x (cW.1 hx)) (by rw[bV];omega) (HGM.o.blk.cell 0) (by rw[bV];exact HGM.o.blk.cell 2) HOR.o;clear hOlt hOnd hOr;go_wp2_with fail;refine HLO.mono ?_;rintro e u4 ⟨g9,cap9,zs,rfl,own9,hsrt,hmem,b4⟩;have HE4:Hid (Ak u4 w.heap.size KK 52/\Below w.heap.size w u4/\Below u1.heap.size u1 u4/\Below u3.heap.size u3 u4):=⟨HE3.o.1.keep b4,Ab HE3.o.2.1 lR b4,Ab HE3.o.2.2.1 lR b4,b4⟩
     clear HLO b4;cases zs with
     | cons z r=>
       obtain⟨b,rfl,hbn,hbO⟩:=(hmem z).1 (bR ..);have hbnI:(b:Int)<(n:Int):=by omega
       obtain⟨m,hm⟩:∃m,(Ao xs)[b]?=some m:=⟨_,aA (by rw[<-HN.o.1];exact hbn)⟩;have m0:=Ad HE4.o.2.2.1 (HB.o.2.2.1 b m hm);have z0:=own9.cellAt 0 (by simp);simp only[bT,Ac,cA,aM]at z0;have hlen:(0:Int)<(((b:Int)::r).length:Int):=by rw[dJ];omega
       have HFO:Hid (AR xs (Dc 2 m.first)):=.lost HG.o.1 HG.o.2 HON.o (S:=S) (O:=O) (by rw[<-HN.o.2];exact HGM.o.vs) (by rw[<-HN.o.1];exact hbn) (fun q=>hbO (cW.2 ((Ec HGM.o.vs b).1 q))) (fun c hc=>by
        refine(Ec HGM.o.vs c).2 (cW.1 (cQ fun q=> ?_));have h1:=(hmem (c:Int)).2 ⟨c,rfl,by omega,q⟩;rcases aa.1 h1 with e|e
        . omega
        . have:=(bS.1 hsrt).1 _ e
          omega) hm
       generalize hLL:((b:Int)::r).length=lz at hlen own9;clear own9 hsrt hmem hm hLL;have r0:u4.cell? ⟨w.heap.size,0,none⟩=some (.int .i64 0):=HE4.o.1.cell 0;have r1:u4.cell? ⟨w.heap.size,1,none⟩=some (.int .i64 0):=HE4.o.1.cell 1;have r2:u4.cell? ⟨w.heap.size,2,none⟩=some (.slice none 0 0):=HE4.o.1.cell 2;have r3:u4.cell? ⟨w.heap.size,3,none⟩=some (.slice none 0 0):=HE4.o.1.cell 3;have r4:u4.cell? ⟨w.heap.size,4,none⟩=some (.slice none 0 0):=HE4.o.1.cell 4;have r5:u4.cell? ⟨w.heap.size,5,none⟩=some (.slice none 0 0):=HE4.o.1.cell 5;have f0:=HE4.o.1.frozen 0;have f1:=HE4.o.1.frozen 1;have f2:=HE4.o.1.frozen 2;have f3:=HE4.o.1.frozen 3;have f4:=HE4.o.1.frozen 4;have f5:=HE4.o.1.frozen 5;go_wp2_with fail
       obtain⟨q0,q1,q2,q3,q4,q5⟩:=BU HE4.o.1 (.int .i64 2) (.int .i64 m.first) (.slice none 0 0) (.slice none 0 0) (.slice none 0 0) (.slice none 0 0);simp only[six]at q0 q1 q2 q3 q4 q5;exact bC (v:=.agg #[.int .i64 2,.int .i64 m.first,.slice none 0 0,.slice none 0 0,.slice none 0 0,.slice none 0 0]) (by simp[results,Tryz.results56,go_sem,q0,q1,q2,q3,q4,q5]) rfl ⟨Dc 2 m.first,_,_,_,_,[],[],rfl,HFO.o,Cq.none _ _ _ _,BT HE4.o.2.1 lR _ _ _ _ _ _⟩
     | nil=>
       have hall:∀c,c<n->c∈O:=fun c hc=>cW.1 (cQ fun q=>by
        have:=(hmem (c:Int)).2 ⟨c,rfl,hc,q⟩;cases this)
       obtain⟨hP,hnd,hOn,hOm,hO0⟩:=C5 hpos HEE.o.1 HGM.o.vs (fun c hc=>(Ec HGM.o.vs c).2 (hall c hc));have HPL:Hid (Ce E n (B8 O)/\O.Nodup/\(∀x,x∈O↔x<n)/\O.length=n):=⟨hP,hnd,hOm,hOn⟩
       clear own9 hsrt hmem hall hP hnd hOm hO0
       have HDO:=Kb G n gN cN gF n gO cO gP n E O u4 hle HPL.o.1 HPL.o.2.2.2 HPL.o.2.1 HPL.o.2.2.1 (fun b=>by have:=GA HEE.o.2 n b;omega) (by have ho:=HGM.o.ord;unfold DQ at ho;rw[bV]at ho;have:=Qa ho;rw[HPL.o.2.2.2]at this;exact this) (by have:=HGM.o.blk.keep HE4.o.2.2.2;rw[HPL.o.2.2.2]at this;exact this) (HGM.o.fr.keep HE4.o.2.2.2) (fun k x hx=>Ad HE4.o.2.2.2 (HOR.o k x hx)) (fun x hx=>Ad HE4.o.2.2.2 (HGM.o.pl x ((HPL.o.2.2.1 x).2 hx))) ⟨HGM.o.ne.1,HGM.o.ne.2.1,HGM.o.ne.2.2.1,HGM.o.ne.2.2.2,fun b a c hb hc=>by
        obtain⟨a',c',q1,_⟩:=HGM.o.fr b hb;rw[bt]at q1;have q2:=Ad HE4.o.2.2.2 q1;rw[hc]at q2;exact HGM.o.nf b a (AV E n b).length c hb (q1.trans q2.symm)⟩
       go_wp2_with fail
       refine HDO.mono ?_;rintro e u5 ⟨rfl,gi,I,hdw,hdone⟩;have HGD:Hid (GD u2 u5 n G gN cN gF gO cO gP gi E O I/\Hm E n (B8 O) I):=⟨GD.of HGM.o HPL.o.2.2.2 HPL.o.2.2.1 HE4.o.2.2.2 hdw,hdone⟩
       have HE5:Hid (Ak u5 w.heap.size KK 52/\Below w.heap.size w u5/\Below u1.heap.size u1 u5):=by
        have h1:=HGM.o.ge;have h2:=HW12.o;have h3:=HW1.o;refine⟨?_,HE4.o.2.1.trans (hdw.bel.mono (by omega)),HE4.o.2.2.1.trans (hdw.bel.mono (by omega))⟩;have k:=HE4.o.1;unfold Ak at*;rw[hdw.fx w.heap.size (aQ.1 k).1 (by omega)];exact k
       clear HDO hdw hdone;obtain⟨D,hD⟩:∃D:Nat->Nat->Bool,∀d b,D d b=true↔Ca E d b:=⟨fun d b=> @decide _ (Classical.propDecidable (Ca E d b)),fun d b=>by simp⟩;have HD:Hid (∀d b,D d b=true↔Ca E d b):=hD;clear hD;have HBE:=Ja G n gN cN gP n gi n E O I D u5 hle HPL.o.1 HGD.o.2 HD.o HEE.o.2 (HGD.o.1.blk.cell 0) HGD.o.1.nx HGD.o.1.gi_;go_wp2_with fail
       refine HBE.mono ?_;rintro e u6 ⟨hback,b6⟩;have HE6:Hid (Ak u6 w.heap.size KK 52/\Below w.heap.size w u6/\Below u1.heap.size u1 u6/\GD u2 u6 n G gN cN gF gO cO gP gi E O I/\Below u5.heap.size u5 u6):=⟨HE5.o.1.keep b6,Ab HE5.o.2.1 lR b6,Ab HE5.o.2.2 lR b6,HGD.o.1.keep b6,b6⟩
       clear HBE b6;rcases hback with⟨b,k,y,rfl,hbad⟩|⟨gB,FS,rfl,hnb,hbk,hFSl,hFS⟩
       . have hyn:y<n:=HEE.o.1 b hbad.lt y (aE hbad.at_)
         have hynI:(y:Int)<(n:Int):=by omega
         have hyB:((y:Int)== -1)=false:=by simp
         have hyN:((y:Int) != -1)=true:=by simp
         obtain⟨m,hm⟩:∃m,(Ao xs)[y]?=some m:=⟨_,aA (by rw[<-HN.o.1];exact hyn)⟩;have m0:=Ad HE6.o.2.2.1 (HB.o.2.2.1 y m hm)
         have HFO:Hid (AR xs (Dc 3 m.first)):=by
          refine .two (D:=D) (b:=b) (k:=k) (t:=y) HG.o.1 HG.o.2 HON.o (S:=S) (O:=O) (by rw[<-HN.o.2];exact HGM.o.vs) (by rw[<-HN.o.1];exact fun c hc=>(Ec HGM.o.vs c).2 ((HPL.o.2.2.1 c).2 hc)) (by rw[<-HN.o.2];exact HD.o) ?_ hm;rw[<-HN.o.1,<-HN.o.2];exact hbad
         clear hm hbad;have r0:u6.cell? ⟨w.heap.size,0,none⟩=some (.int .i64 0):=HE6.o.1.cell 0;have r1:u6.cell? ⟨w.heap.size,1,none⟩=some (.int .i64 0):=HE6.o.1.cell 1;have r2:u6.cell? ⟨w.heap.size,2,none⟩=some (.slice none 0 0):=HE6.o.1.cell 2;have r3:u6.cell? ⟨w.heap.size,3,none⟩=some (.slice none 0 0):=HE6.o.1.cell 3;have r4:u6.cell? ⟨w.heap.size,4,none⟩=some (.slice none 0 0):=HE6.o.1.cell 4;have r5:u6.cell? ⟨w.heap.size,5,none⟩=some (.slice none 0 0):=HE6.o.1.cell 5;have f0:=HE6.o.1.frozen 0;have f1:=HE6.o.1.frozen 1;have f2:=HE6.o.1.frozen 2;have f3:=HE6.o.1.frozen 3;have f4:=HE6.o.1.frozen 4;have f5:=HE6.o.1.frozen 5;go_wp2_with fail
         obtain⟨q0,q1,q2,q3,q4,q5⟩:=BU HE6.o.1 (.int .i64 3) (.int .i64 m.first) (.slice none 0 0) (.slice none 0 0) (.slice none 0 0) (.slice none 0 0);simp only[six]at q0 q1 q2 q3 q4 q5;exact bC (v:=.agg #[.int .i64 3,.int .i64 m.first,.slice none 0 0,.slice none 0 0,.slice none 0 0,.slice none 0 0]) (by simp[results,Tryz.results56,go_sem,q0,q1,q2,q3,q4,q5]) rfl ⟨Dc 3 m.first,_,_,_,_,[],[],rfl,HFO.o,Cq.none _ _ _ _,BT HE6.o.2.1 lR _ _ _ _ _ _⟩
       . have HBK:Hid (BK u5 u6 n gB FS/\(∀b,b<n->∀t∈E b,¬IX O D b t)/\FS.length=n/\∀x,x<n->∃V,FS[x]?=some (V,An E D n x)):=⟨hbk,hnb,hFSl,hFS⟩
         clear hbk hnb hFSl hFS;obtain⟨Lf,hLf⟩:∃L:Nat->Nat->Bool,∀h y,L h y=true↔Ar E D n h y:=⟨fun h y=> @decide _ (Classical.propDecidable (Ar E D n h y)),fun h y=>by simp⟩;have HLF:Hid (∀h y,Lf h y=true↔Ar E D n h y):=hLf;clear hLf;have bD:=Ae u6
         have HLC:=Od G n gF n gB E D Lf FS u6.drew hle HEE.o.1 HEE.o.2 HLF.o ((HE6.o.2.2.2.1.blk.keep bD).cell 1) (HE6.o.2.2.2.1.fr.keep bD) (fun x hx=>by
          obtain⟨V,hV⟩:=HBK.o.2.2.2 x hx;refine⟨V,hV,?_,?_⟩
          . have:=(HBK.o.1.keep bD).frow.cellAt x (by omega)
            rw[bB,hV]at this;exact this
          . have:=Rd.of_own ((HBK.o.1.keep bD).fam.own (V,ints (An E D n x)) (au.2 ⟨(V,_),aE hV,rfl⟩))
            simp only[AA]at this;rw[<-Ck]at this;exact this)
         have HLC':Hid (Calls Tryz.prog 89 #[.pointer (some ⟨G,0,none⟩),.slice (some ⟨gB,0,none⟩) n n] u6.drew fun e w'=>∃V,e=.returned V/\∃ys,LP u6.drew w' V ys/\ys.map Prod.fst=AZ E D Lf n n/\List.Sublist (ys.map fun y=>(y.2.1,y.1.back)) (FS.map fun x=>(x.1,ints x.2))):=HLC
         have x2:u6.drew.cell? ⟨G,2,none⟩=some (.slice (some ⟨gO,0,none⟩) n cO):=(HE6.o.2.2.2.1.blk.keep bD).cell 2;have x4:u6.drew.cell? ⟨G,4,none⟩=some (.slice (some ⟨gi,0,none⟩) n n):=(HE6.o.2.2.2.1.blk.keep bD).cell 4;clear bD HLC;go_upto_region 15 with fail
         go_region_law ((go_simp;go_at_call 89;refine HLC'.o.mono ?_;rintro e u7 ⟨VL,rfl,ys,hlp,hys,hsub⟩;obtain⟨aL,cL,rfl⟩:=Ax hlp.lps;have B7:Hid (Below u6.heap.size u6 u7):=A4 hlp.bel lR;have H7:Hid (LP u6.drew u7 (.slice aL ys.length cL) ys/\ys.map Prod.fst=AZ E D Lf n n/\List.Sublist (ys.map fun y=>(y.2.1,y.1.back)) (FS.map fun x=>(x.1,ints x.2))):=⟨hlp,hys,hsub⟩;have y2:u7.cell? ⟨G,2,none⟩=some (.slice (some ⟨gO,0,none⟩) n cO):=(HE6.o.2.2.2.1.blk.keep B7.o).cell 2;have y4:u7.cell? ⟨G,4,none⟩=some (.slice (some ⟨gi,0,none⟩) n n):=(HE6.o.2.2.2.1.blk.keep B7.o).cell 4;have r0:u7.cell? ⟨w.heap.size,0,none⟩=some (.int .i64 0):=(HE6.o.1.keep B7.o).cell 0;have r1:u7.cell? ⟨w.heap.size,1,none⟩=some (.int .i64 0):=(HE6.o.1.keep B7.o).cell 1;have r2:u7.cell? ⟨w.heap.size,2,none⟩=some (.slice none 0 0):=(HE6.o.1.keep B7.o).cell 2;have r3:u7.cell? ⟨w.heap.size,3,none⟩=some (.slice none 0 0):=(HE6.o.1.keep B7.o).cell 3;have r4:u7.cell? ⟨w.heap.size,4,none⟩=some (.slice none 0 0):=(HE6.o.1.keep B7.o).cell 4;have r5:u7.cell? ⟨w.heap.size,5,none⟩=some (.slice none 0 0):=(HE6.o.1.keep B7.o).cell 5;have f0:=(HE6.o.1.keep B7.o).frozen 0;have f1:=(HE6.o.1.keep B7.o).frozen 1;have f2:=(HE6.o.1.keep B7.o).frozen 2;have f3:=(HE6.o.1.keep B7.o).frozen 3;have f4:=(HE6.o.1.keep B7.o).frozen 4;have f5:=(HE6.o.1.keep B7.o).frozen 5;clear hlp hys hsub))
         all_goals
          have HFO:Hid (AR xs ⟨0,0,Ao xs,ints O.reverse,(List.range n).map I,AZ E D Lf n n⟩):=JC HN.o.1 HN.o.2 HG.o.1 HG.o.2 HON.o HGM.o.vs (fun c hc=>(Ec HGM.o.vs c).2 ((HPL.o.2.2.1 c).2 hc)) HD.o HBK.o.2.1 (N6 HGD.o.2) HLF.o;have HOF:Hid (Cq (six u7 w.heap.size (.int .i64 0) (.int .i64 0) (.slice (some ⟨gb,ob,none⟩) n cb) (.slice (some ⟨gO,0,none⟩) n cO) (.slice (some ⟨gi,0,none⟩) n n) (.slice aL ys.length cL)) w.heap.size (.slice (some ⟨gb,ob,none⟩) n cb) (.slice (some ⟨gO,0,none⟩) n cO) (.slice (some ⟨gi,0,none⟩) n n) (.slice aL ys.length cL) F ys ⟨0,0,Ao xs,ints O.reverse,(List.range n).map I,AZ E D Lf n n⟩):=Ok HB.o.1 HB.o.2.2.2.2 HW1.o HW12.o HE6.o.2.2.1 HGD.o.1 HE6.o.2.2.2.1 HPL.o.2.2.2 HE6.o.2.2.2.2 HBK.o.1 B7.o H7.o.1 H7.o.2.1 H7.o.2.2 _ _ _ _ _ _;have HB7:Hid (Ak u7 w.heap.size KK 52/\Below w.heap.size w u7):=⟨HE6.o.1.keep B7.o,Ab HE6.o.2.1 lR B7.o⟩
          clear x2 x4 y2 y4 r0 r1 r2 r3 r4 r5 f0 f1 f2 f3 f4 f5;go_wp2_with fail
          obtain⟨q0,q1,q2,q3,q4,q5⟩:=BU HB7.o.1 (.int .i64 0) (.int .i64 0) (.slice (some ⟨gb,ob,none⟩) n cb) (.slice (some ⟨gO,0,none⟩) n cO) (.slice (some ⟨gi,0,none⟩) n n) (.slice aL ys.length cL);simp only[six]at q0 q1 q2 q3 q4 q5;exact bC (v:=.agg #[.int .i64 0,.int .i64 0,.slice (some ⟨gb,ob,none⟩) n cb,.slice (some ⟨gO,0,none⟩) n cO,.slice (some ⟨gi,0,none⟩) n n,.slice aL ys.length cL]) (by simp[results,Tryz.results56,go_sem,q0,q1,q2,q3,q4,q5]) rfl ⟨⟨0,0,Ao xs,ints O.reverse,(List.range n).map I,AZ E D Lf n n⟩,_,_,_,_,F,ys,rfl,HFO.o,HOF.o,BT HB7.o.2 lR _ _ _ _ _ _⟩
   . have r0:u2.cell? ⟨w.heap.size,0,none⟩=some (.int .i64 0):=HE2.o.1.cell 0
     have r1:u2.cell? ⟨w.heap.size,1,none⟩=some (.int .i64 0):=HE2.o.1.cell 1;have r2:u2.cell? ⟨w.heap.size,2,none⟩=some (.slice none 0 0):=HE2.o.1.cell 2;have r3:u2.cell? ⟨w.heap.size,3,none⟩=some (.slice none 0 0):=HE2.o.1.cell 3;have r4:u2.cell? ⟨w.heap.size,4,none⟩=some (.slice none 0 0):=HE2.o.1.cell 4;have r5:u2.cell? ⟨w.heap.size,5,none⟩=some (.slice none 0 0):=HE2.o.1.cell 5;have f0:=HE2.o.1.frozen 0;have f1:=HE2.o.1.frozen 1;have f2:=HE2.o.1.frozen 2;have f3:=HE2.o.1.frozen 3;have f4:=HE2.o.1.frozen 4;have f5:=HE2.o.1.frozen 5;go_wp2_with fail
     obtain⟨q0,q1,q2,q3,q4,q5⟩:=BU HE2.o.1 (.int .i64 1) (.int .i64 (lx:Int)) (.slice none 0 0) (.slice none 0 0) (.slice none 0 0) (.slice none 0 0);simp only[six]at q0 q1 q2 q3 q4 q5;refine bC (v:=.agg #[.int .i64 1,.int .i64 (lx:Int),.slice none 0 0,.slice none 0 0,.slice none 0 0,.slice none 0 0]) (by simp[results,Tryz.results56,go_sem,q0,q1,q2,q3,q4,q5]) rfl ⟨Dc 1 ((xs.length:Int)-1),_,_,_,_,[],[],?_,.off HG.o.1 HG.o.2 hon,Cq.none _ _ _ _,BT HE2.o.2.1 lR _ _ _ _ _ _⟩;have:((xs.length:Int)-1)=(lx:Int):=by rw[HLX.o];omega
     simp only[Dc,this]
def Qn(r k f t p rs l c nu co a vb vo vi vl:Value):Value:=.agg #[r,k,f,t,p,rs,l,c,nu,co,a,vb,vo,vi,vl]
theorem EX(r k f t p rs l c nu co a vb vo vi vl v1 v2:Value)(F:List (MB×Value))(h:Nat)(m:MB)(w:World)(hn:F.length<=1048576)(hb:Rd w 3 vb F.length (F.flatMap A9))(hm:(F.map Prod.fst)[h]?=some m):
 Calls Tryz.prog 123 #[Qn r k f t p rs l c nu co a vb vo vi vl,.agg #[.int .i64 (h:Int),v1,v2]] w fun e w'=>e=.returned (.int .i64 m.first)/\Below w.heap.size w w':=by
 obtain⟨x,hx,rfl⟩:∃x,F[h]?=some x/\x.1=m:=by
  rw[bB]at hm;exact cY.1 hm
 obtain⟨a1,c1,rfl⟩:=hb.is_slice;have hlt:h<F.length:=(aD.1 hx).1;rcases hb.2 with⟨e0,_⟩|⟨g,o,cc,e1,hc1⟩
 . omega
 simp only[aF,aw]at e1;obtain⟨rfl,rfl⟩:=e1;have i0:=Rd.elem AJ hc1 h x hx 0 _ rfl;rw[aS]at i0;clear hc1 hb hm hx;generalize F.length=n at*;have E0:=Bw w #[r,k,f,t,p,rs,l,c,nu,co,a,.slice (some ⟨g,o,none⟩) n c1,vo,vi,vl] #[.int .i64 (h:Int),v1,v2] 85 68;unfold Qn;go_enter Tryz.func123,Tryz.ntmps123;go_upto_region 1 with fail
 refine Al (fun u=>Ak u w.heap.size #[r,k,f,t,p,rs,l,c,nu,co,a,.slice (some ⟨g,o,none⟩) n c1,vo,vi,vl] 85/\Ak u (w.heap.size+1) #[.int .i64 (h:Int),v1,v2] 68/\Below w.heap.size w u) E0 ?_
 rintro U E1;clear E0;rw[<-E1.2.2.cell (aC i0)]at i0;obtain⟨o0,o1,o2⟩:=BI E1.2.1;have p11:=E1.1.cell 11;have HB:Hid (Below w.heap.size w U):=E1.2.2;clear E1;go_wp2
 go_ret
 exact⟨rfl,HB.o⟩
end Go.Proofs.YtdipfjmlfbdkdaaGreat
