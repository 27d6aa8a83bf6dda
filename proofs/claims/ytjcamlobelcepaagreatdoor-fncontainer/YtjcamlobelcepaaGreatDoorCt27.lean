import Derived.Test.YtjcamlobelcepaaGreatDoorCt23
import Derived.Lib.AppendZerosOnto
import Derived.Lib.AppendZeros
import Derived.Laws.Append
import Derived.Test.YtjcamlobelcepaaGreatDoorCt21
namespace Go.Proofs.YtjcamlobelcepaaGreatDoor
open Go.ChangeShapes Go.WideShapes Go.ChangeAt Go.RowKit
set_option linter.unusedVariables false
set_option maxHeartbeats 4000000
set_option maxRecDepth 100000
theorem Km(v:VP)(p:MP)(w:World)(hs:p.small)(hw:p.wf)(hp:Ax p.regions)(hfo:AX p.funcs)(h:Ej w v p)(hcap:Jv w v.r p.regions):
 Calls Tryz.prog 43 #[.agg #[v.r,v.k,v.f,v.t]] w fun e w'=>Am e (Ck p)/\Below w.heap.size w w':=by
 obtain⟨xs,ys,hP⟩:=Pg.of hs hw h;obtain⟨vr,vk,vf,vt⟩:=v;simp only[]at hP;obtain⟨r3,c3,e3⟩:=hP.fr.is_slice;have hm:=hs.funcs;subst e3;have HH:=Af (aG hp (aG hfo hcap));clear hs hw h hp hfo hcap;obtain⟨rr1,cc1,evr⟩:=hP.rr.is_slice;obtain⟨rr2,cc2,evk⟩:∃a c,vk=.slice a p.consts.length c:=hP.rd.consts.is_slice;obtain⟨rr4,cc4,evt⟩:∃a c,vt=.slice a p.certs.length c:=hP.rd.certs.is_slice;subst evr evk evt;have HP:Hid _:=hP;clear hP;have HI:Hid _:=Kh.of w (.slice rr1 p.regions.length cc1) (.slice rr2 p.consts.length cc2) (.slice r3 p.funcs.length c3) (.slice rr4 p.certs.length cc4) 28;generalize hM:p.funcs.length=m at*;have HL:=Af hM;clear hM;have HP:=Af HP;go_enter Tryz.func43,Tryz.ntmps43;go_wp2
 go_loopw [11] (fun i wr=>∃k:Nat,k<=m/\i=iZ k/\Hid (∀j,j<k->∀f,p.funcs[j]?=some f->En p f)/\Hid (Kh w wr (.slice rr1 p.regions.length cc1) (.slice rr2 p.consts.length cc2) (.slice r3 m c3) (.slice rr4 p.certs.length cc4))) (fun i _=>m-(intOf i).toNat)
 case atStart=>exact⟨0,by omega,rfl,fun j hj=>by omega,HI⟩
 case round=>
  clear HI;obtain⟨k,hk,rfl,HT,HI⟩:=hrel;by_cases hlt:k<m
  . obtain⟨⟨f,v⟩,hx⟩:∃x,ys[k]?=some x:=⟨_,aA (by rw[HP.o.fl,HL.o];exact hlt)⟩
    have e1:=BG HP.o.fm hx;have HX:=Af (aG (HP.o.fe _ (aF hx)) (aG (HP.o.small.func _ (aF e1)) (aG e1 (aG (HP.o.wf.funcs _ (aF e1)) (HH.o.2.1.2.2.1 k (by rw[HL.o];exact hlt) _ e1)))));clear e1;rcases HP.o.fr.2 with⟨e0,_⟩|⟨b,o,c,e1,hc1⟩
    . rw[HL.o]at e0
      omega
    rw[HL.o]at e1;simp only[aI,ao]at e1;obtain⟨rfl,rfl⟩:=e1;have i0:=Rd.elem Ag hc1 k _ hx 0 _ rfl;have i1:=Rd.elem Ag hc1 k _ hx 1 _ rfl;have i2:=Rd.elem Ag hc1 k _ hx 2 _ rfl;have i3:=Rd.elem Ag hc1 k _ hx 3 _ rfl;rw[<-HI.o.bel.cell (aD i0),aT]at i0;rw[<-HI.o.bel.cell (aD i1)]at i1;rw[<-HI.o.bel.cell (aD i2)]at i2;rw[<-HI.o.bel.cell (aD i3)]at i3;clear hc1 hx;simp only[]at i0 i1 i2 i3;obtain⟨ap,cp,ep⟩:=HX.o.1.1.is_slice;obtain⟨al,cl,el⟩:=HX.o.1.2.1.is_slice;obtain⟨ac,cc,ec⟩:=HX.o.1.2.2.is_slice;obtain⟨vp,vl,vc⟩:=v;simp only[]at ep el ec i0 i1 i2 i3;subst ep el ec;obtain⟨p0,p1,p2,p3⟩:=HI.o.prog;have nb:¬b=wr.heap.size:=bC (aD i0);have mb:b<wr.heap.size:=aD i0;have np:¬w.heap.size=wr.heap.size:=bC HI.o.prog.lt;have mp:w.heap.size<wr.heap.size:=HI.o.prog.lt;have hz:=HX.o.2.1.2.2
    have HS:Hid (Kh w ((wr.alloc (.cells #[.slice ap f.params.length cp,iZ f.result,.slice al f.locals.length cl,.slice ac f.code.length cc] 58)).alloc (.cells #[(.slice rr1 p.regions.length cc1),(.slice rr2 p.consts.length cc2),sO b o m c3,(.slice rr4 p.certs.length cc4),.slice ap f.params.length cp,iZ f.result,.slice al f.locals.length cl,.slice ac f.code.length cc] 117)) (.slice rr1 p.regions.length cc1) (.slice rr2 p.consts.length cc2) (sO b o m c3) (.slice rr4 p.certs.length cc4)/\Md ((wr.alloc (.cells #[.slice ap f.params.length cp,iZ f.result,.slice al f.locals.length cl,.slice ac f.code.length cc] 58)).alloc (.cells #[(.slice rr1 p.regions.length cc1),(.slice rr2 p.consts.length cc2),sO b o m c3,(.slice rr4 p.certs.length cc4),.slice ap f.params.length cp,iZ f.result,.slice al f.locals.length cl,.slice ac f.code.length cc] 117)) (wr.heap.size+1) (.slice rr1 p.regions.length cc1) (.slice rr2 p.consts.length cc2) (sO b o m c3) (.slice rr4 p.certs.length cc4) (.slice ap f.params.length cp) (iZ f.result) (.slice al f.locals.length cl) (.slice ac f.code.length cc)):=by
     refine⟨HI.o.keep (Ab (Aa _ _) lR (Aa _ _)),?_⟩;have:=Md.new (wr.alloc (.cells #[.slice ap f.params.length cp,iZ f.result,.slice al f.locals.length cl,.slice ac f.code.length cc] 58)) (.slice rr1 p.regions.length cc1) (.slice rr2 p.consts.length cc2) (sO b o m c3) (.slice rr4 p.certs.length cc4) (.slice ap f.params.length cp) (iZ f.result) (.slice al f.locals.length cl) (.slice ac f.code.length cc) 117;simpa using this
    go_wp2
    clear p0 p1 p2 p3 i0 i1 i2 i3 nb mb np mp;generalize hZ:f.code.length=z at*;have HZ:=Af hZ;clear hZ;generalize wr.heap.size+1=SB at HS⊢;go_loopw [21] (fun i wr2=>∃q:Nat,q<=z/\i=iZ q/\Hid (∀j,j<q->∀x,f.code[j]?=some x->AH p f x)/\Hid (Kh w wr2 (.slice rr1 p.regions.length cc1) (.slice rr2 p.consts.length cc2) (sO b o m c3) (.slice rr4 p.certs.length cc4)/\Md wr2 SB (.slice rr1 p.regions.length cc1) (.slice rr2 p.consts.length cc2) (sO b o m c3) (.slice rr4 p.certs.length cc4) (.slice ap f.params.length cp) (iZ f.result) (.slice al f.locals.length cl) (.slice ac z cc))) (fun i _=>z-(intOf i).toNat)
    case atStart=>exact⟨0,by omega,rfl,fun j hj=>by omega,HS⟩
    case round=>
     clear HS;obtain⟨q,hq,rfl,HTT,HS⟩:=hrel;by_cases hlq:q<z
     . obtain⟨x,hx⟩:∃x,f.code[q]?=some x:=⟨_,aA (by rw[HZ.o];exact hlq)⟩
       have hxw:=HX.o.2.2.2.1.code x (aF hx);rcases HX.o.1.2.2.2 with⟨e0,_⟩|⟨b',o',c',e1,hc2⟩
       . rw[HZ.o]at e0
         omega
       rw[HZ.o]at e1;simp only[aI,ao]at e1;obtain⟨rfl,rfl⟩:=e1;have j0:=Rd.elem MI.cells_length hc2 q x hx 0 _ rfl;have j1:=Rd.elem MI.cells_length hc2 q x hx 1 _ rfl;have j2:=Rd.elem MI.cells_length hc2 q x hx 2 _ rfl;have j3:=Rd.elem MI.cells_length hc2 q x hx 3 _ rfl;rw[<-HS.o.1.bel.cell (aD j0),aT]at j0;rw[<-HS.o.1.bel.cell (aD j1)]at j1;rw[<-HS.o.1.bel.cell (aD j2)]at j2;rw[<-HS.o.1.bel.cell (aD j3)]at j3;have HXX:=Af (aG hx hxw);clear hc2 hx hxw;obtain⟨xo,xa,xb,xc⟩:=x;simp only[]at j0 j1 j2 j3;obtain⟨s0,s1,s2,s3,s4,s5,s6,s7⟩:=HS.o.2;have nb:¬b'=wr.heap.size:=bC (aD j0);have mb:b'<wr.heap.size:=aD j0;have np:¬SB=wr.heap.size:=bC HS.o.2.lt;have mp:SB<wr.heap.size:=HS.o.2.lt;go_wp2_with fail
       have bA:=Aa wr (.cells #[iZ xo,iZ xa,iZ xb,iZ xc] 97);have bW:=Ab HS.o.1.bel lR bA;refine(PH ⟨(.slice rr1 p.regions.length cc1),(.slice rr2 p.consts.length cc2),sO b o m c3,(.slice rr4 p.certs.length cc4)⟩ p ⟨.slice ap f.params.length cp,.slice al f.locals.length cl,sO b' o' z cc⟩ f xo xa xb xc _ HP.o.small HH.o.1 HX.o.2.2.2.2 HX.o.2.1 HXX.o.2.2.1 HXX.o.2.2.2.1 HXX.o.2.2.2.2 (HP.o.rd.keep bW lR) (HH.o.2.2.keep bW lR) (HX.o.1.keep bW lR)).mono ?_;rintro e u4 ⟨⟨b4,rfl,hb4⟩,bl4⟩;have bU:=Ab bA lR bl4;have HS2:=Af (aG (HS.o.1.keep bU) (HS.o.2.keep bU));clear bA bW bl4 bU HS j0 j1 j2 j3 s0 s1 s2 s3 s4 s5 s6 s7 nb mb np mp;cases b4
       . have HN:Hid (¬Ck p):=fun e=>by
          have:=e k (by rw[HL.o];exact hlt) f HX.o.2.2.1 q (by rw[HZ.o];exact hlq) _ HXX.o.1;simp[this]at hb4
         clear hb4;go_wp2
         go_ret
         exact⟨.no HN.o,HS2.o.1.bel⟩
       . have HOK:Hid (AH p f ⟨xo,xa,xb,xc⟩):=hb4.1 rfl
         clear hb4;go_wp2
         go_roundw
         case rel=>exact⟨q+1,by omega,by go_num,CC HXX.o.1 HOK.o HTT.o,HS2⟩
         case measure=>simp[intOf];omega
     . have hqz:z=q:=by omega
       subst hqz;have HFC:Hid (En p f):=fun j hj x hx=>HTT.o j (by rw[<-HZ.o];exact hj) x hx
       go_wp2
       go_roundw
       case rel=>exact⟨k+1,by omega,by go_num,CC HX.o.2.2.1 HFC.o HT.o,HS.o.1⟩
       case measure=>simp[intOf];omega
  . have hkn:m=k:=by omega
    subst hkn;have HCo:Hid (Ck p):=fun j hj f hf=>HT.o j (by rw[<-HL.o];exact hj) f hf
    go_wp2
    go_ret
    exact⟨.yes HCo.o,HI.o.bel⟩
def NI(v:Value):Prop:=v=sN\/∃ad n c,v=.slice (some ad) n c
theorem Li(x y:MT)(w:World):
 Calls Tryz.prog 66 #[.agg #[iZ x.func,iZ x.head,iZ x.counter,.int .u32 x.init],.agg #[iZ y.func,iZ y.head,iZ y.counter,.int .u32 y.init]] w fun e w'=>Am e (FQ x y)/\Below w.heap.size w w':=by
 have HB:Hid (Below w.heap.size w ((w.alloc (.cells #[iZ x.func,iZ x.head,iZ x.counter,.int .u32 x.init] 62)).alloc (.cells #[iZ y.func,iZ y.head,iZ y.counter,.int .u32 y.init] 62))):=Ab (Aa _ _) lR (Aa _ _);go_enter Tryz.func66,Tryz.ntmps66;go_wp2
 all_goals(go_ret;refine⟨Am.of ?_,by first|exact HB.o|(rw[‹x.func=y.func›]at HB;exact HB.o)⟩;go_light;unfold FQ;simp_all<;>omega)
def Lw(w:World)(s:Value)(fs:List MF):Prop:=∃ys:List (MF×VF),ys.map Prod.fst=fs/\Rd w 4 s fs.length (ys.flatMap AW)/\∀x∈ys,EI w x.2 x.1/\NI x.2.p/\NI x.2.l
theorem Lw.keep{w w':World}{s:Value}{fs:List MF}(h:Lw w s fs){B:Nat}(hb:Below B w w')(hB:w.heap.size<=B):Lw w' s fs:=by
 obtain⟨ys,h1,h2,h3⟩:=h;exact⟨ys,h1,h2.keep hb hB,fun x hx=>⟨(h3 x hx).1.keep hb hB,(h3 x hx).2⟩⟩
theorem NP{p:MP}{fn:Nat}{f:MF}(hf:p.funcs[fn]?=some f)(hd co ini:Int):Em p ⟨fn,hd,co,ini⟩↔(0<=hd/\hd<(f.code.length:Int))/\(0<=co/\co<((f.params.length+f.locals.length:Nat):Int))/\(f.params++f.locals)[co.toNat]?=some 3:=by
 constructor
 . rintro⟨g,h1,h2,h3,h4,h5⟩
   simp only[aX]at h1 h3 h4 h5;rw[hf]at h1;obtain rfl:=aZ h1;unfold AA at h5;split at h5
   . simp at h5
   . rename_i hc
     rw[aU]at h5;by_cases q:co.toNat<(f.params++f.locals).length
     . rw[aA q]at h5⊢
       refine⟨⟨h3,h4⟩,⟨by omega,by rw[aH]at q;omega⟩,?_⟩;simpa using h5
     . rw[ae (by omega)]at h5
       simp at h5
 . rintro⟨⟨h3,h4⟩,⟨h5,h6⟩,h7⟩
   refine⟨f,by simp only[aX];exact hf,by simp only[];omega,h3,h4,?_⟩;unfold AA;rw[bX (by simp only[];omega),aU,h7];rfl
theorem DW(v:VP)(p:MP)(fu hd co ini:Int)(w:World)(hs:p.small)(h:Ej w v p)(hfp:Lw w v.f p.funcs):
 Calls Tryz.prog 65 #[.agg #[v.r,v.k,v.f,v.t],.agg #[iZ fu,iZ hd,iZ co,.int .u32 ini]] w fun e w'=>Am e (Em p ⟨fu,hd,co,ini⟩)/\Below w.heap.size w w':=by
 obtain⟨vr,vk,vf,vt⟩:=v;obtain⟨ys,hys,hrd,hel⟩:=hfp;simp only[]at hrd
 obtain⟨rr1,cc1,er1⟩:∃a c,vr=.slice a p.regions.length c:=by
  obtain⟨_,_,hq,_⟩:=h.regions;exact hq.is_slice
 obtain⟨rr2,cc2,er2⟩:∃a c,vk=.slice a p.consts.length c:=h.consts.is_slice;obtain⟨rr4,cc4,er4⟩:∃a c,vt=.slice a p.certs.length c:=h.certs.is_slice;subst er1 er2 er4;have hyl:ys.length=p.funcs.length:=by rw[<-hys];simp
 obtain⟨a2,c2,e2⟩:=hrd.is_slice;subst e2;have H2:=Af (aG hrd (aG hys (aG hel (aG hs.func hyl))));have hm:=hs.funcs;clear hrd hys hel hyl hs h;generalize p.regions.length=n1 at*;generalize p.consts.length=n2 at*;generalize p.certs.length=n4 at*;generalize hM:p.funcs.length=m at*;have HL:=Af hM
 have HI:Hid (Below w.heap.size w ((w.alloc (.cells #[.slice rr1 n1 cc1,.slice rr2 n2 cc2,.slice a2 m c2,.slice rr4 n4 cc4] 28)).alloc (.cells #[iZ fu,iZ hd,iZ co,.int .u32 ini] 62))/\DE ((w.alloc (.cells #[.slice rr1 n1 cc1,.slice rr2 n2 cc2,.slice a2 m c2,.slice rr4 n4 cc4] 28)).alloc (.cells #[iZ fu,iZ hd,iZ co,.int .u32 ini] 62)) (w.heap.size+1) (iZ fu) (iZ hd) (iZ co) (.int .u32 ini)):=by
  refine⟨Ab (Aa _ _) lR (Aa _ _),?_⟩;have:=DE.new (w.alloc (.cells #[.slice rr1 n1 cc1,.slice rr2 n2 cc2,.slice a2 m c2,.slice rr4 n4 cc4] 28)) (iZ fu) (iZ hd) (iZ co) (.int .u32 ini) 62;simpa using this
 by_cases q0:0<=fu/\fu<(m:Int)
 . have hit:decide (0<=fu/\fu<(m:Int))=true:=decide_eq_true q0
   obtain⟨fn,rfl⟩:=aS q0.1;have hfn:fn<m:=by omega
   clear q0;obtain⟨⟨f,v⟩,hy⟩:∃y,ys[fn]?=some y:=⟨_,aA (by rw[H2.o.2.2.2.2];omega)⟩;have e1:=BG H2.o.2.1 hy;have hfe:=H2.o.2.2.1 _ (aF hy);have HF:=Af (aG hfe.1 (aG hfe.2.1 (aG hfe.2.2 (aG (H2.o.2.2.2.1 _ (aF e1)) e1))));rcases H2.o.1.2 with⟨e0,_⟩|⟨b',o',c',e1,hc2⟩
   . omega
   simp only[aI,ao]at e1;obtain⟨rfl,rfl⟩:=e1;have j0:=Rd.elem Ag hc2 fn _ hy 0 _ rfl;have j1:=Rd.elem Ag hc2 fn _ hy 1 _ rfl;have j2:=Rd.elem Ag hc2 fn _ hy 2 _ rfl;have j3:=Rd.elem Ag hc2 fn _ hy 3 _ rfl;rw[aT]at j0;clear hc2 hy;simp only[]at j0 j1 j2 j3;obtain⟨ap,cp,ep⟩:=HF.o.1.1.is_slice;obtain⟨al,cl,el⟩:=HF.o.1.2.1.is_slice;obtain⟨ac,cc,ec⟩:=HF.o.1.2.2.is_slice;obtain⟨vp,vl,vc⟩:=v;simp only[]at ep el ec j0 j1 j2 j3;subst ep el ec;have k0:=(HI.o.1.cell (aD j0)).trans j0;have k1:=(HI.o.1.cell (aD j1)).trans j1;have k2:=(HI.o.1.cell (aD j2)).trans j2;have k3:=(HI.o.1.cell (aD j3)).trans j3;have nb:¬b'=w.heap.size:=bC (aD j0);have nb2:¬b'=w.heap.size+1:=by have:=aD j0;simp only[]at this;omega
   have nb3:¬b'=w.heap.size+1+1:=by have:=aD j0;simp only[]at this;omega
   have mb:b'<w.heap.size:=aD j0;go_enter Tryz.func65,Tryz.ntmps65;go_wp2_with fail
   refine(AG (fn:Int) (m:Int) _).mono ?_;rintro e u ⟨rfl,rfl⟩;rw[hit];go_wp2_with fail
   have hfm:(fn:Int)<(m:Int):=by omega
   have BX:Below w.heap.size w (((w.alloc (.cells #[.slice rr1 n1 cc1,.slice rr2 n2 cc2,sO b' o' m c2,.slice rr4 n4 cc4] 28)).alloc (.cells #[iZ (fn:Int),iZ hd,iZ co,.int .u32 ini] 62)).alloc (.cells #[sN,sN,sN,sN,sN,iZ 0,sN,sN] 117)).drew:=Ab (Ab HI.o.1 lR (Aa _ _)) lR (Ae _);have x0:=(BX.cell (aD j0)).trans j0;have x1:=(BX.cell (aD j1)).trans j1;have x2:=(BX.cell (aD j2)).trans j2;have x3:=(BX.cell (aD j3)).trans j3;go_region
   have B1:Hid (Below w.heap.size w ((((w.alloc (.cells #[.slice rr1 n1 cc1,.slice rr2 n2 cc2,sO b' o' m c2,.slice rr4 n4 cc4] 28)).alloc (.cells #[iZ (fn:Int),iZ hd,iZ co,.int .u32 ini] 62)).alloc (.cells #[.slice rr1 n1 cc1,.slice rr2 n2 cc2,sO b' o' m c2,.slice rr4 n4 cc4,.slice ap f.params.length cp,iZ f.result,.slice al f.locals.length cl,.slice ac f.code.length cc] 117)).drew)):=Ab (Ab HI.o.1 lR (Aa _ _)) lR (Ae _);have A1:Hid (DE ((((w.alloc (.cells #[.slice rr1 n1 cc1,.slice rr2 n2 cc2,sO b' o' m c2,.slice rr4 n4 cc4] 28)).alloc (.cells #[iZ (fn:Int),iZ hd,iZ co,.int .u32 ini] 62)).alloc (.cells #[.slice rr1 n1 cc1,.slice rr2 n2 cc2,sO b' o' m c2,.slice rr4 n4 cc4,.slice ap f.params.length cp,iZ f.result,.slice al f.locals.length cl,.slice ac f.code.length cc] 117)).drew) (w.heap.size+1) (iZ (fn:Int)) (iZ hd) (iZ co) (.int .u32 ini)):=(HI.o.2.alloc _).keep (Ae _)
   have A2:Hid (Md ((((w.alloc (.cells #[.slice rr1 n1 cc1,.slice rr2 n2 cc2,sO b' o' m c2,.slice rr4 n4 cc4] 28)).alloc (.cells #[iZ (fn:Int),iZ hd,iZ co,.int .u32 ini] 62)).alloc (.cells #[.slice rr1 n1 cc1,.slice rr2 n2 cc2,sO b' o' m c2,.slice rr4 n4 cc4,.slice ap f.params.length cp,iZ f.result,.slice al f.locals.length cl,.slice ac f.code.length cc] 117)).drew) (w.heap.size+1+1) (.slice rr1 n1 cc1) (.slice rr2 n2 cc2) (sO b' o' m c2) (.slice rr4 n4 cc4) (.slice ap f.params.length cp) (iZ f.result) (.slice al f.locals.length cl) (.slice ac f.code.length cc)):=by
    have:=(Md.new ((w.alloc (.cells #[.slice rr1 n1 cc1,.slice rr2 n2 cc2,sO b' o' m c2,.slice rr4 n4 cc4] 28)).alloc (.cells #[iZ (fn:Int),iZ hd,iZ co,.int .u32 ini] 62)) (.slice rr1 n1 cc1) (.slice rr2 n2 cc2) (sO b' o' m c2) (.slice rr4 n4 cc4) (.slice ap f.params.length cp) (iZ f.result) (.slice al f.locals.length cl) (.slice ac f.code.length cc) 117).keep (Ae _);have hsz:((w.alloc (.cells #[.slice rr1 n1 cc1,.slice rr2 n2 cc2,sO b' o' m c2,.slice rr4 n4 cc4] 28)).alloc (.cells #[iZ (fn:Int),iZ hd,iZ co,.int .u32 ini] 62)).heap.size=w.heap.size+1+1:=by simp
    rw[hsz]at this;exact this
   generalize (((w.alloc (.cells #[.slice rr1 n1 cc1,.slice rr2 n2 cc2,sO b' o' m c2,.slice rr4 n4 cc4] 28)).alloc (.cells #[iZ (fn:Int),iZ hd,iZ co,.int .u32 ini] 62)).alloc (.cells #[.slice rr1 n1 cc1,.slice rr2 n2 cc2,sO b' o' m c2,.slice rr4 n4 cc4,.slice ap f.params.length cp,iZ f.result,.slice al f.locals.length cl,.slice ac f.code.length cc] 117)).drew=W1 at B1 A1 A2⊢;have HK:=Af (aG B1.o (aG A1.o A2.o));clear B1 A1 A2 HI H2 j0 j1 j2 j3 k0 k1 k2 k3 nb nb2 nb3 mb hit x0 x1 x2 x3 hfm;have HC:=Af (NP HF.o.2.2.2.2 hd co ini);obtain⟨i0,i1,i2,i3⟩:=HK.o.2.1;obtain⟨g0,g1,g2,g3,g4,g5,g6,g7⟩:=HK.o.2.2;have hz3:=HF.o.2.2.2.1.2.2;go_wp2_with fail
   refine(AG hd (f.code.length:Int) _).mono ?_;rintro e u ⟨rfl,rfl⟩;by_cases qA:0<=hd/\hd<(f.code.length:Int)
   . have hA:decide (0<=hd/\hd<(f.code.length:Int))=true:=decide_eq_true qA
     rw[hA];go_wp2_with fail
     refine(FD (.slice rr1 n1 cc1) (.slice rr2 n2 cc2) (sO b' o' m c2) (.slice rr4 n4 cc4) ⟨.slice ap f.params.length cp,.slice al f.locals.length cl,.slice ac f.code.length cc⟩ f co _ HF.o.2.2.2.1 (HF.o.1.keep HK.o.1 lR)).mono ?_;rintro e u ⟨⟨bh,rfl,hbh⟩,bl⟩;have HQ:=Af (aG (Ab HK.o.1 lR bl) (aG (HK.o.2.1.keep bl) (HK.o.2.2.keep bl)));cases bh
     . have HN:Hid (¬Em p ⟨fn,hd,co,ini⟩):=fun e=>absurd (hbh.2 ⟨(HC.o.1 e).2.1.1,by have:=(HC.o.1 e).2.1.2;omega⟩) dG
       clear hbh qA hA;go_wp2
       go_ret
       exact⟨.no HN.o,HQ.o.1⟩
     . have hl:Hw f co:=hbh.1 rfl
       obtain⟨k,rfl⟩:=aS hl.1;have hk:k<(f.params++f.locals).length:=by have:=hl.2;rw[aH];omega
       obtain⟨x,hx⟩:∃x,(f.params++f.locals)[k]?=some x:=⟨_,aA hk⟩
       have HY:Hid ((x==3)=true↔Em p ⟨fn,hd,k,ini⟩):=by
        show _↔_;have h2:=hl.2;rw[HC.o,aX,hx];simp[qA];intro _;omega
       have HX:=Af hx;clear hbh qA hA hl hk hx HC;obtain⟨i0,i1,i2,i3⟩:=HQ.o.2.1;obtain⟨g0,g1,g2,g3,g4,g5,g6,g7⟩:=HQ.o.2.2;go_wp2_with fail
       refine(Kx (.slice rr1 n1 cc1) (.slice rr2 n2 cc2) (sO b' o' m c2) (.slice rr4 n4 cc4) ⟨.slice ap f.params.length cp,.slice al f.locals.length cl,.slice ac f.code.length cc⟩ f k x _ HF.o.2.2.2.1 (HF.o.1.keep HQ.o.1 lR) HX.o).mono ?_;rintro e u' ⟨rfl,bl⟩;have HE:=Af (Ab HQ.o.1 lR bl);clear bl i0 i1 i2 i3 g0 g1 g2 g3 g4 g5 g6 g7;go_wp2
       go_ret
       exact⟨.of HY.o,HE.o⟩
   . have hA:decide (0<=hd/\hd<(f.code.length:Int))=false:=cI qA
     have HN:Hid (¬Em p ⟨fn,hd,co,ini⟩):=fun e=>qA (HC.o.1 e).1
     rw[hA];go_wp2
     go_ret
     exact⟨.no HN.o,HK.o.1⟩
 . have HN:Hid (¬Em p ⟨fu,hd,co,ini⟩):=fun⟨f,h1,h2,_⟩=>q0 ⟨h2,by have:=(aE.1 h1).1;simp only[]at this h2;rw[HL.o]at this;omega⟩
   have hit:decide (0<=fu/\fu<(m:Int))=false:=cI q0
   clear H2;go_enter Tryz.func65,Tryz.ntmps65;go_wp2_with fail
   refine(AG fu (m:Int) _).mono ?_;rintro e u ⟨rfl,rfl⟩;rw[hit];go_wp2
   go_ret
   exact⟨.no HN.o,HI.o.1⟩
theorem FE(xs:List Int):∀u∈xs.flatMap Ac,u.oneCell'=true:=by
 intro u hu;obtain⟨x,_,hx⟩:=cG.1 hu;simp[Ac]at hx;subst hx;rfl
theorem Es{P:Program}{w:World}(base:Nat)(t ty e:TypeId)(i:TypeInfo)(size:Nat)(ht:P.underlying t=some (.slice e))(hi:P.info? e=some i)(v:Value)(n:Nat)(xs:List Value)(hown:w.ownsRow base e size v n xs)(c:Nat):(Builtin.append_ #[t,t] ty #[v,.slice none 0 c]).run P w=.ok v w:=by
 rcases hown.2 with⟨rfl,rfl⟩|⟨g,cap,cur,rfl,_,_,hnc,_⟩
 . simp[Builtin.append_,run_underlying ht,sizeOf,typeInfo,hi,Builtin.lenOf,Builtin.firstCells]
 . simp[Builtin.append_,run_underlying ht,sizeOf,typeInfo,hi,Builtin.lenOf,Builtin.firstCells,hnc,storeCells]
theorem Kk (v:VP)(p:MP)(w:World)(hs:p.small)(h:Ej w v p)(hfp:Lw w v.f p.funcs):
 Calls Tryz.prog 44 #[.agg #[v.r,v.k,v.f,v.t]] w fun e w'=>Am e (Bc p)/\Below w.heap.size w w':=by
 obtain⟨vr,vk,vf,vt⟩:=v
 have H1:=Af (aG h.certs (aG hs (aG h hfp)))
 have hn:=hs.certs
 obtain⟨a1,c1,e1⟩:∃a c,vt=.slice a p.certs.length c:=h.certs.is_slice
 subst e1
 clear h hs hfp
 have HI:Hid _:=Kh.of w vr vk vf (.slice a1 p.certs.length c1) 28
 generalize hcs:p.certs.length=n at*
 have HL:=Af hcs
 clear hcs
 by_cases q0:64<n
 . have HN:Hid (¬Bc p):=fun e=>absurd e.1 (by rw[HL.o];omega)
   have q0':(64:Int)<(n:Int):=by omega
   clear H1
   go_enter Tryz.func44,Tryz.ntmps44
   go_wp2
   go_ret
   exact⟨.no HN.o,HI.o.bel⟩
 have q0':¬(64:Int)<(n:Int):=by omega
 go_enter Tryz.func44,Tryz.ntmps44
 go_wp2
 go_loopw [12] (fun i wr=>∃k:Nat,k<=n/\i=iZ k/\Hid (∀j,j<k->El p p.certs j)/\Hid (Kh w wr vr vk vf (.slice a1 n c1))) (fun i _=>n-(intOf i).toNat)
 case atStart=>exact⟨0,by omega,rfl,fun j hj=>by omega,HI⟩
 case round=>
  clear HI
  obtain⟨k,hk,rfl,HT,HI⟩:=hrel
  by_cases hlt:k<n
  . obtain ⟨x,hx⟩:∃x,p.certs[k]?=some x:=⟨_,aA (by rw[HL.o];exact hlt)⟩
    rcases H1.o.1.2 with⟨e0,_⟩|⟨b,o,c,e1,hc1⟩
    . omega
    simp only[aI,ao]at e1
    obtain⟨rfl,rfl⟩:=e1
    have i0:=Rd.elem MT.cells_length hc1 k x hx 0 _ rfl
    have i1:=Rd.elem MT.cells_length hc1 k x hx 1 _ rfl
    have i2:=Rd.elem MT.cells_length hc1 k x hx 2 _ rfl
    have i3:=Rd.elem MT.cells_length hc1 k x hx 3 _ rfl
    rw[<-HI.o.bel.cell (aD i0),aT]at i0
    rw[<-HI.o.bel.cell (aD i1)]at i1
    rw[<-HI.o.bel.cell (aD i2)]at i2
    rw[<-HI.o.bel.cell (aD i3)]at i3
    have HX:=Af hx
    have HC:=Af hc1
    clear hc1 hx
    obtain⟨fu,hd,co,ini⟩:=x
    simp only[]at i0 i1 i2 i3
    have nb:¬b=wr.heap.size:=bC (aD i0)
    have mb:b<wr.heap.size:=aD i0
    have HW0:Hid (Below w.heap.size w (wr.alloc (.cells #[iZ fu,iZ hd,iZ co,.int .u32 ini] 62))/\DE (wr.alloc (.cells #[iZ fu,iZ hd,iZ co,.int .u32 ini] 62)) w.heap.size vr vk vf (sO b o n c1)/\DE (wr.alloc (.cells #[iZ fu,iZ hd,iZ co,.int .u32 ini] 62)) wr.heap.size (iZ fu) (iZ hd) (iZ co) (.int .u32 ini)):=⟨Ab HI.o.bel lR (Aa _ _),HI.o.prog.alloc _,DE.new _ _ _ _ _ _⟩
    go_wp2_with fail
    generalize wr.alloc (.cells #[iZ fu,iZ hd,iZ co,.int .u32 ini] 62)=W1 at HW0⊢
    have HW:=Af HW0
    clear HW0 i0 i1 i2 i3 nb mb HI q0'
    obtain⟨p0,p1,p2,p3⟩:=HW.o.2.1
    obtain⟨r0,r1,r2,r3⟩:=HW.o.2.2
    have inst:=Ao.some W1
    have P0:=fun n:Ao W1=>Ao.cell p0 n
    have P1:=fun n:Ao W1=>Ao.cell p1 n
    have P2:=fun n:Ao W1=>Ao.cell p2 n
    have P3:=fun n:Ao W1=>Ao.cell p3 n
    have R0:=fun n:Ao W1=>Ao.cell r0 n
    have R1:=fun n:Ao W1=>Ao.cell r1 n
    have R2:=fun n:Ao W1=>Ao.cell r2 n
    have R3:=fun n:Ao W1=>Ao.cell r3 n
    by_cases hok:Em p ⟨fu,hd,co,ini⟩
    . have HOK:Hid (Em p ⟨fu,hd,co,ini⟩):=hok
      clear hok
      by_cases q5:k=0
      . subst q5
        have HA:Hid (El p p.certs 0):=fun c hc=>by
         rw[HX.o]at hc
         obtain rfl:=aZ hc
         exact⟨HOK.o,fun i d hi=>by omega⟩
        refine AC (by kernel_rfl) (by kernel_rfl) ?_
        repeat(go_big_quiet_step ((first|(go_at_call 65;rename_i n';exact(DW ⟨vr,vk,vf,sO b o n c1⟩ p fu hd co ini n'.u H1.o.2.1 (H1.o.2.2.1.keep (Ab HW.o.1 lR n'.h) lR) (H1.o.2.2.2.keep (Ab HW.o.1 lR n'.h) lR)).mono fun e w'' h=>⟨h.1.true HOK.o,⟨⟨w'',Ab n'.h lR h.2⟩,rfl⟩⟩))))
        refine wpQuiet_nil ?_
        rintro w'' ⟨n',rfl⟩
        have HI2:Hid (Kh w n'.u vr vk vf (sO b o n c1)):=⟨Ab HW.o.1 lR n'.h,HW.o.2.1.keep n'.h⟩
        go_wp2
        go_roundw
        case rel=>exact⟨1,by omega,by go_num,Ew HA.o HT.o,HI2⟩
        case measure=>simp[intOf];omega
      . obtain⟨i,rfl⟩:∃i,k=i+1:=⟨k-1,by omega⟩
        obtain⟨d,hd'⟩:∃d,p.certs[i]?=some d:=⟨_,aA (by rw[HL.o];omega)⟩
        have y0:=Rd.elem MT.cells_length HC.o i d hd' 0 _ rfl
        have y1:=Rd.elem MT.cells_length HC.o i d hd' 1 _ rfl
        have y2:=Rd.elem MT.cells_length HC.o i d hd' 2 _ rfl
        have y3:=Rd.elem MT.cells_length HC.o i d hd' 3 _ rfl
        rw[<-HW.o.1.cell (aD y0),aT]at y0
        rw[<-HW.o.1.cell (aD y1)]at y1
        rw[<-HW.o.1.cell (aD y2)]at y2
        rw[<-HW.o.1.cell (aD y3)]at y3
        obtain⟨dfu,dhd,dco,dini⟩:=d
        simp only[]at y0 y1 y2 y3
        have HD:=Af hd'
        clear hd'
        have Y0:=fun n:Ao W1=>Ao.cell y0 n
        have Y1:=fun n:Ao W1=>Ao.cell y1 n
        have Y2:=fun n:Ao W1=>Ao.cell y2 n
        have Y3:=fun n:Ao W1=>Ao.cell y3 n
        have hki:((i+1:Nat):Int)-1=(i:Int):=by omega
        have hkp:(0:Int)<((i+1:Nat):Int):=by omega
        by_cases hri:FQ ⟨dfu,dhd,dco,dini⟩ ⟨fu,hd,co,ini⟩
        . have HRI:Hid (FQ ⟨dfu,dhd,dco,dini⟩ ⟨fu,hd,co,ini⟩):=hri
          have HA:Hid (El p p.certs (i+1)):=fun c hc=>by
           rw[HX.o]at hc
           obtain rfl:=aZ hc
           refine⟨HOK.o,fun i' d' hi hd'=> ?_⟩
           obtain rfl:i'=i:=by omega
           rw[HD.o]at hd'
           obtain rfl:=aZ hd'
           exact hri
          clear hri
          refine AC (by kernel_rfl) (by kernel_rfl) ?_
          repeat(go_big_quiet_step ((first|(go_at_call 65;rename_i n';exact(DW ⟨vr,vk,vf,sO b o n c1⟩ p fu hd co ini n'.u H1.o.2.1 (H1.o.2.2.1.keep (Ab HW.o.1 lR n'.h) lR) (H1.o.2.2.2.keep (Ab HW.o.1 lR n'.h) lR)).mono fun e w'' h=>⟨h.1.true HOK.o,⟨⟨w'',Ab n'.h lR h.2⟩,rfl⟩⟩)|(go_at_call 66;rename_i n';exact(Li ⟨dfu,dhd,dco,dini⟩ ⟨fu,hd,co,ini⟩ n'.u).mono fun e w'' h=>⟨h.1.true HRI.o,⟨⟨w'',Ab n'.h lR h.2⟩,rfl⟩⟩))))
          refine wpQuiet_nil ?_
          rintro w'' ⟨n',rfl⟩
          have HI2:Hid (Kh w n'.u vr vk vf (sO b o n c1)):=⟨Ab HW.o.1 lR n'.h,HW.o.2.1.keep n'.h⟩
          go_wp2
          go_roundw
          case rel=>exact⟨i+1+1,by omega,by go_num,Ew HA.o HT.o,HI2⟩
          case measure=>simp[intOf];omega
        . have HRI:Hid (¬FQ ⟨dfu,dhd,dco,dini⟩ ⟨fu,hd,co,ini⟩):=hri
          clear hri
          have HN:Hid (¬Bc p):=fun e=>by
           exact HRI.o ((e.2 (i+1) (by rw[HL.o];exact hlt) _ HX.o).2 i _ rfl HD.o)
          refine AC (by kernel_rfl) (by kernel_rfl) ?_
          repeat(go_big_quiet_step ((first|(go_at_call 65;rename_i n';exact(DW ⟨vr,vk,vf,sO b o n c1⟩ p fu hd co ini n'.u H1.o.2.1 (H1.o.2.2.1.keep (Ab HW.o.1 lR n'.h) lR) (H1.o.2.2.2.keep (Ab HW.o.1 lR n'.h) lR)).mono fun e w'' h=>⟨h.1.true HOK.o,⟨⟨w'',Ab n'.h lR h.2⟩,rfl⟩⟩)|(go_at_call 66;rename_i n';exact(Li ⟨dfu,dhd,dco,dini⟩ ⟨fu,hd,co,ini⟩ n'.u).mono fun e w'' h=>⟨h.1.false HRI.o,⟨⟨w'',Ab n'.h lR h.2⟩,rfl⟩⟩))))
          refine wpQuiet_nil ?_
          rintro w'' ⟨n',rfl⟩
          have HI2:Hid (Kh w n'.u vr vk vf (sO b o n c1)):=⟨Ab HW.o.1 lR n'.h,HW.o.2.1.keep n'.h⟩
          go_wp2
          go_ret
          exact⟨.no HN.o,HI2.o.bel⟩
    . have HOK:Hid (¬Em p ⟨fu,hd,co,ini⟩):=hok
      clear hok
      have HN:Hid (¬Bc p):=fun e=>by
       exact HOK.o (e.2 k (by rw[HL.o];exact hlt) _ HX.o).1
      refine AC (by kernel_rfl) (by kernel_rfl) ?_
      repeat(go_big_quiet_step ((first|(go_at_call 65;rename_i n';exact(DW ⟨vr,vk,vf,sO b o n c1⟩ p fu hd co ini n'.u H1.o.2.1 (H1.o.2.2.1.keep (Ab HW.o.1 lR n'.h) lR) (H1.o.2.2.2.keep (Ab HW.o.1 lR n'.h) lR)).mono fun e w'' h=>⟨h.1.false HOK.o,⟨⟨w'',Ab n'.h lR h.2⟩,rfl⟩⟩))))
      refine wpQuiet_nil ?_
      rintro w'' ⟨n',rfl⟩
      have HI2:Hid (Kh w n'.u vr vk vf (sO b o n c1)):=⟨Ab HW.o.1 lR n'.h,HW.o.2.1.keep n'.h⟩
      go_wp2
      go_ret
      exact⟨.no HN.o,HI2.o.bel⟩
  . have hkn:n=k:=by omega
    subst hkn
    have HY:Hid (Bc p):=⟨by rw[HL.o];omega,by rw[HL.o];exact HT.o⟩
    go_wp2
    go_ret
    exact⟨.yes HY.o,HI.o.bel⟩
theorem Qp{P:Program}(u:World)(B:Nat)(t ty e:TypeId)(i:TypeInfo)(z:Value)(k bytes:Nat)(ht:P.underlying t=some (.slice e))(hi:P.info? e=some i)(hz:i.zero=some z)(hk:i.size=k)(hby:i.bytes=bytes)(hzs:z.cells.size=k)(hsz:0<k)(V:Value)(n:Nat)(xs:List Value)(ho:u.ownsRow B e k V n xs)(Vs:Value)(m:Nat)(ys:List Value)(hr:Rd u k Vs m ys)(hl:ys.length=m*k)(h1:∀x∈ys,x.oneCell'=true)(h63:n+m<=maxLen)(hbytes:(n+m)*bytes<=140737488355328)(hB:B<=u.heap.size):∃v' w',(Builtin.append_ #[t,t] ty #[V,Vs]).run P u=.ok v' w'/\w'.ownsRow B e k v' (n+m) (xs++ys)/\u.grownBy w' V.ownBlock/\(v'.ownBlock=V.ownBlock\/v'.ownBlock=some u.heap.size):=by
 obtain⟨a,c,rfl⟩:=hr.is_slice;cases a with
 | none=>
   have hm:m=0:=by
    rcases hr.2 with⟨e0,_⟩|⟨g,o,c,e1,_⟩
    . exact e0
    . cases e1
   subst hm;have h0:ys=[]:=bx (by omega);subst h0;exact⟨_,_,Es (P:=P) B t ty e i k ht hi _ _ _ ho c,by simpa using ho,⟨rfl,rfl,rfl,Nat.le_refl _,fun _ _ _=>rfl⟩,.inl rfl⟩
 | some ad=>
   have hN:∀j v,ys[j]?=some v->u.cell? (ad.add j)=some v:=fun j v hj=>by
    rcases hr.2 with⟨e0,_⟩|⟨g,o,c,e1,hc⟩
    . subst e0
      have:ys=[]:=bx (by omega);subst this;simp at hj
    . simp only[aI,aM]at e1
      obtain⟨rfl,_⟩:=e1;rw[Ds];exact hc j v hj
   obtain⟨v',w',h2,h3,h4,_,h5⟩:=run_append_own_at (P:=P) (w:=u) B t ty e i z k bytes ht hi hz hk hby hzs hsz V n xs ho ad m c ys hl hN h1 h63 hbytes hB;exact⟨v',w',h2,h3,h4,h5⟩
theorem Sn{P:Program}{o:Oper}{a:Act}{K:Act->World->Prop}{Q:Exit->Act->World->Prop}{u:World}(s x:Operand)(B:Nat)(t e:TypeId)(i:TypeInfo)(z:Value)(k bytes:Nat)(ho:o.op=.call {callee:=.builtin .append,args:=#[s,x],argTypes:=#[t,t]})(ht:P.underlying t=some (.slice e))(hi:P.info? e=some i)(hz:i.zero=some z)(hk:i.size=k)(hby:i.bytes=bytes)(hzs:z.cells.size=k)(hsz:0<k)(V:Value)(n:Nat)(xs:List Value)(hs:a.eval s=V)(hw:u.ownsRow B e k V n xs)(Vs:Value)(m:Nat)(ys:List Value)(hx:a.eval x=Vs)(hr:Rd u k Vs m ys)(hl:ys.length=m*k)(h1:∀x∈ys,x.oneCell'=true)(h63:n+m<=maxLen)(hbytes:(n+m)*bytes<=140737488355328)(hB:B<=u.heap.size)(hK:∀v' w',w'.ownsRow B e k v' (n+m) (xs++ys)->u.grownBy w' V.ownBlock->(v'.ownBlock=V.ownBlock\/v'.ownBlock=some u.heap.size)->K (a.put o.dst v') w'):o.wp P a u K Q:=by
 obtain⟨v',w',h2,h3,h4,h5⟩:=Qp (P:=P) u B t o.type e i z k bytes ht hi hz hk hby hzs hsz V n xs hw Vs m ys hr hl h1 h63 hbytes hB;exact Lib.wp_append_run _ s x t t ho _ _ hs hx v' w' h2 (hK v' w' h3 h4 h5)
theorem Lm{P:Program}{ops:Array Oper}{o:Oper}{a:Act}{K:Act->World->Prop}{Q:Exit->Act->World->Prop}{E:Prop}{u:World}(hgd:o.guard=none)(s x:Operand)(B:Nat)(t e:TypeId)(i:TypeInfo)(z:Value)(k bytes:Nat)(ho:o.op=.call {callee:=.builtin .append,args:=#[s,x],argTypes:=#[t,t]})(ht:P.underlying t=some (.slice e))(hi:P.info? e=some i)(hz:i.zero=some z)(hk:i.size=k)(hby:i.bytes=bytes)(hzs:z.cells.size=k)(hsz:0<k)(V:Value)(n:Nat)(xs:List Value)(hs:a.eval s=V)(hw:u.ownsRow B e k V n xs)(Vs:Value)(m:Nat)(ys:List Value)(hx:a.eval x=Vs)(hr:Rd u k Vs m ys)(hl:ys.length=m*k)(h1:∀x∈ys,x.oneCell'=true)(h63:n+m<=maxLen)(hbytes:(n+m)*bytes<=140737488355328)(hB:B<=u.heap.size)(hK:∀v' w',w'.ownsRow B e k v' (n+m) (xs++ys)->u.grownBy w' V.ownBlock->(v'.ownBlock=V.ownBlock\/v'.ownBlock=some u.heap.size)->K (a.put o.dst v') w'):if Region.wanted o (yielded ops a.tmps)=true then Oper.wp P o a u K Q else E:=by
 have hwd:Region.wanted o (yielded ops a.tmps)=true:=by simp[Region.wanted,hgd]
 rw[bj hwd];exact Sn s x B t e i z k bytes ho ht hi hz hk hby hzs hsz V n xs hs hw Vs m ys hx hr hl h1 h63 hbytes hB hK
theorem Ik(u:World)(e:TypeId)(k:Nat):(u.alloc (.cells #[] e)).ownsRow u.heap.size e k (.slice (some ⟨u.heap.size,0,none⟩) 0 0) 0 []:=⟨by simp,.inr ⟨u.heap.size,0,#[],rfl,Nat.le_refl _,dB _ _,Nat.le_refl _,cU _,by simp,by simp⟩⟩
theorem Rd.front{u:World}{k n m c:Nat}{a:Option Addr}{xs:List Value}(h:Rd u k (.slice a n c) n xs)(hl:xs.length=n*k)(hm:m<=n)(c':Nat):Rd u k (.slice a m c') m (xs.take (m*k)):=by
 refine⟨by rw[b9,hl];exact Nat.min_eq_left (Nat.mul_le_mul_right k hm),?_⟩;rcases h.2 with⟨e0,_⟩|⟨g,o,c1,e1,hc⟩
 . obtain rfl:m=0:=by omega
   exact .inl ⟨rfl,a,c',rfl⟩
 . simp only[aI]at e1
   obtain⟨rfl,_⟩:=e1;refine .inr ⟨g,o,c',rfl,fun j u hj=>hc j u ?_⟩;rw[List.getElem?_take]at hj;split at hj
   . exact hj
   . cases hj
def FT(n:Int):Value:=if n=0 then .nilIface else .iface 90 (iZ n)
def CT(e:Ending)(p:MP):Prop:=∃n,e=.returned (FT n)/\AV p n
theorem CT.f1{p:MP}(h:¬Ax p.regions):CT (.returned (.iface 90 (iZ 1))) p:=⟨1,rfl,.inl ⟨rfl,h⟩⟩
theorem CT.f2{p:MP}(h1:Ax p.regions)(h:¬AP p.consts):CT (.returned (.iface 90 (iZ 2))) p:=⟨2,rfl,.inr (.inl ⟨rfl,h1,h⟩)⟩
theorem CT.f3{p:MP}(h1:Ax p.regions/\AP p.consts)(h:¬AX p.funcs):CT (.returned (.iface 90 (iZ 3))) p:=⟨3,rfl,.inr (.inr (.inl ⟨rfl,h1.1,h1.2,h⟩))⟩
theorem CT.f4{p:MP}(h1:Ax p.regions/\AP p.consts)(h2:AX p.funcs)(h:¬Ck p):CT (.returned (.iface 90 (iZ 4))) p:=⟨4,rfl,.inr (.inr (.inr (.inl ⟨rfl,h1.1,h1.2,h2,h⟩)))⟩
theorem CT.f5{p:MP}(h1:Ax p.regions/\AP p.consts)(h2:AX p.funcs)(h3:Ck p)(h:¬Bc p):CT (.returned (.iface 90 (iZ 5))) p:=⟨5,rfl,.inr (.inr (.inr (.inr (.inl ⟨rfl,h1.1,h1.2,h2,h3,h⟩))))⟩
theorem CT.f0{p:MP}(h1:Ax p.regions/\AP p.consts)(h2:AX p.funcs)(h3:Ck p)(h:Bc p):CT (.returned .nilIface) p:=⟨0,rfl,.inr (.inr (.inr (.inr (.inr ⟨rfl,h1.1,h1.2,h2,h3,h⟩))))⟩
theorem DJ(v:VP)(p:MP)(w:World)(hs:p.small)(hw:p.wf)(h:Ej w v p)(hcap:Jv w v.r p.regions)(hfp:Lw w v.f p.funcs):
 Calls Tryz.prog 12 #[.agg #[v.r,v.k,v.f,v.t]] w fun e w'=>CT e p/\Below w.heap.size w w':=by
 have H:=Af (aG hs (aG hw (aG h (aG hcap hfp))));clear hs hw h hcap hfp;have HI:Hid _:=Kh.of w v.r v.k v.f v.t 28;go_enter Tryz.func12,Tryz.ntmps12;go_wp2_with fail
 refine(Jk v.r p.regions _ H.o.1.regions H.o.1.region (H.o.2.2.1.regions.keep HI.o.bel lR)).mono ?_;rintro e u1 ⟨⟨b1,rfl,hb1⟩,rfl⟩;cases b1
 . have HN:Hid (¬Ax p.regions):=fun e=>by simp[e]at hb1
   clear hb1;go_wp2
   go_ret
   exact⟨.f1 HN.o,HI.o.bel⟩
 have HR:=Af (hb1.1 rfl);clear hb1;go_wp2_with fail
 refine(JC v.k p.consts _ H.o.1.consts (fun c hc=>(Pn (H.o.2.1.consts c hc).2).1) (H.o.2.2.1.consts.keep HI.o.bel lR)).mono ?_;rintro e u2 ⟨⟨b2,rfl,hb2⟩,bl2⟩;have HI2:=Af (HI.o.keep bl2);clear bl2;cases b2
 . have HN:Hid (¬AP p.consts):=fun e=>by simp[e]at hb2
   clear hb2;go_wp2
   go_ret
   exact⟨.f2 HR.o HN.o,HI2.o.bel⟩
 have HRC:=Af (aG HR.o (hb2.1 rfl));clear hb2;obtain⟨p0,p1,p2,p3⟩:=HI2.o.prog;go_wp2_with fail
 refine(Kq v.f p.funcs _ H.o.1.funcs H.o.1.func (H.o.2.2.1.funcs.keep HI2.o.bel lR)).mono ?_;rintro e u3 ⟨⟨b3,rfl,hb3⟩,bl3⟩;have HI3:=Af (HI2.o.keep bl3);clear bl3 p0 p1 p2 p3;cases b3
 . have HN:Hid (¬AX p.funcs):=fun e=>by simp[e]at hb3
   clear hb3;go_wp2
   go_ret
   exact⟨.f3 HRC.o HN.o,HI3.o.bel⟩
 have HFo:=Af (hb3.1 rfl);clear hb3;obtain⟨p0,p1,p2,p3⟩:=HI3.o.prog;go_wp2_with fail
 refine(Km v p _ H.o.1 H.o.2.1 HRC.o.1 HFo.o (H.o.2.2.1.keep HI3.o.bel lR) (H.o.2.2.2.1.keep HI3.o.bel lR)).mono ?_;rintro e u4 ⟨⟨b4,rfl,hb4⟩,bl4⟩;have HI4:=Af (HI3.o.keep bl4);clear bl4 p0 p1 p2 p3;cases b4
 . have HN:Hid (¬Ck p):=fun e=>by simp[e]at hb4
   clear hb4;go_wp2
   go_ret
   exact⟨.f4 HRC.o HFo.o HN.o,HI4.o.bel⟩
 have HCo:=Af (hb4.1 rfl);clear hb4;obtain⟨p0,p1,p2,p3⟩:=HI4.o.prog;go_wp2_with fail
 refine(Kk v p _ H.o.1 (H.o.2.2.1.keep HI4.o.bel lR) (H.o.2.2.2.2.keep HI4.o.bel lR)).mono ?_;rintro e u5 ⟨⟨b5,rfl,hb5⟩,bl5⟩;have HI5:=Af (Ab HI4.o.bel lR bl5);clear bl5 p0 p1 p2 p3;cases b5
 . have HN:Hid (¬Bc p):=fun e=>by simp[e]at hb5
   clear hb5;go_wp2
   go_ret
   exact⟨.f5 HRC.o HFo.o HCo.o HN.o,HI5.o⟩
 . have HY:Hid (Bc p):=hb5.1 rfl
   clear hb5;go_wp2
   go_ret
   exact⟨.f0 HRC.o HFo.o HCo.o HY.o,HI5.o⟩
structure GV where
 fc:Int
 fa:Int
 gb:Nat
 ob:Nat
 cb:Nat
 go:Nat
 oo:Nat
 co:Nat
 vi:Value
 vl:Value
 gi:Nat
 ci:Nat
 gc:Nat
 cc:Nat
def Kd(x:Int):Prop:=0<=x/\x<=4294967295
structure Gr(w u:World)(G n:Nat)(x:GV)(bad:Bool)(I:List Nat)(C:List Int):Prop where
 blk:Ap u G #[iZ x.fc,iZ x.fa,sO x.gb x.ob n x.cb,sO x.go x.oo n x.co,x.vi,x.vl,sG x.gi n x.ci,sG x.gc n x.cc,.bool bad] 223
 lo:w.heap.size<=G
 is_:u.ownsRow w.heap.size 2 1 (sG x.gi n x.ci) n (nv I)
 cost:u.ownsRow w.heap.size 2 1 (sG x.gc n x.cc) n (C.flatMap Ac)
 ne:x.gi≠x.gc
 bel:Below w.heap.size w u
 il:I.length=n
 ib:∀y∈I,y<n
 cl:C.length=n
 cb:∀y∈C,Kd y
structure GF(w:World)(n:Nat)(x:GV)(E:Nat->List Nat)(O:List Nat):Prop where
 gr:Iu w x.gb x.ob n E
 ord:∀k y:Nat,O[k]?=some y->w.cell? ⟨x.go,x.oo+k,none⟩=some (iZ (y:Int))
 ol:O.length=n
 ob:∀y∈O,y<n
 eb:∀b,b<n->∀y∈E b,y<n
 sz:∀b,(E b).length<=2
theorem Gr.keep{w u u':World}{G n:Nat}{x:GV}{bad:Bool}{I:List Nat}{C:List Int}(h:Gr w u G n x bad I C)(hb:Below u.heap.size u u'):Gr w u' G n x bad I C:={h with blk:=h.blk.keep hb,is_:=Ah h.is_ hb lR,cost:=Ah h.cost hb lR,bel:=Ab h.bel lR hb}
theorem Gr.gi_ne{w u:World}{G n:Nat}{x:GV}{bad:Bool}{I:List Nat}{C:List Int}(h:Gr w u G n x bad I C):x.gi≠G/\x.gc≠G:=by
 obtain⟨_,c1,e1⟩:=AF h.is_;obtain⟨_,c2,e2⟩:=AF h.cost;have e3:=h.blk;unfold Ap at e3;constructor
 . intro e
   rw[e,e3]at e1;cases e1
 . intro e
   rw[e,e3]at e2;cases e2
theorem BU{u:World}{B g g' k n c i:Nat}{e:TypeId}{xs:List Value}{z:Value}(h:u.ownsRow B e k (sG g n c) n xs)(hne:g≠g'):(u.setCell ⟨g',i,none⟩ z).ownsRow B e k (sG g n c) n xs:=aN h (a:=⟨g',i,none⟩) (fun e=>hne (by simpa[Value.ownBlock]using e)) z
theorem Gr.bad_{w u:World}{G n:Nat}{x:GV}{bad:Bool}{I:List Nat}{C:List Int}(h:Gr w u G n x bad I C):Gr w (u.setCell ⟨G,8,none⟩ (.bool true)) G n x true I C:=
 {h with blk:=by have:=h.blk.set 8 (.bool true);simpa using this,is_:=BU h.is_ h.gi_ne.1,cost:=BU h.cost h.gi_ne.2,bel:=h.bel.setCell h.lo _}
theorem Gr.other{w u:World}{G n g i:Nat}{x:GV}{bad:Bool}{I:List Nat}{C:List Int}{z:Value}(h:Gr w u G n x bad I C)(hg:w.heap.size<=g)(h1:g≠G)(h2:g≠x.gi)(h3:g≠x.gc):Gr w (u.setCell ⟨g,i,none⟩ z) G n x bad I C:=
 {h with blk:=h.blk.other (a:=⟨g,i,none⟩) (fun e=>h1 e.symm) _,is_:=BU h.is_ h2.symm,cost:=BU h.cost h3.symm,bel:=h.bel.setCell hg _}
theorem Gr.cells{w u:World}{G n:Nat}{x:GV}{bad:Bool}{I:List Nat}{C:List Int}(h:Gr w u G n x bad I C):u.cell? ⟨G,2,none⟩=some (sO x.gb x.ob n x.cb)/\u.cell? ⟨G,3,none⟩=some (sO x.go x.oo n x.co)/\u.cell? ⟨G,6,none⟩=some (sG x.gi n x.ci)/\u.cell? ⟨G,7,none⟩=some (sG x.gc n x.cc)/\u.cell? ⟨G,8,none⟩=some (.bool bad)/\u.frozen? ⟨G,8,none⟩=false:=
 ⟨by rw[h.blk.cell];rfl,by rw[h.blk.cell];rfl,by rw[h.blk.cell];rfl,by rw[h.blk.cell];rfl,by rw[h.blk.cell];rfl,h.blk.frozen 8⟩
theorem Gr.isAt{w u:World}{G n:Nat}{x:GV}{bad:Bool}{I:List Nat}{C:List Int}(h:Gr w u G n x bad I C){b:Nat}(hb:b<n):∃y,I[b]?=some y/\y<n/\u.cell? ⟨x.gi,b,none⟩=some (iZ (y:Int)):=by
 have hb':b<I.length:=by rw[h.il];exact hb
 have:=bF h.is_ b (by omega);rw[Q2 (aA hb')]at this;exact⟨_,aA hb',h.ib _ (be hb'),this⟩
theorem Hc{C:List Int}{b:Nat}{y:Int}(h:C[b]?=some y):(C.flatMap Ac)[b]?=some (iZ y):=by
 have:C.flatMap Ac=C.map (Value.int .i64):=by
  induction C generalizing b with
  |nil=>rfl
  | cons x r ih=>
    have:List.flatMap Ac r=List.map (Value.int .i64) r:=by
     clear ih h;induction r with
     |nil=>rfl
     |cons x r ih=>rw[am,ih];rfl
    rw[am,this];rfl
 rw[this,bQ,h];rfl
theorem Gr.costAt{w u:World}{G n:Nat}{x:GV}{bad:Bool}{I:List Nat}{C:List Int}(h:Gr w u G n x bad I C){b:Nat}(hb:b<n):∃y,C[b]?=some y/\Kd y/\u.cell? ⟨x.gc,b,none⟩=some (iZ y):=by
 have hb':b<C.length:=by rw[h.cl];exact hb
 have:=bF h.cost b (by omega);rw[Hc (aA hb')]at this;exact⟨_,aA hb',h.cb _ (be hb'),this⟩
theorem GF.at_{w u:World}{n:Nat}{x:GV}{E:Nat->List Nat}{O:List Nat}(h:GF w n x E O)(hb:Below w.heap.size w u):(∀k,k<n->∃y:Nat,y<n/\u.cell? ⟨x.go,x.oo+k,none⟩=some (iZ (y:Int)))/\Iu u x.gb x.ob n E:=
 ⟨fun k hk=>⟨O[k]'(by rw[h.ol];exact hk),h.ob _ (be _),Ad hb (h.ord k _ (aA _))⟩,h.gr.keep hb⟩
theorem Fj(G:Nat)(a b:Int)(v0:Value)(u:World)(ha:Kd a)(hb:Kd b)(h:u.cell? ⟨G,8,none⟩=some v0)(hf:u.frozen? ⟨G,8,none⟩=false):
 Calls Tryz.prog 136 #[.pointer (some ⟨G,0,none⟩),iZ a,iZ b] u fun e u'=>∃c,e=.returned (iZ c)/\Kd c/\(u'=u\/u'=u.setCell ⟨G,8,none⟩ (.bool true)):=by
 obtain⟨a1,a2⟩:=ha;obtain⟨b1,b2⟩:=hb;by_cases hc:a+b>4294967295
 . go_enter Tryz.func136,Tryz.ntmps136
   go_wp2
   go_ret
   exact⟨0,rfl,⟨by omega,by omega⟩,.inr rfl⟩
 . go_enter Tryz.func136,Tryz.ntmps136
   go_wp2
   go_ret
   exact⟨a+b,rfl,⟨by omega,by omega⟩,.inl rfl⟩
end Go.Proofs.YtjcamlobelcepaaGreatDoor
