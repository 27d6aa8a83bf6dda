import Derived.Test.YtlejplpkomddeaaGreatG0
import Derived.Test.YtlejplpkomddeaaGreatG19
import Derived.Lib.AppendZerosOnto
import Derived.Lib.AppendZeros
import Derived.Laws.Append
import Derived.Test.YtlejplpkomddeaaGreatG7
namespace Go.Proofs.YtlejplpkomddeaaGreat
open Go.ChangeShapes Go.WideShapes Go.ChangeAt Go.RowKit
set_option linter.unusedVariables false
set_option maxHeartbeats 4000000
set_option maxRecDepth 100000
theorem H5(v:VP)(p:MP)(w:World)(hs:p.small)(hw:p.wf)(hp:AE p.regions)(hfo:A5 p.funcs)(h:Cx w v p)(hcap:Ex w v.r p.regions):
  Calls Tryz.prog 130 #[.agg #[v.r,v.k,v.f,v.t]] w fun e w'=>Ao e (Cs p)/\Below w.heap.size w w':=by
 obtain⟨xs,ys,hP⟩:=Pg.of hs hw h;obtain⟨vr,vk,vf,vt⟩:=v;simp only[]at hP;obtain⟨r3,c3,e3⟩:=hP.fr.is_slice;have hm:=hs.funcs;subst e3;have HH:Hid (AE p.regions/\A5 p.funcs/\Ex w vr p.regions):=⟨hp,hfo,hcap⟩
 clear hs hw h hp hfo hcap;obtain⟨rr1,cc1,evr⟩:=hP.rr.is_slice;obtain⟨rr2,cc2,evk⟩:∃a c,vk=.slice a p.consts.length c:=hP.rd.consts.is_slice;obtain⟨rr4,cc4,evt⟩:∃a c,vt=.slice a p.certs.length c:=hP.rd.certs.is_slice;subst evr evk evt;have HP:Hid _:=hP;clear hP;have HI:Hid _:=Hy.of w (.slice rr1 p.regions.length cc1) (.slice rr2 p.consts.length cc2) (.slice r3 p.funcs.length c3) (.slice rr4 p.certs.length cc4) 45;generalize hM:p.funcs.length=m at*;have HL:Hid (p.funcs.length=m):=hM;clear hM;have HP:Hid (Pg w (.slice rr1 p.regions.length cc1) (.slice rr2 p.consts.length cc2) (.slice r3 m c3) (.slice rr4 p.certs.length cc4) p xs ys):=HP;go_enter Tryz.func130,Tryz.ntmps130;go_wp2
 go_loopw [11] (fun i wr=>∃k:Nat,k<=m/\i=.int .i64 k/\Hid (∀j,j<k->∀f,p.funcs[j]?=some f->DR p f)/\Hid (Hy w wr (.slice rr1 p.regions.length cc1) (.slice rr2 p.consts.length cc2) (.slice r3 m c3) (.slice rr4 p.certs.length cc4))) (fun i _=>m-(intOf i).toNat)
 case atStart=>exact⟨0,by omega,rfl,fun j hj=>by omega,HI⟩
 case round=>
  clear HI;obtain⟨k,hk,rfl,HT,HI⟩:=hrel;by_cases hlt:k<m
  ·obtain⟨⟨f,v⟩,hx⟩:∃x,ys[k]?=some x:=⟨_,gE (by rw[HP.out.fl,HL.out];exact hlt)⟩
   have e1:=AO HP.out.fm hx;have HX:Hid (CK w v f/\f.small/\p.funcs[k]?=some f/\f.wf/\Ch f):=⟨HP.out.fe _ (mG hx),HP.out.small.func _ (mG e1),e1,HP.out.wf.funcs _ (mG e1),HH.out.2.1.2.2.1 k (by rw[HL.out];exact hlt) _ e1⟩
   clear e1;rcases HP.out.fr.2 with⟨e0,_⟩|⟨b,o,c,e1,hc1⟩
   ·rw[HL.out]at e0
    omega
   rw[HL.out]at e1;simp only[sJ,true_and]at e1;obtain⟨rfl,rfl⟩:=e1;have i0:=Rd.elem Ah hc1 k _ hx 0 _ rfl;have i1:=Rd.elem Ah hc1 k _ hx 1 _ rfl;have i2:=Rd.elem Ah hc1 k _ hx 2 _ rfl;have i3:=Rd.elem Ah hc1 k _ hx 3 _ rfl;rw[<-HI.out.bel.cell (bL i0),Nat.add_zero]at i0;rw[<-HI.out.bel.cell (bL i1)]at i1;rw[<-HI.out.bel.cell (bL i2)]at i2;rw[<-HI.out.bel.cell (bL i3)]at i3;clear hc1 hx;simp only[]at i0 i1 i2 i3;obtain⟨ap,cp,ep⟩:=HX.out.1.1.is_slice;obtain⟨al,cl,el⟩:=HX.out.1.2.1.is_slice;obtain⟨ac,cc,ec⟩:=HX.out.1.2.2.is_slice;obtain⟨vp,vl,vc⟩:=v;simp only[]at ep el ec i0 i1 i2 i3;subst ep el ec;obtain⟨p0,p1,p2,p3⟩:=HI.out.prog;have nb:¬b=wr.heap.size:=Nat.ne_of_lt (bL i0);have mb:b<wr.heap.size:=bL i0;have np:¬w.heap.size=wr.heap.size:=Nat.ne_of_lt HI.out.prog.lt;have mp:w.heap.size<wr.heap.size:=HI.out.prog.lt;have hz:=HX.out.2.1.2.2
   have HS:Hid (Hy w ((wr.alloc (.cells #[.slice ap f.params.length cp,.int .i64 f.result,.slice al f.locals.length cl,.slice ac f.code.length cc] 131)).alloc (.cells #[(.slice rr1 p.regions.length cc1),(.slice rr2 p.consts.length cc2),.slice (some ⟨b,o,none⟩) m c3,(.slice rr4 p.certs.length cc4),.slice ap f.params.length cp,.int .i64 f.result,.slice al f.locals.length cl,.slice ac f.code.length cc] 164)) (.slice rr1 p.regions.length cc1) (.slice rr2 p.consts.length cc2) (.slice (some ⟨b,o,none⟩) m c3) (.slice rr4 p.certs.length cc4)/\IG ((wr.alloc (.cells #[.slice ap f.params.length cp,.int .i64 f.result,.slice al f.locals.length cl,.slice ac f.code.length cc] 131)).alloc (.cells #[(.slice rr1 p.regions.length cc1),(.slice rr2 p.consts.length cc2),.slice (some ⟨b,o,none⟩) m c3,(.slice rr4 p.certs.length cc4),.slice ap f.params.length cp,.int .i64 f.result,.slice al f.locals.length cl,.slice ac f.code.length cc] 164)) (wr.heap.size+1) (.slice rr1 p.regions.length cc1) (.slice rr2 p.consts.length cc2) (.slice (some ⟨b,o,none⟩) m c3) (.slice rr4 p.certs.length cc4) (.slice ap f.params.length cp) (.int .i64 f.result) (.slice al f.locals.length cl) (.slice ac f.code.length cc)):=by
    refine⟨HI.out.keep (Ac (Aa _ _) lR (Aa _ _)),?_⟩;have:=IG.new (wr.alloc (.cells #[.slice ap f.params.length cp,.int .i64 f.result,.slice al f.locals.length cl,.slice ac f.code.length cc] 131)) (.slice rr1 p.regions.length cc1) (.slice rr2 p.consts.length cc2) (.slice (some ⟨b,o,none⟩) m c3) (.slice rr4 p.certs.length cc4) (.slice ap f.params.length cp) (.int .i64 f.result) (.slice al f.locals.length cl) (.slice ac f.code.length cc) 164;simpa using this
   go_wp2
   clear p0 p1 p2 p3 i0 i1 i2 i3 nb mb np mp;generalize hZ:f.code.length=z at*;have HZ:Hid (f.code.length=z):=hZ;clear hZ;generalize wr.heap.size+1=SB at HS⊢;go_loopw [21] (fun i wr2=>∃q:Nat,q<=z/\i=.int .i64 q/\Hid (∀j,j<q->∀x,f.code[j]?=some x->AR p f x)/\Hid (Hy w wr2 (.slice rr1 p.regions.length cc1) (.slice rr2 p.consts.length cc2) (.slice (some ⟨b,o,none⟩) m c3) (.slice rr4 p.certs.length cc4)/\IG wr2 SB (.slice rr1 p.regions.length cc1) (.slice rr2 p.consts.length cc2) (.slice (some ⟨b,o,none⟩) m c3) (.slice rr4 p.certs.length cc4) (.slice ap f.params.length cp) (.int .i64 f.result) (.slice al f.locals.length cl) (.slice ac z cc))) (fun i _=>z-(intOf i).toNat)
   case atStart=>exact⟨0,by omega,rfl,fun j hj=>by omega,HS⟩
   case round=>
    clear HS;obtain⟨q,hq,rfl,HTT,HS⟩:=hrel;by_cases hlq:q<z
    ·obtain⟨x,hx⟩:∃x,f.code[q]?=some x:=⟨_,gE (by rw[HZ.out];exact hlq)⟩
     have hxw:=HX.out.2.2.2.1.code x (mG hx);rcases HX.out.1.2.2.2 with⟨e0,_⟩|⟨b',o',c',e1,hc2⟩
     ·rw[HZ.out]at e0
      omega
     rw[HZ.out]at e1;simp only[sJ,true_and]at e1;obtain⟨rfl,rfl⟩:=e1;have j0:=Rd.elem MI.cells_length hc2 q x hx 0 _ rfl;have j1:=Rd.elem MI.cells_length hc2 q x hx 1 _ rfl;have j2:=Rd.elem MI.cells_length hc2 q x hx 2 _ rfl;have j3:=Rd.elem MI.cells_length hc2 q x hx 3 _ rfl;rw[<-HS.out.1.bel.cell (bL j0),Nat.add_zero]at j0;rw[<-HS.out.1.bel.cell (bL j1)]at j1;rw[<-HS.out.1.bel.cell (bL j2)]at j2;rw[<-HS.out.1.bel.cell (bL j3)]at j3;have HXX:Hid (f.code[q]?=some x/\x.wf):=⟨hx,hxw⟩
     clear hc2 hx hxw;obtain⟨xo,xa,xb,xc⟩:=x;simp only[]at j0 j1 j2 j3;obtain⟨s0,s1,s2,s3,s4,s5,s6,s7⟩:=HS.out.2;have nb:¬b'=wr.heap.size:=Nat.ne_of_lt (bL j0);have mb:b'<wr.heap.size:=bL j0;have np:¬SB=wr.heap.size:=Nat.ne_of_lt HS.out.2.lt;have mp:SB<wr.heap.size:=HS.out.2.lt;go_wp2_with fail
     have bA:=Aa wr (.cells #[.int .i64 xo,.int .i64 xa,.int .i64 xb,.int .i64 xc] 134);have bW:=Ac HS.out.1.bel lR bA;refine(Mw ⟨(.slice rr1 p.regions.length cc1),(.slice rr2 p.consts.length cc2),.slice (some ⟨b,o,none⟩) m c3,(.slice rr4 p.certs.length cc4)⟩ p ⟨.slice ap f.params.length cp,.slice al f.locals.length cl,.slice (some ⟨b',o',none⟩) z cc⟩ f xo xa xb xc _ HP.out.small HH.out.1 HX.out.2.2.2.2 HX.out.2.1 HXX.out.2.2.1 HXX.out.2.2.2.1 HXX.out.2.2.2.2 (HP.out.rd.keep bW lR) (HH.out.2.2.keep bW lR) (HX.out.1.keep bW lR)).mono ?_;rintro e u4 ⟨⟨b4,rfl,hb4⟩,bl4⟩;have bU:=Ac bA lR bl4;have HS2:Hid (Hy w u4 (.slice rr1 p.regions.length cc1) (.slice rr2 p.consts.length cc2) (.slice (some ⟨b,o,none⟩) m c3) (.slice rr4 p.certs.length cc4)/\IG u4 SB (.slice rr1 p.regions.length cc1) (.slice rr2 p.consts.length cc2) (.slice (some ⟨b,o,none⟩) m c3) (.slice rr4 p.certs.length cc4) (.slice ap f.params.length cp) (.int .i64 f.result) (.slice al f.locals.length cl) (.slice (some ⟨b',o',none⟩) z cc)):=⟨HS.out.1.keep bU,HS.out.2.keep bU⟩
     clear bA bW bl4 bU HS j0 j1 j2 j3 s0 s1 s2 s3 s4 s5 s6 s7 nb mb np mp;cases b4
     ·have HN:Hid (¬Cs p):=fun e=>by
       have:=e k (by rw[HL.out];exact hlt) f HX.out.2.2.1 q (by rw[HZ.out];exact hlq) _ HXX.out.1;simp[this]at hb4
      clear hb4;go_wp2
      go_ret
      exact⟨.no HN.out,HS2.out.1.bel⟩
     ·have HOK:Hid (AR p f ⟨xo,xa,xb,xc⟩):=hb4.1 rfl
      clear hb4;go_wp2
      go_roundw
      case rel=>exact⟨q+1,by omega,by go_num,BK HXX.out.1 HOK.out HTT.out,HS2⟩
      case measure=>simp[intOf];omega
    ·have hqz:z=q:=by omega
     subst hqz;have HFC:Hid (DR p f):=fun j hj x hx=>HTT.out j (by rw[<-HZ.out];exact hj) x hx
     go_wp2
     go_roundw
     case rel=>exact⟨k+1,by omega,by go_num,BK HX.out.2.2.1 HFC.out HT.out,HS.out.1⟩
     case measure=>simp[intOf];omega
  ·have hkn:m=k:=by omega
   subst hkn;have HCo:Hid (Cs p):=fun j hj f hf=>HT.out j (by rw[<-HL.out];exact hj) f hf
   go_wp2
   go_ret
   exact⟨.yes HCo.out,HI.out.bel⟩
def Cg(v:Value):Prop:=v=.slice none 0 0\/∃ad n c,v=.slice (some ad) n c
theorem IP(x y:MT)(w:World):
  Calls Tryz.prog 189 #[.agg #[.int .i64 x.func,.int .i64 x.head,.int .i64 x.counter,.int .u32 x.init],.agg #[.int .i64 y.func,.int .i64 y.head,.int .i64 y.counter,.int .u32 y.init]] w fun e w'=>Ao e (FJ x y)/\Below w.heap.size w w':=by
 have HB:Hid (Below w.heap.size w ((w.alloc (.cells #[.int .i64 x.func,.int .i64 x.head,.int .i64 x.counter,.int .u32 x.init] 148)).alloc (.cells #[.int .i64 y.func,.int .i64 y.head,.int .i64 y.counter,.int .u32 y.init] 148))):=Ac (Aa _ _) lR (Aa _ _);go_enter Tryz.func189,Tryz.ntmps189;go_wp2
 all_goals(go_ret;refine⟨Ao.of ?_,by first|exact HB.out|(rw[‹x.func=y.func›]at HB;exact HB.out)⟩;go_light;unfold FJ;simp_all<;>omega)
theorem MD(w:World)(cur:Array Value)(e:TypeId)(G:Nat)(h:cur.size=G)(hG:G<=maxLen):(w.alloc (.cells cur e)).drew.ownsRow w.heap.size e 1 (.slice (some ⟨w.heap.size,0,none⟩) 0 G) 0 []:=
 ⟨rfl,.inr ⟨w.heap.size,G,cur,rfl,Nat.le_refl _,Array.getElem?_push_size,Nat.zero_le _,hG,by omega,by simp⟩⟩
theorem Nc(n:Nat)(w:World)(hn:n<=4194304):
  Calls Tryz.prog 195 #[.slice none 0 0,.int .i64 n] w fun e w'=>∃v,e=.returned v/\w'.ownsRow w.heap.size 2 1 v 0 []/\Below w.heap.size w w':=by
 obtain⟨i0,hi,hz0,hz1,hz2⟩:=info_parts Jx;by_cases q0:n=0
 ·subst q0
  go_enter Tryz.func195,Tryz.ntmps195;go_wp2
  go_ret
  exact⟨_,rfl,World.ownsRow_nil _ _ _ _,Below.refl _ _⟩
 ·have q1:(0:Int)<(n:Int):=by omega
  have hold:(Builtin.firstCells i0.size 0 (.slice none 0 0)).run Tryz.prog w.drew=.ok (([]:List Value).toArray) w.drew:=run_firstCells_none w.drew i0.size 0 0 0
  have hrz:∀ty,(Builtin.append_ #[113,3] ty #[.slice none 0 0,.int .i64 n]).run Tryz.prog w=.ok (.slice (some ⟨w.heap.size,0,none⟩) (0+n) (grownCap w (0+n) 0 2)) (w.drew.alloc (.cells (([]:List Value).toArray++Builtin.zeroCells (Value.int .i64 0).cells n++Builtin.zeroCells (Value.int .i64 0).cells (grownCap w (0+n) 0 2-(0+n))) 2)):=fun ty=>
   Lib.run_append_grow_zeros w 113 3 ty 2 i0 (.int .i64 0) .i64 .i64 Tryz.underlying113 Tryz.underlying3 hi hz0 none 0 0 [] hold n (by omega) (by rw[hz1];omega) (by omega) (by omega) (by rw[hz2];omega) (growslice_fits (by omega) (by rw[hz2];omega))
  have hG1:=grownCap_ge w (0+n) 0 2;have hG2:=grownCap_le_maxLen w (0+n) 0 2 (by unfold maxLen;omega);generalize grownCap w (0+n) 0 2=G at hrz hG1 hG2;have HG:Hid (G<=maxLen):=hG2;unfold maxLen at hG2;go_enter Tryz.func195,Tryz.ntmps195;go_wp2_with (at_builtin;refine Lib.wpList_append_run _ rfl _ _ _ _ rfl _ _ rfl rfl _ _ (hrz _) ?_)
  all_goals
   go_ret
   exact⟨_,rfl,MD w _ _ G (by simp[Builtin.zeroCells];omega) HG.out,Ac (Aa _ _) lR (Ad _)⟩
def EI(w:World)(s:Value)(fs:List MF):Prop:=∃ys:List (MF×VF),ys.map Prod.fst=fs/\Rd w 4 s fs.length (ys.flatMap BC)/\∀x∈ys,CK w x.2 x.1/\Cg x.2.p/\Cg x.2.l
theorem EI.keep{w w':World}{s:Value}{fs:List MF}(h:EI w s fs){B:Nat}(hb:Below B w w')(hB:w.heap.size<=B):EI w' s fs:=by
 obtain⟨ys,h1,h2,h3⟩:=h;exact⟨ys,h1,h2.keep hb hB,fun x hx=>⟨(h3 x hx).1.keep hb hB,(h3 x hx).2⟩⟩
theorem LZ{p:MP}{fn:Nat}{f:MF}(hf:p.funcs[fn]?=some f)(hd co ini:Int):Dt p ⟨fn,hd,co,ini⟩↔(0<=hd/\hd<(f.code.length:Int))/\(0<=co/\co<((f.params.length+f.locals.length:Nat):Int))/\(f.params++f.locals)[co.toNat]?=some 3:=by
 constructor
 ·rintro⟨g,h1,h2,h3,h4,h5⟩
  simp only[Int.toNat_natCast]at h1 h3 h4 h5;rw[hf]at h1;obtain rfl:=Option.some.inj h1;unfold At at h5;split at h5
  ·simp at h5
  ·rename_i hc
   rw[List.getD_eq_getElem?_getD]at h5;by_cases q:co.toNat<(f.params++f.locals).length
   ·rw[gE q]at h5⊢
    refine⟨⟨h3,h4⟩,⟨by omega,by rw[List.length_append]at q;omega⟩,?_⟩;simpa using h5
   ·rw[List.getElem?_eq_none (by omega)]at h5
    simp at h5
 ·rintro⟨⟨h3,h4⟩,⟨h5,h6⟩,h7⟩
  refine⟨f,by simp only[Int.toNat_natCast];exact hf,by simp only[];omega,h3,h4,?_⟩;unfold At;rw[if_neg (by simp only[];omega),List.getD_eq_getElem?_getD,h7];rfl
theorem Dm(v:VP)(p:MP)(fu hd co ini:Int)(w:World)(hs:p.small)(h:Cx w v p)(hfp:EI w v.f p.funcs):
  Calls Tryz.prog 188 #[.agg #[v.r,v.k,v.f,v.t],.agg #[.int .i64 fu,.int .i64 hd,.int .i64 co,.int .u32 ini]] w fun e w'=>Ao e (Dt p ⟨fu,hd,co,ini⟩)/\Below w.heap.size w w':=by
 obtain⟨vr,vk,vf,vt⟩:=v;obtain⟨ys,hys,hrd,hel⟩:=hfp;simp only[]at hrd
 obtain⟨rr1,cc1,er1⟩:∃a c,vr=.slice a p.regions.length c:=by
  obtain⟨_,_,hq,_⟩:=h.regions;exact hq.is_slice
 obtain⟨rr2,cc2,er2⟩:∃a c,vk=.slice a p.consts.length c:=h.consts.is_slice;obtain⟨rr4,cc4,er4⟩:∃a c,vt=.slice a p.certs.length c:=h.certs.is_slice;subst er1 er2 er4;have hyl:ys.length=p.funcs.length:=by rw[<-hys];simp
 obtain⟨a2,c2,e2⟩:=hrd.is_slice;subst e2;have H2:Hid (Rd w 4 (.slice a2 p.funcs.length c2) p.funcs.length (ys.flatMap BC)/\ys.map Prod.fst=p.funcs/\(∀x∈ys,CK w x.2 x.1/\Cg x.2.p/\Cg x.2.l)/\(∀f∈p.funcs,f.small)/\ys.length=p.funcs.length):=⟨hrd,hys,hel,hs.func,hyl⟩
 have hm:=hs.funcs;clear hrd hys hel hyl hs h;generalize p.regions.length=n1 at*;generalize p.consts.length=n2 at*;generalize p.certs.length=n4 at*;generalize hM:p.funcs.length=m at*;have HL:Hid (p.funcs.length=m):=hM;clear hM
 have HI:Hid (Below w.heap.size w ((w.alloc (.cells #[.slice rr1 n1 cc1,.slice rr2 n2 cc2,.slice a2 m c2,.slice rr4 n4 cc4] 45)).alloc (.cells #[.int .i64 fu,.int .i64 hd,.int .i64 co,.int .u32 ini] 148))/\C6 ((w.alloc (.cells #[.slice rr1 n1 cc1,.slice rr2 n2 cc2,.slice a2 m c2,.slice rr4 n4 cc4] 45)).alloc (.cells #[.int .i64 fu,.int .i64 hd,.int .i64 co,.int .u32 ini] 148)) (w.heap.size+1) (.int .i64 fu) (.int .i64 hd) (.int .i64 co) (.int .u32 ini)):=by
  refine⟨Ac (Aa _ _) lR (Aa _ _),?_⟩;have:=C6.new (w.alloc (.cells #[.slice rr1 n1 cc1,.slice rr2 n2 cc2,.slice a2 m c2,.slice rr4 n4 cc4] 45)) (.int .i64 fu) (.int .i64 hd) (.int .i64 co) (.int .u32 ini) 148;simpa using this
 by_cases q0:0<=fu/\fu<(m:Int)
 ·have hit:decide (0<=fu/\fu<(m:Int))=true:=decide_eq_true q0
  obtain⟨fn,rfl⟩:=Int.eq_ofNat_of_zero_le q0.1;have hfn:fn<m:=by omega
  clear q0;obtain⟨⟨f,v⟩,hy⟩:∃y,ys[fn]?=some y:=⟨_,gE (by rw[H2.out.2.2.2.2];omega)⟩;have e1:=AO H2.out.2.1 hy;have hfe:=H2.out.2.2.1 _ (mG hy);have HF:Hid (CK w v f/\Cg v.p/\Cg v.l/\f.small/\p.funcs[fn]?=some f):=⟨hfe.1,hfe.2.1,hfe.2.2,H2.out.2.2.2.1 _ (mG e1),e1⟩
  clear e1 hfe;rcases H2.out.1.2 with⟨e0,_⟩|⟨b',o',c',e1,hc2⟩
  ·omega
  simp only[sJ,true_and]at e1;obtain⟨rfl,rfl⟩:=e1;have j0:=Rd.elem Ah hc2 fn _ hy 0 _ rfl;have j1:=Rd.elem Ah hc2 fn _ hy 1 _ rfl;have j2:=Rd.elem Ah hc2 fn _ hy 2 _ rfl;have j3:=Rd.elem Ah hc2 fn _ hy 3 _ rfl;rw[Nat.add_zero]at j0;clear hc2 hy;simp only[]at j0 j1 j2 j3;obtain⟨ap,cp,ep⟩:=HF.out.1.1.is_slice;obtain⟨al,cl,el⟩:=HF.out.1.2.1.is_slice;obtain⟨ac,cc,ec⟩:=HF.out.1.2.2.is_slice;obtain⟨vp,vl,vc⟩:=v;simp only[]at ep el ec j0 j1 j2 j3;subst ep el ec;have k0:=(HI.out.1.cell (bL j0)).trans j0;have k1:=(HI.out.1.cell (bL j1)).trans j1;have k2:=(HI.out.1.cell (bL j2)).trans j2;have k3:=(HI.out.1.cell (bL j3)).trans j3;have nb:¬b'=w.heap.size:=Nat.ne_of_lt (bL j0);have nb2:¬b'=w.heap.size+1:=by have:=bL j0;simp only[]at this;omega
  have nb3:¬b'=w.heap.size+1+1:=by have:=bL j0;simp only[]at this;omega
  have mb:b'<w.heap.size:=bL j0;go_enter Tryz.func188,Tryz.ntmps188;go_wp2_with fail
  refine(AJ (fn:Int) (m:Int) _).mono ?_;rintro e u ⟨rfl,rfl⟩;rw[hit];go_wp2_with fail
  have hfm:(fn:Int)<(m:Int):=by omega
  have BX:Below w.heap.size w (((w.alloc (.cells #[.slice rr1 n1 cc1,.slice rr2 n2 cc2,.slice (some ⟨b',o',none⟩) m c2,.slice rr4 n4 cc4] 45)).alloc (.cells #[.int .i64 (fn:Int),.int .i64 hd,.int .i64 co,.int .u32 ini] 148)).alloc (.cells #[.slice none 0 0,.slice none 0 0,.slice none 0 0,.slice none 0 0,.slice none 0 0,.int .i64 0,.slice none 0 0,.slice none 0 0] 164)).drew:=Ac (Ac HI.out.1 lR (Aa _ _)) lR (Ad _);have x0:=(BX.cell (bL j0)).trans j0;have x1:=(BX.cell (bL j1)).trans j1;have x2:=(BX.cell (bL j2)).trans j2;have x3:=(BX.cell (bL j3)).trans j3;clear BX;go_region
  have B1:Hid (Below w.heap.size w ((((w.alloc (.cells #[.slice rr1 n1 cc1,.slice rr2 n2 cc2,.slice (some ⟨b',o',none⟩) m c2,.slice rr4 n4 cc4] 45)).alloc (.cells #[.int .i64 (fn:Int),.int .i64 hd,.int .i64 co,.int .u32 ini] 148)).alloc (.cells #[.slice rr1 n1 cc1,.slice rr2 n2 cc2,.slice (some ⟨b',o',none⟩) m c2,.slice rr4 n4 cc4,.slice ap f.params.length cp,.int .i64 f.result,.slice al f.locals.length cl,.slice ac f.code.length cc] 164)).drew)):=Ac (Ac HI.out.1 lR (Aa _ _)) lR (Ad _);have A1:Hid (C6 ((((w.alloc (.cells #[.slice rr1 n1 cc1,.slice rr2 n2 cc2,.slice (some ⟨b',o',none⟩) m c2,.slice rr4 n4 cc4] 45)).alloc (.cells #[.int .i64 (fn:Int),.int .i64 hd,.int .i64 co,.int .u32 ini] 148)).alloc (.cells #[.slice rr1 n1 cc1,.slice rr2 n2 cc2,.slice (some ⟨b',o',none⟩) m c2,.slice rr4 n4 cc4,.slice ap f.params.length cp,.int .i64 f.result,.slice al f.locals.length cl,.slice ac f.code.length cc] 164)).drew) (w.heap.size+1) (.int .i64 (fn:Int)) (.int .i64 hd) (.int .i64 co) (.int .u32 ini)):=(HI.out.2.alloc _).keep (Ad _)
  have A2:Hid (IG ((((w.alloc (.cells #[.slice rr1 n1 cc1,.slice rr2 n2 cc2,.slice (some ⟨b',o',none⟩) m c2,.slice rr4 n4 cc4] 45)).alloc (.cells #[.int .i64 (fn:Int),.int .i64 hd,.int .i64 co,.int .u32 ini] 148)).alloc (.cells #[.slice rr1 n1 cc1,.slice rr2 n2 cc2,.slice (some ⟨b',o',none⟩) m c2,.slice rr4 n4 cc4,.slice ap f.params.length cp,.int .i64 f.result,.slice al f.locals.length cl,.slice ac f.code.length cc] 164)).drew) (w.heap.size+1+1) (.slice rr1 n1 cc1) (.slice rr2 n2 cc2) (.slice (some ⟨b',o',none⟩) m c2) (.slice rr4 n4 cc4) (.slice ap f.params.length cp) (.int .i64 f.result) (.slice al f.locals.length cl) (.slice ac f.code.length cc)):=by
   have:=(IG.new ((w.alloc (.cells #[.slice rr1 n1 cc1,.slice rr2 n2 cc2,.slice (some ⟨b',o',none⟩) m c2,.slice rr4 n4 cc4] 45)).alloc (.cells #[.int .i64 (fn:Int),.int .i64 hd,.int .i64 co,.int .u32 ini] 148)) (.slice rr1 n1 cc1) (.slice rr2 n2 cc2) (.slice (some ⟨b',o',none⟩) m c2) (.slice rr4 n4 cc4) (.slice ap f.params.length cp) (.int .i64 f.result) (.slice al f.locals.length cl) (.slice ac f.code.length cc) 164).keep (Ad _);have hsz:((w.alloc (.cells #[.slice rr1 n1 cc1,.slice rr2 n2 cc2,.slice (some ⟨b',o',none⟩) m c2,.slice rr4 n4 cc4] 45)).alloc (.cells #[.int .i64 (fn:Int),.int .i64 hd,.int .i64 co,.int .u32 ini] 148)).heap.size=w.heap.size+1+1:=by simp
   rw[hsz]at this;exact this
  generalize (((w.alloc (.cells #[.slice rr1 n1 cc1,.slice rr2 n2 cc2,.slice (some ⟨b',o',none⟩) m c2,.slice rr4 n4 cc4] 45)).alloc (.cells #[.int .i64 (fn:Int),.int .i64 hd,.int .i64 co,.int .u32 ini] 148)).alloc (.cells #[.slice rr1 n1 cc1,.slice rr2 n2 cc2,.slice (some ⟨b',o',none⟩) m c2,.slice rr4 n4 cc4,.slice ap f.params.length cp,.int .i64 f.result,.slice al f.locals.length cl,.slice ac f.code.length cc] 164)).drew=W1 at B1 A1 A2⊢;have HK:Hid (Below w.heap.size w W1/\C6 W1 (w.heap.size+1) (.int .i64 (fn:Int)) (.int .i64 hd) (.int .i64 co) (.int .u32 ini)/\IG W1 (w.heap.size+1+1) (.slice rr1 n1 cc1) (.slice rr2 n2 cc2) (.slice (some ⟨b',o',none⟩) m c2) (.slice rr4 n4 cc4) (.slice ap f.params.length cp) (.int .i64 f.result) (.slice al f.locals.length cl) (.slice ac f.code.length cc)):=⟨B1.out,A1.out,A2.out⟩
  clear B1 A1 A2 HI H2 j0 j1 j2 j3 k0 k1 k2 k3 nb nb2 nb3 mb hit x0 x1 x2 x3 hfm;have HC:Hid (Dt p ⟨fn,hd,co,ini⟩↔(0<=hd/\hd<(f.code.length:Int))/\(0<=co/\co<((f.params.length+f.locals.length:Nat):Int))/\(f.params++f.locals)[co.toNat]?=some 3):=LZ HF.out.2.2.2.2 hd co ini
  obtain⟨i0,i1,i2,i3⟩:=HK.out.2.1;obtain⟨g0,g1,g2,g3,g4,g5,g6,g7⟩:=HK.out.2.2;have hz3:=HF.out.2.2.2.1.2.2;go_wp2_with fail
  refine(AJ hd (f.code.length:Int) _).mono ?_;rintro e u ⟨rfl,rfl⟩;by_cases qA:0<=hd/\hd<(f.code.length:Int)
  ·have hA:decide (0<=hd/\hd<(f.code.length:Int))=true:=decide_eq_true qA
   rw[hA];go_wp2_with fail
   refine(EF (.slice rr1 n1 cc1) (.slice rr2 n2 cc2) (.slice (some ⟨b',o',none⟩) m c2) (.slice rr4 n4 cc4) ⟨.slice ap f.params.length cp,.slice al f.locals.length cl,.slice ac f.code.length cc⟩ f co _ HF.out.2.2.2.1 (HF.out.1.keep HK.out.1 lR)).mono ?_;rintro e u ⟨⟨bh,rfl,hbh⟩,bl⟩;have HQ:Hid (Below w.heap.size w u/\C6 u (w.heap.size+1) (.int .i64 (fn:Int)) (.int .i64 hd) (.int .i64 co) (.int .u32 ini)/\IG u (w.heap.size+1+1) (.slice rr1 n1 cc1) (.slice rr2 n2 cc2) (.slice (some ⟨b',o',none⟩) m c2) (.slice rr4 n4 cc4) (.slice ap f.params.length cp) (.int .i64 f.result) (.slice al f.locals.length cl) (.slice ac f.code.length cc)):=⟨Ac HK.out.1 lR bl,HK.out.2.1.keep bl,HK.out.2.2.keep bl⟩
   clear bl HK i0 i1 i2 i3 g0 g1 g2 g3 g4 g5 g6 g7;cases bh
   ·have HN:Hid (¬Dt p ⟨fn,hd,co,ini⟩):=fun e=>absurd (hbh.2 ⟨(HC.out.1 e).2.1.1,by have:=(HC.out.1 e).2.1.2;omega⟩) Bool.false_ne_true
    clear hbh qA hA;go_wp2
    go_ret
    exact⟨.no HN.out,HQ.out.1⟩
   ·have hl:FT f co:=hbh.1 rfl
    obtain⟨k,rfl⟩:=Int.eq_ofNat_of_zero_le hl.1;have hk:k<(f.params++f.locals).length:=by have:=hl.2;rw[List.length_append];omega
    obtain⟨x,hx⟩:∃x,(f.params++f.locals)[k]?=some x:=⟨_,gE hk⟩
    have HY:Hid ((x==3)=true↔Dt p ⟨fn,hd,k,ini⟩):=by
     show _↔_;have h2:=hl.2;rw[HC.out,Int.toNat_natCast,hx];simp[qA];intro _;omega
    have HX:Hid ((f.params++f.locals)[k]?=some x):=hx;clear hbh qA hA hl hk hx HC;obtain⟨i0,i1,i2,i3⟩:=HQ.out.2.1;obtain⟨g0,g1,g2,g3,g4,g5,g6,g7⟩:=HQ.out.2.2;go_wp2_with fail
    refine(FK (.slice rr1 n1 cc1) (.slice rr2 n2 cc2) (.slice (some ⟨b',o',none⟩) m c2) (.slice rr4 n4 cc4) ⟨.slice ap f.params.length cp,.slice al f.locals.length cl,.slice ac f.code.length cc⟩ f k x _ HF.out.2.2.2.1 (HF.out.1.keep HQ.out.1 lR) HX.out).mono ?_;rintro e u' ⟨rfl,bl⟩;have HE:Hid (Below w.heap.size w u'):=Ac HQ.out.1 lR bl;clear bl i0 i1 i2 i3 g0 g1 g2 g3 g4 g5 g6 g7;go_wp2
    go_ret
    exact⟨.of HY.out,HE.out⟩
  ·have hA:decide (0<=hd/\hd<(f.code.length:Int))=false:=decide_eq_false qA
   have HN:Hid (¬Dt p ⟨fn,hd,co,ini⟩):=fun e=>qA (HC.out.1 e).1
   rw[hA];clear qA;go_wp2
   go_ret
   exact⟨.no HN.out,HK.out.1⟩
 ·have HN:Hid (¬Dt p ⟨fu,hd,co,ini⟩):=fun⟨f,h1,h2,_⟩=>q0 ⟨h2,by have:=(gI.1 h1).1;simp only[]at this h2;rw[HL.out]at this;omega⟩
  have hit:decide (0<=fu/\fu<(m:Int))=false:=decide_eq_false q0
  clear H2;go_enter Tryz.func188,Tryz.ntmps188;go_wp2_with fail
  refine(AJ fu (m:Int) _).mono ?_;rintro e u ⟨rfl,rfl⟩;rw[hit];go_wp2
  go_ret
  exact⟨.no HN.out,HI.out.1⟩
theorem Rd.placed{w:World}{ad:Addr}{n c:Nat}{xs:List Int}(h:Rd w 1 (.slice (some ad) n c) n (xs.flatMap Af)):∀j u,(xs.flatMap Af)[j]?=some u->w.cell? (ad.add j)=some u:=by
 intro j u hj;rcases h.2 with⟨rfl,_⟩|⟨g,o,c',e,hc⟩
 ·have:=(gI.1 hj).1
  rw[h.1]at this;omega
 ·simp only[sJ,Option.some.injEq,true_and]at e
  obtain⟨rfl,rfl⟩:=e;rw[Addr.add_lit];exact hc j u hj
theorem Om(w:World)(x y:Value)(ty:TypeId):(w.alloc (.cells #[x,y] ty)).cell? ⟨w.heap.size,0,none⟩=some x/\(w.alloc (.cells #[x,y] ty)).cell? ⟨w.heap.size,1,none⟩=some y:=by
 have h:=World.ownsRow_lit (base:=w.heap.size) (e:=ty) (size:=2) w #[x,y] 1 lR (by unfold maxLen;omega) (by simp);exact⟨h.cellAt 0 (by omega),h.cellAt 1 (by omega)⟩
theorem FV(xs:List Int):∀u∈xs.flatMap Af,u.oneCell'=true:=by
 intro u hu;obtain⟨x,_,hx⟩:=List.mem_flatMap.1 hu;simp[Af]at hx;subst hx;rfl
theorem Lg{w:World}{base:Nat}{e:TypeId}{v:Value}{xs:List Int}{n:Nat}(h:w.ownsRow base e 1 v n (xs.flatMap Af))(ys:List Int)(hy:ys.length=0):w.ownsRow base e 1 v (n+ys.length) ((xs++ys).flatMap Af):=by
 obtain rfl:=List.eq_nil_of_length_eq_zero hy;simpa using h
theorem IM{B:Nat}{w u u':World}{e:TypeId}{v:Value}{n:Nat}{xs:List Value}(h:Below B w u)(ho:u.ownsRow w.heap.size e 1 v n xs)(hB:B<=w.heap.size)(hg:u.grownBy u' v.ownBlock):Below B w u':=
 h.grown hg (Nat.le_trans hB h.size) (fun k hk=>Nat.le_trans hB (ho.lt k hk).1)
theorem KM(g:Nat)(s1 s2:Value)(xs ys:List Int)(w:World)(hx:xs.length<=1048576)(hy:ys.length<=1048576)(h1:Rd w 1 s1 xs.length (xs.flatMap Af))(h2:Rd w 1 s2 ys.length (ys.flatMap Af))(k1:Cg s1)(k2:Cg s2)
  (g0:w.cell? ⟨g,0,none⟩=some s1) (g1:w.cell? ⟨g,1,none⟩=some s2):
  Calls Tryz.prog 149 #[.slice (some ⟨g,0,none⟩) 2 2] w fun e w'=>∃v,e=.returned v/\w'.ownsRow w.heap.size 2 1 v (xs.length+ys.length) ((xs++ys).flatMap Af)/\Below w.heap.size w w':=by
 have H:Hid (xs.length<=1048576/\ys.length<=1048576/\Rd w 1 s1 xs.length (xs.flatMap Af)/\Rd w 1 s2 ys.length (ys.flatMap Af)/\Cg s1/\Cg s2):=⟨hx,hy,h1,h2,k1,k2⟩
 obtain⟨a1,c1,rfl⟩:=h1.is_slice;obtain⟨a2,c2,rfl⟩:=h2.is_slice;clear h1 h2 k1 k2;obtain⟨i0,hi,hz0,hz1,hz2⟩:=info_parts Jx;have HG:=h2 g0 g1;go_enter Tryz.func149,Tryz.ntmps149;go_wp2
 go_loopw [3,11] (fun s c wr=>((c=.int .i64 0/\s=.int .i64 0)\/(c=.int .i64 1/\s=.int .i64 (xs.length:Int))\/(c=.int .i64 2/\s=.int .i64 ((xs.length+ys.length:Nat):Int)))/\wr=w) (fun _ c _=>2-(intOf c).toNat)
 case atStart=>exact⟨.inl ⟨rfl,rfl⟩,rfl⟩
 case round=>
  obtain⟨hc,rfl⟩:=hrel;rcases hc with⟨rfl,rfl⟩|⟨rfl,rfl⟩|⟨rfl,rfl⟩
  ·go_wp2
   go_roundw
   case rel=>exact⟨.inr (.inl ⟨rfl,by simp⟩),by trivial⟩
   case measure=>simp[intOf]
  ·go_wp2
   go_roundw
   case rel=>exact⟨.inr (.inr ⟨rfl,by simp⟩),by trivial⟩
   case measure=>simp[intOf]
  ·go_wp2_with fail
   refine(Nc (xs.length+ys.length) _ (by omega)).mono ?_;rintro e u1 ⟨v0,rfl,own0,bl0⟩;have HO:=h2 own0 bl0;clear own0 bl0 g0 g1;obtain⟨W,hWe⟩:∃W,W=wr:=⟨_,rfl⟩;subst hWe;go_wp2
   go_loopw [6,27] (fun v c wr=>((c=.int .i64 0/\Hid (wr.ownsRow W.heap.size 2 1 v 0 ([]:List Value)))\/(c=.int .i64 1/\Hid (wr.ownsRow W.heap.size 2 1 v (0+xs.length) (([]++xs).flatMap Af)))\/(c=.int .i64 2/\Hid (wr.ownsRow W.heap.size 2 1 v (xs.length+ys.length) ((xs++ys).flatMap Af))))/\Hid (Below W.heap.size W wr)) (fun _ c _=>2-(intOf c).toNat)
   case atStart=>exact⟨.inl ⟨rfl,HO.out.1⟩,HO.out.2⟩
   case round=>
    clear HO;obtain⟨hc,HB⟩:=hrel;have g0:=HG.out.1;have g1:=HG.out.2;rw[<-HB.out.cell (bL g0)]at g0;rw[<-HB.out.cell (bL g1)]at g1;rcases hc with⟨rfl,HO⟩|⟨rfl,HO⟩|⟨rfl,HO⟩
    ·rcases H.out.2.2.2.2.1 with e|⟨ad,n',c',e⟩
     ·simp only[sJ]at e
      obtain⟨rfl,e2,rfl⟩:=e;have hN:Hid (xs.length=0):=e2;rw[e2]at g0;have hr:∀ty,(Builtin.append_ #[113,113] ty #[u6,.slice none 0 0]).run Tryz.prog wr=.ok u6 wr:=fun ty=>run_append_owned_none (P:=Tryz.prog) wr W.heap.size 113 ty 2 i0 1 Tryz.underlying113 hi u6 _ _ HO.out
      clear e2;go_wp2_with (at_builtin;refine Lib.wpList_append_run _ rfl _ _ _ _ rfl _ _ rfl rfl _ _ (hr _) ?_);go_roundw
      case rel=>exact⟨.inr (.inl ⟨rfl,Lg (xs:=[]) HO.out xs hN.out⟩),HB⟩
      case measure=>simp[intOf]
     ·simp only[sJ]at e
      obtain⟨rfl,e2,rfl⟩:=e;have HR:=AM (H.out.2.2.1.keep HB.out lR);clear e2;go_wp2_with (at_builtin;refine wpList_append_own _ rfl _ _ 113 rfl W.heap.size 2 i0 (.int .i64 0) 1 8 Tryz.underlying113 hi hz0 hz1 hz2 rfl (by decide) _ _ _ rfl HO.out ad xs.length c1 (xs.flatMap Af) rfl ?c1 ?c2 ?c3 ?c4 ?c5 ?c6 ?_)
      case c1=>rw[Aw Af 1 Ap]
      case c2=>exact HR.out.placed
      case c3=>exact FV _
      case c4=>unfold maxLen;omega
      case c5=>omega
      case c6=>exact HB.out.size
      intro v' w' hown' hgrow' hnil';have HO2:Hid (w'.ownsRow W.heap.size 2 1 v' (0+xs.length) (([]++xs).flatMap Af)):=by show World.ownsRow _ _ _ _ _ _ _;simpa using hown'
      have HB2:Hid (Below W.heap.size W w'):=IM HB.out HO.out lR hgrow';clear hown' hgrow' hnil';go_wp2
      go_roundw
      case rel=>exact⟨.inr (.inl ⟨rfl,HO2⟩),HB2⟩
      case measure=>simp[intOf]
    ·rcases H.out.2.2.2.2.2 with e|⟨ad,n',c',e⟩
     ·simp only[sJ]at e
      obtain⟨rfl,e2,rfl⟩:=e;have hN:Hid (ys.length=0):=e2;rw[e2]at g1;have hr:∀ty,(Builtin.append_ #[113,113] ty #[u6,.slice none 0 0]).run Tryz.prog wr=.ok u6 wr:=fun ty=>run_append_owned_none (P:=Tryz.prog) wr W.heap.size 113 ty 2 i0 1 Tryz.underlying113 hi u6 _ _ HO.out
      clear e2;go_wp2_with (at_builtin;refine Lib.wpList_append_run _ rfl _ _ _ _ rfl _ _ rfl rfl _ _ (hr _) ?_);go_roundw
      case rel=>exact⟨.inr (.inr ⟨rfl,by have:=Lg (xs:=[]++xs) HO.out ys hN.out;simpa[Hid]using this⟩),HB⟩
      case measure=>simp[intOf]
     ·simp only[sJ]at e
      obtain⟨rfl,e2,rfl⟩:=e;have HR:=AM (H.out.2.2.2.1.keep HB.out lR);clear e2;go_wp2_with (at_builtin;refine wpList_append_own _ rfl _ _ 113 rfl W.heap.size 2 i0 (.int .i64 0) 1 8 Tryz.underlying113 hi hz0 hz1 hz2 rfl (by decide) _ _ _ rfl HO.out ad ys.length c2 (ys.flatMap Af) rfl ?c1 ?c2 ?c3 ?c4 ?c5 ?c6 ?_)
      case c1=>rw[Aw Af 1 Ap]
      case c2=>exact HR.out.placed
      case c3=>exact FV _
      case c4=>unfold maxLen;omega
      case c5=>omega
      case c6=>exact HB.out.size
      intro v' w' hown' hgrow' hnil';have HO2:Hid (w'.ownsRow W.heap.size 2 1 v' (xs.length+ys.length) ((xs++ys).flatMap Af)):=by show World.ownsRow _ _ _ _ _ _ _;simpa using hown'
      have HB2:Hid (Below W.heap.size W w'):=IM HB.out HO.out lR hgrow';clear hown' hgrow' hnil';go_wp2
      go_roundw
      case rel=>exact⟨.inr (.inr ⟨rfl,HO2⟩),HB2⟩
      case measure=>simp[intOf]
    ·go_wp2
     go_ret
     exact⟨_,rfl,HO.out,HB.out⟩
theorem Eu(v:VF)(f:MF)(w:World)(hs:f.small)(h:CK w v f)(k1:Cg v.p)(k2:Cg v.l):
  Calls Tryz.prog 96 #[.agg #[v.p,.int .i64 f.result,v.l,v.c]] w fun e w'=>∃r,e=.returned r/\w'.ownsRow w.heap.size 2 1 r (f.params.length+f.locals.length) ((f.params++f.locals).flatMap Af)/\Below w.heap.size w w':=by
 have H:=h4 hs h k1 k2;obtain⟨a1,c1,e1⟩:=h.1.is_slice;obtain⟨a2,c2,e2⟩:=h.2.1.is_slice;obtain⟨vp,vl,vc⟩:=v;simp only[]at e1 e2;subst e1 e2;clear hs h k1 k2;go_enter Tryz.func96,Tryz.ntmps96;go_wp2_with fail
 have B0:Below w.heap.size w ((w.alloc (.cells #[.slice a1 f.params.length c1,.int .i64 f.result,.slice a2 f.locals.length c2,vc] 131)).alloc (.cells #[.slice a1 f.params.length c1,.slice a2 f.locals.length c2] 113)):=Ac (Aa _ _) lR (Aa _ _);have C0:=Om (w.alloc (.cells #[.slice a1 f.params.length c1,.int .i64 f.result,.slice a2 f.locals.length c2,vc] 131)) (.slice a1 f.params.length c1) (.slice a2 f.locals.length c2) 113;have hsz:(w.alloc (.cells #[.slice a1 f.params.length c1,.int .i64 f.result,.slice a2 f.locals.length c2,vc] 131)).heap.size=w.heap.size+1:=by simp
 rw[hsz]at C0;refine(KM (w.heap.size+1) (.slice a1 f.params.length c1) (.slice a2 f.locals.length c2) f.params f.locals _ H.out.1.1 H.out.1.2.1 (H.out.2.1.1.keep B0 lR) (H.out.2.1.2.1.keep B0 lR) H.out.2.2.1 H.out.2.2.2 C0.1 C0.2).mono ?_;rintro e u ⟨r,rfl,own,bl⟩;have HO:=h2 (AA own B0.size) (Ac B0 lR bl);clear own bl B0 C0 hsz;go_wp2
 go_ret
 exact⟨_,rfl,HO.out.1,HO.out.2⟩
theorem Ii(v:VP)(p:MP)(w:World)(hs:p.small)(h:Cx w v p)(hfp:EI w v.f p.funcs):
  Calls Tryz.prog 131 #[.agg #[v.r,v.k,v.f,v.t]] w fun e w'=>Ao e (Bd p)/\Below w.heap.size w w':=by
 obtain⟨vr,vk,vf,vt⟩:=v
 have H1:Hid (Rd w 4 vt p.certs.length (p.certs.flatMap MT.cells)/\p.small/\Cx w ⟨vr,vk,vf,vt⟩ p/\EI w vf p.funcs):=⟨h.certs,hs,h,hfp⟩
 have hn:=hs.certs
 obtain⟨a1,c1,e1⟩:∃a c,vt=.slice a p.certs.length c:=h.certs.is_slice
 subst e1
 clear h hs hfp
 have HI:Hid _:=Hy.of w vr vk vf (.slice a1 p.certs.length c1) 45
 generalize hcs:p.certs.length=n at*
 have HL:Hid (p.certs.length=n):=hcs
 clear hcs
 by_cases q0:64<n
 ·have HN:Hid (¬Bd p):=fun e=>absurd e.1 (by rw[HL.out];omega)
  have q0':(64:Int)<(n:Int):=by omega
  clear H1
  go_enter Tryz.func131,Tryz.ntmps131
  go_wp2
  go_ret
  exact⟨.no HN.out,HI.out.bel⟩
 have q0':¬(64:Int)<(n:Int):=by omega
 go_enter Tryz.func131,Tryz.ntmps131
 go_wp2
 go_loopw [12] (fun i wr=>∃k:Nat,k<=n/\i=.int .i64 k/\Hid (∀j,j<k->DI p p.certs j)/\Hid (Hy w wr vr vk vf (.slice a1 n c1))) (fun i _=>n-(intOf i).toNat)
 case atStart=>exact⟨0,by omega,rfl,fun j hj=>by omega,HI⟩
 case round=>
  clear HI
  obtain⟨k,hk,rfl,HT,HI⟩:=hrel
  by_cases hlt:k<n
  ·obtain⟨x,hx⟩:∃x,p.certs[k]?=some x:=⟨_,gE (by rw[HL.out];exact hlt)⟩
   rcases H1.out.1.2 with⟨e0,_⟩|⟨b,o,c,e1,hc1⟩
   ·omega
   simp only[sJ,true_and]at e1
   obtain⟨rfl,rfl⟩:=e1
   have i0:=Rd.elem MT.cells_length hc1 k x hx 0 _ rfl
   have i1:=Rd.elem MT.cells_length hc1 k x hx 1 _ rfl
   have i2:=Rd.elem MT.cells_length hc1 k x hx 2 _ rfl
   have i3:=Rd.elem MT.cells_length hc1 k x hx 3 _ rfl
   rw[<-HI.out.bel.cell (bL i0),Nat.add_zero]at i0
   rw[<-HI.out.bel.cell (bL i1)]at i1
   rw[<-HI.out.bel.cell (bL i2)]at i2
   rw[<-HI.out.bel.cell (bL i3)]at i3
   have HX:Hid (p.certs[k]?=some x):=hx
   have HC:Hid (∀j u,(p.certs.flatMap MT.cells)[j]?=some u->w.cell? ⟨b,o+j,none⟩=some u):=hc1
   clear hc1 hx
   obtain⟨fu,hd,co,ini⟩:=x
   simp only[]at i0 i1 i2 i3
   have nb:¬b=wr.heap.size:=Nat.ne_of_lt (bL i0)
   have mb:b<wr.heap.size:=bL i0
   have HW0:Hid (Below w.heap.size w (wr.alloc (.cells #[.int .i64 fu,.int .i64 hd,.int .i64 co,.int .u32 ini] 148))/\C6 (wr.alloc (.cells #[.int .i64 fu,.int .i64 hd,.int .i64 co,.int .u32 ini] 148)) w.heap.size vr vk vf (.slice (some ⟨b,o,none⟩) n c1)/\C6 (wr.alloc (.cells #[.int .i64 fu,.int .i64 hd,.int .i64 co,.int .u32 ini] 148)) wr.heap.size (.int .i64 fu) (.int .i64 hd) (.int .i64 co) (.int .u32 ini)):=⟨Ac HI.out.bel lR (Aa _ _),HI.out.prog.alloc _,C6.new _ _ _ _ _ _⟩
   go_wp2_with fail
   generalize wr.alloc (.cells #[.int .i64 fu,.int .i64 hd,.int .i64 co,.int .u32 ini] 148)=W1 at HW0⊢
   have HW:Hid (Below w.heap.size w W1/\C6 W1 w.heap.size vr vk vf (.slice (some ⟨b,o,none⟩) n c1)/\C6 W1 wr.heap.size (.int .i64 fu) (.int .i64 hd) (.int .i64 co) (.int .u32 ini)):=HW0
   clear HW0 i0 i1 i2 i3 nb mb HI q0'
   obtain⟨p0,p1,p2,p3⟩:=HW.out.2.1
   obtain⟨r0,r1,r2,r3⟩:=HW.out.2.2
   have inst:=Ae.some W1
   have P0:=fun n:Ae W1=>Ae.cell p0 n
   have P1:=fun n:Ae W1=>Ae.cell p1 n
   have P2:=fun n:Ae W1=>Ae.cell p2 n
   have P3:=fun n:Ae W1=>Ae.cell p3 n
   have R0:=fun n:Ae W1=>Ae.cell r0 n
   have R1:=fun n:Ae W1=>Ae.cell r1 n
   have R2:=fun n:Ae W1=>Ae.cell r2 n
   have R3:=fun n:Ae W1=>Ae.cell r3 n
   by_cases hok:Dt p ⟨fu,hd,co,ini⟩
   ·have HOK:Hid (Dt p ⟨fu,hd,co,ini⟩):=hok
    clear hok
    by_cases q5:k=0
    ·subst q5
     have HA:Hid (DI p p.certs 0):=fun c hc=>by
      rw[HX.out]at hc
      obtain rfl:=Option.some.inj hc
      exact⟨HOK.out,fun i d hi=>by omega⟩
     refine Ak (by kernel_rfl) (by kernel_rfl) ?_
     repeat(go_big_quiet_step ((first|(go_at_call 188;rename_i n';exact(Dm ⟨vr,vk,vf,.slice (some ⟨b,o,none⟩) n c1⟩ p fu hd co ini n'.u H1.out.2.1 (H1.out.2.2.1.keep (Ac HW.out.1 lR n'.h) lR) (H1.out.2.2.2.keep (Ac HW.out.1 lR n'.h) lR)).mono fun e w'' h=>⟨h.1.true HOK.out,⟨⟨w'',Ac n'.h lR h.2⟩,rfl⟩⟩))))
     refine wpQuiet_nil ?_
     rintro w'' ⟨n',rfl⟩
     have HI2:Hid (Hy w n'.u vr vk vf (.slice (some ⟨b,o,none⟩) n c1)):=⟨Ac HW.out.1 lR n'.h,HW.out.2.1.keep n'.h⟩
     go_wp2
     go_roundw
     case rel=>exact⟨1,by omega,by go_num,DU HA.out HT.out,HI2⟩
     case measure=>simp[intOf];omega
    ·obtain⟨i,rfl⟩:∃i,k=i+1:=⟨k-1,by omega⟩
     obtain⟨d,hd'⟩:∃d,p.certs[i]?=some d:=⟨_,gE (by rw[HL.out];omega)⟩
     have y0:=Rd.elem MT.cells_length HC.out i d hd' 0 _ rfl
     have y1:=Rd.elem MT.cells_length HC.out i d hd' 1 _ rfl
     have y2:=Rd.elem MT.cells_length HC.out i d hd' 2 _ rfl
     have y3:=Rd.elem MT.cells_length HC.out i d hd' 3 _ rfl
     rw[<-HW.out.1.cell (bL y0),Nat.add_zero]at y0
     rw[<-HW.out.1.cell (bL y1)]at y1
     rw[<-HW.out.1.cell (bL y2)]at y2
     rw[<-HW.out.1.cell (bL y3)]at y3
     obtain⟨dfu,dhd,dco,dini⟩:=d
     simp only[]at y0 y1 y2 y3
     have HD:Hid (p.certs[i]?=some ⟨dfu,dhd,dco,dini⟩):=hd'
     clear hd'
     have Y0:=fun n:Ae W1=>Ae.cell y0 n
     have Y1:=fun n:Ae W1=>Ae.cell y1 n
     have Y2:=fun n:Ae W1=>Ae.cell y2 n
     have Y3:=fun n:Ae W1=>Ae.cell y3 n
     have hki:((i+1:Nat):Int)-1=(i:Int):=by omega
     have hkp:(0:Int)<((i+1:Nat):Int):=by omega
     by_cases hri:FJ ⟨dfu,dhd,dco,dini⟩ ⟨fu,hd,co,ini⟩
     ·have HRI:Hid (FJ ⟨dfu,dhd,dco,dini⟩ ⟨fu,hd,co,ini⟩):=hri
      have HA:Hid (DI p p.certs (i+1)):=fun c hc=>by
       rw[HX.out]at hc
       obtain rfl:=Option.some.inj hc
       refine⟨HOK.out,fun i' d' hi hd'=> ?_⟩
       obtain rfl:i'=i:=by omega
       rw[HD.out]at hd'
       obtain rfl:=Option.some.inj hd'
       exact hri
      clear hri
      refine Ak (by kernel_rfl) (by kernel_rfl) ?_
      repeat(go_big_quiet_step ((first|(go_at_call 188;rename_i n';exact(Dm ⟨vr,vk,vf,.slice (some ⟨b,o,none⟩) n c1⟩ p fu hd co ini n'.u H1.out.2.1 (H1.out.2.2.1.keep (Ac HW.out.1 lR n'.h) lR) (H1.out.2.2.2.keep (Ac HW.out.1 lR n'.h) lR)).mono fun e w'' h=>⟨h.1.true HOK.out,⟨⟨w'',Ac n'.h lR h.2⟩,rfl⟩⟩)|(go_at_call 189;rename_i n';exact(IP ⟨dfu,dhd,dco,dini⟩ ⟨fu,hd,co,ini⟩ n'.u).mono fun e w'' h=>⟨h.1.true HRI.out,⟨⟨w'',Ac n'.h lR h.2⟩,rfl⟩⟩))))
      refine wpQuiet_nil ?_
      rintro w'' ⟨n',rfl⟩
      have HI2:Hid (Hy w n'.u vr vk vf (.slice (some ⟨b,o,none⟩) n c1)):=⟨Ac HW.out.1 lR n'.h,HW.out.2.1.keep n'.h⟩
      go_wp2
      go_roundw
      case rel=>exact⟨i+1+1,by omega,by go_num,DU HA.out HT.out,HI2⟩
      case measure=>simp[intOf];omega
     ·have HRI:Hid (¬FJ ⟨dfu,dhd,dco,dini⟩ ⟨fu,hd,co,ini⟩):=hri
      clear hri
      have HN:Hid (¬Bd p):=fun e=>by
       exact HRI.out ((e.2 (i+1) (by rw[HL.out];exact hlt) _ HX.out).2 i _ rfl HD.out)
      refine Ak (by kernel_rfl) (by kernel_rfl) ?_
      repeat(go_big_quiet_step ((first|(go_at_call 188;rename_i n';exact(Dm ⟨vr,vk,vf,.slice (some ⟨b,o,none⟩) n c1⟩ p fu hd co ini n'.u H1.out.2.1 (H1.out.2.2.1.keep (Ac HW.out.1 lR n'.h) lR) (H1.out.2.2.2.keep (Ac HW.out.1 lR n'.h) lR)).mono fun e w'' h=>⟨h.1.true HOK.out,⟨⟨w'',Ac n'.h lR h.2⟩,rfl⟩⟩)|(go_at_call 189;rename_i n';exact(IP ⟨dfu,dhd,dco,dini⟩ ⟨fu,hd,co,ini⟩ n'.u).mono fun e w'' h=>⟨h.1.false HRI.out,⟨⟨w'',Ac n'.h lR h.2⟩,rfl⟩⟩))))
      refine wpQuiet_nil ?_
      rintro w'' ⟨n',rfl⟩
      have HI2:Hid (Hy w n'.u vr vk vf (.slice (some ⟨b,o,none⟩) n c1)):=⟨Ac HW.out.1 lR n'.h,HW.out.2.1.keep n'.h⟩
      go_wp2
      go_ret
      exact⟨.no HN.out,HI2.out.bel⟩
   ·have HOK:Hid (¬Dt p ⟨fu,hd,co,ini⟩):=hok
    clear hok
    have HN:Hid (¬Bd p):=fun e=>by
     exact HOK.out (e.2 k (by rw[HL.out];exact hlt) _ HX.out).1
    refine Ak (by kernel_rfl) (by kernel_rfl) ?_
    repeat(go_big_quiet_step ((first|(go_at_call 188;rename_i n';exact(Dm ⟨vr,vk,vf,.slice (some ⟨b,o,none⟩) n c1⟩ p fu hd co ini n'.u H1.out.2.1 (H1.out.2.2.1.keep (Ac HW.out.1 lR n'.h) lR) (H1.out.2.2.2.keep (Ac HW.out.1 lR n'.h) lR)).mono fun e w'' h=>⟨h.1.false HOK.out,⟨⟨w'',Ac n'.h lR h.2⟩,rfl⟩⟩))))
    refine wpQuiet_nil ?_
    rintro w'' ⟨n',rfl⟩
    have HI2:Hid (Hy w n'.u vr vk vf (.slice (some ⟨b,o,none⟩) n c1)):=⟨Ac HW.out.1 lR n'.h,HW.out.2.1.keep n'.h⟩
    go_wp2
    go_ret
    exact⟨.no HN.out,HI2.out.bel⟩
  ·have hkn:n=k:=by omega
   subst hkn
   have HY:Hid (Bd p):=⟨by rw[HL.out];omega,by rw[HL.out];exact HT.out⟩
   go_wp2
   go_ret
   exact⟨.yes HY.out,HI.out.bel⟩
end Go.Proofs.YtlejplpkomddeaaGreat
