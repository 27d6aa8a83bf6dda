import Derived.Test.YtdipfjmlfbdkdaaGreatFc25
import Derived.Lib.AppendZerosOnto
import Derived.Lib.AppendZeros
import Derived.Laws.Append
import Derived.Test.YtdipfjmlfbdkdaaGreatFc23
import Derived.Test.YtdipfjmlfbdkdaaGreatFc21
namespace Go.Proofs.YtdipfjmlfbdkdaaGreat
open Go.ChangeShapes Go.WideShapes Go.ChangeAt Go.RowKit
set_option linter.unusedVariables false
set_option maxHeartbeats 4000000
set_option maxRecDepth 100000
theorem Be.parts{p:MP}(h:Be p 0):Aq p.regions/\AH p.consts/\AO p.funcs/\B4 p/\AY p:=by
 unfold Be at h;rcases h with h|h|h|h|h|h
 . exact absurd h.1 (by decide)
 . exact absurd h.1 (by decide)
 . exact absurd h.1 (by decide)
 . exact absurd h.1 (by decide)
 . exact absurd h.1 (by decide)
 . exact h.2
theorem Be.instr{p:MP}(h:Be p 0){i j:Nat}{f:MF}{x:MI}(hf:p.funcs[i]?=some f)(hx:f.code[j]?=some x):AP p f x:=h.parts.2.2.2.1 i (aD.1 hf).1 f hf j (aD.1 hx).1 x hx
theorem EK:AM 1=1/\AM 2=2/\AM 3=2/\AM 4=3/\AM 5=3/\AM 6=4/\AM 7=4/\AM 27=10/\AM 28=11:=by decide+kernel
theorem AP.const{p:MP}{f:MF}{x:MI}(h:AP p f x)(e:x.op=1):∃(q:Nat) (z:MC),x.a=q/\p.consts[q]?=some z:=by
 obtain⟨_,_,h⟩:=h;rw[e,EK.1]at h;unfold AC AE at h
 have h1:0<=x.a/\x.a<p.consts.length:=by
  rcases h with h|h|h|h|h|h|h|h|h|h<;>first|(exfalso;omega)|exact⟨h.2.1,h.2.2.1⟩
 obtain⟨q,hq⟩:=aT h1.1;rw[hq]at h1;exact⟨q,_,hq,aA (by omega)⟩
theorem MQ{f:MF}{a:Int}(h:¬AN f a=0):∃q:Nat,a=q/\(f.params++f.locals)[q]?=some (AN f a):=by
 by_cases h0:a<0
 . exact absurd (ES h0) h
 . obtain⟨q,hq⟩:=aT (by omega:0<=a)
   refine⟨q,hq,?_⟩;subst hq;unfold AN at h⊢;rw[bF h0]at h⊢;rw[aJ]at h⊢;simp only[aG]at h⊢;cases e:(f.params++f.locals)[q]? with
   |none=>rw[e]at h;exact absurd rfl h
   |some z=>rfl
theorem AP.local{p:MP}{f:MF}{x:MI}(h:AP p f x)(e:x.op=2\/x.op=3\/x.op=27):∃q:Nat,x.a=q/\(f.params++f.locals)[q]?=some (AN f x.a):=by
 apply MQ;obtain⟨_,_,h⟩:=h
 have hf:AM x.op=2\/AM x.op=10:=by
  rcases e with e|e|e<;>rw[e]
  . exact .inl EK.2.1
  . exact .inl EK.2.2.1
  . exact .inr EK.2.2.2.2.2.2.2.1
 unfold AC AE at h;rcases h with h|h|h|h|h|h|h|h|h|h<;>first|(exfalso;omega)|exact h.2.1
theorem NX{p:MP}{a b:Int}(h3:p.regions.length=3)(h:¬A3 p a b=0):∃(q z:Nat) (r:List Int),a=q/\b=z/\p.regions[q]?=some r/\r[z]?=some (A3 p a b):=by
 by_cases h0:a<0\/2<a\/b<0
 . exact absurd (Dv h0) h
 . obtain⟨q,hq⟩:=aT (by omega:0<=a)
   obtain⟨z,hz⟩:=aT (by omega:0<=b);subst hq hz;have hr:p.regions[q]?=some (p.regions[q]'(by omega)):=aA (by omega)
   refine⟨q,z,_,rfl,rfl,hr,?_⟩;have e:=Gw (p:=p) (r:=q) (c:=z) (by omega) hr;rw[e]at h⊢;rw[aJ]at h⊢;cases e2:(p.regions[q]'(by omega))[z]? with
   |none=>rw[e2]at h;exact absurd rfl h
   |some t=>rfl
theorem NZ{p:MP}{x:MI}{q z:Nat}{r:List Int}{t:Int}(h1:x.a=q)(h2:x.b=z)(hr:p.regions[q]?=some r)(ht:r[z]?=some t):Gx p x=t:=by
 unfold Gx;rw[h1,h2];simp only[aG,hr,ht];rfl
theorem AP.cell{p:MP}{f:MF}{x:MI}(h3:p.regions.length=3)(h:AP p f x)(e:x.op=4\/x.op=5\/x.op=6\/x.op=7):∃(q z:Nat) (r:List Int),x.a=q/\x.b=z/\p.regions[q]?=some r/\r[z]?=some (Gx p x):=by
 obtain⟨_,_,h⟩:=h
 have hf:AM x.op=3\/AM x.op=4:=by
  rcases e with e|e|e|e<;>rw[e]
  . exact .inl EK.2.2.2.1
  . exact .inl EK.2.2.2.2.1
  . exact .inr EK.2.2.2.2.2.1
  . exact .inr EK.2.2.2.2.2.2.1
 unfold AC AE at h
 have hc:¬A3 p x.a x.b=0:=by
  rcases h with h|h|h|h|h|h|h|h|h|h<;>first|(exfalso;omega)|exact h.2.1|exact h.2.1.there
 obtain⟨q,z,r,h1,h2,hr,ht⟩:=NX h3 hc;refine⟨q,z,r,h1,h2,hr,?_⟩;rw[NZ h1 h2 hr ht];exact ht
theorem AP.mask{p:MP}{f:MF}{x:MI}(h:AP p f x)(e:x.op=6\/x.op=7):CL p x.a x.b x.c:=by
 obtain⟨_,_,h⟩:=h
 have hf:AM x.op=4:=by
  rcases e with e|e<;>rw[e]
  . exact EK.2.2.2.2.2.1
  . exact EK.2.2.2.2.2.2.1
 unfold AC AE at h;rcases h with h|h|h|h|h|h|h|h|h|h<;>first|(exfalso;omega)|exact h.2.1
theorem AP.callee{p:MP}{f:MF}{x:MI}(h:AP p f x)(e:x.op=28):∃(q:Nat) (fq:MF),x.a=q/\p.funcs[q]?=some fq:=by
 obtain⟨_,_,h⟩:=h;rw[e,EK.2.2.2.2.2.2.2.2]at h;unfold AC AE at h
 have h1:0<=x.a/\x.a<p.funcs.length:=by
  rcases h with h|h|h|h|h|h|h|h|h|h<;>first|(exfalso;omega)|exact⟨h.2.1,h.2.2.1⟩
 obtain⟨q,hq⟩:=aT h1.1;rw[hq]at h1;exact⟨q,_,hq,aA (by omega)⟩
theorem AP.target{p:MP}{f:MF}{x:MI}(h:AP p f x)(e:x.op=25\/x.op=26\/x.op=27):0<=x.c/\x.c<f.code.length:=by
 obtain⟨_,_,h⟩:=h;have hk:AM 25=9/\AM 26=9/\AM 27=10:=by decide+kernel
 have hf:AM x.op=9\/AM x.op=10:=by
  rcases e with e|e|e<;>rw[e]
  . exact .inl hk.1
  . exact .inl hk.2.1
  . exact .inr hk.2.2
 unfold AC AE at h;rcases h with h|h|h|h|h|h|h|h|h|h<;>first|(exfalso;omega)|exact h.2.2.2
theorem Jd(v:VP)(p:MP)(w:World)(hs:p.small)(hw:p.wf)(hp:Aq p.regions)(hfo:AO p.funcs)(h:Dg w v p)(hcap:Fo w v.r p.regions):
 Calls Tryz.prog 81 #[.agg #[v.r,v.k,v.f,v.t]] w fun e w'=>Aj e (B4 p)/\Below w.heap.size w w':=by
 obtain⟨xs,ys,hP⟩:=Pg.of hs hw h;obtain⟨vr,vk,vf,vt⟩:=v;simp only[]at hP;obtain⟨r3,c3,e3⟩:=hP.fr.is_slice;have hm:=hs.funcs;subst e3;have HH:Hid (Aq p.regions/\AO p.funcs/\Fo w vr p.regions):=⟨hp,hfo,hcap⟩
 clear hs hw h hp hfo hcap;obtain⟨rr1,cc1,evr⟩:=hP.rr.is_slice;obtain⟨rr2,cc2,evk⟩:∃a c,vk=.slice a p.consts.length c:=hP.rd.consts.is_slice;obtain⟨rr4,cc4,evt⟩:∃a c,vt=.slice a p.certs.length c:=hP.rd.certs.is_slice;subst evr evk evt;have HP:Hid _:=hP;clear hP;have HI:Hid _:=FQ.of w (.slice rr1 p.regions.length cc1) (.slice rr2 p.consts.length cc2) (.slice r3 p.funcs.length c3) (.slice rr4 p.certs.length cc4) 35;generalize hM:p.funcs.length=m at*;have HL:Hid (p.funcs.length=m):=hM;clear hM;have HP:Hid (Pg w (.slice rr1 p.regions.length cc1) (.slice rr2 p.consts.length cc2) (.slice r3 m c3) (.slice rr4 p.certs.length cc4) p xs ys):=HP;go_enter Tryz.func81,Tryz.ntmps81;go_wp2
 go_loopw [11] (fun i wr=>∃k:Nat,k<=m/\i=.int .i64 k/\Hid (∀j,j<k->∀f,p.funcs[j]?=some f->Ds p f)/\Hid (FQ w wr (.slice rr1 p.regions.length cc1) (.slice rr2 p.consts.length cc2) (.slice r3 m c3) (.slice rr4 p.certs.length cc4))) (fun i _=>m-(intOf i).toNat)
 case atStart=>exact⟨0,by omega,rfl,fun j hj=>by omega,HI⟩
 case round=>
  clear HI;obtain⟨k,hk,rfl,HT,HI⟩:=hrel;by_cases hlt:k<m
  . obtain⟨⟨f,v⟩,hx⟩:∃x,ys[k]?=some x:=⟨_,aA (by rw[HP.o.fl,HL.o];exact hlt)⟩
    have e1:=BM HP.o.fm hx;have HX:Hid (C9 w v f/\f.small/\p.funcs[k]?=some f/\f.wf/\B6 f):=⟨HP.o.fe _ (aE hx),HP.o.small.func _ (aE e1),e1,HP.o.wf.funcs _ (aE e1),HH.o.2.1.2.2.1 k (by rw[HL.o];exact hlt) _ e1⟩
    clear e1;rcases HP.o.fr.2 with⟨e0,_⟩|⟨b,o,c,e1,hc1⟩
    . rw[HL.o]at e0
      omega
    rw[HL.o]at e1;simp only[aF,aw]at e1;obtain⟨rfl,rfl⟩:=e1;have i0:=Rd.elem Ah hc1 k _ hx 0 _ rfl;have i1:=Rd.elem Ah hc1 k _ hx 1 _ rfl;have i2:=Rd.elem Ah hc1 k _ hx 2 _ rfl;have i3:=Rd.elem Ah hc1 k _ hx 3 _ rfl;rw[<-HI.o.bel.cell (aC i0),aS]at i0;rw[<-HI.o.bel.cell (aC i1)]at i1;rw[<-HI.o.bel.cell (aC i2)]at i2;rw[<-HI.o.bel.cell (aC i3)]at i3;clear hc1 hx;simp only[]at i0 i1 i2 i3;obtain⟨ap,cp,ep⟩:=HX.o.1.1.is_slice;obtain⟨al,cl,el⟩:=HX.o.1.2.1.is_slice;obtain⟨ac,cc,ec⟩:=HX.o.1.2.2.is_slice;obtain⟨vp,vl,vc⟩:=v;simp only[]at ep el ec i0 i1 i2 i3;subst ep el ec;obtain⟨p0,p1,p2,p3⟩:=HI.o.prog;have nb:¬b=wr.heap.size:=bJ (aC i0);have mb:b<wr.heap.size:=aC i0;have np:¬w.heap.size=wr.heap.size:=bJ HI.o.prog.lt;have mp:w.heap.size<wr.heap.size:=HI.o.prog.lt;have hz:=HX.o.2.1.2.2
    have HS:Hid (FQ w ((wr.alloc (.cells #[.slice ap f.params.length cp,.int .i64 f.result,.slice al f.locals.length cl,.slice ac f.code.length cc] 48)).alloc (.cells #[(.slice rr1 p.regions.length cc1),(.slice rr2 p.consts.length cc2),.slice (some ⟨b,o,none⟩) m c3,(.slice rr4 p.certs.length cc4),.slice ap f.params.length cp,.int .i64 f.result,.slice al f.locals.length cl,.slice ac f.code.length cc] 83)) (.slice rr1 p.regions.length cc1) (.slice rr2 p.consts.length cc2) (.slice (some ⟨b,o,none⟩) m c3) (.slice rr4 p.certs.length cc4)/\Jw ((wr.alloc (.cells #[.slice ap f.params.length cp,.int .i64 f.result,.slice al f.locals.length cl,.slice ac f.code.length cc] 48)).alloc (.cells #[(.slice rr1 p.regions.length cc1),(.slice rr2 p.consts.length cc2),.slice (some ⟨b,o,none⟩) m c3,(.slice rr4 p.certs.length cc4),.slice ap f.params.length cp,.int .i64 f.result,.slice al f.locals.length cl,.slice ac f.code.length cc] 83)) (wr.heap.size+1) (.slice rr1 p.regions.length cc1) (.slice rr2 p.consts.length cc2) (.slice (some ⟨b,o,none⟩) m c3) (.slice rr4 p.certs.length cc4) (.slice ap f.params.length cp) (.int .i64 f.result) (.slice al f.locals.length cl) (.slice ac f.code.length cc)):=by
     refine⟨HI.o.keep (Ab (Aa _ _) lR (Aa _ _)),?_⟩;have:=Jw.new (wr.alloc (.cells #[.slice ap f.params.length cp,.int .i64 f.result,.slice al f.locals.length cl,.slice ac f.code.length cc] 48)) (.slice rr1 p.regions.length cc1) (.slice rr2 p.consts.length cc2) (.slice (some ⟨b,o,none⟩) m c3) (.slice rr4 p.certs.length cc4) (.slice ap f.params.length cp) (.int .i64 f.result) (.slice al f.locals.length cl) (.slice ac f.code.length cc) 83;simpa using this
    go_wp2
    clear p0 p1 p2 p3 i0 i1 i2 i3 nb mb np mp;generalize hZ:f.code.length=z at*;have HZ:Hid (f.code.length=z):=hZ;clear hZ;generalize wr.heap.size+1=SB at HS⊢;go_loopw [21] (fun i wr2=>∃q:Nat,q<=z/\i=.int .i64 q/\Hid (∀j,j<q->∀x,f.code[j]?=some x->AP p f x)/\Hid (FQ w wr2 (.slice rr1 p.regions.length cc1) (.slice rr2 p.consts.length cc2) (.slice (some ⟨b,o,none⟩) m c3) (.slice rr4 p.certs.length cc4)/\Jw wr2 SB (.slice rr1 p.regions.length cc1) (.slice rr2 p.consts.length cc2) (.slice (some ⟨b,o,none⟩) m c3) (.slice rr4 p.certs.length cc4) (.slice ap f.params.length cp) (.int .i64 f.result) (.slice al f.locals.length cl) (.slice ac z cc))) (fun i _=>z-(intOf i).toNat)
    case atStart=>exact⟨0,by omega,rfl,fun j hj=>by omega,HS⟩
    case round=>
     clear HS;obtain⟨q,hq,rfl,HTT,HS⟩:=hrel;by_cases hlq:q<z
     . obtain⟨x,hx⟩:∃x,f.code[q]?=some x:=⟨_,aA (by rw[HZ.o];exact hlq)⟩
       have hxw:=HX.o.2.2.2.1.code x (aE hx);rcases HX.o.1.2.2.2 with⟨e0,_⟩|⟨b',o',c',e1,hc2⟩
       . rw[HZ.o]at e0
         omega
       rw[HZ.o]at e1;simp only[aF,aw]at e1;obtain⟨rfl,rfl⟩:=e1;have j0:=Rd.elem MI.cells_length hc2 q x hx 0 _ rfl;have j1:=Rd.elem MI.cells_length hc2 q x hx 1 _ rfl;have j2:=Rd.elem MI.cells_length hc2 q x hx 2 _ rfl;have j3:=Rd.elem MI.cells_length hc2 q x hx 3 _ rfl;rw[<-HS.o.1.bel.cell (aC j0),aS]at j0;rw[<-HS.o.1.bel.cell (aC j1)]at j1;rw[<-HS.o.1.bel.cell (aC j2)]at j2;rw[<-HS.o.1.bel.cell (aC j3)]at j3;have HXX:Hid (f.code[q]?=some x/\x.wf):=⟨hx,hxw⟩
       clear hc2 hx hxw;obtain⟨xo,xa,xb,xc⟩:=x;simp only[]at j0 j1 j2 j3;obtain⟨s0,s1,s2,s3,s4,s5,s6,s7⟩:=HS.o.2;have nb:¬b'=wr.heap.size:=bJ (aC j0);have mb:b'<wr.heap.size:=aC j0;have np:¬SB=wr.heap.size:=bJ HS.o.2.lt;have mp:SB<wr.heap.size:=HS.o.2.lt;go_wp2_with fail
       have bA:=Aa wr (.cells #[.int .i64 xo,.int .i64 xa,.int .i64 xb,.int .i64 xc] 60);have bW:=Ab HS.o.1.bel lR bA;refine(N8 ⟨(.slice rr1 p.regions.length cc1),(.slice rr2 p.consts.length cc2),.slice (some ⟨b,o,none⟩) m c3,(.slice rr4 p.certs.length cc4)⟩ p ⟨.slice ap f.params.length cp,.slice al f.locals.length cl,.slice (some ⟨b',o',none⟩) z cc⟩ f xo xa xb xc _ HP.o.small HH.o.1 HX.o.2.2.2.2 HX.o.2.1 HXX.o.2.2.1 HXX.o.2.2.2.1 HXX.o.2.2.2.2 (HP.o.rd.keep bW lR) (HH.o.2.2.keep bW lR) (HX.o.1.keep bW lR)).mono ?_;rintro e u4 ⟨⟨b4,rfl,hb4⟩,bl4⟩;have bU:=Ab bA lR bl4;have HS2:Hid (FQ w u4 (.slice rr1 p.regions.length cc1) (.slice rr2 p.consts.length cc2) (.slice (some ⟨b,o,none⟩) m c3) (.slice rr4 p.certs.length cc4)/\Jw u4 SB (.slice rr1 p.regions.length cc1) (.slice rr2 p.consts.length cc2) (.slice (some ⟨b,o,none⟩) m c3) (.slice rr4 p.certs.length cc4) (.slice ap f.params.length cp) (.int .i64 f.result) (.slice al f.locals.length cl) (.slice (some ⟨b',o',none⟩) z cc)):=⟨HS.o.1.keep bU,HS.o.2.keep bU⟩
       clear bA bW bl4 bU HS j0 j1 j2 j3 s0 s1 s2 s3 s4 s5 s6 s7 nb mb np mp;cases b4
       . have HN:Hid (¬B4 p):=fun e=>by
          have:=e k (by rw[HL.o];exact hlt) f HX.o.2.2.1 q (by rw[HZ.o];exact hlq) _ HXX.o.1;simp[this]at hb4
         clear hb4;go_wp2
         go_ret
         exact⟨.no HN.o,HS2.o.1.bel⟩
       . have HOK:Hid (AP p f ⟨xo,xa,xb,xc⟩):=hb4.1 rfl
         clear hb4;go_wp2
         go_roundw
         case rel=>exact⟨q+1,by omega,by go_num,BW HXX.o.1 HOK.o HTT.o,HS2⟩
         case measure=>simp[intOf];omega
     . have hqz:z=q:=by omega
       subst hqz;have HFC:Hid (Ds p f):=fun j hj x hx=>HTT.o j (by rw[<-HZ.o];exact hj) x hx
       go_wp2
       go_roundw
       case rel=>exact⟨k+1,by omega,by go_num,BW HX.o.2.2.1 HFC.o HT.o,HS.o.1⟩
       case measure=>simp[intOf];omega
  . have hkn:m=k:=by omega
    subst hkn;have HCo:Hid (B4 p):=fun j hj f hf=>HT.o j (by rw[<-HL.o];exact hj) f hf
    go_wp2
    go_ret
    exact⟨.yes HCo.o,HI.o.bel⟩
def FC(v:Value):Prop:=v=.slice none 0 0\/∃ad n c,v=.slice (some ad) n c
theorem JS(x y:MT)(w:World):
 Calls Tryz.prog 111 #[.agg #[.int .i64 x.func,.int .i64 x.head,.int .i64 x.counter,.int .u32 x.init],.agg #[.int .i64 y.func,.int .i64 y.head,.int .i64 y.counter,.int .u32 y.init]] w fun e w'=>Aj e (Ft x y)/\Below w.heap.size w w':=by
 have HB:Hid (Below w.heap.size w ((w.alloc (.cells #[.int .i64 x.func,.int .i64 x.head,.int .i64 x.counter,.int .u32 x.init] 72)).alloc (.cells #[.int .i64 y.func,.int .i64 y.head,.int .i64 y.counter,.int .u32 y.init] 72))):=Ab (Aa _ _) lR (Aa _ _);go_enter Tryz.func111,Tryz.ntmps111;go_wp2
 all_goals(go_ret;refine⟨Aj.of ?_,by first|exact HB.o|(rw[‹x.func=y.func›]at HB;exact HB.o)⟩;go_light;unfold Ft;simp_all<;>omega)
def Gt(w:World)(s:Value)(fs:List MF):Prop:=∃ys:List (MF×VF),ys.map Prod.fst=fs/\Rd w 4 s fs.length (ys.flatMap Bi)/\∀x∈ys,C9 w x.2 x.1/\FC x.2.p/\FC x.2.l
theorem Gt.keep{w w':World}{s:Value}{fs:List MF}(h:Gt w s fs){B:Nat}(hb:Below B w w')(hB:w.heap.size<=B):Gt w' s fs:=by
 obtain⟨ys,h1,h2,h3⟩:=h;exact⟨ys,h1,h2.keep hb hB,fun x hx=>⟨(h3 x hx).1.keep hb hB,(h3 x hx).2⟩⟩
theorem Mm{p:MP}{fn:Nat}{f:MF}(hf:p.funcs[fn]?=some f)(hd co ini:Int):C8 p ⟨fn,hd,co,ini⟩↔(0<=hd/\hd<(f.code.length:Int))/\(0<=co/\co<((f.params.length+f.locals.length:Nat):Int))/\(f.params++f.locals)[co.toNat]?=some 3:=by
 constructor
 . rintro⟨g,h1,h2,h3,h4,h5⟩
   simp only[aG]at h1 h3 h4 h5;rw[hf]at h1;obtain rfl:=ae h1;unfold AN at h5;split at h5
   . simp at h5
   . rename_i hc
     rw[aJ]at h5;by_cases q:co.toNat<(f.params++f.locals).length
     . rw[aA q]at h5⊢
       refine⟨⟨h3,h4⟩,⟨by omega,by rw[aH]at q;omega⟩,?_⟩;simpa using h5
     . rw[aZ (by omega)]at h5
       simp at h5
 . rintro⟨⟨h3,h4⟩,⟨h5,h6⟩,h7⟩
   refine⟨f,by simp only[aG];exact hf,by simp only[];omega,h3,h4,?_⟩;unfold AN;rw[bF (by simp only[];omega),aJ,h7];rfl
theorem CT(v:VP)(p:MP)(fu hd co ini:Int)(w:World)(hs:p.small)(h:Dg w v p)(hfp:Gt w v.f p.funcs):
 Calls Tryz.prog 110 #[.agg #[v.r,v.k,v.f,v.t],.agg #[.int .i64 fu,.int .i64 hd,.int .i64 co,.int .u32 ini]] w fun e w'=>Aj e (C8 p ⟨fu,hd,co,ini⟩)/\Below w.heap.size w w':=by
 obtain⟨vr,vk,vf,vt⟩:=v;obtain⟨ys,hys,hrd,hel⟩:=hfp;simp only[]at hrd
 obtain⟨rr1,cc1,er1⟩:∃a c,vr=.slice a p.regions.length c:=by
  obtain⟨_,_,hq,_⟩:=h.regions;exact hq.is_slice
 obtain⟨rr2,cc2,er2⟩:∃a c,vk=.slice a p.consts.length c:=h.consts.is_slice;obtain⟨rr4,cc4,er4⟩:∃a c,vt=.slice a p.certs.length c:=h.certs.is_slice;subst er1 er2 er4;have hyl:ys.length=p.funcs.length:=by rw[<-hys];simp
 obtain⟨a2,c2,e2⟩:=hrd.is_slice;subst e2;have H2:Hid (Rd w 4 (.slice a2 p.funcs.length c2) p.funcs.length (ys.flatMap Bi)/\ys.map Prod.fst=p.funcs/\(∀x∈ys,C9 w x.2 x.1/\FC x.2.p/\FC x.2.l)/\(∀f∈p.funcs,f.small)/\ys.length=p.funcs.length):=⟨hrd,hys,hel,hs.func,hyl⟩
 have hm:=hs.funcs;clear hrd hys hel hyl hs h;generalize p.regions.length=n1 at*;generalize p.consts.length=n2 at*;generalize p.certs.length=n4 at*;generalize hM:p.funcs.length=m at*;have HL:Hid (p.funcs.length=m):=hM;clear hM
 have HI:Hid (Below w.heap.size w ((w.alloc (.cells #[.slice rr1 n1 cc1,.slice rr2 n2 cc2,.slice a2 m c2,.slice rr4 n4 cc4] 35)).alloc (.cells #[.int .i64 fu,.int .i64 hd,.int .i64 co,.int .u32 ini] 72))/\Cd ((w.alloc (.cells #[.slice rr1 n1 cc1,.slice rr2 n2 cc2,.slice a2 m c2,.slice rr4 n4 cc4] 35)).alloc (.cells #[.int .i64 fu,.int .i64 hd,.int .i64 co,.int .u32 ini] 72)) (w.heap.size+1) (.int .i64 fu) (.int .i64 hd) (.int .i64 co) (.int .u32 ini)):=by
  refine⟨Ab (Aa _ _) lR (Aa _ _),?_⟩;have:=Cd.new (w.alloc (.cells #[.slice rr1 n1 cc1,.slice rr2 n2 cc2,.slice a2 m c2,.slice rr4 n4 cc4] 35)) (.int .i64 fu) (.int .i64 hd) (.int .i64 co) (.int .u32 ini) 72;simpa using this
 by_cases q0:0<=fu/\fu<(m:Int)
 . have hit:decide (0<=fu/\fu<(m:Int))=true:=decide_eq_true q0
   obtain⟨fn,rfl⟩:=aT q0.1;have hfn:fn<m:=by omega
   clear q0;obtain⟨⟨f,v⟩,hy⟩:∃y,ys[fn]?=some y:=⟨_,aA (by rw[H2.o.2.2.2.2];omega)⟩;have e1:=BM H2.o.2.1 hy;have hfe:=H2.o.2.2.1 _ (aE hy);have HF:Hid (C9 w v f/\FC v.p/\FC v.l/\f.small/\p.funcs[fn]?=some f):=⟨hfe.1,hfe.2.1,hfe.2.2,H2.o.2.2.2.1 _ (aE e1),e1⟩
   clear e1 hfe;rcases H2.o.1.2 with⟨e0,_⟩|⟨b',o',c',e1,hc2⟩
   . omega
   simp only[aF,aw]at e1;obtain⟨rfl,rfl⟩:=e1;have j0:=Rd.elem Ah hc2 fn _ hy 0 _ rfl;have j1:=Rd.elem Ah hc2 fn _ hy 1 _ rfl;have j2:=Rd.elem Ah hc2 fn _ hy 2 _ rfl;have j3:=Rd.elem Ah hc2 fn _ hy 3 _ rfl;rw[aS]at j0;clear hc2 hy;simp only[]at j0 j1 j2 j3;obtain⟨ap,cp,ep⟩:=HF.o.1.1.is_slice;obtain⟨al,cl,el⟩:=HF.o.1.2.1.is_slice;obtain⟨ac,cc,ec⟩:=HF.o.1.2.2.is_slice;obtain⟨vp,vl,vc⟩:=v;simp only[]at ep el ec j0 j1 j2 j3;subst ep el ec;have k0:=(HI.o.1.cell (aC j0)).trans j0;have k1:=(HI.o.1.cell (aC j1)).trans j1;have k2:=(HI.o.1.cell (aC j2)).trans j2;have k3:=(HI.o.1.cell (aC j3)).trans j3;have nb:¬b'=w.heap.size:=bJ (aC j0);have nb2:¬b'=w.heap.size+1:=by have:=aC j0;simp only[]at this;omega
   have nb3:¬b'=w.heap.size+1+1:=by have:=aC j0;simp only[]at this;omega
   have mb:b'<w.heap.size:=aC j0;go_enter Tryz.func110,Tryz.ntmps110;go_wp2_with fail
   refine(Ay (fn:Int) (m:Int) _).mono ?_;rintro e u ⟨rfl,rfl⟩;rw[hit];go_wp2_with fail
   have hfm:(fn:Int)<(m:Int):=by omega
   have BX:Below w.heap.size w (((w.alloc (.cells #[.slice rr1 n1 cc1,.slice rr2 n2 cc2,.slice (some ⟨b',o',none⟩) m c2,.slice rr4 n4 cc4] 35)).alloc (.cells #[.int .i64 (fn:Int),.int .i64 hd,.int .i64 co,.int .u32 ini] 72)).alloc (.cells #[.slice none 0 0,.slice none 0 0,.slice none 0 0,.slice none 0 0,.slice none 0 0,.int .i64 0,.slice none 0 0,.slice none 0 0] 83)).drew:=Ab (Ab HI.o.1 lR (Aa _ _)) lR (Ae _);have x0:=(BX.cell (aC j0)).trans j0;have x1:=(BX.cell (aC j1)).trans j1;have x2:=(BX.cell (aC j2)).trans j2;have x3:=(BX.cell (aC j3)).trans j3;clear BX;go_region
   have B1:Hid (Below w.heap.size w ((((w.alloc (.cells #[.slice rr1 n1 cc1,.slice rr2 n2 cc2,.slice (some ⟨b',o',none⟩) m c2,.slice rr4 n4 cc4] 35)).alloc (.cells #[.int .i64 (fn:Int),.int .i64 hd,.int .i64 co,.int .u32 ini] 72)).alloc (.cells #[.slice rr1 n1 cc1,.slice rr2 n2 cc2,.slice (some ⟨b',o',none⟩) m c2,.slice rr4 n4 cc4,.slice ap f.params.length cp,.int .i64 f.result,.slice al f.locals.length cl,.slice ac f.code.length cc] 83)).drew)):=Ab (Ab HI.o.1 lR (Aa _ _)) lR (Ae _);have A1:Hid (Cd ((((w.alloc (.cells #[.slice rr1 n1 cc1,.slice rr2 n2 cc2,.slice (some ⟨b',o',none⟩) m c2,.slice rr4 n4 cc4] 35)).alloc (.cells #[.int .i64 (fn:Int),.int .i64 hd,.int .i64 co,.int .u32 ini] 72)).alloc (.cells #[.slice rr1 n1 cc1,.slice rr2 n2 cc2,.slice (some ⟨b',o',none⟩) m c2,.slice rr4 n4 cc4,.slice ap f.params.length cp,.int .i64 f.result,.slice al f.locals.length cl,.slice ac f.code.length cc] 83)).drew) (w.heap.size+1) (.int .i64 (fn:Int)) (.int .i64 hd) (.int .i64 co) (.int .u32 ini)):=(HI.o.2.alloc _).keep (Ae _)
   have A2:Hid (Jw ((((w.alloc (.cells #[.slice rr1 n1 cc1,.slice rr2 n2 cc2,.slice (some ⟨b',o',none⟩) m c2,.slice rr4 n4 cc4] 35)).alloc (.cells #[.int .i64 (fn:Int),.int .i64 hd,.int .i64 co,.int .u32 ini] 72)).alloc (.cells #[.slice rr1 n1 cc1,.slice rr2 n2 cc2,.slice (some ⟨b',o',none⟩) m c2,.slice rr4 n4 cc4,.slice ap f.params.length cp,.int .i64 f.result,.slice al f.locals.length cl,.slice ac f.code.length cc] 83)).drew) (w.heap.size+1+1) (.slice rr1 n1 cc1) (.slice rr2 n2 cc2) (.slice (some ⟨b',o',none⟩) m c2) (.slice rr4 n4 cc4) (.slice ap f.params.length cp) (.int .i64 f.result) (.slice al f.locals.length cl) (.slice ac f.code.length cc)):=by
    have:=(Jw.new ((w.alloc (.cells #[.slice rr1 n1 cc1,.slice rr2 n2 cc2,.slice (some ⟨b',o',none⟩) m c2,.slice rr4 n4 cc4] 35)).alloc (.cells #[.int .i64 (fn:Int),.int .i64 hd,.int .i64 co,.int .u32 ini] 72)) (.slice rr1 n1 cc1) (.slice rr2 n2 cc2) (.slice (some ⟨b',o',none⟩) m c2) (.slice rr4 n4 cc4) (.slice ap f.params.length cp) (.int .i64 f.result) (.slice al f.locals.length cl) (.slice ac f.code.length cc) 83).keep (Ae _);have hsz:((w.alloc (.cells #[.slice rr1 n1 cc1,.slice rr2 n2 cc2,.slice (some ⟨b',o',none⟩) m c2,.slice rr4 n4 cc4] 35)).alloc (.cells #[.int .i64 (fn:Int),.int .i64 hd,.int .i64 co,.int .u32 ini] 72)).heap.size=w.heap.size+1+1:=by simp
    rw[hsz]at this;exact this
   generalize (((w.alloc (.cells #[.slice rr1 n1 cc1,.slice rr2 n2 cc2,.slice (some ⟨b',o',none⟩) m c2,.slice rr4 n4 cc4] 35)).alloc (.cells #[.int .i64 (fn:Int),.int .i64 hd,.int .i64 co,.int .u32 ini] 72)).alloc (.cells #[.slice rr1 n1 cc1,.slice rr2 n2 cc2,.slice (some ⟨b',o',none⟩) m c2,.slice rr4 n4 cc4,.slice ap f.params.length cp,.int .i64 f.result,.slice al f.locals.length cl,.slice ac f.code.length cc] 83)).drew=W1 at B1 A1 A2⊢;have HK:Hid (Below w.heap.size w W1/\Cd W1 (w.heap.size+1) (.int .i64 (fn:Int)) (.int .i64 hd) (.int .i64 co) (.int .u32 ini)/\Jw W1 (w.heap.size+1+1) (.slice rr1 n1 cc1) (.slice rr2 n2 cc2) (.slice (some ⟨b',o',none⟩) m c2) (.slice rr4 n4 cc4) (.slice ap f.params.length cp) (.int .i64 f.result) (.slice al f.locals.length cl) (.slice ac f.code.length cc)):=⟨B1.o,A1.o,A2.o⟩
   clear B1 A1 A2 HI H2 j0 j1 j2 j3 k0 k1 k2 k3 nb nb2 nb3 mb hit x0 x1 x2 x3 hfm;have HC:Hid (C8 p ⟨fn,hd,co,ini⟩↔(0<=hd/\hd<(f.code.length:Int))/\(0<=co/\co<((f.params.length+f.locals.length:Nat):Int))/\(f.params++f.locals)[co.toNat]?=some 3):=Mm HF.o.2.2.2.2 hd co ini
   obtain⟨i0,i1,i2,i3⟩:=HK.o.2.1;obtain⟨g0,g1,g2,g3,g4,g5,g6,g7⟩:=HK.o.2.2;have hz3:=HF.o.2.2.2.1.2.2;go_wp2_with fail
   refine(Ay hd (f.code.length:Int) _).mono ?_;rintro e u ⟨rfl,rfl⟩;by_cases qA:0<=hd/\hd<(f.code.length:Int)
   . have hA:decide (0<=hd/\hd<(f.code.length:Int))=true:=decide_eq_true qA
     rw[hA];go_wp2_with fail
     refine(Ep (.slice rr1 n1 cc1) (.slice rr2 n2 cc2) (.slice (some ⟨b',o',none⟩) m c2) (.slice rr4 n4 cc4) ⟨.slice ap f.params.length cp,.slice al f.locals.length cl,.slice ac f.code.length cc⟩ f co _ HF.o.2.2.2.1 (HF.o.1.keep HK.o.1 lR)).mono ?_;rintro e u ⟨⟨bh,rfl,hbh⟩,bl⟩;have HQ:Hid (Below w.heap.size w u/\Cd u (w.heap.size+1) (.int .i64 (fn:Int)) (.int .i64 hd) (.int .i64 co) (.int .u32 ini)/\Jw u (w.heap.size+1+1) (.slice rr1 n1 cc1) (.slice rr2 n2 cc2) (.slice (some ⟨b',o',none⟩) m c2) (.slice rr4 n4 cc4) (.slice ap f.params.length cp) (.int .i64 f.result) (.slice al f.locals.length cl) (.slice ac f.code.length cc)):=⟨Ab HK.o.1 lR bl,HK.o.2.1.keep bl,HK.o.2.2.keep bl⟩
     clear bl HK i0 i1 i2 i3 g0 g1 g2 g3 g4 g5 g6 g7;cases bh
     . have HN:Hid (¬C8 p ⟨fn,hd,co,ini⟩):=fun e=>absurd (hbh.2 ⟨(HC.o.1 e).2.1.1,by have:=(HC.o.1 e).2.1.2;omega⟩) cU
       clear hbh qA hA;go_wp2
       go_ret
       exact⟨.no HN.o,HQ.o.1⟩
     . have hl:FP f co:=hbh.1 rfl
       obtain⟨k,rfl⟩:=aT hl.1;have hk:k<(f.params++f.locals).length:=by have:=hl.2;rw[aH];omega
       obtain⟨x,hx⟩:∃x,(f.params++f.locals)[k]?=some x:=⟨_,aA hk⟩
       have HY:Hid ((x==3)=true↔C8 p ⟨fn,hd,k,ini⟩):=by
        show _↔_;have h2:=hl.2;rw[HC.o,aG,hx];simp[qA];intro _;omega
       have HX:Hid ((f.params++f.locals)[k]?=some x):=hx;clear hbh qA hA hl hk hx HC;obtain⟨i0,i1,i2,i3⟩:=HQ.o.2.1;obtain⟨g0,g1,g2,g3,g4,g5,g6,g7⟩:=HQ.o.2.2;go_wp2_with fail
       refine(Jo (.slice rr1 n1 cc1) (.slice rr2 n2 cc2) (.slice (some ⟨b',o',none⟩) m c2) (.slice rr4 n4 cc4) ⟨.slice ap f.params.length cp,.slice al f.locals.length cl,.slice ac f.code.length cc⟩ f k x _ HF.o.2.2.2.1 (HF.o.1.keep HQ.o.1 lR) HX.o).mono ?_;rintro e u' ⟨rfl,bl⟩;have HE:Hid (Below w.heap.size w u'):=Ab HQ.o.1 lR bl;clear bl i0 i1 i2 i3 g0 g1 g2 g3 g4 g5 g6 g7;go_wp2
       go_ret
       exact⟨.of HY.o,HE.o⟩
   . have hA:decide (0<=hd/\hd<(f.code.length:Int))=false:=bI qA
     have HN:Hid (¬C8 p ⟨fn,hd,co,ini⟩):=fun e=>qA (HC.o.1 e).1
     rw[hA];clear qA;go_wp2
     go_ret
     exact⟨.no HN.o,HK.o.1⟩
 . have HN:Hid (¬C8 p ⟨fu,hd,co,ini⟩):=fun⟨f,h1,h2,_⟩=>q0 ⟨h2,by have:=(aD.1 h1).1;simp only[]at this h2;rw[HL.o]at this;omega⟩
   have hit:decide (0<=fu/\fu<(m:Int))=false:=bI q0
   clear H2;go_enter Tryz.func110,Tryz.ntmps110;go_wp2_with fail
   refine(Ay fu (m:Int) _).mono ?_;rintro e u ⟨rfl,rfl⟩;rw[hit];go_wp2
   go_ret
   exact⟨.no HN.o,HI.o.1⟩
structure GV where
 fc:Int
 fa:Int
 gb:Nat
 ob:Nat
 cb:Nat
 go:Nat
 oo:Nat
 co:Nat
 vi:Value
 vl:Value
 gi:Nat
 ci:Nat
 gc:Nat
 cc:Nat
def CW(x:Int):Prop:=0<=x/\x<=4294967295
structure Gr(w u:World)(G n:Nat)(x:GV)(bad:Bool)(I:List Nat)(C:List Int):Prop where
 blk:Ak u G #[iZ x.fc,iZ x.fa,sO x.gb x.ob n x.cb,sO x.go x.oo n x.co,x.vi,x.vl,sG x.gi n x.ci,sG x.gc n x.cc,.bool bad] 56
 lo:w.heap.size<=G
 is_:u.ownsRow w.heap.size 2 1 (sG x.gi n x.ci) n (nv I)
 cost:u.ownsRow w.heap.size 2 1 (sG x.gc n x.cc) n (C.flatMap Ac)
 ne:x.gi≠x.gc
 bel:Below w.heap.size w u
 il:I.length=n
 ib:∀y∈I,y<n
 cl:C.length=n
 cb:∀y∈C,CW y
structure GF(w:World)(n:Nat)(x:GV)(E:Nat->List Nat)(O:List Nat):Prop where
 gr:D6 w x.gb x.ob n E
 ord:∀k y:Nat,O[k]?=some y->w.cell? ⟨x.go,x.oo+k,none⟩=some (iZ (y:Int))
 ol:O.length=n
 ob:∀y∈O,y<n
 eb:∀b,b<n->∀y∈E b,y<n
 sz:∀b,(E b).length<=2
theorem Gr.keep{w u u':World}{G n:Nat}{x:GV}{bad:Bool}{I:List Nat}{C:List Int}(h:Gr w u G n x bad I C)(hb:Below u.heap.size u u'):Gr w u' G n x bad I C:={h with blk:=h.blk.keep hb,is_:=Ag h.is_ hb lR,cost:=Ag h.cost hb lR,bel:=Ab h.bel lR hb}
theorem Gr.gi_ne{w u:World}{G n:Nat}{x:GV}{bad:Bool}{I:List Nat}{C:List Int}(h:Gr w u G n x bad I C):x.gi≠G/\x.gc≠G:=by
 obtain⟨_,c1,e1⟩:=Am h.is_;obtain⟨_,c2,e2⟩:=Am h.cost;have e3:=h.blk;unfold Ak at e3;constructor
 . intro e
   rw[e,e3]at e1;cases e1
 . intro e
   rw[e,e3]at e2;cases e2
theorem Bf{u:World}{B g g' k n c i:Nat}{e:TypeId}{xs:List Value}{z:Value}(h:u.ownsRow B e k (sG g n c) n xs)(hne:g≠g'):(u.setCell ⟨g',i,none⟩ z).ownsRow B e k (sG g n c) n xs:=aP h (a:=⟨g',i,none⟩) (fun e=>hne (by simpa[Value.ownBlock]using e)) z
theorem Gr.bad_{w u:World}{G n:Nat}{x:GV}{bad:Bool}{I:List Nat}{C:List Int}(h:Gr w u G n x bad I C):Gr w (u.setCell ⟨G,8,none⟩ (.bool true)) G n x true I C:=
 {h with blk:=by have:=h.blk.set 8 (.bool true);simpa using this,is_:=Bf h.is_ h.gi_ne.1,cost:=Bf h.cost h.gi_ne.2,bel:=h.bel.setCell h.lo _}
theorem Gr.other{w u:World}{G n g i:Nat}{x:GV}{bad:Bool}{I:List Nat}{C:List Int}{z:Value}(h:Gr w u G n x bad I C)(hg:w.heap.size<=g)(h1:g≠G)(h2:g≠x.gi)(h3:g≠x.gc):Gr w (u.setCell ⟨g,i,none⟩ z) G n x bad I C:=
 {h with blk:=h.blk.other (a:=⟨g,i,none⟩) (fun e=>h1 e.symm) _,is_:=Bf h.is_ h2.symm,cost:=Bf h.cost h3.symm,bel:=h.bel.setCell hg _}
theorem Gr.cells{w u:World}{G n:Nat}{x:GV}{bad:Bool}{I:List Nat}{C:List Int}(h:Gr w u G n x bad I C):u.cell? ⟨G,2,none⟩=some (sO x.gb x.ob n x.cb)/\u.cell? ⟨G,3,none⟩=some (sO x.go x.oo n x.co)/\u.cell? ⟨G,6,none⟩=some (sG x.gi n x.ci)/\u.cell? ⟨G,7,none⟩=some (sG x.gc n x.cc)/\u.cell? ⟨G,8,none⟩=some (.bool bad)/\u.frozen? ⟨G,8,none⟩=false:=
 ⟨by rw[h.blk.cell];rfl,by rw[h.blk.cell];rfl,by rw[h.blk.cell];rfl,by rw[h.blk.cell];rfl,by rw[h.blk.cell];rfl,h.blk.frozen 8⟩
theorem Gr.isAt{w u:World}{G n:Nat}{x:GV}{bad:Bool}{I:List Nat}{C:List Int}(h:Gr w u G n x bad I C){b:Nat}(hb:b<n):∃y,I[b]?=some y/\y<n/\u.cell? ⟨x.gi,b,none⟩=some (iZ (y:Int)):=by
 have hb':b<I.length:=by rw[h.il];exact hb
 have:=cD h.is_ b (by omega);rw[JN (aA hb')]at this;exact⟨_,aA hb',h.ib _ (bq hb'),this⟩
theorem Ew{C:List Int}{b:Nat}{y:Int}(h:C[b]?=some y):(C.flatMap Ac)[b]?=some (iZ y):=by
 have:C.flatMap Ac=C.map (Value.int .i64):=by
  induction C generalizing b with
  |nil=>rfl
  | cons x r ih=>
    have:List.flatMap Ac r=List.map (Value.int .i64) r:=by
     clear ih h;induction r with
     |nil=>rfl
     |cons x r ih=>rw[bT,ih];rfl
    rw[bT,this];rfl
 rw[this,bB,h];rfl
theorem Gr.costAt{w u:World}{G n:Nat}{x:GV}{bad:Bool}{I:List Nat}{C:List Int}(h:Gr w u G n x bad I C){b:Nat}(hb:b<n):∃y,C[b]?=some y/\CW y/\u.cell? ⟨x.gc,b,none⟩=some (iZ y):=by
 have hb':b<C.length:=by rw[h.cl];exact hb
 have:=cD h.cost b (by omega);rw[Ew (aA hb')]at this;exact⟨_,aA hb',h.cb _ (bq hb'),this⟩
theorem GF.at_{w u:World}{n:Nat}{x:GV}{E:Nat->List Nat}{O:List Nat}(h:GF w n x E O)(hb:Below w.heap.size w u):(∀k,k<n->∃y:Nat,y<n/\u.cell? ⟨x.go,x.oo+k,none⟩=some (iZ (y:Int)))/\D6 u x.gb x.ob n E:=
 ⟨fun k hk=>⟨O[k]'(by rw[h.ol];exact hk),h.ob _ (bq _),Ad hb (h.ord k _ (aA _))⟩,h.gr.keep hb⟩
structure Cq(w:World)(base:Nat)(vb vo vi vl:Value)(F:List (MB×Value))(ys:List (ML×Value×Value))(r:Dm):Prop where
 brow:w.ownsRow base 58 3 vb F.length (F.flatMap A9)
 lrow:w.ownsRow base 68 3 vl ys.length (ys.flatMap Ba)
 fam:Cc w base (Cw F++(vo,r.order)::(vi,r.idom)::Df ys)
 eb:F.map Prod.fst=r.blocks
 el:ys.map Prod.fst=r.loops
theorem Cq.none(w:World)(base:Nat)(c a:Int):Cq w base (.slice none 0 0) (.slice none 0 0) (.slice none 0 0) (.slice none 0 0) [] [] (Dc c a):=by
 refine⟨bL _ _ _ _,bL _ _ _ _,⟨fun x hx=> ?_,?_⟩,rfl,rfl⟩
 . simp[Cw,Df,Dc]at hx
   rcases hx with rfl|rfl<;>exact bL _ _ _ _
 . refine List.Pairwise.cons ?_ (List.Pairwise.cons ?_ List.Pairwise.nil)
   . intro y _ g hg
     cases hg
   . intro y _ g hg
     cases hg
theorem Cc.ranges{w:World}{B M:Nat}{A C:List (Value×List Int)}(hA:Cc w B A)(hC:Cc w M C)(hBM:B<=M)(hlt:∀x∈A,∀g,x.1.ownBlock=some g->g<M):Cc w B (A++C):=by
 refine⟨fun x hx=> ?_,dB.2 ⟨hA.sep,hC.sep,fun a ha c hc g hg e=> ?_⟩⟩
 . rcases aU.1 hx with q|q
   . exact hA.own x q
   . exact AF (hC.own x q) hBM
 . have h1:=hlt a ha g hg
   have h2:=((hC.own c hc).lt g e).1;omega
theorem Oe{w:World}{B M:Nat}{ys:List (ML×Value×Value)}(hA:Cc w B (ys.map fun y=>(y.2.1,y.1.back)))(hC:Cc w M (ys.map fun y=>(y.2.2,y.1.blocks)))(hBM:B<=M)(hlt:∀y∈ys,∀g,y.2.1.ownBlock=some g->g<M):Cc w B (Df ys):=by
 have hx:∀y∈ys,∀z∈ys,FN (y.2.1,y.1.back) (z.2.2,z.1.blocks):=fun y hy z hz g hg e=>by
  have h1:=hlt y hy g hg;have h2:=((hC.own (z.2.2,z.1.blocks) (au.2 ⟨z,hz,rfl⟩)).lt g e).1;omega
 refine⟨fun x hx'=> ?_,?_⟩
 . obtain⟨y,hy,q⟩:=dO.1 hx'
   simp only[aa,ao,cH]at q;rcases q with rfl|rfl
   . exact hA.own _ (au.2 ⟨y,hy,rfl⟩)
   . exact AF (hC.own _ (au.2 ⟨y,hy,rfl⟩)) hBM
 . have hs1:=dH.1 hA.sep
   have hs2:=dH.1 hC.sep;clear hA hC hlt;unfold Df;induction ys with
   |nil=>exact List.Pairwise.nil
   | cons y r ih=>
     obtain⟨a1,a2⟩:=bS.1 hs1;obtain⟨b1,b2⟩:=bS.1 hs2;have ih':=ih (fun y' hy' z hz=>hx y' (bK _ hy') z (bK _ hz)) a2 b2;rw[bT];refine dB.2 ⟨?_,ih',fun p hp q hq=> ?_⟩
     . refine List.Pairwise.cons (fun z hz=> ?_) (by simp)
       simp only[aa,ao,cH]at hz;subst hz;exact hx y (bR ..) y (bR ..)
     . obtain⟨z,hz,hq'⟩:=dO.1 hq
       simp only[aa,ao,cH]at hp hq';rcases hp with rfl|rfl
       . rcases hq' with rfl|rfl
         . exact a1 z hz
         . exact hx y (bR ..) z (bK _ hz)
       . rcases hq' with rfl|rfl
         . exact(hx z (bK _ hz) y (bR ..)).symm
         . exact b1 z hz
theorem Ec{E:Nat->List Nat}{S O:List Nat}(h:Vs E [] [] [0] S O)(x:Nat):x∈S↔x∈O:=by
 obtain⟨N,t⟩:=h.told;have:O=N:=by simpa using t.o
 subst this;rw[t.seen x];simp
theorem Eu.ints{w:World}{base:Nat}{V:Value}{F:List (MB×Value)}{bs:List MB}{gb ob cb n:Nat}(h:Eu w base V F)(hF:F.map Prod.fst=bs)(hV:V=.slice (some ⟨gb,ob,none⟩) n cb)(hn:n=bs.length):∀b,b<n->∃f l:Int,w.cell? ⟨gb,ob+b*3,none⟩=some (.int .i64 f)/\w.cell? ⟨gb,ob+b*3+1,none⟩=some (.int .i64 l):=fun b hb=>by
 have hl:F.length=n:=by rw[hn,<-hF,a7]
 have hr:=Rd.of_own h.row;rcases hr.2 with⟨e0,_⟩|⟨g,o,c,e1,hc⟩
 . omega
 . rw[hV]at e1
   simp only[aF,aR,cR,cw]at e1;obtain⟨⟨rfl,rfl⟩,_,rfl⟩:=e1;obtain⟨x,hx⟩:∃x,F[b]?=some x:=⟨_,aA (by omega)⟩;have i0:=Rd.elem AJ hc b _ hx 0 _ rfl;have i1:=Rd.elem AJ hc b _ hx 1 _ rfl;rw[aS]at i0;exact⟨_,_,i0,i1⟩
theorem Pw{E:Nat->List Nat}{n:Nat}{S O:List Nat}(hn:0<n)(hE:∀b,b<n->∀x∈E b,x<n)(h:Vs E [] [] [0] S O):(∀x∈O,x<n)/\O.Nodup/\O.length<=n/\∀x∈O,CJ E (fun _=>True) 0 x:=by
 obtain⟨N,t⟩:=h.told;have:O=N:=by simpa using t.o
 subst this
 have hr:∀x∈O,CJ E (fun _=>True) 0 x:=fun x hx=>by
  obtain⟨q,q1,q2⟩:=t.from_ x hx;have:q=0:=by simpa using q1
  subst this;exact q2.mono fun _ _=>trivial
 have hl:∀x∈O,x<n:=fun x hx=>(hr x hx).lt hE hn
 refine⟨hl,t.nodup,?_,hr⟩;have:=Eb O n hl t.nodup;omega
theorem Qa{w:World}{base k n c g:Nat}{e:TypeId}{xs:List Value}(h:w.ownsRow base e k (.slice (some ⟨g,0,none⟩) n c) n xs):n<=c:=by
 rcases h.2 with⟨h',_⟩|⟨g',cap',cur,h',_,_,h3,_⟩
 . cases h'
 . cases h'
   exact h3
structure GD(w1 u:World)(n G gN cN gF gO cO gP gi:Nat)(E:Nat->List Nat)(O:List Nat)(I:Nat->Int):Prop where
 blk:Ak u G #[.slice (some ⟨gN,0,none⟩) n cN,.slice (some ⟨gF,0,none⟩) n n,.slice (some ⟨gO,0,none⟩) n cO,.slice (some ⟨gP,0,none⟩) n n,.slice (some ⟨gi,0,none⟩) n n] 161
 nx:CK u gN 0 n E
 fr:CK u gF 0 n (AV E n)
 ord:DQ u w1.heap.size (.slice (some ⟨gO,0,none⟩) n cO) O.reverse
 gi_:GI u G n gP n gi n (B8 O) I
 idom:u.ownsRow w1.heap.size 2 1 (.slice (some ⟨gi,0,none⟩) n n) n (zv I n)
 bel:Below w1.heap.size w1 u
 ne:gO≠gi
theorem GD.keep{w1 u u':World}{n G gN cN gF gO cO gP gi:Nat}{E:Nat->List Nat}{O:List Nat}{I:Nat->Int}(h:GD w1 u n G gN cN gF gO cO gP gi E O I)(hb:Below u.heap.size u u'):GD w1 u' n G gN cN gF gO cO gP gi E O I:=⟨h.blk.keep hb,h.nx.keep hb,h.fr.keep hb,h.ord.keep hb,h.gi_.keep hb,Ag h.idom hb lR,Ab h.bel lR hb,h.ne⟩
theorem GD.of{w1 u3 u4 u5:World}{n G gN cN gF gO cO gP gi:Nat}{E:Nat->List Nat}{S O:List Nat}{I:Nat->Int}(h:GM w1 u3 n G gN cN gF gO cO gP E S O)(hO:O.length=n)(hOm:∀x,x∈O↔x<n)(hb:Below u3.heap.size u3 u4)(hd:DW u4 u5 G n #[.slice (some ⟨gN,0,none⟩) n cN,.slice (some ⟨gF,0,none⟩) n n,.slice (some ⟨gO,0,none⟩) n cO,.slice (some ⟨gP,0,none⟩) n n] gi I):GD w1 u5 n G gN cN gF gO cO gP gi E O I:=by
 obtain⟨x0,x1,x2,x3,e,kk⟩:=hd.blk;simp only[Array.mk.injEq,dN,cw]at e;obtain⟨rfl,rfl,rfl,rfl⟩:=e
 have hn0:∀(g b:Nat),g≠G->g<u3.heap.size->u4.cell? ⟨g,b,none⟩=u3.cell? ⟨g,b,none⟩:=fun g b _ hl=>by
  unfold World.cell?;rw[hb.block g hl]
 have fx:∀k,k<u4.heap.size->k∉[G]->u5.heap[k]?=u4.heap[k]?:=fun k hk hne=>hd.fx k hk (by simpa using hne)
 have hord:DQ u4 w1.heap.size (.slice (some ⟨gO,0,none⟩) n cO) O.reverse:=by
  have:=h.ord.keep hb;rw[hO]at this;exact this
 have hgl:∀(g:Nat) {E':Nat->List Nat},CK u3 g 0 n E'->n≠0->g<u3.heap.size:=fun g E' q hne=>by
  obtain⟨a,c,h1,_⟩:=q 0 (by omega);exact aC h1
 refine⟨kk,(h.nx.keep hb).fxs fx (by simpa using h.ne.1) (fun b a m c hb' hc hm=> ?_),(h.fr.keep hb).fxs fx (by simpa using h.ne.2.1) (fun b a m c hb' hc hm=> ?_),hord.fx hd.fx (fun g hg=>by simp only[Value.ownBlock,aR]at hg;rw[<-hg];exact h.ne.2.2.1),⟨kk.cell 3,kk.cell 4,fun x hx=>hd.cell (Ad hb (h.pl x ((hOm x).2 hx))) h.ne.2.2.2,fun x hx=> ?_⟩,AF hd.row (aY h.bel.size hb.size),?_,?_⟩
 . rw[hn0 gN b h.ne.1 (hgl gN h.nx (by omega))]at hc
   simpa using h.nn b a m c hb' hc hm
 . rw[hn0 gF b h.ne.2.1 (hgl gF h.fr (by omega))]at hc
   simpa using h.nf b a m c hb' hc
 . have:=hd.row.cellAt x (by omega)
   rw[L7 _ _ _ hx]at this;exact this
 . exact(Ab h.bel lR hb).trans (hd.bel.mono h.ge)
 . have h1:=(Am hd.row).1
   have:=(hord.lt gO rfl).2;omega
theorem N6{E:Nat->List Nat}{n:Nat}{pl:Nat->Nat}{I:Nat->Int}(h:Hm E n pl I)(b:Nat)(hb:b<n):(b=0/\I b=-1)\/b≠0/\∃c:Nat,c<n/\I b=(c:Int)/\DO E b c:=by
 by_cases e:b=0
 . exact .inl ⟨e,by rw[e];exact h.z⟩
 . obtain⟨c,c1,c2,c3,_⟩:=h.dinv.tree.up b hb e ((h.all b hb).resolve_left e)
   refine .inr ⟨e,c,c2,c1,fun q=>by rw[q]at c3;omega,(h.dom c b hb).1 (.up e c1 .here),fun d hd hdom=> ?_⟩;obtain⟨_,c',e1,e2⟩:=((h.dom d b hb).2 hdom).cases' hd;obtain rfl:c'=c:=by omega
   exact(h.dom d c' c2).1 e2
theorem Cc.sub{w:World}{B:Nat}{A C:List (Value×List Int)}(h:Cc w B C)(hs:List.Sublist A C):Cc w B A:=⟨fun x hx=>h.own x (hs.subset hx),h.sep.sublist hs⟩
theorem Cc.low{w:World}{B b:Nat}{A:List (Value×List Int)}(h:Cc w B A)(hb:b<=B):Cc w b A:=⟨fun x hx=>AF (h.own x hx) hb,h.sep⟩
theorem Cc.six{w:World}{B b:Nat}{A:List (Value×List Int)}(h:Cc w B A)(hb:b<B)(x0 x1 x2 x3 x4 x5:Value):Cc (six w b x0 x1 x2 x3 x4 x5) B A:=⟨fun x hx=>Hk (h.own x hx) (MZ (h.own x hx) hb) _ _ _ _ _ _,h.sep⟩
theorem Ok{w u1 u2 u5 u6 u7:World}{n G gN cN gF gO cO gP gi gB cL:Nat}{E:Nat->List Nat}{O:List Nat}{I:Nat->Int}{vb:Value}{aL:Option Addr}{F:List (MB×Value)}{FS:List (Value×List Nat)}{ys:List (ML×Value×Value)}{bs:List MB}{ls:List ML}(hb:Eu u1 (w.heap.size+1) vb F)(hF:F.map Prod.fst=bs)(hw1:w.heap.size<u1.heap.size)(h12:u1.heap.size<=u2.heap.size)(hb6:Below u1.heap.size u1 u6)(hd5:GD u2 u5 n G gN cN gF gO cO gP gi E O I)(hd6:GD u2 u6 n G gN cN gF gO cO gP gi E O I)(hO:O.length=n)(hb56:Below u5.heap.size u5 u6)(hbk:BK u5 u6 n gB FS)(hb7:Below u6.heap.size u6 u7)(hlp:LP u6.drew u7 (.slice aL ys.length cL) ys)(hys:ys.map Prod.fst=ls)(hsub:List.Sublist (ys.map fun y=>(y.2.1,y.1.back)) (FS.map fun x=>(x.1,ints x.2)))(v0 v1 v2 v3 v4 v5:Value):Cq (six u7 w.heap.size v0 v1 v2 v3 v4 v5) w.heap.size vb (.slice (some ⟨gO,0,none⟩) n cO) (.slice (some ⟨gi,0,none⟩) n n) (.slice aL ys.length cL) F ys ⟨0,0,bs,ints O.reverse,(List.range n).map I,ls⟩:=by
 have hb17:Below u1.heap.size u1 u7:=Ab hb6 lR hb7;have s25:u2.heap.size<=u5.heap.size:=hd5.bel.size;have s56:=hb56.size;have hd7:=hd6.keep hb7;have A0:Cc u7 (w.heap.size+1) (Cw F):=hb.fam.keepB hb17
 have hO7:u7.ownsRow u2.heap.size 2 1 (.slice (some ⟨gO,0,none⟩) n cO) (ints O.reverse).length ((ints O.reverse).flatMap Ac):=by
  have:=hd7.ord;unfold DQ at this;rw[Ck,<-AA]at this;exact this
 have hI7:u7.ownsRow u2.heap.size 2 1 (.slice (some ⟨gi,0,none⟩) n n) ((List.range n).map I).length (((List.range n).map I).flatMap Ac):=by
  have:=hd7.idom;rw[Qi]at this;rw[a7,bo];exact this
 have A1:Cc u7 u2.heap.size [((.slice (some ⟨gO,0,none⟩) n cO:Value),ints O.reverse),(.slice (some ⟨gi,0,none⟩) n n,(List.range n).map I)]:=by
  refine⟨fun x hx=> ?_,?_⟩
  . simp only[aa,ao,cH]at hx
    rcases hx with rfl|rfl
    . exact hO7
    . exact hI7
  . refine List.Pairwise.cons (fun y hy=> ?_) (by simp)
    simp only[aa,ao,cH]at hy;subst hy;intro g hg e;simp only[Value.ownBlock,aR]at hg e;exact hd6.ne (by rw[hg,e])
 have A2:Cc u7 u5.heap.size (Df ys):=by
  refine Oe ((hbk.fam.keepB hb7).sub hsub) hlp.fam hb56.size fun y hy g hg=> ?_
  have hm:=hsub.subset (au.2 ⟨y,hy,rfl⟩);exact((hbk.fam.own _ hm).lt g hg).2
 have A12:Cc u7 u2.heap.size ([((.slice (some ⟨gO,0,none⟩) n cO:Value),ints O.reverse),(.slice (some ⟨gi,0,none⟩) n n,(List.range n).map I)]++Df ys):=by
  refine A1.ranges A2 s25 fun x hx g hg=> ?_
  simp only[aa,ao,cH]at hx;rcases hx with rfl|rfl
  . exact(hd5.ord.lt g hg).2
  . exact(hd5.idom.lt g hg).2
 have A012:=A0.ranges A12 (by omega) (fun x hx g hg=>by
  have:=((hb.fam.own x hx).lt g hg).2;omega)
 have hbr:=Ag hb.row hb17 lR;have hlr:u7.ownsRow u6.heap.size 68 3 (.slice aL ys.length cL) ys.length (ys.flatMap Ba):=hlp.lps;refine⟨AF (Hk hbr (MZ hbr (d9 _)) _ _ _ _ _ _) (Nat.le_succ _),AF (Hk hlr (MZ hlr (by omega)) _ _ _ _ _ _) (by omega),?_,hF,hys⟩;exact(A012.six (d9 _) v0 v1 v2 v3 v4 v5).low (Nat.le_succ _)
end Go.Proofs.YtdipfjmlfbdkdaaGreat
