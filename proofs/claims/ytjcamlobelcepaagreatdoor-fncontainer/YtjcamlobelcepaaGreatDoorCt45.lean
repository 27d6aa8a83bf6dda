import Derived.Test.YtjcamlobelcepaaGreatDoorCt44
namespace Go.Proofs.YtjcamlobelcepaaGreatDoor
open Go.ChangeShapes Go.WideShapes Go.ChangeAt Go.RowKit
set_option linter.unusedVariables false
set_option maxHeartbeats 4000000
set_option maxRecDepth 100000
structure L6(w u:World)(v:VP)(g:VF)(f:MF)(x:MI)(N:Nat)(T S:Value)(ts gs:List Int)(shv:Value)(sh:List Int):Prop where
 in3:Qc w u v g f x.op x.a x.b x.c
 eb:Ap u N #[T,S] 237
 tr:Rd u 1 T ts.length (ts.flatMap Ac)
 gr:Rd u 1 S gs.length (gs.flatMap Ac)
 sr:Rd u 1 shv sh.length (sh.flatMap Ac)
theorem L6.keep{w u u':World}{v:VP}{g:VF}{f:MF}{x:MI}{N:Nat}{T S:Value}{ts gs:List Int}{shv:Value}{sh:List Int}(h:L6 w u v g f x N T S ts gs shv sh)(hb:Below u.heap.size u u'):L6 w u' v g f x N T S ts gs shv sh:=⟨h.in3.keep hb,h.eb.keep hb,h.tr.keep hb lR,h.gr.keep hb lR,h.sr.keep hb lR⟩
theorem LW{u:World}{a:Option Addr}{n c:Nat}{zs:List Int}(h:Rd u 1 (.slice a n c) zs.length (zs.flatMap Ac))(hn:n=zs.length){i:Nat}{z:Int}(hz:zs[i]?=some z):∃gg oo,a=some ⟨gg,oo,none⟩/\u.cell? ⟨gg,oo+i,none⟩=some (iZ z):=by
 have hi:=(aE.1 hz).1;rcases h.2 with⟨e,_⟩|⟨gg,oo,cc,e,hc⟩
 . omega
 . simp only[aI]at e
   have j2:=Rd.elem Al hc i _ hz 0 _ rfl;rw[bR,aT]at j2;exact⟨gg,oo,e.1,j2⟩
def TN(p:MP)(f:MF)(x:MI)(sh:List Int)(w:World)(e:Ending)(w':World):Prop:=∃V,e=.returned (.tuple #[V,iZ (CK p f x sh)])/\(CK p f x sh=0->w'.ownsRow w.heap.size 2 1 V (Hq p f x sh).length ((Hq p f x sh).flatMap Ac))/\Below w.heap.size w w'
theorem KY{sh:List Int}{n j:Nat}{u:Value}(h:((sh.take n).flatMap Ac)[j]?=some u):(sh.flatMap Ac)[j]?=some u:=by
 have e:sh.flatMap Ac=(sh.take n).flatMap Ac++(sh.drop n).flatMap Ac:=by rw[<-a8,dP]
 rw[e,bS (aE.1 h).1];exact h
def Up(low:Nat)(sh:List Int)(t:Int):Int:=if t=0 then(sh[low]?).getD 0 else t
def DT(low:Nat)(sh gs:List Int)(k:Nat):List Int:=sh.take low++(gs.take k).map (Up low sh)
theorem Lg{low:Nat}{sh gs:List Int}{k:Nat}{t:Int}(h:gs[k]?=some t):DT low sh gs (k+1)=DT low sh gs k++[Up low sh t]:=by
 unfold DT;obtain⟨hlt,rfl⟩:=aE.1 h;rw[aj hlt,dK,a6];rfl
theorem Q3{p:MP}{f:MF}{x:MI}{low:Nat}{sh gs:List Int}(h:QX p f x sh=low)(hg:Ay p f x=gs):DT low sh gs gs.length=Hq p f x sh:=by
 unfold DT Hq;rw[h,hg,List.take_length];rfl
theorem Nq{low:Nat}{sh gs:List Int}{k:Nat}(hl:low<=sh.length)(hk:k<=gs.length):(DT low sh gs k).length=low+k:=by
 unfold DT;rw[aH,b9,bB,b9];omega
theorem OW(u:World)(z:Int):∀j v,[(iZ z:Value)][j]?=some v->(u.alloc (.cells #[iZ z] 2)).cell? ((⟨u.heap.size,0,none⟩:Addr).add j)=some v:=fun j v hj=>by
 rw[Ds,bV,cu _ _ _ _ _ _ (GA u #[iZ z] 2)];simpa using hj
theorem RP{p:MP}{f:MF}{x:MI}{sh ts:List Int}(e:Au p f x=ts)(h:sh.length<ts.length):CK p f x sh=1:=by unfold CK;rw[e,bj h]
theorem TY{W0 wr w5:World}{gs sh:List Int}{low k cap oc:Nat}{oa:Option Addr}{g5:Nat}{z:Int}(ho:wr.ownsRow W0.heap.size 2 1 (.slice oa (low+k) oc) (low+k) ((DT low sh gs k).flatMap Ac))(h:Below W0.heap.size W0 wr)(hg:DT low sh gs (k+1)=DT low sh gs k++[z])(hn:w5.ownsRow W0.heap.size 2 1 (sG g5 (low+k+1) cap) (low+k+1) ((DT low sh gs k).flatMap Ac++[iZ z]))(hgr:(wr.alloc (.cells #[iZ z] 2)).grownBy w5 (Value.slice oa (low+k) oc).ownBlock):Hid (w5.ownsRow W0.heap.size 2 1 (sG g5 (low+(k+1)) cap) (low+(k+1)) ((DT low sh gs (k+1)).flatMap Ac)/\Below W0.heap.size W0 w5):=by
 refine⟨?_,(h.alloc h.size _).grown hgr (by rw[dC];have:=h.size;omega) (fun j hj=>(ho.lt j hj).1)⟩;rw[hg,a8,<-Nat.add_assoc];simpa[Ac]using hn
theorem Ob (v :VP)(p:MP)(g:VF)(f:MF)(x:MI)(shv:Value)(sh:List Int)(w:World)(hs:p.small)(h3:p.regions.length=3)(hfs:f.small)(hxw:x.wf)(h:Ej w v p)(hf:EI w g f)(hx:AH p f x)(hsh:Rd w 1 shv sh.length (sh.flatMap Ac))(hl:sh.length<=1048576)(hcap:∀a c,shv=.slice a sh.length c->sh.length<=c)(hzz:∀t∈Ay p f x,t=0->0<(Au p f x).length)(hgl:(Ay p f x).length<=2):
 Calls Tryz.prog 132 #[.agg #[v.r,v.k,v.f,v.t],.agg #[g.p,iZ f.result,g.l,g.c],.agg #[iZ x.op,iZ x.a,iZ x.b,iZ x.c],shv] w (TN p f x sh w):=by
 obtain⟨r1,r3,k1,k3,t1,t3,f1,f3,rfl⟩:=h.sl;obtain⟨g1,g3,g4,g6,g7,g9,rfl⟩:=Gv hf;obtain⟨sa,sc,rfl⟩:=hsh.is_slice;obtain⟨i0,hi,hy0,hy1,hy2⟩:=bJ CF;have hcp:=hcap sa sc rfl;clear hcap;have H:=Af (aG hs (aG h3 (aG hfs (aG hxw (aG h (aG hf (aG hx hsh)))))));clear hs h3 hfs hxw h hf hx hsh;have E0:=Af (Qc.of w ⟨.slice r1 p.regions.length r3,.slice k1 p.consts.length k3,.slice f1 p.funcs.length f3,.slice t1 p.certs.length t3⟩ ⟨.slice g1 f.params.length g3,.slice g4 f.locals.length g6,.slice g7 f.code.length g9⟩ f x.op x.a x.b x.c);go_enter Tryz.func132,Tryz.ntmps132;go_upto_region 1 with fail
 refine An (fun u=>Hid (Qc w u ⟨.slice r1 p.regions.length r3,.slice k1 p.consts.length k3,.slice f1 p.funcs.length f3,.slice t1 p.certs.length t3⟩ ⟨.slice g1 f.params.length g3,.slice g4 f.locals.length g6,.slice g7 f.code.length g9⟩ f x.op x.a x.b x.c)) E0 ?_;rintro U0 E1;clear E0;obtain⟨p0,p1,p2,p3⟩:=E1.o.prog;obtain⟨q0,q1,q2,q3⟩:=E1.o.func;obtain⟨x0,x1,x2,x3⟩:=E1.o.ins;go_wp2_with fail
 refine(QR ⟨.slice r1 p.regions.length r3,.slice k1 p.consts.length k3,.slice f1 p.funcs.length f3,.slice t1 p.certs.length t3⟩ p ⟨.slice g1 f.params.length g3,.slice g4 f.locals.length g6,.slice g7 f.code.length g9⟩ f x U0 H.o.1 H.o.2.1 H.o.2.2.1 H.o.2.2.2.1 (H.o.2.2.2.2.1.keep E1.o.bel lR) (H.o.2.2.2.2.2.1.keep E1.o.bel lR) H.o.2.2.2.2.2.2.1).mono ?_;rintro e u1 ⟨Tv,Sv,rfl,tr,gr,b1⟩;obtain⟨ta,tc,rfl⟩:=tr.is_slice;obtain⟨ga,gc,rfl⟩:=gr.is_slice;generalize hts:Au p f x=ts at tr gr⊢;generalize hgs:Ay p f x=gs at gr⊢;rw[hts,hgs]at hzz;rw[hgs]at hgl;have HZZ:Hid ((∀t∈gs,t=0->0<ts.length)/\gs.length<=2/\sh.length<=sc):=⟨hzz,hgl,hcp⟩
 have HTS:=Af (aG hts hgs);clear hts hgs p0 p1 p2 p3 q0 q1 q2 q3 x0 x1 x2 x3
 have E2:Hid (L6 w (u1.alloc (.cells #[.slice ta ts.length tc,.slice ga gs.length gc] 237)) ⟨.slice r1 p.regions.length r3,.slice k1 p.consts.length k3,.slice f1 p.funcs.length f3,.slice t1 p.certs.length t3⟩ ⟨.slice g1 f.params.length g3,.slice g4 f.locals.length g6,.slice g7 f.code.length g9⟩ f x u1.heap.size (.slice ta ts.length tc) (.slice ga gs.length gc) ts gs (.slice sa sh.length sc) sh):=by
  have b2:=Aa u1 (.cells #[.slice ta ts.length tc,.slice ga gs.length gc] 237);exact⟨(E1.o.keep b1).keep b2,Ap.new _ _ _,tr.keep b2 lR,gr.keep b2 lR,(H.o.2.2.2.2.2.2.2.keep (Ab E1.o.bel lR b1) lR).keep b2 lR⟩
 clear tr gr b1 E1;go_upto_region 2 with fail
 generalize u1.heap.size=N at E2⊢;refine An (fun u=>Hid (L6 w u ⟨.slice r1 p.regions.length r3,.slice k1 p.consts.length k3,.slice f1 p.funcs.length f3,.slice t1 p.certs.length t3⟩ ⟨.slice g1 f.params.length g3,.slice g4 f.locals.length g6,.slice g7 f.code.length g9⟩ f x N (.slice ta ts.length tc) (.slice ga gs.length gc) ts gs (.slice sa sh.length sc) sh)) E2 ?_;rintro U E3;clear E2;have e0:=E3.o.eb.cell 0;have e1:=E3.o.eb.cell 1;simp only[aQ,aJ,aL]at e0 e1;have hbel:=Af E3.o.in3.bel;by_cases hfew:sh.length<ts.length
 . have hfew':(sh.length:Int)<(ts.length:Int):=by omega
   have HC:=Af (RP HTS.o.1 hfew);clear hfew;go_wp2_with fail
   exact aW (v:=.tuple #[sN,iZ 1]) (by simp[results,Tryz.results132,go_sem]) rfl ⟨sN,by rw[HC.o],fun e=>by rw[HC.o]at e;exact absurd e (by decide),hbel.o⟩
 obtain⟨low,hlow⟩:∃low:Nat,sh.length=low+ts.length:=⟨sh.length-ts.length,by omega⟩;have HLT:Hid (QX p f x sh=low):=by show sh.length-(Au p f x).length=low;rw[HTS.o.1];omega
 have hfew':¬(sh.length:Int)<(ts.length:Int):=by omega
 have HLO:=Af hlow;clear hlow;go_upto_region 6 with fail
 rw[show(sh.length:Int)-(ts.length:Int)=(low:Int)by have:=HLO.o;omega];have hw1:wrap64 ((ts.length:Int)-1)=(ts.length:Int)-1:=IntWalk.wrap64_in _ (by have:=HLO.o;omega);clear hfew hfew' e0 e1;go_wp2;rw[hw1];go_loopw [13] (fun i wr=>∃(q:Nat) (z:Int),q<=ts.length/\i=iZ z/\z+1=q/\Hid (∀(k:Nat) s t,q<=k->(sh.drop low)[k]?=some s->ts[k]?=some t->t=0\/s=t)/\Hid (L6 w wr ⟨.slice r1 p.regions.length r3,.slice k1 p.consts.length k3,.slice f1 p.funcs.length f3,.slice t1 p.certs.length t3⟩ ⟨.slice g1 f.params.length g3,.slice g4 f.locals.length g6,.slice g7 f.code.length g9⟩ f x N (.slice ta ts.length tc) (.slice ga gs.length gc) ts gs (.slice sa sh.length sc) sh)) (fun i _=>(intOf i+1).toNat)
 case atStart=>exact⟨ts.length,(ts.length:Int)-1,by omega,rfl,by omega,fun k s t hk _ ht=>absurd (aE.1 ht).1 (by omega),E3⟩
 case round =>
  clear E3 hbel;obtain⟨q,z,hq,rfl,hz,HF,HI⟩:=hrel;have hlo:=HLO.o;have e0:=HI.o.eb.cell 0;have e1:=HI.o.eb.cell 1;simp only[aQ,aJ,aL]at e0 e1;by_cases hq0:q=0
  . obtain rfl:z=-1:=by omega
    have HFT:=Af ((KW (by rw[cH];omega)).2 (fun k s t h1 h2=>HF.o k s t (by omega) h1 h2));clear HF hq0 hz hq hlo;obtain⟨q0,q1,q2,q3⟩:=HI.o.in3.func;obtain⟨x0,x1,x2,x3⟩:=HI.o.in3.ins;go_upto_region 11 with fail
    go_cut [67] (fun s wx=>∃bb:Bool,s=.bool bb/\Hid (bb=true↔(x.op=27/\AA f x.a≠3))/\Hid (L6 w wx ⟨.slice r1 p.regions.length r3,.slice k1 p.consts.length k3,.slice f1 p.funcs.length f3,.slice t1 p.certs.length t3⟩ ⟨.slice g1 f.params.length g3,.slice g4 f.locals.length g6,.slice g7 f.code.length g9⟩ f x N (.slice ta ts.length tc) (.slice ga gs.length gc) ts gs (.slice sa sh.length sc) sh))
    case first=>
     by_cases h27:x.op=27
     . have h27b:(x.op==27)=true:=by simpa using h27
       have H27:=Af h27;clear h27;go_wp2_with fail
       refine(Di ⟨.slice g1 f.params.length g3,.slice g4 f.locals.length g6,.slice g7 f.code.length g9⟩ f x.a wr H.o.2.2.1 H.o.2.2.2.1.2.1 (H.o.2.2.2.2.2.1.keep HI.o.in3.bel lR)).mono ?_;rintro e u1 ⟨rfl,b1⟩;by_cases hl3:AA f x.a=3
       . have hl3b:(AA f x.a != 3)=false:=by simpa using hl3
         have HL3:=Af hl3;go_wp2_with fail
         go_meet
         exact⟨false,rfl,⟨fun e=>(by cases e),fun e=>absurd HL3.o e.2⟩,HI.o.keep b1⟩
       . have hl3b:(AA f x.a != 3)=true:=by simpa using hl3
         have HL3:=Af hl3;clear hl3;go_wp2_with fail
         go_meet
         exact⟨true,rfl,⟨fun _=>⟨H27.o,HL3.o⟩,fun _=>rfl⟩,HI.o.keep b1⟩
     . have h27b:(x.op==27)=false:=by simpa using h27
       have H27:=Af h27;clear h27;go_wp2_with fail
       go_meet
       exact⟨false,rfl,⟨fun e=>(by cases e),fun e=>absurd e.1 H27.o⟩,HI⟩
    case rest =>
     obtain⟨bb,rfl,HBB,HI9⟩:=hcut;clear HI q0 q1 q2 q3 x0 x1 x2 x3 e0 e1;rcases Bool.eq_false_or_eq_true bb with hbb|hbb
     . subst hbb
       have HC:Hid (CK p f x sh=2):=by
        show CK p f x sh=2;unfold CK;rw[HTS.o.1,bX (by have:=HLO.o;omega),bj (.inr (HBB.o.1 rfl))]
       go_wp2_with fail
       exact aW (v:=.tuple #[sN,iZ 2]) (by simp[results,Tryz.results132,go_sem]) rfl ⟨sN,by rw[HC.o],fun e=>by rw[HC.o]at e;exact absurd e (by decide),HI9.o.in3.bel⟩
     . subst hbb
       have HNB:Hid (¬(x.op=27/\AA f x.a≠3)):=fun e=>by have:=HBB.o.2 e;cases this
       obtain⟨W0,hN⟩:∃W,W=wc:=⟨_,rfl⟩;subst hN;have hlo:=HLO.o;have hcL:(low:Int)<=(sc:Int):=by omega
       have hlL:low<=sc:=by omega
       clear hlo;go_upto_region 13 with fail
       go_cut [12,14] (fun l s wx=>∃(a:Option Addr) (c:Nat),l=iZ (low:Int)/\s=.slice a low c/\Hid (wx.ownsRow W0.heap.size 2 1 (.slice a low c) low ((sh.take low).flatMap Ac)/\Below W0.heap.size W0 wx))
       case first=>
        have b2:=Aa W0 (.cells #[] 2);have HO:Hid ((W0.alloc (.cells #[] 2)).ownsRow W0.heap.size 2 1 (sG W0.heap.size 0 0) 0 []):=⟨rfl,.inr ⟨W0.heap.size,0,#[],rfl,Nat.le_refl _,GA _ _ _,Nat.le_refl _,cU _,rfl,rfl⟩⟩;have HI10:Hid _:=HI9.o.keep b2;cases sa with
        | none=>
          have hz0:sh.length=0:=by
           rcases HI9.o.sr.2 with⟨e,_⟩|⟨gg,oo,cc,e,hc⟩
           . exact e
           . simp at e
          obtain rfl:low=0:=by have:=HLO.o;omega
          clear hz0 hcL hlL;go_wp2_with fail
          go_meet
          exact⟨some ⟨W0.heap.size,0,none⟩,0,rfl,rfl,HO.o,b2⟩
        | some ad=>
          have HN:Hid (∀j u,((sh.take low).flatMap Ac)[j]?=some u->(W0.alloc (.cells #[] 2)).cell? (ad.add j)=some u):=fun j u hj=>by
           rcases HI10.o.sr.2 with⟨e,_⟩|⟨gg,oo,cc,e,hc⟩
           . have hl0:(sh.flatMap Ac).length=0:=by rw[Aq Ac 1 Al,e]
             have:=(aE.1 (KY hj)).1;omega
           . simp only[aI,aM]at e
             obtain⟨rfl,_,_⟩:=e;rw[Ds];exact hc j u (KY hj)
          have HL:Hid (((sh.take low).flatMap Ac).length=low*1):=by
           show _=_;rw[Aq Ac 1 Al,b9];have:=HLO.o;omega
          go_wp2_with (at_builtin;refine wpList_append_own _ rfl _ _ 47 rfl W0.heap.size 2 i0 (iZ 0) 1 8 Tryz.underlying47 hi hy0 hy1 hy2 rfl (by decide) _ 0 [] rfl HO.o ad low sc ((sh.take low).flatMap Ac) rfl HL.o HN.o ?c1 ?c2 ?c3 ?c4 ?_)
          case c1=>
           intro u hu;obtain⟨z,_,hz⟩:=cG.1 hu;simp[Ac]at hz;subst hz;rfl
          case c2=>have:=HLO.o;unfold maxLen;omega
          case c3=>have:=HLO.o;omega
          case c4=>exact b2.size
          intro v' w' hown' hgrow' hnil'
          obtain⟨a2,c2,rfl⟩:∃a c,v'=.slice a low c:=by
           have:=(Rd.of_own hown').is_slice;simpa using this
          have HB:=Af (aG (b2.grown hgrow' (by simp) (fun k hk=>by simp[Value.ownBlock]at hk;omega)) ((by simpa using hown'):w'.ownsRow W0.heap.size 2 1 (.slice a2 low c2) low ((sh.take low).flatMap Ac)));clear hown' hgrow' hnil';go_wp2_with fail;go_meet;exact⟨a2,c2,rfl,rfl,HB.o.2,HB.o.1⟩
       case rest=>
        obtain⟨oa,oc,rfl,rfl,HO2⟩:=hcut;have HW:Hid _:=HI9.o;go_wp2
        go_loopw [14,15,16] (fun o i _ wr=>∃(k:Nat) (a:Option Addr) (c:Nat),k<=gs.length/\o=.slice a (low+k) c/\i=iZ (k:Int)/\Hid (wr.ownsRow W0.heap.size 2 1 (.slice a (low+k) c) (low+k) ((DT low sh gs k).flatMap Ac)/\Below W0.heap.size W0 wr)) (fun _ i _ _=>gs.length-(intOf i).toNat)
        case atStart=>exact⟨0,oa,oc,by omega,rfl,rfl,by have h5:=HO2.o.1;simpa[DT]using h5,HO2.o.2⟩
        case round=>
         clear HO2;clear oa oc;obtain⟨k,oa,oc,hk,rfl,rfl,HI⟩:=hrel;have HWr:Hid _:=HW.o.keep HI.o.2;have e1:=HWr.o.eb.cell 1;simp only[aQ,aJ,aL]at e1;by_cases hlt:k<gs.length
         . obtain⟨tv,htv⟩:∃t,gs[k]?=some t:=⟨_,aA hlt⟩
           obtain⟨gg,og,rfl,j1⟩:=LW HWr.o.gr rfl htv;have hkL:(k:Int)<(gs.length:Int):=by omega
           have hg2:=HZZ.o.2.1;by_cases ht0:tv=0
           . subst ht0
             have hpos:=HZZ.o.1 0 (aF htv) rfl;obtain⟨sl,hsl⟩:∃s,sh[low]?=some s:=⟨_,aA (by have:=HLO.o;omega)⟩;obtain⟨gs',os,rfl,j2⟩:=LW HWr.o.sr rfl hsl;have hsL:(low:Int)<(sh.length:Int):=by have:=HLO.o;omega
             have HGV:Hid (DT low sh gs (k+1)=DT low sh gs k++[sl]):=by
              show DT low sh gs (k+1)=_;rw[Lg htv];simp[Up,hsl]
             clear htv hsl hpos;have HC4:Hid ((wr.alloc (.cells #[iZ sl] 2)).ownsRow W0.heap.size 2 1 (.slice oa (low+k) oc) (low+k) ((DT low sh gs k).flatMap Ac)/\W0.heap.size<=(wr.alloc (.cells #[iZ sl] 2)).heap.size):=⟨Ah HI.o.1 (Aa _ _) lR,by rw[dC];have:=HI.o.2.size;omega⟩
             go_wp2_with (at_builtin;refine wpList_append_lies _ rfl _ _ 47 rfl W0.heap.size 2 i0 (iZ 0) 1 8 Tryz.underlying47 hi hy0 hy1 hy2 rfl (by decide) _ (low+k) ((DT low sh gs k).flatMap Ac) rfl HC4.o.1 ⟨wr.heap.size,0,none⟩ 1 1 [iZ sl] rfl rfl (OW wr sl) (fun u hu=>by simp at hu;subst hu;rfl) (by omega) (by have:=HLO.o;have:=HZZ.o.2.1;simp[maxLen];omega) (by have:=HLO.o;have:=HZZ.o.2.1;omega) HC4.o.2 _ rfl ?_;intro g5 cap5 w5 hown hgrow hat hlt3;have HN:Hid (w5.ownsRow W0.heap.size 2 1 (sG g5 (low+(k+1)) cap5) (low+(k+1)) ((DT low sh gs (k+1)).flatMap Ac)/\Below W0.heap.size W0 w5):=TY HI.o.1 HI.o.2 HGV.o hown hgrow;clear hown hgrow hat hlt3)
             go_wp2
             go_roundw
             case rel=>exact⟨k+1,some ⟨g5,0,none⟩,cap5,by omega,rfl,by go_num,HN⟩
             case measure=>simp[intOf];omega
           . have HGV:Hid (DT low sh gs (k+1)=DT low sh gs k++[tv]):=by
              show DT low sh gs (k+1)=_;rw[Lg htv];simp[Up,ht0]
             have ht0':(tv==0)=false:=by simpa using ht0
             clear htv;have HC4:Hid ((wr.alloc (.cells #[iZ tv] 2)).ownsRow W0.heap.size 2 1 (.slice oa (low+k) oc) (low+k) ((DT low sh gs k).flatMap Ac)/\W0.heap.size<=(wr.alloc (.cells #[iZ tv] 2)).heap.size):=⟨Ah HI.o.1 (Aa _ _) lR,by rw[dC];have:=HI.o.2.size;omega⟩
             go_wp2_with (at_builtin;refine wpList_append_lies _ rfl _ _ 47 rfl W0.heap.size 2 i0 (iZ 0) 1 8 Tryz.underlying47 hi hy0 hy1 hy2 rfl (by decide) _ (low+k) ((DT low sh gs k).flatMap Ac) rfl HC4.o.1 ⟨wr.heap.size,0,none⟩ 1 1 [iZ tv] rfl rfl (OW wr tv) (fun u hu=>by simp at hu;subst hu;rfl) (by omega) (by have:=HLO.o;have:=HZZ.o.2.1;simp[maxLen];omega) (by have:=HLO.o;have:=HZZ.o.2.1;omega) HC4.o.2 _ rfl ?_;intro g5 cap5 w5 hown hgrow hat hlt3;have HN:Hid (w5.ownsRow W0.heap.size 2 1 (sG g5 (low+(k+1)) cap5) (low+(k+1)) ((DT low sh gs (k+1)).flatMap Ac)/\Below W0.heap.size W0 w5):=TY HI.o.1 HI.o.2 HGV.o hown hgrow;clear hown hgrow hat hlt3)
             clear HC4 HI;go_wp2
             go_roundw
             case rel=>exact⟨k+1,some ⟨g5,0,none⟩,cap5,by omega,rfl,by go_num,HN⟩
             case measure=>simp[intOf];omega
         . obtain rfl:k=gs.length:=by omega
           have HOT:Hid ((Hq p f x sh).length=low+gs.length/\DT low sh gs gs.length=Hq p f x sh):=by
            have h5:=Q3 HLT.o HTS.o.2;exact⟨by rw[<-h5,Nq (by have:=HLO.o;omega) lR],h5⟩
           have HC0:Hid (CK p f x sh=if 64<low+gs.length then 3 else 0):=by
            show CK p f x sh=_;unfold CK;rw[HTS.o.1,bX (by have:=HLO.o;omega),bX (by rw[HLT.o];rintro(e|e);exact absurd (HFT.o.symm.trans e) (by decide);exact HNB.o e),HOT.o.1]
           by_cases hbig:64<low+gs.length
           . have HC:Hid (CK p f x sh=3):=by have:=HC0.o;rw[bj hbig]at this;exact this
             have hbig':(64:Int)<(low:Int)+(gs.length:Int):=by omega
             clear hbig;go_wp2_with fail
             exact aW (v:=.tuple #[sN,iZ 3]) (by simp[results,Tryz.results132,go_sem]) rfl ⟨sN,by rw[HC.o],fun e=>by rw[HC.o]at e;exact absurd e (by decide),HWr.o.in3.bel⟩
           . have HC:Hid (CK p f x sh=0):=by have:=HC0.o;rw[bX hbig]at this;exact this
             have hbig':¬(64:Int)<(low:Int)+(gs.length:Int):=by omega
             go_wp2_with fail
             exact aW (v:=.tuple #[.slice oa (low+gs.length) oc,iZ 0]) (by simp[results,Tryz.results132,go_sem]) rfl ⟨.slice oa (low+gs.length) oc,by rw[HC.o],fun _=>by rw[HOT.o.1,<-HOT.o.2];exact Bv HI.o.1 HW.o.in3.bel.size,HWr.o.in3.bel⟩
  . obtain ⟨j,rfl⟩:∃j,q=j+1:=⟨q-1,by omega⟩
    obtain rfl:z=(j:Int):=by omega
    obtain⟨tv,htv⟩:∃t,ts[j]?=some t:=⟨_,aA (by omega)⟩;obtain⟨sv,hsv⟩:∃s,sh[low+j]?=some s:=⟨_,aA (by omega)⟩;obtain⟨gt,ot,rfl,j1⟩:=LW HI.o.tr rfl htv;obtain⟨gs',os,rfl,j2⟩:=LW HI.o.sr rfl hsv;have hd:(sh.drop low)[j]?=some sv:=by rw[eE];exact hsv
    have HV:=Af (aG htv hd);have hjL:(j:Int)<(ts.length:Int):=by omega
    have hsL:(low:Int)+(j:Int)<(sh.length:Int):=by omega
    clear htv hsv hd hlo;have inst:=Ao.some wr;have J1:=fun n:Ao wr=>Ao.cell j1 n
    have J2:=fun n:Ao wr=>Ao.cell j2 n
    have K0:=fun n:Ao wr=>Ao.cell e0 n
    by_cases ht0:tv=0
    . have ht0':(tv != 0)=false:=by simpa using ht0
      go_wp2_with fail
      refine AC (by kernel_rfl) (by kernel_rfl) ?_;repeat(go_big_quiet_step (fail))
      refine wpQuiet_nil ?_;rintro w'' ⟨n',rfl⟩;have HI2:Hid _:=HI.o.keep n'.h
      have HF2:Hid (∀(k:Nat) s t,j<=k->(sh.drop low)[k]?=some s->ts[k]?=some t->t=0\/s=t):=fun k s t hk h1 h2=>by
       by_cases e:k=j
       . subst e
         rw[HV.o.1]at h2;exact .inl (by rw[<-aZ h2];exact ht0)
       . exact HF.o k s t (by omega) h1 h2
      clear J1 J2 K0 inst j1 j2 e0 e1 HI HF;go_wp2
      go_roundw
      case rel=>exact⟨j,(j:Int)-1,by omega,by go_num,by omega,HF2,HI2⟩
      case measure=>simp[intOf]
    . have ht0':(tv != 0)=true:=by simpa using ht0
      by_cases hvt:sv=tv
      . have hvt':(sv != tv)=false:=by simpa using hvt
        go_wp2_with fail
        refine AC (by kernel_rfl) (by kernel_rfl) ?_;repeat(go_big_quiet_step (fail))
        refine wpQuiet_nil ?_;rintro w'' ⟨n',rfl⟩;have HI2:Hid _:=HI.o.keep n'.h
        have HF2:Hid (∀(k:Nat) s t,j<=k->(sh.drop low)[k]?=some s->ts[k]?=some t->t=0\/s=t):=fun k s t hk h1 h2=>by
         by_cases e:k=j
         . subst e
           rw[HV.o.1]at h2;rw[HV.o.2]at h1;exact .inr (by rw[<-aZ h1,<-aZ h2];exact hvt)
         . exact HF.o k s t (by omega) h1 h2
        clear J1 J2 K0 inst j1 j2 e0 e1 HI HF;go_wp2
        go_roundw
        case rel=>exact⟨j,(j:Int)-1,by omega,by go_num,by omega,HF2,HI2⟩
        case measure=>simp[intOf]
      . have hvt':(sv != tv)=true:=by simpa using hvt
        have HC:Hid (CK p f x sh=2):=by
         show CK p f x sh=2;unfold CK
         rw[HTS.o.1,bX (by have:=HLO.o;omega),bj (.inl (Bool.eq_false_iff.2 (fun e=>by
          have h5:=(KW (by rw[cH,HLT.o];have:=HLO.o;omega)).1 e j sv tv (by rw[HLT.o];exact HV.o.2) HV.o.1;rcases h5 with h5|h5
          . exact ht0 h5
          . exact hvt h5)))]
        go_wp2_with fail
        refine AC (by kernel_rfl) (by kernel_rfl) ?_;repeat(go_big_quiet_step (fail))
        refine wpQuiet_nil ?_;rintro w'' ⟨n',rfl⟩;have HI2:=HI.o.keep n'.h;go_wp2_with fail
        exact aW (v:=.tuple #[sN,iZ 2]) (by simp[results,Tryz.results132,go_sem]) rfl ⟨sN,by rw[HC.o],fun e=>by rw[HC.o]at e;exact absurd e (by decide),HI2.in3.bel⟩
theorem LK(g:VF)(f:MF)(w:World)(hf:EI w g f):
 Calls Tryz.prog 131 #[.agg #[g.p,.int .i64 f.result,g.l,g.c]] w (Ss w (BJ f)):=by
 obtain⟨g1,g3,g4,g6,g7,g9,rfl⟩:=Gv hf;by_cases h:f.result=0
 . have h2:(f.result==0)=true:=by simpa using h
   have HR:Hid (BJ f=[]):=bj h;clear h;go_enter Tryz.func131,Tryz.ntmps131;go_wp2_with fail
   rw[HR.o];have k:=Pb (Aa w (.cells #[.slice g1 f.params.length g3,.int .i64 f.result,.slice g4 f.locals.length g6,.slice g7 f.code.length g9] 58)) [] 0 0 rfl;rw[show(w.alloc (.cells #[.slice g1 f.params.length g3,.int .i64 f.result,.slice g4 f.locals.length g6,.slice g7 f.code.length g9] 58)).heap.size=w.heap.size+1 by simp]at k;exact aW (v:=.slice (some ⟨w.heap.size+1,0,none⟩) 0 0) (by simp[results,Tryz.results131,go_sem]) rfl k
 . have h2:(f.result==0)=false:=by simpa using h
   have HR:Hid (BJ f=[f.result]):=bX h;clear h;go_enter Tryz.func131,Tryz.ntmps131;go_wp2_with fail
   rw[HR.o];have k:=Pb (Aa w (.cells #[.slice g1 f.params.length g3,.int .i64 f.result,.slice g4 f.locals.length g6,.slice g7 f.code.length g9] 58)) [f.result] 1 1 rfl;rw[show(w.alloc (.cells #[.slice g1 f.params.length g3,.int .i64 f.result,.slice g4 f.locals.length g6,.slice g7 f.code.length g9] 58)).heap.size=w.heap.size+1 by simp]at k;exact aW (v:=.slice (some ⟨w.heap.size+1,0,none⟩) 1 1) (by simp[results,Tryz.results131,go_sem]) rfl k
def CH(u:World)(B:Nat)(V:Value)(sh:List Int):Prop:=u.ownsRow B 2 1 V sh.length (sh.flatMap Ac)
theorem CH.keep{u u':World}{B:Nat}{V:Value}{sh:List Int}(h:CH u B V sh)(hb:Below u.heap.size u u'):CH u' B V sh:=Ah h hb lR
theorem CH.set{u:World}{B:Nat}{V:Value}{sh:List Int}(h:CH u B V sh){a:Addr}(ha:a.block<B)(x:Value):CH (u.setCell a x) B V sh:=bT h ha x
theorem CH.nil(u:World)(B:Nat):CH u B sN []:=bq _ _ _ _
structure TyB(FB OB GS GC GF B:Nat):Prop where
 h3:FB<GS
 h4:GS<OB
 h5:OB<GC
 h6:GC<GF
 h7:GF<B
structure Gz(U u:World)(n:Nat)(OB GS GC GF B:Nat)(r:IL)(z1 z2 z3 z4:Value)(RS RF:List Value)(s:WS):Prop where
 lb:Ap u U.heap.size #[iZ r.code,iZ r.at_,z1,z2,z3,z4] 163
 ob:Ap u OB #[iZ 0,iZ 0,iZ (s.d:Int),sG GS n n] 166
 sa:u.ownsRow U.heap.size 47 1 (sG GS n n) n RS
 ca:u.ownsRow U.heap.size 4 1 (sG GC r.blocks.length r.blocks.length) r.blocks.length ((List.range r.blocks.length).map fun b=>Value.bool (s.c b).isSome)
 fa:u.ownsRow U.heap.size 47 1 (sG GF r.blocks.length r.blocks.length) r.blocks.length RF
 sl:RS.length=n
 fl:RF.length=r.blocks.length
 rs:∀(j:Nat) (V:Value),RS[j]?=some V->CH u B V (s.t j)
 rfw:∀(b:Nat) (V:Value),RF[b]?=some V->CH u B V ((s.c b).getD [])
 bel:Below U.heap.size U u
 tb:TyB U.heap.size OB GS GC GF B
 sz:B<=u.heap.size
theorem Gz.keep{U u u':World}{n:Nat}{OB GS GC GF B:Nat}{r:IL}{z1 z2 z3 z4:Value}{RS RF:List Value}{s:WS}(h:Gz U u n OB GS GC GF B r z1 z2 z3 z4 RS RF s)(hb:Below u.heap.size u u'):Gz U u' n OB GS GC GF B r z1 z2 z3 z4 RS RF s:=
 ⟨h.lb.keep hb,h.ob.keep hb,Ah h.sa hb lR,Ah h.ca hb lR,Ah h.fa hb lR,h.sl,h.fl,fun j V e=>(h.rs j V e).keep hb,fun b V e=>(h.rfw b V e).keep hb,Ab h.bel lR hb,h.tb,aR h.sz hb.size⟩
theorem Gi(u:World)(a:Addr)(x:Value):(u.setCell a x).heap.size=u.heap.size:=by simp
theorem Gz.setS{U u:World}{n:Nat}{OB GS GC GF B:Nat}{r:IL}{z1 z2 z3 z4:Value}{RS RF:List Value}{s:WS}(h:Gz U u n OB GS GC GF B r z1 z2 z3 z4 RS RF s){j:Nat}{V:Value}{sh:List Int}(hV:CH u B V sh):Gz U (u.setCell ⟨GS,j,none⟩ V) n OB GS GC GF B r z1 z2 z3 z4 (RS.set j V) RF ⟨s.c,Iq s.t j sh,s.d⟩:=by
 have b3:=h.tb.h3;have b4:=h.tb.h4;have b5:=h.tb.h5;have b6:=h.tb.h6;have b7:=h.tb.h7;refine⟨h.lb.other (by simp only[];omega) V,h.ob.other (by simp only[];omega) V,(h.sa.stored j V).1,aN h.ca (by simp[Value.ownBlock];omega) V,aN h.fa (by simp[Value.ownBlock];omega) V,by rw[cg];exact h.sl,h.fl,fun i W e=> ?_,fun b W e=>(h.rfw b W e).set (by simp only[];omega) V,h.bel.setCell (by simp only[];omega) V,h.tb,by rw[Gi];exact h.sz⟩;simp only[Iq];by_cases ei:i=j
 . subst ei
   have hl:i<RS.length:=by have:=(aE.1 e).1;rw[cg]at this;exact this
   rw[cR hl]at e;cases e
   rw[bj rfl];exact hV.set (by simp only[];omega) V
 . rw[cJ (fun e=>ei e.symm)]at e
   rw[bX ei];exact(h.rs i W e).set (by simp only[];omega) V
theorem Gz.setD{U u:World}{n:Nat}{OB GS GC GF B:Nat}{r:IL}{z1 z2 z3 z4:Value}{RS RF:List Value}{s:WS}(h:Gz U u n OB GS GC GF B r z1 z2 z3 z4 RS RF s)(d:Nat):Gz U (u.setCell ⟨OB,2,none⟩ (iZ (d:Int))) n OB GS GC GF B r z1 z2 z3 z4 RS RF ⟨s.c,s.t,d⟩:=by
 have b3:=h.tb.h3;have b4:=h.tb.h4;have b5:=h.tb.h5;have b6:=h.tb.h6;have b7:=h.tb.h7;have ho:=h.ob.set 2 (iZ (d:Int));simp only[aY,au,aw]at ho;exact⟨h.lb.other (by simp only[];omega) _,ho,aN h.sa (by simp[Value.ownBlock];omega) _,aN h.ca (by simp[Value.ownBlock];omega) _,aN h.fa (by simp[Value.ownBlock];omega) _,h.sl,h.fl,fun i W e=>(h.rs i W e).set (by simp only[];omega) _,fun b W e=>(h.rfw b W e).set (by simp only[];omega) _,h.bel.setCell (by simp only[];omega) _,h.tb,by rw[Gi];exact h.sz⟩
theorem Gz.setC{U u:World}{n:Nat}{OB GS GC GF B:Nat}{r:IL}{z1 z2 z3 z4:Value}{RS RF:List Value}{s:WS}(h:Gz U u n OB GS GC GF B r z1 z2 z3 z4 RS RF s){t:Nat}{V:Value}{sh:List Int}(hV:CH u B V sh):Gz U ((u.setCell ⟨GC,t,none⟩ (.bool true)).setCell ⟨GF,t,none⟩ V) n OB GS GC GF B r z1 z2 z3 z4 RS (RF.set t V) ⟨Jl s.c t sh,s.t,s.d⟩:=by
 have b3:=h.tb.h3;have b4:=h.tb.h4;have b5:=h.tb.h5;have b6:=h.tb.h6;have b7:=h.tb.h7;have c1:=(h.ca.stored t (.bool true)).1;have f1:=aN h.fa (a:=⟨GC,t,none⟩) (by simp[Value.ownBlock];omega) (.bool true);have s1:=aN h.sa (a:=⟨GC,t,none⟩) (by simp[Value.ownBlock];omega) (.bool true);refine⟨(h.lb.other (by simp only[];omega) _).other (by simp only[];omega) _,(h.ob.other (by simp only[];omega) _).other (by simp only[];omega) _,aN s1 (by simp[Value.ownBlock];omega) _,?_,(f1.stored t V).1,h.sl,by rw[cg];exact h.fl,fun i W e=>((h.rs i W e).set (by simp only[];omega) _).set (by simp only[];omega) _,fun b W e=> ?_,(h.bel.setCell (by simp only[];omega) _).setCell (by simp only[];omega) _,h.tb,by rw[Gi,Gi];exact h.sz⟩
 . have c2:=aN c1 (a:=⟨GF,t,none⟩) (by simp[Value.ownBlock];omega) V
   have e:(((List.range r.blocks.length).map fun b=>Value.bool (s.c b).isSome).set t (.bool true))=(List.range r.blocks.length).map fun b=>Value.bool (Jl s.c t sh b).isSome:=by
    apply cL;intro i;by_cases ei:i=t
    . subst ei
      by_cases hl:i<r.blocks.length
      . rw[cR (by simpa using hl)]
        simp[Jl,hl]
      . rw[ae (by simp;omega),ae (by simp;omega)]
    . rw[cJ (fun e=>ei e.symm)]
      simp only[bQ];by_cases hl:i<r.blocks.length
      . simp[Jl,hl,ei]
      . simp[hl]
   rw[<-e];exact c2
 . simp only[Jl]
   by_cases ei:b=t
   . subst ei
     have hl:b<RF.length:=by have:=(aE.1 e).1;rw[cg]at this;exact this
     rw[cR hl]at e;cases e
     rw[bj rfl];exact(hV.set (by simp only[];omega) _).set (by simp only[];omega) _
   . rw[cJ (fun e=>ei e.symm)]at e
     rw[bX ei];exact((h.rfw b W e).set (by simp only[];omega) _).set (by simp only[];omega) _
theorem Qz(ty:TypeId)(u:World)(B B':Nat)(V:Value)(sh:List Int)(h:CH u B V sh)(hB:B'<=u.heap.size)(hl:sh.length<=1048576):∃v' w',(Builtin.append_ #[47,47] ty #[sG u.heap.size 0 0,V]).run Tryz.prog (u.alloc (.cells #[] 2))=.ok v' w'/\CH w' B' v' sh/\Below u.heap.size u w':=by
 obtain⟨i0,hi,hz0,hz1,hz2⟩:=bJ CF;have ho:(u.alloc (.cells #[] 2)).ownsRow u.heap.size 2 1 (sG u.heap.size 0 0) 0 []:=⟨rfl,.inr ⟨u.heap.size,0,#[],rfl,Nat.le_refl _,dB _ _,Nat.le_refl _,cU _,rfl,by simp⟩⟩;obtain⟨a,c,rfl⟩:=AZ h;have hrd:=(Rd.of_own h);cases a with
 | none=>
   have hz:sh.length=0:=by
    rcases hrd.2 with⟨e0,_⟩|⟨g,o,c,e1,_⟩
    . exact e0
    . cases e1
   have h0:sh=[]:=bx hz;subst h0;refine⟨_,_,Es (P:=Tryz.prog) u.heap.size 47 ty 2 i0 1 Tryz.underlying47 hi _ _ _ ho c,?_,Aa _ _⟩;exact Bv ho hB
 | some ad=>
   have hN:∀j v,(sh.flatMap Ac)[j]?=some v->(u.alloc (.cells #[] 2)).cell? (ad.add j)=some v:=fun j v hj=>by
    rcases hrd.2 with⟨e0,_⟩|⟨g,o,c,e1,hc⟩
    . have:sh=[]:=bx e0
      subst this;simp at hj
    . simp only[aI,aM]at e1
      obtain⟨rfl,_⟩:=e1;have:=hc j v hj;rw[Ds,(Aa u (.cells #[] 2)).cell (aD this)];exact this
   obtain⟨v',w',hr,h2,h3,h4⟩:=run_append_own (P:=Tryz.prog) (u.alloc (.cells #[] 2)) u.heap.size 47 ty 2 i0 (iZ 0) 1 8 Tryz.underlying47 hi hz0 hz1 hz2 rfl (by decide) _ 0 [] ho ad sh.length c (sh.flatMap Ac) (by rw[Aq Ac 1 Al]) hN (FE _) (by unfold maxLen;omega) (by omega) (Aa _ _).size;refine⟨v',w',hr,Bv (by simpa using h2) hB,(Aa u (.cells #[] 2)).grown h3 (Aa _ _).size (fun j hj=>(ho.lt j hj).1)⟩
theorem Pd{o:Oper}{a:Act}{K:Act->World->Prop}{Q:Exit->Act->World->Prop}(s x:Operand)(ho:o.op=.call {callee:=.builtin .append,args:=#[s,x],argTypes:=#[47,47]})(u:World)(B B':Nat)(V:Value)(sh:List Int)(hs:a.eval s=sG u.heap.size 0 0)(hx:a.eval x=V)(h:CH u B V sh)(hB:B'<=u.heap.size)(hl:sh.length<=1048576)(hK:∀v' w',CH w' B' v' sh->Below u.heap.size u w'->K (a.put o.dst v') w'):o.wp Tryz.prog a (u.alloc (.cells #[] 2)) K Q:=by
 obtain⟨v',w',hr,h1,h2⟩:=Qz o.type u B B' V sh h hB hl;exact Lib.wp_append_run _ s x 47 47 ho _ _ hs hx v' w' hr (hK v' w' h1 h2)
theorem Ny{ops:Array Oper}{rest:List Oper}{o:Oper}{a:Act}{Q:Exit->Act->World->Prop}(hgd:o.guard=none)(s x:Operand)(ho:o.op=.call {callee:=.builtin .append,args:=#[s,x],argTypes:=#[47,47]})(u:World)(B B':Nat)(V:Value)(sh:List Int)(hs:a.eval s=sG u.heap.size 0 0)(hx:a.eval x=V)(h:CH u B V sh)(hB:B'<=u.heap.size)(hl:sh.length<=1048576)(hK:∀v' w',CH w' B' v' sh->Below u.heap.size u w'->wpList Tryz.prog ops Q rest (a.put o.dst v') w'):wpList Tryz.prog ops Q (o::rest) a (u.alloc (.cells #[] 2)):=
 wpList_plain hgd fun _ hK'=>Pd s x ho u B B' V sh hs hx h hB hl fun v' w' h1 h2=>hK' _ _ (hK v' w' h1 h2)
theorem PX{ops:Array Oper}{o:Oper}{a:Act}{K:Act->World->Prop}{Q:Exit->Act->World->Prop}{E:Prop}(hgd:o.guard=none)(s x:Operand)(ho:o.op=.call {callee:=.builtin .append,args:=#[s,x],argTypes:=#[47,47]})(u:World)(B B':Nat)(V:Value)(sh:List Int)(hs:a.eval s=sG u.heap.size 0 0)(hx:a.eval x=V)(h:CH u B V sh)(hB:B'<=u.heap.size)(hl:sh.length<=1048576)(hK:∀v' w',CH w' B' v' sh->Below u.heap.size u w'->K (a.put o.dst v') w'):if Region.wanted o (yielded ops a.tmps)=true then Oper.wp Tryz.prog o a (u.alloc (.cells #[] 2)) K Q else E:=by
 have hw:Region.wanted o (yielded ops a.tmps)=true:=by simp[Region.wanted,hgd]
 rw[bj hw];exact Pd s x ho u B B' V sh hs hx h hB hl hK
theorem RN{u:World}{a:Option Addr}{n c:Nat}{bs:List MB}(h:Jt u (.slice a n c) bs){k:Nat}{m:MB}(hk:bs[k]?=some m):∃g o a1 e1,a=some ⟨g,o,none⟩/\u.cell? ⟨g,o+k*3,none⟩=some (iZ m.first)/\u.cell? ⟨g,o+k*3+1,none⟩=some (iZ m.last)/\u.cell? ⟨g,o+k*3+2,none⟩=some (.slice a1 m.next.length e1)/\RC u (.slice a1 m.next.length e1) m:=by
 obtain⟨xs,h1,h2,h3⟩:=h;have hi:=(aE.1 hk).1
 obtain⟨⟨m',w1⟩,hx,hx1⟩:∃x,xs[k]?=some x/\x.1=m:=by
  rw[<-h1,bQ]at hk;exact bz.1 hk
 simp only[]at hx1;subst hx1;have hr:=h3 _ (aF hx);obtain⟨a1,e1,q1⟩:=Rd.is_slice hr;simp only[]at q1;subst q1;rcases h2.2 with⟨e,_⟩|⟨gg,oo,cc,e,hc⟩
 . omega
 . simp only[aI]at e
   have j0:=Rd.elem Bl hc k _ hx 0 _ rfl;have j1:=Rd.elem Bl hc k _ hx 1 _ rfl;have j2:=Rd.elem Bl hc k _ hx 2 _ rfl;rw[aT]at j0;exact⟨gg,oo,a1,e1,e.1,j0,j1,j2,hr⟩
end Go.Proofs.YtjcamlobelcepaaGreatDoor
