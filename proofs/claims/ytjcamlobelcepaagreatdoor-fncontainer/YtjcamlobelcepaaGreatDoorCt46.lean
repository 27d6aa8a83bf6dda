import Derived.Test.YtjcamlobelcepaaGreatDoorCt45
import Derived.Deep.RegionHeldLaw
namespace Go.Proofs.YtjcamlobelcepaaGreatDoor
open Go.ChangeShapes Go.WideShapes Go.ChangeAt Go.RowKit
set_option linter.unusedVariables false
set_option maxHeartbeats 8000000
set_option maxRecDepth 100000
theorem KB(f:MF):(BJ f).length<=1048576:=by unfold BJ;split<;>simp
theorem MS{w:World}{b:Nat}{t:TypeId}{cur:Array Value}(h:Ap w b cur t):w.frozen? ⟨b,0,none⟩=false/\w.frozen? ⟨b,1,none⟩=false/\w.frozen? ⟨b,2,none⟩=false/\w.frozen? ⟨b,3,none⟩=false:=⟨h.frozen 0,h.frozen 1,h.frozen 2,h.frozen 3⟩
theorem FM(u:World)(c:Nat):Lx u (.slice none 0 c) []:=⟨[],rfl,⟨rfl,.inl ⟨rfl,_,_,rfl⟩⟩,fun x hx=>by cases hx⟩
theorem PT{w:World}{vb vo vi vl:Value}{r:IL}(h:Fu w vb vo vi vl r):∃v1 c1 v2 c2 v3 c3 v4 c4,vb=.slice v1 r.blocks.length c1/\vo=.slice v2 r.order.length c2/\vi=.slice v3 r.idom.length c3/\vl=.slice v4 r.loops.length c4:=by
 obtain⟨v1,c1,e1⟩:∃a c,vb=.slice a r.blocks.length c:=by obtain⟨_,_,h2,_⟩:=h.blocks;exact h2.is_slice
 obtain⟨v2,c2,e2⟩:=h.order.is_slice;obtain⟨v3,c3,e3⟩:=h.idom.is_slice;obtain⟨v4,c4,e4⟩:∃a c,vl=.slice a r.loops.length c:=by obtain⟨_,_,h2,_⟩:=h.loops;exact h2.is_slice
 exact⟨v1,c1,v2,c2,v3,c3,v4,c4,e1,e2,e3,e4⟩
theorem Gz.start{U u:World}{n OB GS GC GF:Nat}{r:IL}{z1 z2 z3 z4:Value}(lb:Ap u U.heap.size #[.int .i64 r.code,.int .i64 r.at_,z1,z2,z3,z4] 163)(b1:Below U.heap.size U u)(h2:u.ownsRow U.heap.size 47 1 (.slice (some ⟨GS,0,none⟩) n n) n (List.replicate n (.slice none 0 0)))(ob:Ap u OB #[.int .i64 0,.int .i64 0,.int .i64 0,.slice (some ⟨GS,0,none⟩) n n] 166)(h4:u.ownsRow U.heap.size 4 1 (.slice (some ⟨GC,0,none⟩) r.blocks.length r.blocks.length) r.blocks.length (List.replicate r.blocks.length (.bool false)))(h5:u.ownsRow U.heap.size 47 1 (.slice (some ⟨GF,0,none⟩) r.blocks.length r.blocks.length) r.blocks.length (List.replicate r.blocks.length (.slice none 0 0)))(hb:TyB U.heap.size OB GS GC GF u.heap.size):Gz U (u.setCell ⟨GC,0,none⟩ (.bool true)) n OB GS GC GF u.heap.size r z1 z2 z3 z4 (List.replicate n (.slice none 0 0)) (List.replicate r.blocks.length (.slice none 0 0)) Pe:=by
 have b3:=hb.h3;have b4:=hb.h4;have b5:=hb.h5;have b6:=hb.h6;have b7:=hb.h7;refine⟨lb.other (by simp only[];omega) _,ob.other (by simp only[];omega) _,aN h2 (by simp[Value.ownBlock];omega) _,?_,aN h5 (by simp[Value.ownBlock];omega) _,by simp,by simp,fun j V e=> ?_,fun b V e=> ?_,b1.setCell (by simp only[];omega) _,hb,by rw[Gi];exact Nat.le_refl _⟩
 . have e:(List.replicate r.blocks.length (Value.bool false)).set 0 (.bool true)=(List.range r.blocks.length).map fun b=>Value.bool (Pe.c b).isSome:=by
    apply cL;intro i;by_cases ei:i=0
    . subst ei
      by_cases hl:0<r.blocks.length
      . rw[cR (by simpa using hl)]
        simp[Pe,hl]
      . have h0:r.blocks.length=0:=by omega
        rw[h0];rfl
    . rw[cJ (fun e=>ei e.symm)]
      by_cases hl:i<r.blocks.length
      . simp[Pe,hl,ei]
      . rw[ae (by rw[eT];omega),ae (by rw[bB,br];omega)]
   rw[<-e];exact(h4.stored 0 (.bool true)).1
 . have e1:=List.eq_of_mem_replicate (aF e)
   subst e1;exact CH.nil _ _
 . have e1:=List.eq_of_mem_replicate (aF e)
   subst e1
   have e2:(Pe.c b).getD []=[]:=by
    simp only[Pe];split<;>rfl
   rw[e2];exact CH.nil _ _
structure TH(xs:List MI)(r:IL):Prop where
 blk:r.blocks=AE xs
 pos:0<r.blocks.length
 len:r.order.length<=1024
 ord:∀z∈r.order,∃b:Nat,z=(b:Int)/\b<r.blocks.length
 nxt:∀(b:Nat) (m:MB),r.blocks[b]?=some m->∀z∈m.next,∃t:Nat,z=(t:Int)/\t<r.blocks.length
theorem Gz.told{U u:World}{n:Nat}{OB GS GC GF B:Nat}{r:IL}{z1 z2 z3 z4:Value}{RS RF:List Value}{s:WS}(h:Gz U u n OB GS GC GF B r z1 z2 z3 z4 RS RF s){X:Nat}(hX:X<U.heap.size)(x0 x1 x2 x3:Value):Lx ((((u.setCell ⟨X,0,none⟩ x0).setCell ⟨X,1,none⟩ x1).setCell ⟨X,2,none⟩ x2).setCell ⟨X,3,none⟩ x3) (.slice (some ⟨GS,0,none⟩) n n) ((List.range n).map s.t):=by
 have b3:=h.tb.h3;have b4:=h.tb.h4;have b5:=h.tb.h5;have b6:=h.tb.h6;have b7:=h.tb.h7;have hl:((List.range n).map s.t).length=RS.length:=by simp[h.sl]
 refine⟨((List.range n).map s.t).zip RS,List.map_fst_zip (Nat.le_of_eq hl),?_,fun x hx=> ?_⟩
 . have e:(((List.range n).map s.t).zip RS).flatMap BE=RS:=by
    have:∀(A:List (List Int)) (R:List Value),A.length=R.length->(A.zip R).flatMap BE=R:=by
     intro A;induction A with
     |nil=>intro R h;cases R with|nil=>rfl|cons _ _=>simp at h
     | cons a A ih=>intro R h;cases R with
       |nil=>simp at h
       |cons v R=>rw[List.zip_cons_cons,am,ih R (by simpa using h)];rfl
    exact this _ _ hl
   rw[e,bB,br];exact Rd.of_own (bT (bT (bT (bT h.sa (by simp only[];omega) _) (by simp only[];omega) _) (by simp only[];omega) _) (by simp only[];omega) _)
 . obtain⟨j,hj⟩:=bt hx
   obtain⟨e1,e2⟩:((List.range n).map s.t)[j]?=some x.1/\RS[j]?=some x.2:=List.getElem?_zip_eq_some.1 hj
   have e3:s.t j=x.1:=by
    rw[bQ]at e1;obtain⟨q,hq,hq2⟩:=bz.1 e1;obtain⟨i1,i2⟩:=aE.1 hq;rw[List.getElem_range]at i2;subst i2;exact hq2
   have hr:=h.rs j x.2 e2;rw[e3]at hr;exact Rd.of_own ((((hr.set (a:=⟨X,0,none⟩) (by simp only[];omega) _).set (a:=⟨X,1,none⟩) (by simp only[];omega) _).set (a:=⟨X,2,none⟩) (by simp only[];omega) _).set (a:=⟨X,3,none⟩) (by simp only[];omega) _)
theorem BO.ord{xs:List MI}{r:IL}(h:BO xs r)(h0:r.code=0):TH xs r:=by
 cases h with
 |none _=>cases h0
 |off _ _ _=>cases h0
 |lost _ _ _ _ _ _ _ _=>cases h0
 |two _ _ _ _ _ _ _ _=>cases h0
 | good g x1 o1 v1 s1 d1 b1 i1 l1=>
   obtain⟨hP,hnd,hlen,hmem,_⟩:=EO (GG g) (OV g) v1 s1;refine⟨rfl,GG g,?_,fun z hz=> ?_,fun b m hm z hz=> ?_⟩
   . simp only[]
     rw[CM,dF,hlen];exact Fm g
   . obtain⟨b,hb,rfl⟩:=cE.1 hz
     exact⟨b,rfl,(hmem b).1 (eF.1 hb)⟩
   . obtain⟨h1,h2⟩:=Hr g hm hz
     exact⟨z.toNat,(dx h1).symm,by simp only[];omega⟩
def TO(w:World)(p:MP)(fi:Int)(e:Ending)(w':World):Prop:=∃(y:Tx) (s:Value),e=.returned (.agg #[.int .i64 y.code,.int .i64 y.at_,.int .i64 y.depth,s])/\NJ p fi y/\Lx w' s y.shapes/\Below w.heap.size w w'
theorem KM(v:VP)(p:MP)(fi:Int)(w:World)(hs:p.small)(hw:p.wf)(hfi:Ec fi)(h:Ej w v p):
 Calls Tryz.prog 98 #[.agg #[v.r,v.k,v.f,v.t],.int .i64 fi] w (TO w p fi):=by
 obtain⟨r1,r3,k1,k3,t1,t3,f1,f3,rfl⟩:=h.sl;obtain⟨i0,hi,hi0,hi1,hi2⟩:=bJ CF;obtain⟨j0,hj,hy0,hy1,hy2⟩:=bJ Dv;obtain⟨l0,hl,hl0,hl1,hl2⟩:=bJ SY;have H:Hid (p.small/\p.wf/\Ec fi/\Ej w ⟨.slice r1 p.regions.length r3,.slice k1 p.consts.length k3,.slice f1 p.funcs.length f3,.slice t1 p.certs.length t3⟩ p):=⟨hs,hw,hfi,h⟩
 clear hs hw hfi h;have E0:=FO w #[.slice r1 p.regions.length r3,.slice k1 p.consts.length k3,.slice f1 p.funcs.length f3,.slice t1 p.certs.length t3] #[.int .i64 0,.int .i64 0,.int .i64 0,.slice none 0 0] 28 166;go_enter Tryz.func98,Tryz.ntmps98;go_upto_region 1 with fail
 refine An (fun u=>Hid (Ap u w.heap.size #[.slice r1 p.regions.length r3,.slice k1 p.consts.length k3,.slice f1 p.funcs.length f3,.slice t1 p.certs.length t3] 28/\Ap u (w.heap.size+1) #[.int .i64 0,.int .i64 0,.int .i64 0,.slice none 0 0] 166/\Below w.heap.size w u)) E0 ?_
 rintro U0 E1;clear E0;obtain⟨p0,p1,p2,p3⟩:=BD E1.o.1;go_wp2_with fail
 refine(C7 ⟨.slice r1 p.regions.length r3,.slice k1 p.consts.length k3,.slice f1 p.funcs.length f3,.slice t1 p.certs.length t3⟩ p U0 H.o.1 H.o.2.1 (H.o.2.2.2.keep E1.o.2.2 lR)).mono ?_;rintro e u1 ⟨⟨n,rfl,hn⟩,bb⟩;have E2:Hid (Ap u1 w.heap.size #[.slice r1 p.regions.length r3,.slice k1 p.consts.length k3,.slice f1 p.funcs.length f3,.slice t1 p.certs.length t3] 28/\Ap u1 (w.heap.size+1) #[.int .i64 0,.int .i64 0,.int .i64 0,.slice none 0 0] 166/\Below w.heap.size w u1):=⟨E1.o.1.keep bb,E1.o.2.1.keep bb,Ab E1.o.2.2 lR bb⟩
 clear bb E1 p0 p1 p2 p3;clear U0;have p2:=E2.o.1.cell 2;simp only[aQ,aJ,aL]at p2;by_cases hn0:n=0
 case neg=>
  have HN:Hid (¬Mf p fi):=fun e=>hn0 (hn.one e.1)
  clear hn;obtain⟨q0,q1,q2,q3⟩:=BD E2.o.2.1;obtain⟨fz0,fz1,fz2,fz3⟩:=MS E2.o.2.1;go_wp2_with fail
  have G:Hid _:=(((E2.o.2.1.set 0 (.int .i64 (6))).set 1 (.int .i64 (0))).set 2 (.int .i64 (0))).set 3 (.slice none 0 0);simp only[aY,au,aw]at G;clear q0 q1 q2 q3;obtain⟨q0,q1,q2,q3⟩:=BD G.o;exact aW (v:=.agg #[.int .i64 (6),.int .i64 (0),.int .i64 (0),.slice none 0 0]) (by simp[results,Tryz.results98,go_sem,q0,q1,q2,q3]) rfl ⟨⟨6,0,0,[]⟩,.slice none 0 0,rfl,.inl ⟨HN.o,rfl⟩,FM _ 0,((((E2.o.2.2.setCell (by simp only[];omega) _).setCell (by simp only[];omega) _).setCell (by simp only[];omega) _).setCell (by simp only[];omega) _)⟩
 subst hn0;have HFA:=Af hn;clear hn;by_cases hf0:fi<0
 case pos=>
  have HN:Hid (¬Mf p fi):=fun e=>absurd e.2.1 (by omega)
  have hf0':decide (fi<0)=true:=by simpa using hf0
  obtain⟨q0,q1,q2,q3⟩:=BD E2.o.2.1;obtain⟨fz0,fz1,fz2,fz3⟩:=MS E2.o.2.1;go_wp2_with fail
  have G:Hid _:=(((E2.o.2.1.set 0 (.int .i64 (6))).set 1 (.int .i64 (0))).set 2 (.int .i64 (0))).set 3 (.slice none 0 0);simp only[aY,au,aw]at G;clear q0 q1 q2 q3;obtain⟨q0,q1,q2,q3⟩:=BD G.o;exact aW (v:=.agg #[.int .i64 (6),.int .i64 (0),.int .i64 (0),.slice none 0 0]) (by simp[results,Tryz.results98,go_sem,q0,q1,q2,q3]) rfl ⟨⟨6,0,0,[]⟩,.slice none 0 0,rfl,.inl ⟨HN.o,rfl⟩,FM _ 0,((((E2.o.2.2.setCell (by simp only[];omega) _).setCell (by simp only[];omega) _).setCell (by simp only[];omega) _).setCell (by simp only[];omega) _)⟩
 by_cases hf1:(p.funcs.length:Int)<=fi
 case pos=>
  have HN:Hid (¬Mf p fi):=fun e=>by
   obtain⟨f,hf,_⟩:=e.2.2;have:=(aE.1 hf).1;omega
  obtain⟨q0,q1,q2,q3⟩:=BD E2.o.2.1;obtain⟨fz0,fz1,fz2,fz3⟩:=MS E2.o.2.1;go_wp2_with fail
  have G:Hid _:=(((E2.o.2.1.set 0 (.int .i64 (6))).set 1 (.int .i64 (0))).set 2 (.int .i64 (0))).set 3 (.slice none 0 0);simp only[aY,au,aw]at G;clear q0 q1 q2 q3;obtain⟨q0,q1,q2,q3⟩:=BD G.o;exact aW (v:=.agg #[.int .i64 (6),.int .i64 (0),.int .i64 (0),.slice none 0 0]) (by simp[results,Tryz.results98,go_sem,q0,q1,q2,q3]) rfl ⟨⟨6,0,0,[]⟩,.slice none 0 0,rfl,.inl ⟨HN.o,rfl⟩,FM _ 0,((((E2.o.2.2.setCell (by simp only[];omega) _).setCell (by simp only[];omega) _).setCell (by simp only[];omega) _).setCell (by simp only[];omega) _)⟩
 obtain⟨q,rfl⟩:=aS (show 0<=fi by omega);obtain⟨f,hf⟩:∃f,p.funcs[q]?=some f:=⟨_,aA (by omega)⟩;obtain⟨gk,ok,ck,efn,g,hrf,m0,m1,m2,m3⟩:=KZ H.o.2.2.2.funcs hf;simp only[aI,ao]at efn;obtain⟨rfl,rfl⟩:=efn;obtain⟨g1,g3,g4,g6,g7,g9,rfl⟩:=Gv hrf;have hqL:(q:Int)<(p.funcs.length:Int):=by omega
 have HF:Hid (p.funcs[q]?=some f/\f.small/\EI w ⟨.slice g1 f.params.length g3,.slice g4 f.locals.length g6,.slice g7 f.code.length g9⟩ f/\0<f.code.length/\f.wf):=⟨hf,H.o.1.func f (aF hf),hrf,Nat.pos_of_ne_zero (HFA.o.parts.2.2.1.2.2.1 q (aE.1 hf).1 f hf).code0,H.o.2.1.funcs f (aF hf)⟩
 have HFI:Hid (p.funcs[((q:Nat):Int).toNat]?=some f):=by
  show p.funcs[((q:Nat):Int).toNat]?=some f;rw[aX];exact hf
 simp only[]at m0 m1 m2 m3;rw[<-E2.o.2.2.cell (aD m0)]at m0;rw[<-E2.o.2.2.cell (aD m1)]at m1;rw[<-E2.o.2.2.cell (aD m2)]at m2;rw[<-E2.o.2.2.cell (aD m3)]at m3;clear hrf hf;go_upto_region 4 with fail
 refine An (fun u=>Hid ((Ap u w.heap.size #[.slice r1 p.regions.length r3,.slice k1 p.consts.length k3,.slice (some ⟨gk,ok,none⟩) p.funcs.length f3,.slice t1 p.certs.length t3] 28/\Ap u (w.heap.size+1) #[.int .i64 0,.int .i64 0,.int .i64 0,.slice none 0 0] 166/\Below w.heap.size w u)/\Ap u u1.heap.size #[.slice g1 f.params.length g3,.int .i64 f.result,.slice g4 f.locals.length g6,.slice g7 f.code.length g9] 58)) ⟨⟨E2.o.1.keep (Aa _ _),E2.o.2.1.keep (Aa _ _),Ab E2.o.2.2 lR (Aa _ _)⟩,Ap.new _ _ _⟩ ?_
 rintro U4 E4;generalize u1.heap.size=Y at E4⊢;clear E2 m0 m1 m2 m3 p2;clear u1;have y3:=E4.o.2.cell 3;simp only[aQ,aJ,aL]at y3;go_wp2_with fail
 refine(Ei (.slice g7 f.code.length g9) f.code U4 HF.o.2.1.2.2 (Rd.keep HF.o.2.2.1.2.2 E4.o.1.2.2 lR)).mono ?_;rintro e U ⟨r,vb,vo,vi,vl,rfl,hfl,hrd,bb⟩;obtain⟨v1,c1,v2,c2,v3,c3,v4,c4,rfl,rfl,rfl,rfl⟩:=PT hrd;have E5:Hid ((Ap U w.heap.size #[.slice r1 p.regions.length r3,.slice k1 p.consts.length k3,.slice (some ⟨gk,ok,none⟩) p.funcs.length f3,.slice t1 p.certs.length t3] 28/\Ap U (w.heap.size+1) #[.int .i64 0,.int .i64 0,.int .i64 0,.slice none 0 0] 166/\Below w.heap.size w U)/\Ap U Y #[.slice g1 f.params.length g3,.int .i64 f.result,.slice g4 f.locals.length g6,.slice g7 f.code.length g9] 58/\Fu U (.slice v1 r.blocks.length c1) (.slice v2 r.order.length c2) (.slice v3 r.idom.length c3) (.slice v4 r.loops.length c4) r):=⟨⟨E4.o.1.1.keep bb,E4.o.1.2.1.keep bb,Ab E4.o.1.2.2 lR bb⟩,E4.o.2.keep bb,hrd⟩
 have HFL:=Af hfl;clear hfl hrd bb E4 y3;clear U4;go_upto_region 5 with fail
 refine An (fun u=>Hid ((Ap u w.heap.size #[.slice r1 p.regions.length r3,.slice k1 p.consts.length k3,.slice (some ⟨gk,ok,none⟩) p.funcs.length f3,.slice t1 p.certs.length t3] 28/\Ap u (w.heap.size+1) #[.int .i64 0,.int .i64 0,.int .i64 0,.slice none 0 0] 166/\Below w.heap.size w u)/\Ap u Y #[.slice g1 f.params.length g3,.int .i64 f.result,.slice g4 f.locals.length g6,.slice g7 f.code.length g9] 58/\Ap u U.heap.size #[.int .i64 r.code,.int .i64 r.at_,.slice v1 r.blocks.length c1,.slice v2 r.order.length c2,.slice v3 r.idom.length c3,.slice v4 r.loops.length c4] 163/\Below U.heap.size U u)) ⟨⟨E5.o.1.1.keep (Aa _ _),E5.o.1.2.1.keep (Aa _ _),Ab E5.o.1.2.2 lR (Aa _ _)⟩,E5.o.2.1.keep (Aa _ _),Ap.new _ _ _,Aa _ _⟩ ?_
 rintro U6 E6;obtain⟨y0,y1,y2,y3,y4,y5⟩:=ER E6.o.2.2.1;by_cases hc0:r.code=0
 case neg=>
  have hc0':(r.code != 0)=true:=by simpa using hc0
  have HN:Hid (¬Mf p (q:Int)):=fun e=>by
   obtain⟨f',hf',r',hr',h0'⟩:=e.2.2;rw[HFI.o]at hf';have ef:=aZ hf';subst ef;have er:=hr'.one HFL.o;subst er;exact hc0 h0'
  have E7:=Af E6.o.1;obtain⟨q0,q1,q2,q3⟩:=BD E7.o.2.1;obtain⟨fz0,fz1,fz2,fz3⟩:=MS E7.o.2.1;go_wp2_with fail
  have G:Hid _:=(((E7.o.2.1.set 0 (.int .i64 (6))).set 1 (.int .i64 (0))).set 2 (.int .i64 (0))).set 3 (.slice none 0 0);simp only[aY,au,aw]at G;clear q0 q1 q2 q3;obtain⟨q0,q1,q2,q3⟩:=BD G.o;exact aW (v:=.agg #[.int .i64 (6),.int .i64 (0),.int .i64 (0),.slice none 0 0]) (by simp[results,Tryz.results98,go_sem,q0,q1,q2,q3]) rfl ⟨⟨6,0,0,[]⟩,.slice none 0 0,rfl,.inl ⟨HN.o,rfl⟩,FM _ 0,((((E7.o.2.2.setCell (by simp only[];omega) _).setCell (by simp only[];omega) _).setCell (by simp only[];omega) _).setCell (by simp only[];omega) _)⟩
 rw[hc0]at y0;have HI:=Af (HFL.o.inn hc0);have HO:=Af (HFL.o.ord hc0);have hnb:r.blocks.length<=1024:=HI.o.nb;have hnc:f.code.length<=1024:=HI.o.len;have x3:=E6.o.2.1.cell 3;simp only[aQ,aJ,aL]at x3;have HE:=Af E5;clear E5;have hUs:=E6.o.2.2.2.size;go_upto_region 8 with(at_make;refine bu _ rfl _ _ 23 rfl U.heap.size 47 l0 (.slice none 0 0) 1 Tryz.underlying23 hl hl0 hl1 .i64 .i64 _ _ f.code.length rfl rfl rfl rfl (by rw[hl2];omega) (by unfold maxLen;omega) hUs ?_;intro w7 hown7 hgrow7;rw[K9]at hown7)
 obtain⟨GS,eGS⟩:∃G,G=U6.heap.size:=⟨_,rfl⟩;obtain⟨OB,eOB⟩:∃G,G=w7.heap.size:=⟨_,rfl⟩
 have E8:Hid (Ap (w7.alloc (.cells #[.int .i64 0,.int .i64 0,.int .i64 0,.slice (some ⟨GS,0,none⟩) f.code.length f.code.length] 166)) U.heap.size #[.int .i64 r.code,.int .i64 r.at_,.slice v1 r.blocks.length c1,.slice v2 r.order.length c2,.slice v3 r.idom.length c3,.slice v4 r.loops.length c4] 163/\Below U.heap.size U (w7.alloc (.cells #[.int .i64 0,.int .i64 0,.int .i64 0,.slice (some ⟨GS,0,none⟩) f.code.length f.code.length] 166))/\(w7.alloc (.cells #[.int .i64 0,.int .i64 0,.int .i64 0,.slice (some ⟨GS,0,none⟩) f.code.length f.code.length] 166)).ownsRow U.heap.size 47 1 (.slice (some ⟨GS,0,none⟩) f.code.length f.code.length) f.code.length (List.replicate f.code.length (.slice none 0 0))/\Ap (w7.alloc (.cells #[.int .i64 0,.int .i64 0,.int .i64 0,.slice (some ⟨GS,0,none⟩) f.code.length f.code.length] 166)) OB #[.int .i64 0,.int .i64 0,.int .i64 0,.slice (some ⟨GS,0,none⟩) f.code.length f.code.length] 166/\U.heap.size<GS/\GS<OB/\OB<(w7.alloc (.cells #[.int .i64 0,.int .i64 0,.int .i64 0,.slice (some ⟨GS,0,none⟩) f.code.length f.code.length] 166)).heap.size):=by
  have b7:=Hi hgrow7;have lt7:=(hown7.lt _ rfl).2;have l6:=E6.o.2.2.1.lt;simp only[]at lt7;rw[<-eGS]at hown7 lt7;refine⟨(E6.o.2.2.1.keep b7).keep (Aa _ _),Ab (Ab E6.o.2.2.2 lR b7) lR (Aa _ _),Ah hown7 (Aa _ _) lR,by rw[eOB];exact Ap.new _ _ _,by omega,by omega,by rw[eOB];simp⟩
 rw[<-eGS,<-eOB];refine An (fun u=>Hid (Ap u U.heap.size #[.int .i64 r.code,.int .i64 r.at_,.slice v1 r.blocks.length c1,.slice v2 r.order.length c2,.slice v3 r.idom.length c3,.slice v4 r.loops.length c4] 163/\Below U.heap.size U u/\u.ownsRow U.heap.size 47 1 (.slice (some ⟨GS,0,none⟩) f.code.length f.code.length) f.code.length (List.replicate f.code.length (.slice none 0 0))/\Ap u OB #[.int .i64 0,.int .i64 0,.int .i64 0,.slice (some ⟨GS,0,none⟩) f.code.length f.code.length] 166/\U.heap.size<GS/\GS<OB/\OB<u.heap.size)) E8 ?_
 clear hown7 hgrow7 E6 y0 y1 y2 y3 y4 y5 x3 hUs eGS eOB E8;clear w7 U6;rintro U8 E8;obtain⟨y0,y1,y2,y3,y4,y5⟩:=ER E8.o.1;have hUs:=E8.o.2.1.size;go_upto_region 9 with(at_make;refine bu _ rfl _ _ 159 rfl U.heap.size 4 j0 (.bool false) 1 Tryz.underlying159 hj hy0 hy1 .i64 .i64 _ _ r.blocks.length rfl rfl rfl rfl (by rw[hy2];omega) (by unfold maxLen;omega) hUs ?_;intro w7 hown7 hgrow7;rw[Dj]at hown7)
 obtain⟨GC,eGC⟩:∃G,G=U8.heap.size:=⟨_,rfl⟩
 have E9:Hid (Ap w7 U.heap.size #[.int .i64 r.code,.int .i64 r.at_,.slice v1 r.blocks.length c1,.slice v2 r.order.length c2,.slice v3 r.idom.length c3,.slice v4 r.loops.length c4] 163/\Below U.heap.size U w7/\w7.ownsRow U.heap.size 47 1 (.slice (some ⟨GS,0,none⟩) f.code.length f.code.length) f.code.length (List.replicate f.code.length (.slice none 0 0))/\Ap w7 OB #[.int .i64 0,.int .i64 0,.int .i64 0,.slice (some ⟨GS,0,none⟩) f.code.length f.code.length] 166/\U.heap.size<GS/\GS<OB/\w7.ownsRow U.heap.size 4 1 (.slice (some ⟨GC,0,none⟩) r.blocks.length r.blocks.length) r.blocks.length (List.replicate r.blocks.length (.bool false))/\OB<GC/\GC<w7.heap.size):=by
  have b7:=Hi hgrow7;have lt7:=(hown7.lt _ rfl).2;simp only[]at lt7;rw[<-eGC]at hown7 lt7;exact⟨E8.o.1.keep b7,Ab E8.o.2.1 lR b7,Ah E8.o.2.2.1 b7 lR,E8.o.2.2.2.1.keep b7,E8.o.2.2.2.2.1,E8.o.2.2.2.2.2.1,hown7,by rw[eGC];exact E8.o.2.2.2.2.2.2,lt7⟩
 rw[<-eGC];refine An (fun u=>Hid (Ap u U.heap.size #[.int .i64 r.code,.int .i64 r.at_,.slice v1 r.blocks.length c1,.slice v2 r.order.length c2,.slice v3 r.idom.length c3,.slice v4 r.loops.length c4] 163/\Below U.heap.size U u/\u.ownsRow U.heap.size 47 1 (.slice (some ⟨GS,0,none⟩) f.code.length f.code.length) f.code.length (List.replicate f.code.length (.slice none 0 0))/\Ap u OB #[.int .i64 0,.int .i64 0,.int .i64 0,.slice (some ⟨GS,0,none⟩) f.code.length f.code.length] 166/\U.heap.size<GS/\GS<OB/\u.ownsRow U.heap.size 4 1 (.slice (some ⟨GC,0,none⟩) r.blocks.length r.blocks.length) r.blocks.length (List.replicate r.blocks.length (.bool false))/\OB<GC/\GC<u.heap.size)) E9 ?_
 clear hown7 hgrow7 E8 y0 y1 y2 y3 y4 y5 hUs eGC E9;clear w7 U8;rintro U9 E9;obtain⟨y0,y1,y2,y3,y4,y5⟩:=ER E9.o.1;have hUs:=E9.o.2.1.size;go_upto_region 10 with(at_make;refine bu _ rfl _ _ 23 rfl U.heap.size 47 l0 (.slice none 0 0) 1 Tryz.underlying23 hl hl0 hl1 .i64 .i64 _ _ r.blocks.length rfl rfl rfl rfl (by rw[hl2];omega) (by unfold maxLen;omega) hUs ?_;intro w7 hown7 hgrow7;rw[K9]at hown7)
 obtain⟨GF,eGF⟩:∃G,G=U9.heap.size:=⟨_,rfl⟩
 have E10:Hid (Gz U (w7.setCell ⟨GC,0,none⟩ (.bool true)) f.code.length OB GS GC GF w7.heap.size r (.slice v1 r.blocks.length c1) (.slice v2 r.order.length c2) (.slice v3 r.idom.length c3) (.slice v4 r.loops.length c4) (List.replicate f.code.length (.slice none 0 0)) (List.replicate r.blocks.length (.slice none 0 0)) Pe/\w7.cell? ⟨GC,0,none⟩=some (.bool false)/\w7.frozen? ⟨GC,0,none⟩=false):=by
  have b7:=Hi hgrow7;have lt7:=(hown7.lt _ rfl).2;simp only[]at lt7;rw[<-eGF]at hown7 lt7;have hca:=Ah E9.o.2.2.2.2.2.2.1 b7 lR;refine⟨Gz.start (E9.o.1.keep b7) (Ab E9.o.2.1 lR b7) (Ah E9.o.2.2.1 b7 lR) (E9.o.2.2.2.1.keep b7) hca hown7 ⟨E9.o.2.2.2.2.1,E9.o.2.2.2.2.2.1,E9.o.2.2.2.2.2.2.2.1,by have:=E9.o.2.2.2.2.2.2.2.2;omega,lt7⟩,?_,hca.frozenAt 0⟩;have:=hca.cellAt 0 (by simp;exact HO.o.pos);simpa[HO.o.pos]using this
 rw[<-eGF];obtain⟨B,eB⟩:∃B,B=w7.heap.size:=⟨_,rfl⟩;rw[<-eB]at E10;clear hown7 hgrow7 E9 y0 y1 y2 y3 y4 y5 hUs eGF eB;obtain⟨hz0,hz1⟩:=E10.o.2;have hposI:(0:Int)<(r.blocks.length:Int):=by have:=HO.o.pos;omega
 have hpos:=HO.o.pos;go_upto_region 11 with fail
 refine An (fun u=>Hid (Gz U u f.code.length OB GS GC GF B r (.slice v1 r.blocks.length c1) (.slice v2 r.order.length c2) (.slice v3 r.idom.length c3) (.slice v4 r.loops.length c4) (List.replicate f.code.length (.slice none 0 0)) (List.replicate r.blocks.length (.slice none 0 0)) Pe)) E10.o.1 ?_;clear E10 hz0 hz1;clear w7 U9;rintro U11 E11;obtain⟨RUN,hRUN⟩:∃R,R=GZ p f r.blocks (r.order.map Int.toNat) Pe:=⟨_,rfl⟩;have HRUN:=Af hRUN.symm;clear hRUN;have HTG:Hid (NJ p ((q:Nat):Int) (Ts f.code.length RUN)):=.inr ⟨HFA.o,Int.natCast_nonneg _,f,r,HFI.o,HFL.o,hc0,by rw[HRUN.o]⟩;go_wp2_with fail
 go_loopw [10] (fun i wr=>∃(k:Nat) (RS RF:List Value) (s:WS),k<=r.order.length/\i=.int .i64 k/\Hid (GZ p f r.blocks ((r.order.map Int.toNat).drop k) s=RUN/\(∀b sh,s.c b=some sh->sh.length<=s.d)/\s.d<=64)/\Hid (Gz U wr f.code.length OB GS GC GF B r (.slice v1 r.blocks.length c1) (.slice v2 r.order.length c2) (.slice v3 r.idom.length c3) (.slice v4 r.loops.length c4) RS RF s)) (fun i _=>r.order.length-(intOf i).toNat)
 case atStart=>exact⟨0,_,_,Pe,by omega,rfl,⟨HRUN.o,fun b sh e=>by simp only[Pe]at e⊢;split at e<;>simp at e;subst e;simp,by simp[Pe]⟩,E11⟩
 case round=>
 clear E11;obtain⟨k,RS,RF,s,hk,rfl,HS,E⟩:=hrel;have hol:r.order.length<=1024:=HO.o.len;by_cases hlt:k<r.order.length
 case pos=>
  obtain⟨z,hz⟩:∃z,r.order[k]?=some z:=⟨_,aA hlt⟩;obtain⟨b,ez,hb⟩:=HO.o.ord z (aF hz);obtain⟨m,hm⟩:∃m,r.blocks[b]?=some m:=⟨_,aA hb⟩;obtain⟨ma,me,ema,eme,hme,hmn⟩:=HI.o.blk b m hm;obtain⟨gb,ob,xa,xc,ev,x0,x1,x2,hrb⟩:=RN HE.o.2.2.blocks hm;subst ev;rw[ema,<-E.o.bel.cell (aD x0)]at x0;rw[eme,<-E.o.bel.cell (aD x1)]at x1;rw[<-E.o.bel.cell (aD x2)]at x2;rcases HE.o.2.2.order.2 with⟨q0,_⟩|⟨gd,od,cd,q1,hcd⟩
  . omega
  simp only[aI,ao]at q1;obtain⟨rfl,rfl⟩:=q1;have z0:=Rd.elem Al hcd k z hz 0 _ rfl;rw[bR,aT,ez]at z0;have HZ:Hid (r.order[k]?=some z/\z=(b:Int)/\r.blocks[b]?=some m/\m.first=(ma:Int)/\m.last=(me:Int)/\RC U (.slice xa m.next.length xc) m/\U.cell? ⟨gd,od+k,none⟩=some (.int .i64 (b:Int))):=⟨hz,ez,hm,ema,eme,hrb,z0⟩
  rw[<-E.o.bel.cell (aD z0)]at z0;clear hcd hz ez hm ema eme hrb;have hbI:(b:Int)<(r.blocks.length:Int):=by omega
  obtain⟨y0,y1,y2,y3,y4,y5⟩:=ER E.o.lb;clear y0 y1 y4 y5;have s1:¬U.heap.size=wr.heap.size:=bC (aD y2);have s2:U.heap.size<wr.heap.size:=aD y2;have s5:¬gb=wr.heap.size:=bC (aD x0);have s6:gb<wr.heap.size:=aD x0;have s7:¬gd=wr.heap.size:=bC (aD z0);have s8:gd<wr.heap.size:=aD z0;go_upto_region 14 with fail
  go_region
  refine AQ (fun u=>Hid (Gz U u f.code.length OB GS GC GF B r (.slice (some ⟨gb,ob,none⟩) r.blocks.length c1) (.slice (some ⟨gd,od,none⟩) r.order.length c2) (.slice v3 r.idom.length c3) (.slice v4 r.loops.length c4) RS RF s/\Ap u wr.heap.size #[.int .i64 (ma:Int),.int .i64 (me:Int),.slice xa m.next.length xc] 169)) ?_ ?_
  . exact⟨(E.o.keep (Aa _ _)).keep (Ae _),(Ap.new wr _ _).keep (Ae _)⟩
  rintro U15 F1;have hXB:B<=wr.heap.size:=E.o.sz;generalize wr.heap.size=XB at F1 hXB⊢;clear s1 s2 s5 s6 s7 s8 x0 x1 x2 z0 y2 y3 E;obtain⟨V0,hV0⟩:∃V,RF[b]?=some V:=⟨_,aA (by rw[F1.o.1.fl];exact hb)⟩;have hrow:=F1.o.1.rfw b V0 hV0;have c9:=F1.o.1.fa.cellAt b (by omega);rw[hV0]at c9;have z0:=HZ.o.2.2.2.2.2.2;rw[<-F1.o.1.bel.cell (aD z0)]at z0;obtain⟨y0,y1,y2,y3,y4,y5⟩:=ER F1.o.1.lb
  have hsl:((s.c b).getD []).length<=64:=by
   cases e:s.c b with
   |none=>simp
   | some sh=>
     have h1:=HS.o.2.1 b sh e;have h2:=HS.o.2.2;simp only[eH];omega
  have hSZ:=F1.o.1.sz;have s7:¬gd=U15.heap.size:=bC (aD z0);have s8:gd<U15.heap.size:=aD z0;have s9:¬GF=U15.heap.size:=bC (aD c9);have s10:GF<U15.heap.size:=aD c9;have s11:¬U.heap.size=U15.heap.size:=bC (aD y3);have s12:U.heap.size<U15.heap.size:=aD y3;go_upto_region 16 with(at_builtin;refine Ny rfl _ _ rfl U15 B B V0 ((s.c b).getD []) rfl rfl hrow hSZ (by omega) ?_;intro v15 w15 hrow15 b15)
  refine An (fun u=>Hid ((Gz U u f.code.length OB GS GC GF B r (.slice (some ⟨gb,ob,none⟩) r.blocks.length c1) (.slice (some ⟨gd,od,none⟩) r.order.length c2) (.slice v3 r.idom.length c3) (.slice v4 r.loops.length c4) RS RF s/\Ap u XB #[.int .i64 (ma:Int),.int .i64 (me:Int),.slice xa m.next.length xc] 169)/\CH u B v15 ((s.c b).getD []))) ⟨⟨F1.o.1.keep b15,F1.o.2.keep b15⟩,hrow15⟩ ?_
  clear hrow15 b15 hrow c9 z0 y0 y1 y2 y3 y4 y5 hSZ s7 s8 s9 s10 s11 s12 F1 hV0;clear w15;rintro U16 F2;obtain⟨R0,hR0⟩:∃R,R=FX p f (me+1-ma) ma ((s.c b).getD []) s.t s.d:=⟨_,rfl⟩;have HR0:=Af hR0.symm;clear hR0
  have HSL:Hid (((s.c b).getD []).length<=s.d):=by
   show((s.c b).getD []).length<=s.d;cases e:s.c b with
   |none=>simp
   |some sh=>exact HS.o.2.1 b sh e
  obtain⟨x0,x1,x2⟩:=Fx F2.o.1.2;go_wp2_with fail
  go_loopw [12,13] (fun V i wr=>∃(d:Nat) (RS:List Value) (sh:List Int) (T:Nat->List Int) (D:Nat),ma<=d/\d<=me+1/\i=.int .i64 d/\Hid ((FX p f (me+1-d) d sh T D=R0\/(d=me+1/\R0=.inr ([],T,D)/\m.next=[]))/\sh.length<=D/\D<=64/\s.d<=D/\CH wr B V sh)/\Hid (Gz U wr f.code.length OB GS GC GF B r (.slice (some ⟨gb,ob,none⟩) r.blocks.length c1) (.slice (some ⟨gd,od,none⟩) r.order.length c2) (.slice v3 r.idom.length c3) (.slice v4 r.loops.length c4) RS RF ⟨s.c,T,D⟩/\Ap wr XB #[.int .i64 (ma:Int),.int .i64 (me:Int),.slice xa m.next.length xc] 169)) (fun _ i _=>me+1-(intOf i).toNat)
  case atStart=>exact⟨ma,RS,_,s.t,s.d,by omega,by omega,rfl,⟨.inl HR0.o,HSL.o,HS.o.2.2,Nat.le_refl _,F2.o.2⟩,F2.o.1⟩
  case round=>
  clear F2 x0 x1 x2 HSL;obtain⟨d,RS',sh,T,D,hd1,hd2,rfl,HK,F⟩:=hrel;obtain⟨x0,x1,x2⟩:=Fx F.o.2;have hsh:sh.length<=64:=aR HK.o.2.1 HK.o.2.2.1;by_cases hle:d<=me
  case pos=>
   have hleI:(d:Int)<=(me:Int):=by omega
   have hRun:FX p f (me+1-d) d sh T D=R0:=HK.o.1.elim id fun e=>absurd e.1 (by omega)
   obtain⟨⟨yo,ya,yb,yc⟩,hyx⟩:∃y,f.code[d]?=some y:=⟨_,aA (by omega)⟩;have HY:Hid (f.code[d]?=some ⟨yo,ya,yb,yc⟩/\FX p f (me+1-d) d sh T D=R0):=⟨hyx,hRun⟩
   clear hRun hyx;have hdI:(d:Int)<(f.code.length:Int):=by omega
   obtain⟨o0,o1,o2,o3⟩:=BD F.o.1.ob;go_upto_region 19 with fail
   have hsc:=F.o.1.sa.cellAt d (by omega);have hsf:=F.o.1.sa.frozenAt d;obtain⟨V1,hV1⟩:∃V,RS'[d]?=some V:=⟨_,aA (by rw[F.o.1.sl];omega)⟩;rw[hV1]at hsc;obtain⟨va,vc,eV⟩:=AZ HK.o.2.2.2.2;subst eV;have HR19:Hid (Gz U wr.drew f.code.length OB GS GC GF B r (.slice (some ⟨gb,ob,none⟩) r.blocks.length c1) (.slice (some ⟨gd,od,none⟩) r.order.length c2) (.slice v3 r.idom.length c3) (.slice v4 r.loops.length c4) RS' RF ⟨s.c,T,D⟩/\Ap wr.drew XB #[.int .i64 (ma:Int),.int .i64 (me:Int),.slice xa m.next.length xc] 169/\CH wr.drew B (.slice va sh.length vc) sh):=⟨F.o.1.keep (Ae _),F.o.2.keep (Ae _),HK.o.2.2.2.2.keep (Ae _)⟩
   have hB19:B<=wr.drew.heap.size:=HR19.o.1.sz;have bo:wr.drew.cell? ⟨OB,3,none⟩=some (.slice (some ⟨GS,0,none⟩) f.code.length f.code.length):=HR19.o.1.ob.cell 3;refine wp_region_held_drew (S:=fun w'=>w'.cell? ⟨OB,3,none⟩=some (.slice (some ⟨GS,0,none⟩) f.code.length f.code.length)) (by kernel_rfl) bo (fun hHeld=> ?_);refine wpAnyH_take (i:=0) (v:= ?_) rfl (by kernel_rfl) (by kernel_rfl) (by kernel_rfl) (fun _ _ _ h=>h) (Or.inl ⟨by rfl,?_⟩) (by assumption) ?_;rotate_left
   . (intro w hSw;(try dsimp only at hSw);go_simp;(try with_reducible rfl))
   refine wpAnyH_take (i:=1) (v:= ?_) rfl (by kernel_rfl) (by kernel_rfl) (by kernel_rfl) (fun _ _ _ h=>h) (Or.inl ⟨by rfl,?_⟩) (by assumption) ?_;rotate_left
   . (intro w hSw;(try dsimp only at hSw);go_simp;(try with_reducible rfl))
   refine wpAnyH_take (i:=2) (v:= ?_) rfl (by kernel_rfl) (by kernel_rfl) (by kernel_rfl) (fun _ _ _ h=>h) (Or.inl ⟨by rfl,?_⟩) (by assumption) ?_;rotate_left
   . (intro w hSw;(try dsimp only at hSw);go_simp;(try with_reducible rfl))
   refine wpAnyH_take (i:=4) (v:= ?_) rfl (by kernel_rfl) (by kernel_rfl) (by kernel_rfl) (fun _ _ _ h=>h) (Or.inl ⟨by rfl,?_⟩) (by assumption) ?_;rotate_left
   . (intro w hSw;(try dsimp only at hSw);go_simp;(try with_reducible rfl))
   refine FL 3 ?_;intro KC hKC;go_simp;refine hKC.o _ _ (by have:=(HR19.o.1.keep (Aa wr.drew (.cells #[] 2))).ob.cell 3;exact this) (fun hHeld=> ?_);clear hKC KC;refine FL 5 ?_;intro KC hKC;refine PX rfl _ _ rfl wr.drew B B (.slice va sh.length vc) sh (by simp[Act.eval]) (by simp[Act.eval]) HR19.o.2.2 hB19 (by omega) ?_;intro v19 w19 hrow19 b19;obtain⟨a19,k19,e19⟩:=AZ hrow19;subst e19;have F19:=Af (aG (HR19.o.1.keep b19) (aG (HR19.o.2.1.keep b19) (HR19.o.2.2.keep b19)));go_simp;refine hKC.o _ _ (by have:=F19.o.1.ob.cell 3;exact this) (fun hHeld=> ?_);clear hKC KC;refine wpAnyH_take (i:=6) (v:= ?_) rfl (by kernel_rfl) (by kernel_rfl) (by kernel_rfl) (fun _ _ _ h=>h) (Or.inl ⟨by rfl,?_⟩) (by assumption) ?_;rotate_left
   . (intro w hSw;(try dsimp only at hSw);go_simp;(try with_reducible rfl))
   refine FL 7 ?_;intro KC hKC;have c19:=F19.o.1.sa.cellAt d (by omega);rw[hV1]at c19;have z19:=F19.o.1.sa.frozenAt d
   have F20:Hid (Gz U (w19.setCell ⟨GS,d,none⟩ (.slice a19 sh.length k19)) f.code.length OB GS GC GF B r (.slice (some ⟨gb,ob,none⟩) r.blocks.length c1) (.slice (some ⟨gd,od,none⟩) r.order.length c2) (.slice v3 r.idom.length c3) (.slice v4 r.loops.length c4) (RS'.set d (.slice a19 sh.length k19)) RF ⟨s.c,Iq T d sh,D⟩/\Ap (w19.setCell ⟨GS,d,none⟩ (.slice a19 sh.length k19)) XB #[.int .i64 (ma:Int),.int .i64 (me:Int),.slice xa m.next.length xc] 169/\CH (w19.setCell ⟨GS,d,none⟩ (.slice a19 sh.length k19)) B (.slice va sh.length vc) sh):=by
    have t3:=F19.o.1.tb.h4;have t4:=F19.o.1.tb.h5;have t5:=F19.o.1.tb.h6;have t6:=F19.o.1.tb.h7;exact⟨F19.o.1.setS hrow19,F19.o.2.1.other (by simp only[];omega) _,F19.o.2.2.set (by simp only[];omega) _⟩
   go_simp;refine hKC.o _ _ (by have:=F20.o.1.ob.cell 3;exact this) (fun hHeld=> ?_);clear hKC KC;refine wpAnyH_done (by kernel_rfl) ?_ _;go_upto_region 20 with fail
   refine An (fun u=>Hid (Gz U u f.code.length OB GS GC GF B r (.slice (some ⟨gb,ob,none⟩) r.blocks.length c1) (.slice (some ⟨gd,od,none⟩) r.order.length c2) (.slice v3 r.idom.length c3) (.slice v4 r.loops.length c4) (RS'.set d (.slice a19 sh.length k19)) RF ⟨s.c,Iq T d sh,D⟩/\Ap u XB #[.int .i64 (ma:Int),.int .i64 (me:Int),.slice xa m.next.length xc] 169/\CH u B (.slice va sh.length vc) sh)) F20.o ?_
   clear hHeld F20 F19 HR19 hrow19 b19 c19 z19 hB19 bo o0 o1 o2 o3 hsc hsf x0 x1 x2 F;rintro U20 F;have rfn:=HF.o.2.2.1;have belw:Below w.heap.size w U20:=Ab HE.o.1.2.2 lR F.o.1.bel;rcases rfn.2.2.2 with⟨q0,_⟩|⟨gc,oc,cc,q1,hcc⟩
   . omega
   simp only[aI,ao]at q1;have HQ:=Af q1.1;have w0:=Rd.elem MI.cells_length hcc d _ HY.o.1 0 _ rfl;have w1:=Rd.elem MI.cells_length hcc d _ HY.o.1 1 _ rfl;have w2:=Rd.elem MI.cells_length hcc d _ HY.o.1 2 _ rfl;have w3:=Rd.elem MI.cells_length hcc d _ HY.o.1 3 _ rfl;rw[<-belw.cell (aD w0),aT]at w0;rw[<-belw.cell (aD w1)]at w1;rw[<-belw.cell (aD w2)]at w2;rw[<-belw.cell (aD w3)]at w3;simp only[]at w0 w1 w2 w3;have f3':=(HE.o.2.1.keep F.o.1.bel).cell 3;simp only[aQ,aJ,aL,HQ.o]at f3';clear hcc q1 rfn;have s1:¬gc=U20.heap.size:=bC (aD w0);have s2:gc<U20.heap.size:=aD w0;go_upto_region 21 with fail
   refine An (fun u=>Hid ((Gz U u f.code.length OB GS GC GF B r (.slice (some ⟨gb,ob,none⟩) r.blocks.length c1) (.slice (some ⟨gd,od,none⟩) r.order.length c2) (.slice v3 r.idom.length c3) (.slice v4 r.loops.length c4) (RS'.set d (.slice a19 sh.length k19)) RF ⟨s.c,Iq T d sh,D⟩/\Ap u XB #[.int .i64 (ma:Int),.int .i64 (me:Int),.slice xa m.next.length xc] 169/\CH u B (.slice va sh.length vc) sh)/\Ap u U20.heap.size #[.int .i64 yo,.int .i64 ya,.int .i64 yb,.int .i64 yc] 97)) ⟨⟨F.o.1.keep (Aa _ _),F.o.2.1.keep (Aa _ _),F.o.2.2.keep (Aa _ _)⟩,Ap.new _ _ _⟩ ?_
   clear w0 w1 w2 w3 f3' s1 s2 F belw;rintro U21 F;generalize U20.heap.size=IB at F⊢;obtain⟨w0,w1,w2,w3⟩:=BD F.o.2;have HOK:=Af (HFA.o.instr HF.o.1 HY.o.1);have belw:=Af (Ab HE.o.1.2.2 lR F.o.1.1.bel);by_cases hop:yo=29
   case pos=>
    subst hop;obtain⟨f0',f1',f2',f3'⟩:=BD (HE.o.2.1.keep F.o.1.1.bel);go_wp2_with fail
    refine(LK ⟨.slice g1 f.params.length g3,.slice g4 f.locals.length g6,.slice g7 f.code.length g9⟩ f U21 (HF.o.2.2.1.keep belw.o lR)).mono ?_;rintro e u22 ⟨s5,rfl,hr5,b22⟩;have F22:Hid (Gz U u22 f.code.length OB GS GC GF B r (.slice (some ⟨gb,ob,none⟩) r.blocks.length c1) (.slice (some ⟨gd,od,none⟩) r.order.length c2) (.slice v3 r.idom.length c3) (.slice v4 r.loops.length c4) (RS'.set d (.slice a19 sh.length k19)) RF ⟨s.c,Iq T d sh,D⟩/\Ap u22 XB #[.int .i64 (ma:Int),.int .i64 (me:Int),.slice xa m.next.length xc] 169/\CH u22 B (.slice va sh.length vc) sh/\Rd u22 1 s5 (BJ f).length ((BJ f).flatMap Ac)):=⟨F.o.1.1.keep b22,F.o.1.2.1.keep b22,F.o.1.2.2.keep b22,hr5⟩
    clear hr5 b22 F w0 w1 w2 w3 f0' f1' f2' f3' belw;go_wp2_with fail
    refine(Dd (.slice va sh.length vc) s5 sh (BJ f) u22 (by omega) (KB f) (Rd.of_own F22.o.2.2.1) F22.o.2.2.2).mono ?_;rintro e u23 ⟨⟨bb,rfl,hbb⟩,hw4⟩;obtain⟨m4,rfl⟩:=hw4;have F23:Hid (Gz U (u22.drewN m4) f.code.length OB GS GC GF B r (.slice (some ⟨gb,ob,none⟩) r.blocks.length c1) (.slice (some ⟨gd,od,none⟩) r.order.length c2) (.slice v3 r.idom.length c3) (.slice v4 r.loops.length c4) (RS'.set d (.slice a19 sh.length k19)) RF ⟨s.c,Iq T d sh,D⟩/\Ap (u22.drewN m4) XB #[.int .i64 (ma:Int),.int .i64 (me:Int),.slice xa m.next.length xc] 169/\CH (u22.drewN m4) B (.slice va sh.length vc) sh):=⟨F22.o.1.keep (Aj _ _ _),F22.o.2.1.keep (Aj _ _ _),F22.o.2.2.1.keep (Aj _ _ _)⟩
    have HBB:=Af hbb;clear hbb F22;generalize u22.drewN m4=U23 at F23⊢;have hRS:FX p f (me+1-d) d sh T D=R0:=HY.o.2;rw[Lj HY.o.1 hle]at hRS;cases bb
    case false=>
     have hne:¬sh=BJ f:=fun e=>by have:=HBB.o.2 e;cases this
     have hc5:Ha p f ⟨29,ya,yb,yc⟩ sh=5:=by unfold Ha;rw[bj rfl,bX hne]
     have HEND:Hid (RUN=.inl (5,d)):=by
      refine It.bad HS.o.1 HZ.o.1 HZ.o.2.1 HZ.o.2.2.1 HZ.o.2.2.2.1 HZ.o.2.2.2.2.1 ?_;rw[HR0.o,<-hRS,hc5,bX (by decide)]
     clear hRS hc5 hne;obtain⟨q0,q1,q2,q3⟩:=BD (HE.o.1.2.1.keep F23.o.1.bel);obtain⟨fz0,fz1,fz2,fz3⟩:=MS (HE.o.1.2.1.keep F23.o.1.bel);go_wp2_with fail
     have G:Hid _:=((((HE.o.1.2.1.keep F23.o.1.bel).set 0 (.int .i64 (5))).set 1 (.int .i64 ((d:Int)))).set 2 (.int .i64 (0))).set 3 (.slice none 0 0);simp only[aY,au,aw]at G;clear q0 q1 q2 q3;obtain⟨q0,q1,q2,q3⟩:=BD G.o;exact aW (v:=.agg #[.int .i64 (5),.int .i64 ((d:Int)),.int .i64 (0),.slice none 0 0]) (by simp[results,Tryz.results98,go_sem,q0,q1,q2,q3]) rfl ⟨⟨5,(d:Int),0,[]⟩,.slice none 0 0,rfl,by have:=HTG.o;rw[HEND.o]at this;exact this,FM _ 0,(((((Ab HE.o.1.2.2 lR F23.o.1.bel).setCell (by simp only[];omega) _).setCell (by simp only[];omega) _).setCell (by simp only[];omega) _).setCell (by simp only[];omega) _)⟩
    case true=>
     have heq:sh=BJ f:=HBB.o.1 rfl;have hc5:Ha p f ⟨29,ya,yb,yc⟩ sh=0:=by unfold Ha;rw[bj rfl,bj heq]
     have ho5:Np p f ⟨29,ya,yb,yc⟩ sh=[]:=by unfold Np;rw[bj rfl]
     have hbk:(AE f.code)[b]?=some m:=by rw[<-HO.o.blk];exact HZ.o.2.2.1
     have hdm:d=me:=by
      apply dT;intro hne;exact Re hbk HY.o.1 (by rw[HZ.o.2.2.2.1];omega) (by rw[HZ.o.2.2.2.2.1];omega) rfl
     have HEND:Hid (R0=.inr ([],Iq T d sh,D)/\m.next=[]):=by
      refine⟨?_,Rf hbk (HZ.o.2.2.2.2.1.trans (by rw[hdm])) HY.o.1 rfl⟩;rw[<-hRS,hc5,bj rfl,ho5,Nv (by omega)];simp
     have o2:=F23.o.1.ob.cell 2;simp only[aQ,aJ,aL]at o2;have hDS:¬(D:Int)<(sh.length:Int):=by have:=HK.o.2.1;omega
     clear hRS hc5 ho5 hbk heq;go_wp2_with fail
     go_roundw
     case rel=>exact⟨d+1,_,sh,Iq T d sh,D,by omega,by omega,by go_num,⟨.inr ⟨by omega,HEND.o.1,HEND.o.2⟩,HK.o.2.1,HK.o.2.2.1,HK.o.2.2.2.1,F23.o.2.2⟩,F23.o.1,F23.o.2.1⟩
     case measure=>simp[intOf];omega
   case neg=>
    have hop':(yo==29)=false:=by simp[hop]
    obtain⟨p0,p1,p2,p3⟩:=BD (HE.o.1.1.keep F.o.1.1.bel);obtain⟨f0',f1',f2',f3'⟩:=BD (HE.o.2.1.keep F.o.1.1.bel);go_wp2_with fail
    have HGV:=QG HFA.o HOK.o;refine(Ob ⟨.slice r1 p.regions.length r3,.slice k1 p.consts.length k3,.slice (some ⟨gk,ok,none⟩) p.funcs.length f3,.slice t1 p.certs.length t3⟩ p ⟨.slice g1 f.params.length g3,.slice g4 f.locals.length g6,.slice g7 f.code.length g9⟩ f ⟨yo,ya,yb,yc⟩ (.slice va sh.length vc) sh U21 H.o.1 HFA.o.parts.1.1 HF.o.2.1 (HF.o.2.2.2.2.code _ (aF HY.o.1)) (H.o.2.2.2.keep belw.o lR) (HF.o.2.2.1.keep belw.o lR) HOK.o (Rd.of_own F.o.1.2.2) (by omega) (fun a c e=>by obtain⟨a',c',e',hc'⟩:=J5 F.o.1.2.2;rw[e]at e';simp only[aI]at e';omega) HGV.1 HGV.2).mono ?_;clear HGV;rintro e u24 ⟨V24,rfl,hrow24,b24⟩;have F24:Hid (Gz U u24 f.code.length OB GS GC GF B r (.slice (some ⟨gb,ob,none⟩) r.blocks.length c1) (.slice (some ⟨gd,od,none⟩) r.order.length c2) (.slice v3 r.idom.length c3) (.slice v4 r.loops.length c4) (RS'.set d (.slice a19 sh.length k19)) RF ⟨s.c,Iq T d sh,D⟩/\Ap u24 XB #[.int .i64 (ma:Int),.int .i64 (me:Int),.slice xa m.next.length xc] 169):=⟨F.o.1.1.keep b24,F.o.1.2.1.keep b24⟩
    have HRW:Hid (CK p f ⟨yo,ya,yb,yc⟩ sh=0->CH u24 B V24 (Hq p f ⟨yo,ya,yb,yc⟩ sh)):=fun e=>Bv (hrow24 e) F.o.1.1.sz
    have HCO:Hid (Ha p f ⟨yo,ya,yb,yc⟩ sh=CK p f ⟨yo,ya,yb,yc⟩ sh/\Np p f ⟨yo,ya,yb,yc⟩ sh=Hq p f ⟨yo,ya,yb,yc⟩ sh/\(CK p f ⟨yo,ya,yb,yc⟩ sh=0->(Hq p f ⟨yo,ya,yb,yc⟩ sh).length<=64)):=⟨by unfold Ha;rw[bX hop],by unfold Np;rw[bX hop],ME⟩
    have hRS:FX p f (me+1-d) d sh T D=R0:=HY.o.2;rw[Lj HY.o.1 hle,HCO.o.1,HCO.o.2.1]at hRS;clear hrow24 b24 F w0 w1 w2 w3 f0' f1' f2' f3' p0 p1 p2 p3 belw;generalize CK p f ⟨yo,ya,yb,yc⟩ sh=cc at HRW HCO hRS⊢;generalize Hq p f ⟨yo,ya,yb,yc⟩ sh=oo at HRW HCO hRS⊢;by_cases hcz:cc=0
    case neg=>
     have hcz':(cc != 0)=true:=by simpa using hcz
     have HEND:Hid (RUN=.inl (cc,d)):=by
      refine It.bad HS.o.1 HZ.o.1 HZ.o.2.1 HZ.o.2.2.1 HZ.o.2.2.2.1 HZ.o.2.2.2.2.1 ?_;rw[HR0.o,<-hRS,bX hcz]
     clear hRS HRW HCO;obtain⟨q0,q1,q2,q3⟩:=BD (HE.o.1.2.1.keep F24.o.1.bel);obtain⟨fz0,fz1,fz2,fz3⟩:=MS (HE.o.1.2.1.keep F24.o.1.bel);go_wp2_with fail
     have G:Hid _:=((((HE.o.1.2.1.keep F24.o.1.bel).set 0 (.int .i64 (cc))).set 1 (.int .i64 ((d:Int)))).set 2 (.int .i64 (0))).set 3 (.slice none 0 0);simp only[aY,au,aw]at G;clear q0 q1 q2 q3;obtain⟨q0,q1,q2,q3⟩:=BD G.o;exact aW (v:=.agg #[.int .i64 (cc),.int .i64 ((d:Int)),.int .i64 (0),.slice none 0 0]) (by simp[results,Tryz.results98,go_sem,q0,q1,q2,q3]) rfl ⟨⟨cc,(d:Int),0,[]⟩,.slice none 0 0,rfl,by have:=HTG.o;rw[HEND.o]at this;exact this,FM _ 0,(((((Ab HE.o.1.2.2 lR F24.o.1.bel).setCell (by simp only[];omega) _).setCell (by simp only[];omega) _).setCell (by simp only[];omega) _).setCell (by simp only[];omega) _)⟩
    case pos=>
     subst hcz;rw[bj rfl]at hRS;have HRS:Hid _:=hRS;have hrw:=HRW.o rfl;obtain⟨a24,k24,e24⟩:=AZ hrw;subst e24;have HRB:Hid (CH u24 B (.slice a24 oo.length k24) oo/\oo.length<=64):=⟨hrw,HCO.o.2.2 rfl⟩
     have ho64:oo.length<=64:=HRB.o.2;clear hRS hrw HRW HCO;obtain⟨o0,o1,o2,o3⟩:=BD F24.o.1.ob;have of2:=F24.o.1.ob.frozen 2;by_cases hDS:(D:Int)<(oo.length:Int)
     case pos=>
      go_wp2_with fail
      go_roundw
      case rel=>
       have hmax:max D oo.length=oo.length:=by omega
       have t5:=F24.o.1.tb.h5;have t6:=F24.o.1.tb.h6;have t7:=F24.o.1.tb.h7;exact⟨d+1,_,oo,Iq T d sh,oo.length,by omega,by omega,by go_num,⟨.inl (by have:=HRS.o;rw[hmax]at this;exact this),Nat.le_refl _,ho64,by have:=HK.o.2.2.2.1;omega,HRB.o.1.set (by simp only[];omega) _⟩,F24.o.1.setD oo.length,F24.o.2.other (by simp only[];omega) _⟩
      case measure=>simp[intOf];omega
     case neg=>
      go_wp2_with fail
      go_roundw
      case rel=>
       have hmax:max D oo.length=D:=by omega
       exact⟨d+1,_,oo,Iq T d sh,D,by omega,by omega,by go_num,⟨.inl (by have:=HRS.o;rw[hmax]at this;exact this),by omega,HK.o.2.2.1,HK.o.2.2.2.1,HRB.o.1⟩,F24.o.1,F24.o.2⟩
      case measure=>simp[intOf];omega
  case neg=>
   have hdm:d=me+1:=by omega
   have hleI:¬(d:Int)<=(me:Int):=by omega
   have HAT:Hid (It p f r.blocks ((r.order.map Int.toNat).drop (k+1)) me ((m.next.map Int.toNat).drop 0) sh s.c T D RUN):=by
    rw[List.drop_zero];rcases HK.o.1 with e|⟨_,e1,e2⟩
    . rw[Nv hdm]at e
      exact It.of HS.o.1 HZ.o.1 HZ.o.2.1 HZ.o.2.2.1 HZ.o.2.2.2.1 HZ.o.2.2.2.2.1 (by rw[HR0.o,<-e]) (.inl rfl)
    . exact It.of HS.o.1 HZ.o.1 HZ.o.2.1 HZ.o.2.2.1 HZ.o.2.2.2.1 HZ.o.2.2.2.2.1 (by rw[HR0.o,e1]) (.inr e2)
   have HCL:Hid (∀b sh',s.c b=some sh'->sh'.length<=D):=fun b sh' e=>aR (HS.o.2.1 b sh' e) HK.o.2.2.2.1
   have HROW:=HK.o.2.2.2.2;obtain⟨va,vc,eV⟩:=AZ HROW;subst eV;have F30:Hid (Gz U wr f.code.length OB GS GC GF B r (.slice (some ⟨gb,ob,none⟩) r.blocks.length c1) (.slice (some ⟨gd,od,none⟩) r.order.length c2) (.slice v3 r.idom.length c3) (.slice v4 r.loops.length c4) RS' RF ⟨s.c,T,D⟩/\Ap wr XB #[.int .i64 (ma:Int),.int .i64 (me:Int),.slice xa m.next.length xc] 169/\CH wr B (.slice va sh.length vc) sh):=⟨F.o.1,F.o.2,HROW⟩
   have hD64:D<=64:=HK.o.2.2.1;have HSD:=Af HK.o.2.1;clear HROW HK F HR0;have hml:m.next.length<=2:=HI.o.two m (aF HZ.o.2.2.1);go_wp2_with fail
   clear x0 x1 x2;go_loopw [17] (fun q wr=>∃(i:Nat) (RF:List Value) (C:Nat->Option (List Int)),i<=m.next.length/\q=.int .i64 i/\Hid (It p f r.blocks ((r.order.map Int.toNat).drop (k+1)) me ((m.next.map Int.toNat).drop i) sh C T D RUN/\∀b sh',C b=some sh'->sh'.length<=D)/\Hid (Gz U wr f.code.length OB GS GC GF B r (.slice (some ⟨gb,ob,none⟩) r.blocks.length c1) (.slice (some ⟨gd,od,none⟩) r.order.length c2) (.slice v3 r.idom.length c3) (.slice v4 r.loops.length c4) RS' RF ⟨C,T,D⟩/\Ap wr XB #[.int .i64 (ma:Int),.int .i64 (me:Int),.slice xa m.next.length xc] 169/\CH wr B (.slice va sh.length vc) sh)) (fun q _=>m.next.length-(intOf q).toNat)
   case atStart=>exact⟨0,RF,s.c,by omega,rfl,⟨HAT.o,HCL.o⟩,F30⟩
   case round=>
   clear F30 HAT HCL;obtain⟨i,RF,C,hi',rfl,HA,F⟩:=hrel;obtain⟨x0,x1,x2⟩:=Fx F.o.2.1;by_cases hil:i<m.next.length
   case pos=>
    obtain⟨z,hz⟩:∃z,m.next[i]?=some z:=⟨_,aA hil⟩;obtain⟨t,ezt,htl⟩:=HO.o.nxt b m HZ.o.2.2.1 z (aF hz);subst ezt;have hrb:=HZ.o.2.2.2.2.2.1;rcases hrb.2 with⟨q0,_⟩|⟨gn,on,cn,q1,hcn⟩
    . omega
    simp only[aI,ao]at q1;rw[q1.1]at x2;have n0:=Rd.elem Al hcn i _ hz 0 _ rfl;rw[bR,aT,<-F.o.1.bel.cell (aD n0)]at n0;have HN:Hid ((m.next.map Int.toNat).drop i=t::(m.next.map Int.toNat).drop (i+1)):=OK (by rw[bQ,hz];simp);clear hcn hz hrb q1;have hiI:(i:Int)<(m.next.length:Int):=by omega
    have htI:(t:Int)<(r.blocks.length:Int):=by omega
    have cc0:=F.o.1.ca.cellAt t (by omega);have cf0:=F.o.1.ca.frozenAt t;obtain⟨W0,hW0⟩:∃W,RF[t]?=some W:=⟨_,aA (by rw[F.o.1.fl];exact htl)⟩;have gc0:=F.o.1.fa.cellAt t (by omega);have gf0:=F.o.1.fa.frozenAt t;rw[hW0]at gc0;rw[bQ,eO htl]at cc0;simp only[eM]at cc0;have hGne:¬GF=GC:=by have:=F.o.1.tb.h6;omega
    have hGne':¬GC=GF:=fun e=>hGne e.symm
    have hW:=F.o.1.rfw t W0 hW0;obtain⟨wa,wc,eW⟩:=AZ hW;subst eW;have HW:Hid _:=hW;have HHW:=Af hW0;clear hW hW0;cases hC:C t with
    | none=>
      rw[hC]at cc0;simp only[Option.isSome_none]at cc0
      have HSC:Hid (Gz U ((wr.setCell ⟨GC,t,none⟩ (.bool true)).setCell ⟨GF,t,none⟩ (.slice va sh.length vc)) f.code.length OB GS GC GF B r (.slice (some ⟨gb,ob,none⟩) r.blocks.length c1) (.slice (some ⟨gd,od,none⟩) r.order.length c2) (.slice v3 r.idom.length c3) (.slice v4 r.loops.length c4) RS' (RF.set t (.slice va sh.length vc)) ⟨Jl C t sh,T,D⟩/\Ap ((wr.setCell ⟨GC,t,none⟩ (.bool true)).setCell ⟨GF,t,none⟩ (.slice va sh.length vc)) XB #[.int .i64 (ma:Int),.int .i64 (me:Int),.slice xa m.next.length xc] 169/\CH ((wr.setCell ⟨GC,t,none⟩ (.bool true)).setCell ⟨GF,t,none⟩ (.slice va sh.length vc)) B (.slice va sh.length vc) sh):=by
       have t5:=F.o.1.tb.h5;have t6:=F.o.1.tb.h6;have t7:=F.o.1.tb.h7;exact⟨F.o.1.setC F.o.2.2,(F.o.2.1.other (by simp only[];omega) _).other (by simp only[];omega) _,(F.o.2.2.set (by simp only[];omega) _).set (by simp only[];omega) _⟩
      have HAN:Hid (It p f r.blocks ((r.order.map Int.toNat).drop (k+1)) me ((m.next.map Int.toNat).drop (i+1)) sh (Jl C t sh) T D RUN/\∀b sh',Jl C t sh b=some sh'->sh'.length<=D):=by
       refine⟨It.new (by rw[<-HN.o];exact HA.o.1) hC,fun b sh' e=> ?_⟩;simp only[Jl]at e;split at e
       . cases e;exact HSD.o
       . exact HA.o.2 b sh' e
      clear HW HHW;go_wp2_with fail
      go_roundw
      case rel=>exact⟨i+1,_,Jl C t sh,by omega,by go_num,HAN,HSC⟩
      case measure=>simp[intOf];omega
    | some s1=>
      rw[hC]at cc0;simp only[Option.isSome_some]at cc0;have hgd:(C t).getD []=s1:=by rw[hC];rfl
      have hs1:s1.length<=D:=HA.o.2 t s1 hC;have HCT:=Af hC;simp only[hgd]at HW gc0;clear hC hgd HHW;go_wp2_with fail
      refine(Dd (.slice wa s1.length wc) (.slice va sh.length vc) s1 sh wr (by omega) (by omega) (Rd.of_own HW.o) (Rd.of_own F.o.2.2)).mono ?_;rintro e u37 ⟨⟨bb,rfl,hbb⟩,hw4⟩;obtain⟨m4,rfl⟩:=hw4;have F37:Hid (Gz U (wr.drewN m4) f.code.length OB GS GC GF B r (.slice (some ⟨gb,ob,none⟩) r.blocks.length c1) (.slice (some ⟨gd,od,none⟩) r.order.length c2) (.slice v3 r.idom.length c3) (.slice v4 r.loops.length c4) RS' RF ⟨C,T,D⟩/\Ap (wr.drewN m4) XB #[.int .i64 (ma:Int),.int .i64 (me:Int),.slice xa m.next.length xc] 169/\CH (wr.drewN m4) B (.slice va sh.length vc) sh):=⟨F.o.1.keep (Aj _ _ _),F.o.2.1.keep (Aj _ _ _),F.o.2.2.keep (Aj _ _ _)⟩
      have HBB:=Af hbb;clear hbb F HW x0 x1 x2 cc0 cf0 gc0 gf0 n0;generalize wr.drewN m4=U37 at F37⊢;obtain⟨x0,x1,x2⟩:=Fx F37.o.2.1;cases bb
      case false=>
       have HEND:=Af (It.none_ (by rw[<-HN.o];exact HA.o.1) HCT.o (fun e=>by have:=HBB.o.2 e;cases this));obtain⟨q0,q1,q2,q3⟩:=BD (HE.o.1.2.1.keep F37.o.1.bel);obtain⟨fz0,fz1,fz2,fz3⟩:=MS (HE.o.1.2.1.keep F37.o.1.bel);go_wp2_with fail;have G:Hid _:=((((HE.o.1.2.1.keep F37.o.1.bel).set 0 (.int .i64 (4))).set 1 (.int .i64 ((me:Int)))).set 2 (.int .i64 (0))).set 3 (.slice none 0 0);simp only[aY,au,aw]at G;clear q0 q1 q2 q3;obtain⟨q0,q1,q2,q3⟩:=BD G.o;exact aW (v:=.agg #[.int .i64 (4),.int .i64 ((me:Int)),.int .i64 (0),.slice none 0 0]) (by simp[results,Tryz.results98,go_sem,q0,q1,q2,q3]) rfl ⟨⟨4,(me:Int),0,[]⟩,.slice none 0 0,rfl,by have:=HTG.o;rw[HEND.o]at this;exact this,FM _ 0,(((((Ab HE.o.1.2.2 lR F37.o.1.bel).setCell (by simp only[];omega) _).setCell (by simp only[];omega) _).setCell (by simp only[];omega) _).setCell (by simp only[];omega) _)⟩
      case true=>
       have HAN:=Af (aG (It.same (by rw[<-HN.o];exact HA.o.1) HCT.o (HBB.o.1 rfl)) HA.o.2);go_wp2_with fail;go_roundw
       case rel=>exact⟨i+1,RF,C,by omega,by go_num,HAN,F37⟩
       case measure=>simp[intOf];omega
   case neg=>
    have hie:i=m.next.length:=by omega
    have HAE:Hid (GZ p f r.blocks ((r.order.map Int.toNat).drop (k+1)) ⟨C,T,D⟩=RUN/\(∀b sh,C b=some sh->sh.length<=D)/\D<=64):=by
     refine⟨It.some_ (sh:=sh) (me:=me) ?_,HA.o.2,hD64⟩;have:=HA.o.1;have hdn:(m.next.map Int.toNat).drop i=[]:=List.drop_eq_nil_of_le (by rw[bB];omega);rw[hdn]at this;exact this
    have hiI:¬(i:Int)<(m.next.length:Int):=by omega
    go_wp2_with fail
    go_roundw
    case rel=>exact⟨k+1,_,RF,⟨C,T,D⟩,by omega,by go_num,HAE,F.o.1⟩
    case measure=>simp[intOf];omega
 case neg=>
  have hke:k=r.order.length:=by omega
  have HEND:Hid (RUN=.inr s):=by
   have:=HS.o.1;rw[List.drop_eq_nil_of_le (by rw[bB];omega),GZ]at this;exact this.symm
  have hkI:¬(k:Int)<(r.order.length:Int):=by omega
  obtain⟨y0,y1,y2,y3,y4,y5⟩:=ER E.o.lb;obtain⟨o0,o1,o2,o3⟩:=BD E.o.ob;have hX1:w.heap.size+1<U.heap.size:=HE.o.1.2.1.lt;obtain⟨q0,q1,q2,q3⟩:=BD (HE.o.1.2.1.keep E.o.bel);obtain⟨fz0,fz1,fz2,fz3⟩:=MS (HE.o.1.2.1.keep E.o.bel);go_wp2_with fail
  have G:Hid _:=((((HE.o.1.2.1.keep E.o.bel).set 0 (.int .i64 (0))).set 1 (.int .i64 (0))).set 2 (.int .i64 ((s.d:Int)))).set 3 (.slice (some ⟨GS,0,none⟩) f.code.length f.code.length);simp only[aY,au,aw]at G;clear q0 q1 q2 q3;obtain⟨q0,q1,q2,q3⟩:=BD G.o;exact aW (v:=.agg #[.int .i64 (0),.int .i64 (0),.int .i64 ((s.d:Int)),.slice (some ⟨GS,0,none⟩) f.code.length f.code.length]) (by simp[results,Tryz.results98,go_sem,q0,q1,q2,q3]) rfl ⟨⟨0,0,(s.d:Int),(List.range f.code.length).map s.t⟩,.slice (some ⟨GS,0,none⟩) f.code.length f.code.length,rfl,by have:=HTG.o;rw[HEND.o]at this;exact this,E.o.told hX1 _ _ _ _,(((((Ab HE.o.1.2.2 lR E.o.bel).setCell (by simp only[];omega) _).setCell (by simp only[];omega) _).setCell (by simp only[];omega) _).setCell (by simp only[];omega) _)⟩
end Go.Proofs.YtjcamlobelcepaaGreatDoor
