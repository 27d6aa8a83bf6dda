import Derived.Test.YtjcamlobelcepaaGreatDoorCt41
import Derived.Test.YtjcamlobelcepaaGreatDoorCt35
namespace Go.Proofs.YtjcamlobelcepaaGreatDoor
open Go.ChangeShapes Go.WideShapes Go.ChangeAt Go.RowKit
set_option linter.unusedVariables false
set_option maxHeartbeats 8000000
set_option maxRecDepth 100000
def Ru(w:World)(e:Ending)(w':World):Prop:=(∃n,e=.returned (.int .i64 n)/\Uk n)/\Below w.heap.size w w'
theorem LF(k:Nat)(hk:k<30):∃(s:ByteArray) (c f:Int),(BR k).toArray=#[.string s,.int .i64 c,.int .i64 f]/\0<=c/\c<=4294967295:=by
 have h:k=0\/k=1\/k=2\/k=3\/k=4\/k=5\/k=6\/k=7\/k=8\/k=9\/k=10\/k=11\/k=12\/k=13\/k=14\/k=15\/k=16\/k=17\/k=18\/k=19\/k=20\/k=21\/k=22\/k=23\/k=24\/k=25\/k=26\/k=27\/k=28\/k=29:=by omega
 clear hk;rcases h with rfl|rfl|rfl|rfl|rfl|rfl|rfl|rfl|rfl|rfl|rfl|rfl|rfl|rfl|rfl|rfl|rfl|rfl|rfl|rfl|rfl|rfl|rfl|rfl|rfl|rfl|rfl|rfl|rfl|rfl<;>exact⟨_,_,_,rfl,by decide,by decide⟩
theorem MZ(op:Int):∃(s:ByteArray) (c f:Int),CL op=#[.string s,.int .i64 c,.int .i64 f]/\Kd c:=by
 by_cases h:0<=op/\op<=29
 . unfold CL
   rw[bj h];exact LF _ (by omega)
 . unfold CL
   rw[bX h];exact⟨_,_,_,rfl,by decide,by decide⟩
theorem M2(s:ByteArray)(c f:Int)(w:World):(Instr.field 179 (.agg #[.string s,.int .i64 c,.int .i64 f]) 1).run Tryz.prog w=.ok (.int .i64 c) w:=by kernel_rfl
theorem ON{v:Value}{g n c H:Nat}(h:v.ownBlock=some g\/g=H):(Value.slice (some ⟨g,0,none⟩) n c).ownBlock=v.ownBlock\/(Value.slice (some ⟨g,0,none⟩) n c).ownBlock=some H:=by
 rcases h with e|e
 . exact .inl e.symm
 . exact .inr (by rw[e];rfl)
theorem QM{l:List Int}{n:Nat}(h:∀z∈l,∃b:Nat,z=(b:Int)/\b<n):Ea (l.map Int.toNat)=l:=by
 induction l with
 |nil=>rfl
 | cons x r ih=>
   obtain⟨b,e,_⟩:=h x (by simp);have:=ih fun z hz=>h z (by simp[hz])
   unfold Ea at this⊢;rw[db,db,this,e];rfl
theorem Tn{w:World}{v:Value}{l:List Int}{n:Nat}(h:Rd w 1 v l.length (l.flatMap Ac))(hb:∀z∈l,∃b:Nat,z=(b:Int)/\b<n):KP w v (l.map Int.toNat):=by
 unfold KP;rw[bB,Ij,QM hb];exact h
theorem Tr{l:List Int}{n:Nat}(h:∀z∈l,∃b:Nat,z=(b:Int)/\b<n):∀y∈l.map Int.toNat,y<n:=fun y hy=>by
 obtain⟨z,hz,e⟩:=cE.1 hy;obtain⟨b,e',hb⟩:=h z hz;omega
theorem Tl{u u':World}{B k n:Nat}{e:TypeId}{s:Value}{xs:List Value}(h:u.ownsRow B e k s n xs)(hf:∀b,s.ownBlock=some b->u'.heap[b]?=u.heap[b]?):u'.ownsRow B e k s n xs:=by
 refine⟨h.1,?_⟩;rcases h.2 with h|⟨g,cap,cur,e1,hb1,hgg,hr⟩
 . exact .inl h
 . exact .inr ⟨g,cap,cur,e1,hb1,by rw[hf g (by rw[e1];rfl)];exact hgg,hr⟩
theorem GT.fr{w u u':World}{V:Value}{n m G:Nat}{ys zs:List (ML×Value×Value)}{x:GV}{bad:Bool}{I:List Nat}{C:List Int}(h:GT w u V n ys zs)(hg:Gr w u G m x bad I C)(hb:Below w.heap.size w u')(hf:∀b,b<u.heap.size->b≠G->b≠x.gi->b≠x.gc->u'.heap[b]?=u.heap[b]?):GT w u' V n ys zs:=by
 refine⟨Tl h.own fun b hbb=> ?_,h.len,h.sub,hb⟩;have hlt:=(h.own.lt b hbb).2
 have key:∀(B' k' n' c' g':Nat) (xs':List Value),u.ownsRow B' 2 k' (.slice (some ⟨g',0,none⟩) n' c') n' xs'->b≠g':=fun B' k' n' c' g' xs' ho e=>by
  subst e;obtain⟨_,cur,e1⟩:=AF ho;rcases h.own.2 with⟨e0,_⟩|⟨g,cap,cur',e0,_,hgg,_⟩
  . rw[e0]at hbb
    cases hbb
  . rw[e0]at hbb
    simp only[Value.ownBlock,aM]at hbb;subst hbb;rw[e1]at hgg;injection hgg with q
    injection q with _ q
    exact absurd q (by decide)
 refine hf b hlt (fun e=> ?_) (key _ _ _ _ _ _ hg.is_) (key _ _ _ _ _ _ hg.cost);subst e;have e1:=hg.blk;unfold Ap at e1;rcases h.own.2 with⟨e0,_⟩|⟨g,cap,cur',e0,_,hgg,_⟩
 . rw[e0]at hbb
   cases hbb
 . rw[e0]at hbb
   simp only[Value.ownBlock,aM]at hbb;subst hbb;rw[e1]at hgg;injection hgg with q
   injection q with _ q
   exact absurd q (by decide)
theorem GT.same{w u u':World}{g n c:Nat}{ys zs:List (ML×Value×Value)}(h:GT w u (.slice (some ⟨g,0,none⟩) n c) n ys zs)(h':GT w u' (.slice (some ⟨g,0,none⟩) n c) n ys zs)(j:Nat)(hj:j<n*3):u'.cell? ⟨g,j,none⟩=u.cell? ⟨g,j,none⟩:=by
 rw[bF h.own j hj,bF h'.own j hj]
structure FcR(w w1:World)(v:VP)(p:MP)(f:MF)(gc:Value)(FB:Nat)(r:IL)(z1 z2 z3 z4:Value)(cv:Value)(costs:List Int):Prop where
 pb:Ap w1 w.heap.size #[v.r,v.k,v.f,v.t] 28
 fb:Ap w1 FB #[.int .i64 r.code,.int .i64 r.at_,z1,z2,z3,z4] 163
 rf:Fu w1 z1 z2 z3 z4 r
 rp:Ej w1 v p
 rc:Rd w1 4 gc f.code.length (f.code.flatMap MI.cells)
 cs:Rd w1 1 cv costs.length (costs.flatMap Ac)
 bel:Below w.heap.size w w1
theorem II (v:VP)(p:MP)(fi:Int)(cv:Value)(costs:List Int)(w:World)(hs:p.small)(hw:p.wf)(hfi:Ec fi)(h:Ej w v p)(hc:Rd w 1 cv costs.length (costs.flatMap Ac))(hcl:costs.length<=1048576):
 Calls Tryz.prog 101 #[.agg #[v.r,v.k,v.f,v.t],.int .i64 fi,cv] w (Ru w):=by
 obtain⟨r1,r3,k1,k3,t1,t3,f1,f3,rfl⟩:=h.sl;obtain⟨ca,cc,ec⟩:=Rd.is_slice hc;subst ec;obtain⟨i64,hi,hz0,hz1,hz2⟩:=bJ CF;obtain⟨j0,hj,hy0,hy1,hy2⟩:=bJ Dv;have H:Hid (p.small/\p.wf/\Ec fi/\Ej w ⟨.slice r1 p.regions.length r3,.slice k1 p.consts.length k3,.slice f1 p.funcs.length f3,.slice t1 p.certs.length t3⟩ p/\Rd w 1 (.slice ca costs.length cc) costs.length (costs.flatMap Ac)):=⟨hs,hw,hfi,h,hc⟩
 clear hs hw hfi h hc;have E0:Hid (Ap (w.alloc (.cells #[.slice r1 p.regions.length r3,.slice k1 p.consts.length k3,.slice f1 p.funcs.length f3,.slice t1 p.certs.length t3] 28)) w.heap.size #[.slice r1 p.regions.length r3,.slice k1 p.consts.length k3,.slice f1 p.funcs.length f3,.slice t1 p.certs.length t3] 28/\Below w.heap.size w (w.alloc (.cells #[.slice r1 p.regions.length r3,.slice k1 p.consts.length k3,.slice f1 p.funcs.length f3,.slice t1 p.certs.length t3] 28))):=⟨Ap.new _ _ _,Aa _ _⟩
 go_enter Tryz.func101,Tryz.ntmps101;go_upto_region 1 with fail
 refine An (fun u=>Hid (Ap u w.heap.size #[.slice r1 p.regions.length r3,.slice k1 p.consts.length k3,.slice f1 p.funcs.length f3,.slice t1 p.certs.length t3] 28/\Below w.heap.size w u)) E0 ?_
 rintro U0 E1;clear E0;obtain⟨p0,p1,p2,p3⟩:=BD E1.o.1;go_wp2_with fail
 refine(C7 ⟨.slice r1 p.regions.length r3,.slice k1 p.consts.length k3,.slice f1 p.funcs.length f3,.slice t1 p.certs.length t3⟩ p U0 H.o.1 H.o.2.1 (H.o.2.2.2.1.keep E1.o.2 lR)).mono ?_;rintro e u1 ⟨⟨n,rfl,hn⟩,bb⟩;have E2:=Af (aG (E1.o.1.keep bb) (Ab E1.o.2 lR bb));clear bb E1 p0 p1 p2 p3;clear U0;have p2:=E2.o.1.cell 2;simp only[aQ,aJ,aL]at p2;by_cases hn0:n=0
 case neg=>
  clear hn;go_wp2_with fail
  go_ret
  exact⟨⟨-1,rfl,by decide,by decide⟩,E2.o.2⟩
 subst hn0;have HFA:=Af hn;clear hn;by_cases hf0:fi<0
 case pos=>
  have hf0':decide (fi<0)=true:=by simpa using hf0
  go_wp2_with fail
  go_ret
  exact⟨⟨-1,rfl,by decide,by decide⟩,E2.o.2⟩
 by_cases hf1:(p.funcs.length:Int)<=fi
 case pos=>
  go_wp2_with fail
  go_ret
  exact⟨⟨-1,rfl,by decide,by decide⟩,E2.o.2⟩
 obtain⟨q,rfl⟩:=aS (show 0<=fi by omega);obtain⟨f,hf⟩:∃f,p.funcs[q]?=some f:=⟨_,aA (by omega)⟩;obtain⟨gk,ok,ck,efn,g,hrf,m0,m1,m2,m3⟩:=KZ H.o.2.2.2.1.funcs hf;simp only[aI,ao]at efn;obtain⟨rfl,rfl⟩:=efn;obtain⟨g1,g3,g4,g6,g7,g9,rfl⟩:=Gv hrf;have hqL:(q:Int)<(p.funcs.length:Int):=by omega
 have HF:Hid (p.funcs[q]?=some f/\f.small/\EI w ⟨.slice g1 f.params.length g3,.slice g4 f.locals.length g6,.slice g7 f.code.length g9⟩ f/\0<f.code.length):=⟨hf,H.o.1.func f (aF hf),hrf,Nat.pos_of_ne_zero (HFA.o.parts.2.2.1.2.2.1 q (aE.1 hf).1 f hf).code0⟩
 simp only[]at m0 m1 m2 m3;rw[<-E2.o.2.cell (aD m3)]at m3;clear hrf hf m0 m1 m2;go_wp2_with fail
 refine(Ei (.slice g7 f.code.length g9) f.code u1 HF.o.2.1.2.2 (Rd.keep HF.o.2.2.1.2.2 E2.o.2 lR)).mono ?_;rintro e u2 ⟨r,vb,vo,vi,vl,rfl,hfl,hrd,bb⟩;obtain⟨v1,c1,v2,c2,v3,c3,v4,c4,rfl,rfl,rfl,rfl⟩:=J8 hrd
 have E3:Hid (FcR w (u2.alloc (.cells #[.int .i64 r.code,.int .i64 r.at_,.slice v1 r.blocks.length c1,.slice v2 r.order.length c2,.slice v3 r.idom.length c3,.slice v4 r.loops.length c4] 163)) ⟨.slice r1 p.regions.length r3,.slice k1 p.consts.length k3,.slice (some ⟨gk,ok,none⟩) p.funcs.length f3,.slice t1 p.certs.length t3⟩ p f (.slice g7 f.code.length g9) u2.heap.size r (.slice v1 r.blocks.length c1) (.slice v2 r.order.length c2) (.slice v3 r.idom.length c3) (.slice v4 r.loops.length c4) (.slice ca costs.length cc) costs):=by
  have b2:=Aa u2 (.cells #[.int .i64 r.code,.int .i64 r.at_,.slice v1 r.blocks.length c1,.slice v2 r.order.length c2,.slice v3 r.idom.length c3,.slice v4 r.loops.length c4] 163);have b3:Below w.heap.size w (u2.alloc (.cells #[.int .i64 r.code,.int .i64 r.at_,.slice v1 r.blocks.length c1,.slice v2 r.order.length c2,.slice v3 r.idom.length c3,.slice v4 r.loops.length c4] 163)):=Ab (Ab E2.o.2 lR bb) lR b2;exact⟨(E2.o.1.keep bb).keep b2,Ap.new _ _ _,hrd.keepL b2 lR,H.o.2.2.2.1.keep b3 lR,Rd.keep HF.o.2.2.1.2.2 b3 lR,Rd.keep H.o.2.2.2.2 b3 lR,b3⟩
 have HFL:=Af hfl;have hnl:r.loops.length<=1024:=(FA hfl).1;clear hfl hrd bb E2 p2 m3;clear u1;go_upto_region 5 with fail
 generalize u2.heap.size=FB at E3⊢;refine An (fun u=>Hid (FcR w u ⟨.slice r1 p.regions.length r3,.slice k1 p.consts.length k3,.slice (some ⟨gk,ok,none⟩) p.funcs.length f3,.slice t1 p.certs.length t3⟩ p f (.slice g7 f.code.length g9) FB r (.slice v1 r.blocks.length c1) (.slice v2 r.order.length c2) (.slice v3 r.idom.length c3) (.slice v4 r.loops.length c4) (.slice ca costs.length cc) costs)) E3 ?_;rintro w1 E4;clear E3;clear u2;obtain⟨y0,y1,y2,y3,y4,y5⟩:=ER E4.o.fb;by_cases hcode:r.code=0
 case neg=>
  go_wp2_with fail
  go_ret
  exact⟨⟨-1,rfl,by decide,by decide⟩,E4.o.bel⟩
 obtain⟨gb,ob,cb1,go,oo,co1,E,O,ev1,ev2,hpos,hGF⟩:=RV HFL.o hcode E4.o.rf;simp only[aI,ao]at ev1 ev2;obtain⟨rfl,rfl⟩:=ev1;obtain⟨rfl,hol,rfl⟩:=ev2;have HGF:=Af (aG hol (aG hpos hGF));clear hol hpos hGF;rw[hcode]at y0;go_wp2_with fail
 have HI:=Af (HFL.o.inn hcode);have HC0:=Af hcode;clear hcode;have hnb:=HI.o.nb;have hcl4:=HI.o.len;have G0:Hid (∃vI vC bad C,Gp w1 (w1.alloc (.cells #[.int .i64 0,.int .i64 r.at_,.slice (some ⟨gb,ob,none⟩) r.blocks.length c1,.slice (some ⟨go,oo,none⟩) r.order.length c2,.slice v3 r.idom.length c3,.slice v4 r.loops.length c4,.slice none 0 0,.slice none 0 0,.bool false] 223)) w1.heap.size 0 r.at_ (.slice (some ⟨gb,ob,none⟩) r.blocks.length c1) (.slice (some ⟨go,oo,none⟩) r.order.length c2) (.slice v3 r.idom.length c3) (.slice v4 r.loops.length c4) vI vC bad (List.range 0) C/\C.length=0):=⟨.slice none 0 0,.slice none 0 0,false,[],⟨Ap.new _ _ _,Nat.le_refl _,bq _ _ _ _,bq _ _ _ _,fun b hb=>(by cases hb),Aa _ _,fun y hy=>(by cases hy)⟩,rfl⟩
 clear y0 y1 y2 y3 y4 y5;generalize hG:w1.heap.size=G at G0⊢;have HG:=Af hG;clear hG;go_loopw [10,11,12,13] (fun i _ _ _ wr=>∃k:Nat,k<=r.blocks.length/\i=.int .i64 k/\Hid (∃vI vC bad C,Gp w1 wr G 0 r.at_ (.slice (some ⟨gb,ob,none⟩) r.blocks.length c1) (.slice (some ⟨go,oo,none⟩) r.order.length c2) (.slice v3 r.idom.length c3) (.slice v4 r.loops.length c4) vI vC bad (List.range k) C/\C.length=k)) (fun i _ _ _ _=>r.blocks.length-(intOf i).toNat)
 case atStart=>exact⟨0,by omega,rfl,G0⟩
 case round=>
  clear G0;obtain⟨k,hk,rfl,E5⟩:=hrel;obtain⟨vI,vC,bad,C,hgp,hCl⟩:=E5.o;have E6:Hid (Gp w1 wr G 0 r.at_ (.slice (some ⟨gb,ob,none⟩) r.blocks.length c1) (.slice (some ⟨go,oo,none⟩) r.order.length c2) (.slice v3 r.idom.length c3) (.slice v4 r.loops.length c4) vI vC bad (List.range k) C/\C.length=k):=⟨hgp,hCl⟩
  clear E5 hgp hCl;have y2:wr.cell? ⟨FB,2,none⟩=some (.slice (some ⟨gb,ob,none⟩) r.blocks.length c1):=Ad E6.o.1.bel (ER E4.o.fb).2.2.1;by_cases hlt:k<r.blocks.length
  case neg =>
   have y5:wr.cell? ⟨FB,5,none⟩=some (.slice v4 r.loops.length c4):=Ad E6.o.1.bel (ER E4.o.fb).2.2.2.2.2;obtain rfl:k=r.blocks.length:=by omega
   have hgr0:=E6.o.1;rw[HGF.o.1]at hgr0;obtain⟨gi,ci,gc,cci,hgr⟩:=hgr0.gr E6.o.2 HGF.o.2.1;have HG2:Hid (GF w1 r.blocks.length ⟨0,r.at_,gb,ob,c1,go,oo,c2,.slice v3 r.idom.length c3,.slice v4 r.loops.length c4,gi,ci,gc,cci⟩ E O):=HGF.o.2.2 _ rfl rfl rfl rfl;have E7:=Af hgr;clear hgr hgr0 E6;generalize (⟨0,r.at_,gb,ob,c1,go,oo,c2,.slice v3 r.idom.length c3,.slice v4 r.loops.length c4,gi,ci,gc,cci⟩:GV)=xv at E7 HG2;obtain⟨ys,hys,hyr,hye⟩:=E4.o.rf.loops;have HY:=Af (aG hys (aG hye (aG ((fun y hy=>⟨(hye y hy).1.is_slice,(hye y hy).2.is_slice⟩):(∀y∈ys,NH y)) ((by rw[<-hys,bB]):ys.length=r.loops.length))));have hyr2:=Af (Rd.keep hyr E7.o.bel lR);clear hys hyr hye;go_wp2_with fail
   refine(Nb (.slice v4 r.loops.length c4) r.loops.length ys wr HY.o.2.2.2 (by omega) hyr2.o HY.o.2.2.1).mono ?_;rintro e u5 ⟨V,zs,rfl,hI⟩;obtain⟨az,cz,eV⟩:∃a c,V=.slice a r.loops.length c:=by obtain⟨a,c,e⟩:=Rd.is_slice (Rd.of_own hI.own);exact⟨a,c,e⟩
   subst eV;have F0:Hid (∃bd I C',Gr w1 u5 G r.blocks.length xv bd I C'/\GT w1 u5 (.slice az r.loops.length cz) r.loops.length ys zs):=⟨_,_,_,E7.o.keep hI.bel,Bv hI.own E7.o.bel.size,hI.len,hI.sub,Ab E7.o.bel lR hI.bel⟩
   clear hI hyr2 E7 y5;go_wp2_with fail
   go_loopw [15] (fun i wr=>∃k:Nat,k<=r.loops.length/\i=.int .i64 k/\Hid (∃bd I C',Gr w1 wr G r.blocks.length xv bd I C'/\GT w1 wr (.slice az r.loops.length cz) r.loops.length ys zs)) (fun i _=>r.loops.length-(intOf i).toNat)
   case atStart=>exact⟨0,by omega,rfl,F0⟩
   case round=>
    clear F0;obtain⟨k,hk,rfl,E5⟩:=hrel;obtain⟨bd,I,C',hg5,hn5⟩:=E5.o;have E6:Hid (Gr w1 wr G r.blocks.length xv bd I C'/\GT w1 wr (.slice az r.loops.length cz) r.loops.length ys zs):=⟨hg5,hn5⟩
    clear hg5 hn5 E5;by_cases hlt:k<r.loops.length
    case pos=>
     have hltI:(k:Int)<(r.loops.length:Int):=by omega
     obtain⟨gz,eaz⟩:∃gz,az=some ⟨gz,0,none⟩:=by
      rcases Ci E6.o.2.own with⟨e,h0⟩|⟨gz,c,e⟩
      . omega
      . simp only[aI]at e
        exact⟨gz,e.1⟩
     subst eaz;obtain⟨z,a1,b1,d1,e1,hz,hzy,f1',f2',q0,q1,q2⟩:=E6.o.2.at_ HY.o.2.2.1 hlt;have HZ0:Hid (z.1∈r.loops):=by show z.1∈r.loops;rw[<-HY.o.1];exact cE.2 ⟨z,hzy,rfl⟩
     obtain⟨⟨hd,ehd,hhd⟩,hbls,hbl1,hbl2⟩:=HI.o.loop _ HZ0.o;obtain⟨l,vz1,vz2⟩:=z;simp only[]at f1' f2' q0 q1 q2 ehd hbls hbl1 hbl2 HZ0;subst f1' f2';rw[ehd]at q0;have HZ:Hid (l∈r.loops/\Ju w1 ⟨.slice a1 l.back.length b1,.slice d1 l.blocks.length e1⟩ l/\l.head=(hd:Int)/\hd<r.blocks.length/\(∀z∈l.blocks,∃b:Nat,z=(b:Int)/\b<r.blocks.length)/\l.small):=⟨HZ0.o,HY.o.2.1 _ hzy,ehd,hhd,hbls,by unfold ML.small;omega⟩
     clear hz hzy ehd hbls hbl1 hbl2 HZ0;have HC:Hid (∀W:World,Below w1.heap.size w1 W->W.cell? ⟨w.heap.size,0,none⟩=some (.slice r1 p.regions.length r3)/\W.cell? ⟨w.heap.size,1,none⟩=some (.slice k1 p.consts.length k3)/\W.cell? ⟨w.heap.size,2,none⟩=some (.slice (some ⟨gk,ok,none⟩) p.funcs.length f3)/\W.cell? ⟨w.heap.size,3,none⟩=some (.slice t1 p.certs.length t3)):=fun W hW=>⟨Ad hW (BD E4.o.pb).1,Ad hW (BD E4.o.pb).2.1,Ad hW (BD E4.o.pb).2.2.1,Ad hW (BD E4.o.pb).2.2.2⟩
     have HL:Hid (∀(W:World),Below wr.heap.size wr W->W.cell? ⟨gz,k*3,none⟩=some (.int .i64 (hd:Int))/\W.cell? ⟨gz,k*3+1,none⟩=some (.slice a1 l.back.length b1)/\W.cell? ⟨gz,k*3+2,none⟩=some (.slice d1 l.blocks.length e1)):=fun W hW=>⟨Ad hW q0,Ad hW q1,Ad hW q2⟩
     clear q0 q1 q2;go_upto_region 27 with fail
     have ED:Hid (Gr w1 wr.drew G r.blocks.length xv bd I C'/\GT w1 wr.drew (.slice (some ⟨gz,0,none⟩) r.loops.length cz) r.loops.length ys zs/\Below wr.heap.size wr wr.drew):=⟨E6.o.1.keep (Ae _),E6.o.2.keep (Ae _),Ae _⟩
     refine wp_region_held_drew (S:=fun W=>W.cell? ⟨w.heap.size,0,none⟩=some (.slice r1 p.regions.length r3)/\W.cell? ⟨w.heap.size,1,none⟩=some (.slice k1 p.consts.length k3)/\W.cell? ⟨w.heap.size,2,none⟩=some (.slice (some ⟨gk,ok,none⟩) p.funcs.length f3)/\W.cell? ⟨w.heap.size,3,none⟩=some (.slice t1 p.certs.length t3)/\W.cell? ⟨gz,k*3,none⟩=some (.int .i64 (hd:Int))/\W.cell? ⟨gz,k*3+1,none⟩=some (.slice a1 l.back.length b1)/\W.cell? ⟨gz,k*3+2,none⟩=some (.slice d1 l.blocks.length e1)) (by kernel_rfl) (by obtain⟨h1,h2,h3,h4⟩:=HC.o _ ED.o.1.bel;obtain⟨h5,h6,h7⟩:=HL.o _ ED.o.2.2;exact⟨h1,h2,h3,h4,h5,h6,h7⟩) (fun hHeld=> ?_)
     clear E6;generalize wr.drew=UD at ED hHeld⊢;refine Ar 0 ?_;refine Ar 1 ?_;refine Ar 2 ?_;refine Ar 3 ?_;refine Ar 4 ?_;refine Ar 5 ?_;refine FL 6 ?_;intro KC hKC;go_simp;have hcon:=Ip ⟨.slice r1 p.regions.length r3,.slice k1 p.consts.length k3,.slice (some ⟨gk,ok,none⟩) p.funcs.length f3,.slice t1 p.certs.length t3⟩ p (q:Int) ⟨.slice a1 l.back.length b1,.slice d1 l.blocks.length e1⟩ l UD H.o.1 H.o.2.1 H.o.2.2.1 (E4.o.rp.keep ED.o.1.bel lR) HZ.o.2.2.2.2.2 (HZ.o.2.1.keep ED.o.1.bel lR);rw[HZ.o.2.2.1]at hcon;refine hcon.mono ?_;clear hcon;rintro e u6 ⟨⟨nf,rfl,hnf⟩,bb⟩;have E8:=Af (aG (ED.o.1.keep bb) (aG (ED.o.2.1.keep bb) (Ab ED.o.2.2 lR bb)));have HNF:=Af hnf;clear hnf bb ED;refine hKC.o _ _ (by obtain⟨h1,h2,h3,h4⟩:=HC.o _ E8.o.1.bel;obtain⟨h5,h6,h7⟩:=HL.o _ E8.o.2.2;exact⟨h1,h2,h3,h4,h5,h6,h7⟩) (fun hHeld=> ?_);clear hKC KC;refine Ar 7 ?_;refine wpAnyH_done (by kernel_rfl) ?_ _;clear hHeld;by_cases hn0:nf=0
     case neg=>
      have hn0':(nf != 0)=true:=by simpa using hn0
      go_wp2_with fail
      go_ret
      exact⟨⟨-1,rfl,by decide,by decide⟩,E4.o.bel.trans (E8.o.1.bel.mono E4.o.bel.size)⟩
     subst hn0
     obtain⟨hb,c,hhb,hce⟩:∃hb c,r.blocks[hd]?=some hb/\Dt p.certs (q:Int) hb.first=some c:=by
      rcases HNF.o with⟨_,e⟩|⟨f',r',ho,hb,h1,h2⟩
      . cases e
      . have e1:f'=f:=by have:=ho.2.2.1;rw[aX,HF.o.1]at this;exact(aZ this).symm
        subst e1;have e2:r'=r:=BO.one ho.2.2.2.1 HFL.o;subst e2;rw[HZ.o.2.2.1,aX]at h1;rcases h2 with⟨_,e⟩|⟨c,g,h2,_⟩
        . cases e
        . exact⟨hb,c,h1,h2⟩
     obtain⟨gb',ob',a1',e1',eb,j0,_,_,_⟩:=Ge E4.o.rf.blocks hhb;obtain⟨ja,je,e2,e3,hae,hel⟩:=HI.o.blk hd hb hhb;rw[e2]at j0 hce;simp only[aM,cN,cj]at eb;obtain⟨rfl,rfl⟩:=eb;have HJ:Hid (w1.cell? ⟨gb,ob+hd*3,none⟩=some (.int .i64 (ja:Int))/\w1.cell? ⟨FB,2,none⟩=some (.slice (some ⟨gb,ob,none⟩) r.blocks.length c1)/\Dt p.certs (q:Int) (ja:Int)=some c):=⟨j0,(ER E4.o.fb).2.2.1,hce⟩
     have hhdI:(hd:Int)<(r.blocks.length:Int):=by omega
     clear j0 hhb e2 e3 hce hae hel HNF;go_upto_region 29 with fail
     have ED:=Af (aG (E8.o.1.keep (Ae _)) (aG (E8.o.2.1.keep (Ae _)) (Ab E8.o.2.2 lR (Ae _))));refine wp_region_held_drew (S:=fun W=>W.cell? ⟨w.heap.size,0,none⟩=some (.slice r1 p.regions.length r3)/\W.cell? ⟨w.heap.size,1,none⟩=some (.slice k1 p.consts.length k3)/\W.cell? ⟨w.heap.size,2,none⟩=some (.slice (some ⟨gk,ok,none⟩) p.funcs.length f3)/\W.cell? ⟨w.heap.size,3,none⟩=some (.slice t1 p.certs.length t3)/\W.cell? ⟨gz,k*3,none⟩=some (.int .i64 (hd:Int))/\W.cell? ⟨gz,k*3+1,none⟩=some (.slice a1 l.back.length b1)/\W.cell? ⟨gz,k*3+2,none⟩=some (.slice d1 l.blocks.length e1)/\W.cell? ⟨FB,2,none⟩=some (.slice (some ⟨gb,ob,none⟩) r.blocks.length c1)/\W.cell? ⟨gb,ob+hd*3,none⟩=some (.int .i64 (ja:Int))) (by kernel_rfl) (by obtain⟨h1,h2,h3,h4⟩:=HC.o _ ED.o.1.bel;obtain⟨h5,h6,h7⟩:=HL.o _ ED.o.2.2;exact⟨h1,h2,h3,h4,h5,h6,h7,Ad ED.o.1.bel HJ.o.2.1,Ad ED.o.1.bel HJ.o.1⟩) (fun hHeld=> ?_)
     clear E8;generalize u6.drew=UD at ED hHeld⊢;refine Ar 0 ?_;refine Ar 1 ?_;refine Ar 2 ?_;refine Ar 3 ?_;refine Ar 4 ?_;refine Ar 5 ?_;refine Ar 6 ?_;refine Ar 7 ?_;refine Ar 8 ?_;refine Ar 9 ?_;refine Ar 10 ?_;refine Ar 11 ?_;refine Ar 12 ?_;refine Ar 13 ?_;refine Ar 14 ?_;refine Ar 15 ?_;refine Ar 16 ?_;refine Ar 17 ?_;refine Ar 18 ?_;refine FL 19 ?_;intro KC hKC;go_simp;refine(JO ⟨.slice r1 p.regions.length r3,.slice k1 p.consts.length k3,.slice (some ⟨gk,ok,none⟩) p.funcs.length f3,.slice t1 p.certs.length t3⟩ p (q:Int) (ja:Int) UD H.o.1 (E4.o.rp.keep ED.o.1.bel lR)).mono ?_;rintro e u7 ⟨⟨nc,rfl,hnc⟩,bb⟩;have E9:Hid (Gr w1 u7 G r.blocks.length xv bd I C'/\GT w1 u7 (.slice (some ⟨gz,0,none⟩) r.loops.length cz) r.loops.length ys zs/\Below wr.heap.size wr u7):=⟨ED.o.1.keep bb,ED.o.2.1.keep bb,Ab ED.o.2.2 lR bb⟩
     obtain⟨kt,ct,ent,hkt⟩:∃(kt:Nat) (ct:MT),nc=(kt:Int)/\p.certs[kt]?=some ct:=by
      rcases hnc with⟨_,e⟩|⟨kt,ct,e,h1,_⟩
      . rw[HJ.o.2.2]at e;cases e
      . exact⟨kt,ct,e,h1⟩
     subst ent;have hktl:=(aE.1 hkt).1;have hktI:(kt:Int)<(p.certs.length:Int):=by omega
     obtain⟨gt,ot,et,ht3⟩:∃gt ot,t1=some ⟨gt,ot,none⟩/\w1.cell? ⟨gt,ot+kt*4+3,none⟩=some (.int .u32 ct.init):=by
      rcases E4.o.rp.certs.2 with⟨e0,_⟩|⟨gt,ot,c',e1,hc⟩
      . omega
      . simp only[aI,ao]at e1
        exact⟨gt,ot,e1.1,Rd.elem MT.cells_length hc kt ct hkt 3 _ rfl⟩
     subst et
     have hci:0<=ct.init/\ct.init<=4294967295:=by
      have:=(H.o.2.1.certs ct (aF hkt)).2.2.2;simpa[Pm,Lit.wf,IntKind.min,IntKind.max,IntKind.signed,IntKind.bits]using this
     have ht4:=Ad E9.o.1.bel ht3;have hwr:IntKind.i64.wrap ct.init=ct.init:=cQ _ ⟨by omega,by omega⟩;clear hnc hkt bb ED ht3;refine hKC.o _ _ (by obtain⟨h1,h2,h3,h4⟩:=HC.o _ E9.o.1.bel;obtain⟨h5,h6,h7⟩:=HL.o _ E9.o.2.2;exact⟨h1,h2,h3,h4,h5,h6,h7,Ad E9.o.1.bel HJ.o.2.1,Ad E9.o.1.bel HJ.o.1⟩) (fun hHeld=> ?_);clear hKC KC;refine Ar 20 ?_;refine Ar 21 ?_;refine FL 22 ?_;intro KC hKC;go_simp;refine hKC.o _ _ (by obtain⟨h1,h2,h3,h4⟩:=HC.o _ E9.o.1.bel;obtain⟨h5,h6,h7⟩:=HL.o _ E9.o.2.2;exact⟨h1,h2,h3,h4,h5,h6,h7,Ad E9.o.1.bel HJ.o.2.1,Ad E9.o.1.bel HJ.o.1⟩) (fun hHeld=> ?_);clear hKC KC;refine Ar 23 ?_;refine FL 24 ?_;intro KC hKC;go_simp;refine(JQ w1 u7 G r.blocks.length xv bd I C' E O hd (.slice a1 l.back.length b1) (.slice d1 l.blocks.length e1) l.back (l.blocks.map Int.toNat) ct.init (by omega) HZ.o.2.2.2.1 hci E9.o.1 HG2.o HZ.o.2.1.1 HZ.o.2.2.2.2.2.1 (Tn HZ.o.2.1.2 HZ.o.2.2.2.2.1) (by rw[bB];exact HZ.o.2.2.2.2.2.2) (Tr HZ.o.2.2.2.2.1)).mono ?_;rintro e u8 ⟨rfl,bd2,I2,C2,hg8,hfr8⟩;have E10:Hid (∃bd I C',Gr w1 u8 G r.blocks.length xv bd I C'/\GT w1 u8 (.slice (some ⟨gz,0,none⟩) r.loops.length cz) r.loops.length ys zs):=⟨_,_,_,hg8,E9.o.2.1.fr E9.o.1 hg8.bel hfr8⟩
     have hb8:=Af hg8.bel;have hsm:Hid (∀j,j<r.loops.length*3->u8.cell? ⟨gz,j,none⟩=u7.cell? ⟨gz,j,none⟩):=fun j hj=>GT.same E9.o.2.1 (E9.o.2.1.fr E9.o.1 hg8.bel hfr8) j hj
     clear hg8 hfr8 ht4;refine hKC.o _ _ (by obtain⟨h1,h2,h3,h4⟩:=HC.o _ hb8.o;obtain⟨h5,h6,h7⟩:=HL.o _ E9.o.2.2;exact⟨h1,h2,h3,h4,(hsm.o _ (by omega)).trans h5,(hsm.o _ (by omega)).trans h6,(hsm.o _ (by omega)).trans h7,Ad hb8.o HJ.o.2.1,Ad hb8.o HJ.o.1⟩) (fun hHeld=> ?_);clear hKC KC;refine wpAnyH_done (by kernel_rfl) ?_ _;clear hHeld;go_wp2_with fail;go_roundw
     case rel=>exact⟨k+1,by omega,by go_num,E10⟩
     case measure=>simp[intOf];omega
    case neg=>
     have y2':wr.cell? ⟨FB,2,none⟩=some (.slice (some ⟨gb,ob,none⟩) r.blocks.length c1):=Ad E6.o.1.bel (ER E4.o.fb).2.2.1;have hsz:=E6.o.1.bel.size;go_wp2_with (at_make;refine bu _ rfl _ _ 159 rfl w1.heap.size 4 j0 (.bool false) 1 Tryz.underlying159 hj hy0 hy1 .i64 .i64 _ _ r.blocks.length rfl rfl rfl rfl (by rw[hy2];omega) (by unfold maxLen;omega) hsz ?_;intro w3 hown hgrow;rw[Rc]at hown);have hb3:Below wr.heap.size wr w3:=(aq _ _).grown hgrow lR (fun k hk=>by cases hk);have F1:Hid (Gr w1 w3 G r.blocks.length xv bd I C'/\∃P,w3.ownsRow w1.heap.size 4 1 (.slice (some ⟨wr.heap.size,0,none⟩) r.blocks.length r.blocks.length) r.blocks.length (bv P r.blocks.length)):=⟨E6.o.1.keep hb3,_,hown⟩
     clear hown hgrow hb3 hsz E6 y2';generalize wr.heap.size=gn at F1⊢;go_loopw [17] (fun i wr=>∃k:Nat,k<=r.blocks.length/\i=.int .i64 k/\Hid (Gr w1 wr G r.blocks.length xv bd I C'/\∃P,wr.ownsRow w1.heap.size 4 1 (.slice (some ⟨gn,0,none⟩) r.blocks.length r.blocks.length) r.blocks.length (bv P r.blocks.length))) (fun i _=>r.blocks.length-(intOf i).toNat)
     case atStart=>exact⟨0,by omega,rfl,F1⟩
     case round=>
      clear F1;obtain⟨k,hk',rfl,E1⟩:=hrel;by_cases hlt':k<r.blocks.length
      case pos=>
       have hltI:(k:Int)<(r.blocks.length:Int):=by omega
       obtain⟨P,hP⟩:=E1.o.2;have c0:=bF hP k (by omega);rw[JA _ _ _ hlt']at c0;have z0:=hP.frozenAt k
       have E2:Hid (Gr w1 (wr.setCell ⟨gn,k,none⟩ (.bool true)) G r.blocks.length xv bd I C'/\∃P,(wr.setCell ⟨gn,k,none⟩ (.bool true)).ownsRow w1.heap.size 4 1 (.slice (some ⟨gn,0,none⟩) r.blocks.length r.blocks.length) r.blocks.length (bv P r.blocks.length)):=by
        obtain⟨_,cur,e1⟩:=AF hP;obtain⟨_,c2,e2⟩:=AF E1.o.1.is_;obtain⟨_,c3,e3⟩:=AF E1.o.1.cost;have e4:=E1.o.1.blk;unfold Ap at e4;refine⟨E1.o.1.other (AF hP).1 (fun q=> ?_) (fun q=> ?_) (fun q=> ?_),_,Nr hP⟩
        . rw[q,e4]at e1
          cases e1
        . rw[q,e2]at e1
          cases e1
        . rw[q,e3]at e1
          cases e1
       clear hP;go_wp2_with fail
       go_roundw
       case rel=>exact⟨k+1,by omega,by go_num,E2⟩
       case measure=>simp[intOf];omega
      case neg=>
       obtain⟨P,hP⟩:=E1.o.2;obtain⟨_,_,p6,_,_,_⟩:=E1.o.1.cells;have hpos:=HGF.o.2.1;obtain⟨y0,hy0',hyn,i0⟩:=E1.o.1.isAt hpos;have hposI:(0:Int)<(r.blocks.length:Int):=by omega
       clear hy0';go_wp2_with fail
       refine(JR w1 wr G r.blocks.length xv bd I C' E O gn r.blocks.length y0 P (by omega) hyn E1.o.1 HG2.o hP).mono ?_;rintro e u9 ⟨gB,bad9,L9,rfl,hW⟩;have F2:=Af hW;clear hW hP E1 p6 i0;go_wp2_with fail
       go_loopw [19,20] (fun m b wr'=>∃(q:Nat) (m0:Int),q<=r.blocks.length/\m=.int .i64 m0/\b=.int .i64 q/\wr'=u9/\Hid (Kd m0)) (fun _ b _=>r.blocks.length-(intOf b).toNat)
       case atStart=>exact⟨0,0,by omega,rfl,rfl,rfl,by show Kd 0;exact⟨by omega,by omega⟩⟩
       case round=>
        obtain⟨qb,m0,hqb,rfl,rfl,rfl,HM⟩:=hrel;obtain⟨_,_,p6,_,p8,_⟩:=F2.o.gr.cells;have y2':wr.cell? ⟨FB,2,none⟩=some (.slice (some ⟨gb,ob,none⟩) r.blocks.length c1):=Ad F2.o.gr.bel (ER E4.o.fb).2.2.1;by_cases hlb:qb<r.blocks.length
        case neg=>
         cases bad9
         . go_wp2_with fail
           go_ret
           exact⟨⟨m0,rfl,by have:=HM.o.1;omega,HM.o.2⟩,E4.o.bel.trans (F2.o.gr.bel.mono E4.o.bel.size)⟩
         . go_wp2_with fail
           go_ret
           exact⟨⟨-1,rfl,by decide,by decide⟩,E4.o.bel.trans (F2.o.gr.bel.mono E4.o.bel.size)⟩
        have hlbI:(qb:Int)<(r.blocks.length:Int):=by omega
        obtain⟨m,hm⟩:∃m,r.blocks[qb]?=some m:=⟨_,aA hlb⟩;obtain⟨gb',ob',a1,e1,eb,_,j1,_,_⟩:=Ge E4.o.rf.blocks hm;obtain⟨ja,je,e2,e3,hae,hel⟩:=HI.o.blk qb m hm;rw[e3]at j1;simp only[aM,cN,cj]at eb;obtain⟨rfl,rfl⟩:=eb;have i1:=Ad F2.o.gr.bel j1;obtain⟨x,hx⟩:∃x,f.code[je]?=some x:=⟨_,aA hel⟩;obtain⟨gi',oi',ci',ei,x0',_,_,_⟩:=QH E4.o.rc hx;simp only[aI,ao]at ei;obtain⟨rfl,rfl⟩:=ei;have x0:=Ad F2.o.gr.bel x0';have hjcI:(je:Int)<(f.code.length:Int):=by omega
        obtain⟨y,hy,hyn',i0⟩:=F2.o.gr.isAt hlb;have hynI:(y:Int)<(r.blocks.length:Int):=by omega
        obtain⟨c,_,hc,b0,_⟩:=F2.o.at_ hyn';clear j1 x0' e2 e3 hm hx hy;by_cases hop:x.op=29
        case neg=>
         have hop':(x.op==29)=false:=by simpa using hop
         go_wp2_with fail
         go_roundw
         case rel=>exact⟨qb+1,m0,by omega,rfl,by go_num,trivial,HM⟩
         case measure=>simp[intOf];omega
        rw[hop]at x0;clear hop;by_cases hcm:c>m0
        case pos=>
         go_wp2_with fail
         go_roundw
         case rel=>exact⟨qb+1,c,by omega,rfl,by go_num,trivial,by have:=HM.o.1;show Kd c;exact⟨by omega,hc.2⟩⟩
         case measure=>simp[intOf];omega
        go_wp2_with fail
        go_roundw
        case rel=>exact⟨qb+1,m0,by omega,rfl,by go_num,trivial,HM⟩
        case measure=>simp[intOf];omega
  have hltI:(k:Int)<(r.blocks.length:Int):=by omega
  obtain⟨m,hm⟩:∃m,r.blocks[k]?=some m:=⟨_,aA hlt⟩;obtain⟨gb',ob',a1,e1,eb,j0,j1,_,_⟩:=Ge E4.o.rf.blocks hm;obtain⟨ja,je,e2,e3,hae,hel⟩:=HI.o.blk k m hm;rw[e2]at j0;rw[e3]at j1;simp only[aM,cN,cj]at eb;obtain⟨rfl,rfl⟩:=eb;have i0:=Ad E6.o.1.bel j0;have HJ:=Af (aG j1 ((ER E4.o.fb).2.2.1));clear j0 j1 hm e2 e3;go_wp2_with fail
  go_loopw [11,12,13] (fun c j _ wr=>∃(c0:Int) (jj:Nat),c=.int .i64 c0/\j=.int .i64 jj/\Kd c0/\jj<=je+1/\Hid (∃bad,Gp w1 wr G 0 r.at_ (.slice (some ⟨gb,ob,none⟩) r.blocks.length c1) (.slice (some ⟨go,oo,none⟩) r.order.length c2) (.slice v3 r.idom.length c3) (.slice v4 r.loops.length c4) vI vC bad (List.range k) C)) (fun _ j _ _=>je+1-(intOf j).toNat)
  case atStart=>exact⟨0,ja,rfl,rfl,⟨by omega,by omega⟩,by omega,_,E6.o.1⟩
  case round=>
   have HCl:=Af E6.o.2;clear E6 y2 i0;obtain⟨c0,jj,rfl,rfl,hc0,hjj,E5⟩:=hrel;obtain⟨bad,hgp⟩:=E5.o;have E6:=Af hgp;clear E5 hgp;have y2:=Ad E6.o.bel HJ.o.2;have i1:=Ad E6.o.bel HJ.o.1;by_cases hjl:jj<=je
   case neg=>
    have p6:=E6.o.cells.1;have EA:Hid (Gp w1 (wr.alloc (.cells #[.int .i64 (k:Int)] 2)) G 0 r.at_ (.slice (some ⟨gb,ob,none⟩) r.blocks.length c1) (.slice (some ⟨go,oo,none⟩) r.order.length c2) (.slice v3 r.idom.length c3) (.slice v4 r.loops.length c4) vI vC bad (List.range k) C):=E6.o.keep (Aa _ _);have OA:Hid ((wr.alloc (.cells #[.int .i64 (k:Int)] 2)).ownsRow w1.heap.size 2 1 vI k (nv (List.range k))):=by have:=EA.o.is_;rw[br]at this;exact this
    have q6:=EA.o.cells.1;go_upto_region 22 with(first|(at_builtin;refine wpList_append_lies _ rfl _ _ 47 rfl w1.heap.size 2 i64 (.int .i64 0) 1 8 Tryz.underlying47 hi hz0 hz1 hz2 rfl (by decide) vI k (nv (List.range k)) rfl OA.o ⟨wr.heap.size,0,none⟩ 1 1 [.int .i64 (k:Int)] rfl rfl (IF wr _ _) (fun u hu=>by simp at hu;subst hu;rfl) (by omega) (by unfold maxLen;omega) (by omega) EA.o.bel.size _ rfl ?_;intro g5 cap5 w5 hown5 hgrow5 hat5 hlt5;have PI:Hid _:=EA.o.push_I k (.slice (some ⟨g5,0,none⟩) (k+1) cap5) (by rw[br];exact hown5) hgrow5 (ON hat5);have s6:=PI.o.2.1;have s6':=PI.o.2.2;clear hown5 hgrow5 hat5 hlt5)|go_in)
    have E7:Hid (Gp w1 (w5.setCell ⟨G,6,none⟩ (.slice (some ⟨g5,0,none⟩) (k+1) cap5)) G 0 r.at_ (.slice (some ⟨gb,ob,none⟩) r.blocks.length c1) (.slice (some ⟨go,oo,none⟩) r.order.length c2) (.slice v3 r.idom.length c3) (.slice v4 r.loops.length c4) (.slice (some ⟨g5,0,none⟩) (k+1) cap5) vC bad (List.range (k+1)) C):=by have:=PI.o.1;rw[<-ch]at this;exact this
    clear PI s6 s6' EA OA q6 p6 E6 y2 i1;refine An (fun U=>Hid (Gp w1 U G 0 r.at_ (.slice (some ⟨gb,ob,none⟩) r.blocks.length c1) (.slice (some ⟨go,oo,none⟩) r.order.length c2) (.slice v3 r.idom.length c3) (.slice v4 r.loops.length c4) (.slice (some ⟨g5,0,none⟩) (k+1) cap5) vC bad (List.range (k+1)) C)) E7 ?_;clear E7;rintro U E7;have p7:=E7.o.cells.2.1;have EB:Hid (Gp w1 (U.alloc (.cells #[.int .i64 c0] 2)) G 0 r.at_ (.slice (some ⟨gb,ob,none⟩) r.blocks.length c1) (.slice (some ⟨go,oo,none⟩) r.order.length c2) (.slice v3 r.idom.length c3) (.slice v4 r.loops.length c4) (.slice (some ⟨g5,0,none⟩) (k+1) cap5) vC bad (List.range (k+1)) C):=E7.o.keep (Aa _ _);have OB:Hid ((U.alloc (.cells #[.int .i64 c0] 2)).ownsRow w1.heap.size 2 1 vC k (C.flatMap Ac)):=by have:=EB.o.cost;rw[HCl.o]at this;exact this
    have q7:=EB.o.cells.2.1;go_wp2_with (first|(at_builtin;refine wpList_append_lies _ rfl _ _ 47 rfl w1.heap.size 2 i64 (.int .i64 0) 1 8 Tryz.underlying47 hi hz0 hz1 hz2 rfl (by decide) vC k (C.flatMap Ac) rfl OB.o ⟨U.heap.size,0,none⟩ 1 1 [.int .i64 c0] rfl rfl (IF U _ _) (fun u hu=>by simp at hu;subst hu;rfl) (by omega) (by unfold maxLen;omega) (by omega) EB.o.bel.size _ rfl ?_;intro g6 cap6 w6 hown5 hgrow5 hat5 hlt5;have PI:Hid _:=EB.o.push_C hc0 (.slice (some ⟨g6,0,none⟩) (k+1) cap6) (by rw[HCl.o];exact hown5) hgrow5 (ON hat5);have s6:=PI.o.2.1;have s6':=PI.o.2.2;clear hown5 hgrow5 hat5 hlt5)|go_in);clear s6 s6' q7 p7 EB OB E7;go_roundw
    case rel=>exact⟨k+1,by omega,by go_num,_,_,_,_,PI.o.1,by rw[aH,HCl.o];rfl⟩
    case measure=>simp[intOf];omega
   have hjlI:(jj:Int)<=(je:Int):=by omega
   obtain⟨x,hx⟩:∃x,f.code[jj]?=some x:=⟨_,aA (by omega)⟩;obtain⟨gi,oi,ci,ei,x0,x1,x2,x3⟩:=QH E4.o.rc hx;simp only[aI,ao]at ei;obtain⟨rfl,rfl⟩:=ei;have hjcI:(jj:Int)<(f.code.length:Int):=by omega
   rw[<-E6.o.bel.cell (aD x0)]at x0;rw[<-E6.o.bel.cell (aD x1)]at x1;rw[<-E6.o.bel.cell (aD x2)]at x2;rw[<-E6.o.bel.cell (aD x3)]at x3;have HX:=Af hx;clear hx;go_upto_region 16 with fail
   have E7:Hid (Gp w1 (wr.alloc (.cells #[.int .i64 x.op,.int .i64 x.a,.int .i64 x.b,.int .i64 x.c] 97)) G 0 r.at_ (.slice (some ⟨gb,ob,none⟩) r.blocks.length c1) (.slice (some ⟨go,oo,none⟩) r.order.length c2) (.slice v3 r.idom.length c3) (.slice v4 r.loops.length c4) vI vC bad (List.range k) C/\Ap (wr.alloc (.cells #[.int .i64 x.op,.int .i64 x.a,.int .i64 x.b,.int .i64 x.c] 97)) wr.heap.size #[.int .i64 x.op,.int .i64 x.a,.int .i64 x.b,.int .i64 x.c] 97):=⟨E6.o.keep (Aa _ _),Ap.new _ _ _⟩
   have HXO:Hid (x.op=28->∃(q:Nat) (fq:MF),x.a=q/\p.funcs[q]?=some fq):=fun e=>(HFA.o.parts.2.2.2.1 q (aE.1 HF.o.1).1 f HF.o.1 jj (aE.1 HX.o).1 x HX.o).callee e
   clear x0 x1 x2 x3 y2 i1 E6;generalize wr.heap.size=X at E7⊢;refine An (fun U=>Hid (Gp w1 U G 0 r.at_ (.slice (some ⟨gb,ob,none⟩) r.blocks.length c1) (.slice (some ⟨go,oo,none⟩) r.order.length c2) (.slice v3 r.idom.length c3) (.slice v4 r.loops.length c4) vI vC bad (List.range k) C/\Ap U X #[.int .i64 x.op,.int .i64 x.a,.int .i64 x.b,.int .i64 x.c] 97)) E7 ?_
   clear E7;rintro U E7
   have hXG:X≠G:=fun e=>by
    have e1:=E7.o.2;have e2:=E7.o.1.blk;unfold Ap at e1 e2;rw[e,e2]at e1;injection e1 with e1
    injection e1 with _ e1
    exact absurd e1 (by decide)
   obtain⟨d0,d1,d2,d3⟩:=BD E7.o.2;go_wp2_with fail
   refine(Cr x.op U).mono ?_;rintro e u3 ⟨rfl,bb⟩;obtain⟨si,ci,fo,einfo,hci⟩:=MZ x.op;rw[einfo];have hfield:=M2 si ci fo;have E8:Hid (Gp w1 u3 G 0 r.at_ (.slice (some ⟨gb,ob,none⟩) r.blocks.length c1) (.slice (some ⟨go,oo,none⟩) r.order.length c2) (.slice v3 r.idom.length c3) (.slice v4 r.loops.length c4) vI vC bad (List.range k) C/\Ap u3 X #[.int .i64 x.op,.int .i64 x.a,.int .i64 x.b,.int .i64 x.c] 97):=⟨E7.o.1.keep bb,E7.o.2.keep bb⟩
   clear bb E7 d0 d1 d2 d3 einfo;go_wp2_with fail
   refine(Fj G c0 ci _ u3 hc0 hci E8.o.1.cells.2.2.1 (E8.o.1.cells.2.2.2 8)).mono ?_;rintro e u4 ⟨c7,rfl,hc7,hU⟩
   have E9:Hid (∃bad,Gp w1 u4 G 0 r.at_ (.slice (some ⟨gb,ob,none⟩) r.blocks.length c1) (.slice (some ⟨go,oo,none⟩) r.order.length c2) (.slice v3 r.idom.length c3) (.slice v4 r.loops.length c4) vI vC bad (List.range k) C/\Ap u4 X #[.int .i64 x.op,.int .i64 x.a,.int .i64 x.b,.int .i64 x.c] 97):=by
    rcases hU with rfl|rfl
    . exact⟨_,E8.o⟩
    . exact⟨_,E8.o.1.bad_,E8.o.2.other (a:=⟨G,8,none⟩) hXG _⟩
   clear hU E8 hfield hci hc0;obtain⟨bad2,hg2,hx2⟩:=E9.o;have F0:=Af (aG hg2 hx2);clear hg2 hx2 E9;obtain⟨d0,d1,d2,d3⟩:=BD F0.o.2;by_cases hop:x.op=28
   case neg=>
    go_wp2_with fail
    go_roundw
    case rel=>exact⟨c7,jj+1,rfl,by go_num,hc7,by omega,bad2,F0.o.1⟩
    case measure=>simp[intOf];omega
   obtain⟨cq,fq,hxa,_⟩:=HXO.o hop;rw[hxa]at d1;rw[hop]at d0;have HC7:=Af hc7;clear hc7;by_cases hcq:(costs.length:Int)<=(cq:Int)
   case pos=>
    have hcq':(cq:Int)>=(costs.length:Int):=hcq;clear hop hxa;go_wp2_with fail
    go_ret
    exact⟨⟨-1,rfl,by decide,by decide⟩,E4.o.bel.trans (F0.o.1.bel.mono E4.o.bel.size)⟩
   have hcq1:¬(cq:Int)>=(costs.length:Int):=hcq;have hcq2:cq<costs.length:=by omega
   have hcq3:(cq:Int)<(costs.length:Int):=by omega
   obtain⟨z,hz⟩:∃z,costs[cq]?=some z:=⟨_,aA hcq2⟩
   obtain⟨ga,oa,ea,kz⟩:∃ga oa,ca=some ⟨ga,oa,none⟩/\u4.cell? ⟨ga,oa+cq,none⟩=some (.int .i64 z):=by
    have:=Rd.keep E4.o.cs F0.o.1.bel lR;rcases this.2 with⟨e0,_⟩|⟨g1,o1,c1',e1,hc⟩
    . omega
    . simp only[aI,ao]at e1
      exact⟨g1,o1,e1.1,hc cq _ (Hc hz)⟩
   subst ea;clear hz hop hxa;by_cases hz0:z<0
   case pos=>
    go_wp2_with fail
    go_ret
    exact⟨⟨-1,rfl,by decide,by decide⟩,E4.o.bel.trans (F0.o.1.bel.mono E4.o.bel.size)⟩
   by_cases hz1:z>4294967295
   case pos=>
    go_wp2_with fail
    go_ret
    exact⟨⟨-1,rfl,by decide,by decide⟩,E4.o.bel.trans (F0.o.1.bel.mono E4.o.bel.size)⟩
   go_wp2_with fail
   refine(Fj G c7 z _ u4 HC7.o ⟨by omega,by omega⟩ F0.o.1.cells.2.2.1 (F0.o.1.cells.2.2.2 8)).mono ?_;rintro e u5 ⟨c8,rfl,hc8,hU⟩
   have F1:Hid (∃bad,Gp w1 u5 G 0 r.at_ (.slice (some ⟨gb,ob,none⟩) r.blocks.length c1) (.slice (some ⟨go,oo,none⟩) r.order.length c2) (.slice v3 r.idom.length c3) (.slice v4 r.loops.length c4) vI vC bad (List.range k) C):=by
    rcases hU with rfl|rfl
    . exact⟨_,F0.o.1⟩
    . exact⟨_,F0.o.1.bad_⟩
   clear hU F0 kz d0 d1 d2 d3;go_wp2_with fail
   go_roundw
   case rel=>exact⟨c8,jj+1,rfl,by go_num,hc8,by omega,F1⟩
   case measure=>simp[intOf];omega
end Go.Proofs.YtjcamlobelcepaaGreatDoor
