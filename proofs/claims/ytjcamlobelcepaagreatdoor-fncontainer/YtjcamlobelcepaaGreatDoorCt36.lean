import Derived.Test.YtjcamlobelcepaaGreatDoorCt34
namespace Go.Proofs.YtjcamlobelcepaaGreatDoor
open Go.ChangeShapes Go.WideShapes Go.ChangeAt Go.RowKit
set_option linter.unusedVariables false
set_option maxHeartbeats 8000000
set_option maxRecDepth 100000
theorem O7{p:MP}{f:MF}:∀{c a:Nat} {sh:List Int} {T:Nat->List Int} {D:Nat} {e:Int×Nat},FX p f c a sh T D=.inl e->e.1≠0
 |0,_,_,_,_,_,h=>by cases h
 | c + 1,a,sh,T,D,e,h=>by
   unfold FX at h;split at h
   . cases h
   . split at h
     . exact O7 h
     . rename_i hc
       cases h
       exact hc
theorem O9 {p:MP}{f:MF}{bs:List MB}:∀{l:List Nat} {s:WS} {e:Int×Nat},GZ p f bs l s=.inl e->e.1≠0
 |[],_,_,h=>by cases h
 | b :: r, s,e,h=>by
   unfold GZ at h;split at h
   . cases h
   . split at h
     . rename_i m _ e' hb
       cases h
       unfold Ri at hb;split at hb
       . rename_i hk
         cases hb
         exact O7 hk
       . split at hb
         . cases hb
           simp
         . cases hb
     . exact O9 h
theorem NJ.len{p:MP}{q:Nat}{f:MF}{y:Tx}(h:NJ p (q:Int) y)(hc:y.code=0)(hf:p.funcs[q]?=some f):y.shapes.length=f.code.length:=by
 rcases h with⟨_,e⟩|⟨_,_,f',r,h1,_,_,e⟩
 . subst e
   cases hc
 . rw[aX,hf]at h1
   obtain rfl:=aZ h1;subst e;revert hc;cases hr:GZ p f r.blocks (r.order.map Int.toNat) Pe with
   |inl e=>intro hc;exact absurd hc (O9 hr)
   |inr s=>intro _;simp[Ts]
def NE(u:World)(s:Value)(n:Nat):Prop:=∃xs:List Value,Rd u 1 s n xs/\∀x∈xs,∃(a:Option Addr) (m c:Nat),x=.slice a m c
theorem NE.of{u:World}{s:Value}{rs:List (List Int)}(h:Lx u s rs):NE u s rs.length:=by
 obtain⟨xs,h1,h2,h3⟩:=h;refine⟨_,h2,fun x hx=> ?_⟩;obtain⟨y,hy,hxy⟩:=cG.1 hx;obtain⟨a,c,e⟩:=(h3 y hy).is_slice;simp only[BE,bO]at hxy;exact⟨a,_,c,by rw[hxy,e]⟩
theorem NE.keep{u u':World}{s:Value}{n:Nat}(h:NE u s n)(hb:Below u.heap.size u u'):NE u' s n:=by
 obtain⟨xs,h1,h2⟩:=h;exact⟨xs,h1.keep hb lR,h2⟩
theorem NE.set{u:World}{s:Value}{n:Nat}(h:NE u s n){a:Addr}{k:IntKind}{z:Int}(ha:u.cell? a=some (.int k z))(V:Value):NE (u.setCell a V) s n:=by
 obtain⟨xs,⟨h1,h2⟩,h3⟩:=h;refine⟨xs,⟨h1,h2.imp_right fun⟨g,o,c,e,hc⟩=>⟨g,o,c,e,fun j v hj=> ?_⟩⟩,h3⟩;have h4:=hc j v hj;obtain⟨b,m,d,e⟩:=h3 v (aF hj);rw[dq _ _ _ _ (fun e'=>by rw[<-e',ha]at h4;rw[e]at h4;cases h4)];exact h4
theorem NE.is_slice{u:World}{s:Value}{n:Nat}(h:NE u s n):∃a c,s=.slice a n c:=by
 obtain⟨xs,h1,_⟩:=h;exact h1.is_slice
theorem Tq{u:World}{a:Option Addr}{n c:Nat}(h:NE u (.slice a n c) n){k:Nat}(hk:k<n):∃(g o:Nat) (a1:Option Addr) (m1 c1:Nat),a=some ⟨g,o,none⟩/\u.cell? ⟨g,o+k,none⟩=some (.slice a1 m1 c1):=by
 obtain⟨xs,h2,h3⟩:=h;have hl:=h2.1;obtain⟨x,hx⟩:∃x,xs[k]?=some x:=⟨_,aA (by omega)⟩;obtain⟨a1,m1,c1,e1⟩:=h3 x (aF hx);rcases h2.2 with⟨e0,_⟩|⟨g,o,c',e,hc⟩
 . omega
 . simp only[aI]at e
   exact⟨g,o,a1,m1,c1,e.1,by rw[hc k x hx,e1]⟩
theorem Na(v:VP)(p:MP)(q:Nat)(f:MF)(y:Tx)(s dv:Value)(ds:List Int)(w:World)(hs:p.small)(hfa:AV p 0)(h:Ej w v p)(hf:p.funcs[q]?=some f)(hy:NE w s y.shapes.length)(hyl:y.shapes.length=f.code.length)(hd:Rd w 1 dv ds.length (ds.flatMap Ac))(hdl:ds.length=p.funcs.length):
 Calls Tryz.prog 102 #[.agg #[v.r,v.k,v.f,v.t],iZ (q:Int),.agg #[iZ y.code,iZ y.at_,iZ y.depth,s],dv] w fun e w'=>(∃n,e=.returned (iZ n))/\Below w.heap.size w w':=by
 obtain⟨r1,r3,k1,k3,t1,t3,f1,f3,rfl⟩:=h.sl;obtain⟨sa,sc,es⟩:∃a c,s=.slice a y.shapes.length c:=hy.is_slice;subst es;obtain⟨da,dc,rfl⟩:=hd.is_slice;have hql:=(aE.1 hf).1;have HL:=Af (aG hyl hdl);clear hyl hdl;obtain⟨gk,ok,ck,efn,g,hrf,m0,m1,m2,m3⟩:=KZ h.funcs hf;simp only[aI,ao]at efn;obtain⟨rfl,rfl⟩:=efn;obtain⟨g1,g3,g4,g6,g7,g9,rfl⟩:=Gv hrf;have hcs:=(hs.func f (aF hf)).2.2;have hqI:(q:Int)<(p.funcs.length:Int):=by omega
 have H:=Af (aG hfa (aG h (aG hf (aG hy (aG hd hrf.2.2)))));have E0:=FO w #[.slice r1 p.regions.length r3,.slice k1 p.consts.length k3,sO gk ok p.funcs.length f3,.slice t1 p.certs.length t3] #[iZ y.code,iZ y.at_,iZ y.depth,.slice sa y.shapes.length sc] 28 166;simp only[]at m3;have M3:Hid (w.cell? ⟨gk,ok+q*4+3,none⟩=some (.slice g7 f.code.length g9)):=m3;clear hfa h hf hy hd hrf m0 m1 m2 m3;go_enter Tryz.func102,Tryz.ntmps102;go_upto_region 1 with fail
 refine An (fun u=>Hid (Ap u w.heap.size #[.slice r1 p.regions.length r3,.slice k1 p.consts.length k3,sO gk ok p.funcs.length f3,.slice t1 p.certs.length t3] 28/\Ap u (w.heap.size+1) #[iZ y.code,iZ y.at_,iZ y.depth,.slice sa y.shapes.length sc] 166/\Below w.heap.size w u)) E0 ?_
 rintro U E1;obtain⟨p0,p1,p2,p3⟩:=BD E1.o.1;obtain⟨z0,z1,z2,z3⟩:=BD E1.o.2.1;have m3:=Ad E1.o.2.2 M3.o;go_wp2_with fail
 go_loopw [9,11,12] (fun m i _ wr=>∃(m0:Int) (j:Nat),m=iZ m0/\i=iZ j/\j<=f.code.length/\Hid (Ap wr w.heap.size #[.slice r1 p.regions.length r3,.slice k1 p.consts.length k3,sO gk ok p.funcs.length f3,.slice t1 p.certs.length t3] 28/\Ap wr (w.heap.size+1) #[iZ y.code,iZ y.at_,iZ y.depth,.slice sa y.shapes.length sc] 166/\Below w.heap.size w wr)) (fun _ i _ _=>f.code.length-(intOf i).toNat)
 case atStart=>exact⟨y.depth,0,rfl,rfl,by omega,E1⟩
 case round=>
  obtain⟨mm,j,rfl,rfl,hj,E1⟩:=hrel;by_cases hlt:j<f.code.length
  case neg=>
   go_wp2_with fail
   go_ret
   exact⟨⟨mm,rfl⟩,E1.o.2.2⟩
  have hltI:(j:Int)<(f.code.length:Int):=by omega
  obtain⟨x,hx⟩:∃x,f.code[j]?=some x:=⟨_,aA hlt⟩;obtain⟨gi,oi,ci,ei,x0',x1',_,_⟩:=QH H.o.2.2.2.2.2 hx;simp only[aI,ao]at ei;obtain⟨rfl,rfl⟩:=ei;have x0:=Ad E1.o.2.2 x0';have HXO:Hid (x.op=28->∃(q:Nat) (fq:MF),x.a=q/\p.funcs[q]?=some fq):=fun e=>(H.o.1.parts.2.2.2.1 q (aE.1 H.o.2.2.1).1 f H.o.2.2.1 j (aE.1 hx).1 x hx).callee e
  by_cases hop:x.op=28
  case neg=>
   have hop':(x.op != 28)=true:=by simpa using hop
   go_wp2_with fail
   go_roundw
   case rel=>exact⟨mm,j+1,rfl,by go_num,by omega,E1⟩
   case measure=>simp[intOf];omega
  obtain⟨cq,fq,hxa,hfq⟩:=HXO.o hop;rw[hxa]at x1';rw[hop]at x0;have hcql:=(aE.1 hfq).1;have hcqI:(cq:Int)<(p.funcs.length:Int):=by omega
  have hcqD:(cq:Int)<(ds.length:Int):=by have:=HL.o.2;omega
  obtain⟨gk',ok',ck',efn',g',hrf',n0,_,_,_⟩:=KZ H.o.2.1.funcs hfq;simp only[aI,ao,aM,cN,cj]at efn';obtain⟨⟨rfl,rfl⟩,rfl⟩:=efn';obtain⟨h1,h3,h4,h6,h7,h9,rfl⟩:=Gv hrf';simp only[]at n0;obtain⟨gs,os,a1,sl1,c1,es,hsh⟩:=Tq H.o.2.2.2.1 (show j<y.shapes.length by have:=HL.o.1;omega);subst es;have hshI:(j:Int)<(y.shapes.length:Int):=by have:=HL.o.1;omega
  obtain⟨dval,hdv⟩:∃z,ds[cq]?=some z:=⟨_,aA (by have:=HL.o.2;omega)⟩
  obtain⟨ga,oa,ea,kz⟩:∃ga oa,da=some ⟨ga,oa,none⟩/\w.cell? ⟨ga,oa+cq,none⟩=some (iZ dval):=by
   rcases H.o.2.2.2.2.1.2 with⟨e0,_⟩|⟨g1,o1,c1',e1,hc⟩
   . omega
   . simp only[aI,ao]at e1
     exact⟨g1,o1,e1.1,hc cq _ (Hc hdv)⟩
  subst ea;have HS:Hid (∀U:World,Ap U w.heap.size #[.slice r1 p.regions.length r3,.slice k1 p.consts.length k3,sO gk ok p.funcs.length f3,.slice t1 p.certs.length t3] 28/\Ap U (w.heap.size+1) #[iZ y.code,iZ y.at_,iZ y.depth,sO gs os y.shapes.length sc] 166/\Below w.heap.size w U->U.cell? ⟨w.heap.size+1,3,none⟩=some (sO gs os y.shapes.length sc)/\U.cell? ⟨gs,os+j,none⟩=some (.slice a1 sl1 c1)/\U.cell? ⟨w.heap.size,2,none⟩=some (sO gk ok p.funcs.length f3)/\U.cell? ⟨gi,oi+j*4+1,none⟩=some (iZ (cq:Int))/\U.cell? ⟨gk,ok+cq*4,none⟩=some (.slice h1 fq.params.length h3)/\U.cell? ⟨ga,oa+cq,none⟩=some (iZ dval)):=fun U hU=>⟨(BD hU.2.1).2.2.2,Ad hU.2.2 hsh,(BD hU.1).2.2.1,Ad hU.2.2 x1',Ad hU.2.2 n0,Ad hU.2.2 kz⟩
  obtain⟨d1,hd1⟩:∃d1,IntKind.i64.wrap ((sl1:Int)-(fq.params.length:Int))=d1:=⟨_,rfl⟩;obtain⟨d2,hd2⟩:∃d2,IntKind.i64.wrap (d1+dval)=d2:=⟨_,rfl⟩;go_upto_region 7 with fail
  have ED:=Af (aG (E1.o.1.keep (Ae _)) (aG (E1.o.2.1.keep (Ae _)) (Ab E1.o.2.2 (by simp) (Ae _))));refine wp_region_held_drew (S:=fun U=>U.cell? ⟨w.heap.size+1,3,none⟩=some (sO gs os y.shapes.length sc)/\U.cell? ⟨gs,os+j,none⟩=some (.slice a1 sl1 c1)/\U.cell? ⟨w.heap.size,2,none⟩=some (sO gk ok p.funcs.length f3)/\U.cell? ⟨gi,oi+j*4+1,none⟩=some (iZ (cq:Int))/\U.cell? ⟨gk,ok+cq*4,none⟩=some (.slice h1 fq.params.length h3)/\U.cell? ⟨ga,oa+cq,none⟩=some (iZ dval)) (by kernel_rfl) (by exact HS.o _ ED.o) (fun hHeld=> ?_)
  generalize wr.drew=UD at ED hHeld⊢;refine Ar 0 ?_;refine Ar 1 ?_;refine Ar 2 ?_;refine Ar 3 ?_;refine Ar 4 ?_;refine Ar 5 ?_;refine Ar 6 ?_;refine Ar 7 ?_;refine Ar 8 ?_;refine Ar 9 ?_;refine Ar 10 ?_;refine Ar 11 ?_;refine Ar 12 ?_;refine Ar 13 ?_;refine Ar 14 ?_;refine Ar 15 ?_;refine Ar 16 ?_;refine Ar 17 ?_;refine Ar 18 ?_;refine Ar 19 ?_;refine Ar 20 ?_;refine Ar 21 ?_;refine Ar 22 ?_;refine Ar 23 ?_;refine Ar 24 ?_;refine Ar 25 ?_;refine Ar 26 ?_;refine Ar 27 ?_;refine wpAnyH_done (by kernel_rfl) ?_ _;go_simp;by_cases hgt:d2>mm
  case pos=>
   go_wp2_with fail
   go_roundw
   case rel=>exact⟨d2,j+1,rfl,by go_num,by omega,ED⟩
   case measure=>simp[intOf];omega
  case neg=>
   go_wp2_with fail
   go_roundw
   case rel=>exact⟨mm,j+1,rfl,by go_num,by omega,ED⟩
   case measure=>simp[intOf];omega
theorem CI.ownP{w:World}{base:Nat}{v:VP}{F:List (List Int×Value)}{cs:List MC}{G:List (MF×VF)}{ts:List MT}{B:List As}(h:CI w base (Ai v F cs G ts B)):Dc w base v ⟨F.map Prod.fst,cs,G.map Prod.fst,ts⟩:=by
 have h1:=h.own (Ct v.r F) (by simp[Ai]);have h3:=h.own (BT v.f G) (by simp[Ai]);refine⟨⟨F,rfl,by simpa[Ct,As.own]using h1,fun x hx=>h.own (A8 x.2 x.1) ?_⟩,h.own (DY v.k cs) (by simp[Ai]),⟨G,rfl,by simpa[BT,As.own]using h3,fun x hx=>⟨h.own (A8 x.2.p x.1.params) ?_,h.own (A8 x.2.l x.1.locals) ?_,h.own (Ca x.2.c x.1.code) ?_⟩⟩,h.own (CZ v.t ts) (by simp[Ai])⟩
 . have:A8 x.2 x.1∈BS F:=cE.2 ⟨x,hx,rfl⟩
   simp[Ai,this]
 all_goals
  have e:∀r∈Co x,r∈BQ G:=fun r hr=>cG.2 ⟨x,hx,hr⟩
 . have:=e (A8 x.2.p x.1.params) (by simp[Co]);simp[Ai,this]
 . have:=e (A8 x.2.l x.1.locals) (by simp[Co]);simp[Ai,this]
 . have:=e (Ca x.2.c x.1.code) (by simp[Co]);simp[Ai,this]
abbrev vN:VP:=⟨sN,sN,sN,sN⟩
section
variable {w u u':World} {s:CR} {p p':Int} {Ls:List As} {v:VP} {F:List (List Int×Value)} {cs:List MC} {G:List (MF×VF)} {ts:List MT} {P:Nat} {D E:List As}
theorem Bs.drawRow(h:Bs w u s p Ls)(hs:D8 u' s.S s.a s.len s.cap p')(hd:AR s.S u u'){r:As}(ho:r.own u' u.heap.size):Bs w u' s p' (Ls++[r]):=
 ⟨(h.draw hs hd).sep.snoc (N:=u.heap.size) (fun x hx g hg=>(h.sep.lt x hx g hg).2) ho h.size,(h.draw hs hd).bel⟩
theorem Bs.four(h:Bs w u s p Ls)(hm:gb P v∈Ls):(u.cell? ⟨P,0,none⟩=some v.r/\u.cell? ⟨P,1,none⟩=some v.k/\u.cell? ⟨P,2,none⟩=some v.f/\u.cell? ⟨P,3,none⟩=some v.t)/\(u.frozen? ⟨P,0,none⟩=false/\u.frozen? ⟨P,1,none⟩=false/\u.frozen? ⟨P,2,none⟩=false/\u.frozen? ⟨P,3,none⟩=false):=
 ⟨⟨h.cell hm 0 (by omega),h.cell hm 1 (by omega),h.cell hm 2 (by omega),h.cell hm 3 (by omega)⟩,h.frozen hm 0,h.frozen hm 1,h.frozen hm 2,h.frozen hm 3⟩
theorem T6(x:World)(a b c:Value):(⟨47,1,sG x.heap.size 3 3,3,[a,b,c]⟩:As).own (x.alloc (.cells #[a,b,c] 47)) x.heap.size:=cF (base:=x.heap.size) (e:=47) (size:=1) x #[a,b,c] 3 lR (by unfold maxLen;omega) rfl
theorem Bs.regions{v1 v2 v3:Value}{x1 x2 x3:List Int}(h:Bs w u s p (E++[A8 v1 x1,A8 v2 x2,A8 v3 x3])):Bs w ((u.alloc (.cells #[v1,v2,v3] 47)).alloc (.cells #[sG u.heap.size 3 3,sN,sN,sN] 28)) s p
 (Ai ⟨sG u.heap.size 3 3,sN,sN,sN⟩ [(x1,v1),(x2,v2),(x3,v3)] [] [] [] (gb (u.heap.size+1) ⟨sG u.heap.size 3 3,sN,sN,sN⟩::E)):=by
 have h4:=h.row (Aa _ _) (T6 u v1 v2 v3);have h5:=h4.box 28 4 [sG u.heap.size 3 3,sN,sN,sN] rfl;have h6:=((h5.nil 53 2).nil 58 4).nil 62 4;simp only[dC,a6,bK,ba]at h6;refine h6.perm ?_;refine(dj (l₁:=E)).trans ?_;simp only[Ai,BS,Ct,BE,DY,BT,BQ,CZ,List.map,am,bi,bK,ba,bL,bc,dV];generalize A8 v1 x1=A1;generalize A8 v2 x2=A2;generalize A8 v3 x3=A3;refine List.Perm.trans ?_ ((dj (l₁:=[A1,A2,A3]) (l₂:=[_])).append_right _);simp only[bK,ba];refine .cons _ (.cons _ (.cons _ (.cons _ ?_)));exact dj (l₁:=[_]) (l₂:=[_,_,_])|>.append_right E
theorem Bs.new_c{vk:Value}(hk:vk.ownBlock=none)(h:Bs w u s p (Ai {v with k:=vk} F [] G ts D))(V:Value)(ho:u'.ownsRow w.heap.size 53 2 V cs.length (cs.flatMap MC.cells))(hg:u.grownBy u' none)(hat:V.ownBlock=some u.heap.size):Bs w u' s p (Ai {v with k:=V} F cs G ts D):=by
 have h1:=Bs.app (A:=Ct v.r F::BS F) (C:=BT v.f G::BQ G++(CZ v.t ts::D)) (r:=DY vk []) h (DY V cs) ho (by rw[show(DY vk []).v.ownBlock=vk.ownBlock from rfl,hk];exact hg) (.inr hat);exact h1
end
def MK(B:Nat)(pv lv:Value)(res:Int):As:=Bb B 58 4 [pv,iZ res,lv,sN]
structure Gx(w u:World)(s:CR)(p:Int)(L:List As)(B:Nat)(pv lv:Value)(ps ls:List Int)(res:Int):Prop where
 bl:Bs w u s p (L++[A8 pv ps,A8 lv ls,MK B pv lv res])
section
variable {w u u':World} {s:CR} {p p':Int} {L:List As} {B:Nat} {pv lv:Value} {ps ls:List Int} {res:Int}
theorem Gx.keep(h:Gx w u s p L B pv lv ps ls res)(hb:Below u.heap.size u u'):Gx w u' s p L B pv lv ps ls res:=⟨h.bl.keep hb⟩
theorem Gx.draw(h:Gx w u s p L B pv lv ps ls res)(hs:D8 u' s.S s.a s.len s.cap p')(hd:AR s.S u u'):Gx w u' s p' L B pv lv ps ls res:=⟨h.bl.draw hs hd⟩
theorem Gx.cells(h:Gx w u s p L B pv lv ps ls res):(u.cell? ⟨B,0,none⟩=some pv/\u.cell? ⟨B,1,none⟩=some (iZ res)/\u.cell? ⟨B,2,none⟩=some lv/\u.cell? ⟨B,3,none⟩=some sN)/\∀i,u.frozen? ⟨B,i,none⟩=false:=
 have m:MK B pv lv res∈L++[A8 pv ps,A8 lv ls,MK B pv lv res]:=by simp
 ⟨⟨h.bl.cell m 0 (by omega),h.bl.cell m 1 (by omega),h.bl.cell m 2 (by omega),h.bl.cell m 3 (by omega)⟩,fun i=>h.bl.frozen m i⟩
theorem Gx.rows(h:Gx w u s p L B pv lv ps ls res):u.ownsRow w.heap.size 2 1 pv ps.length (ps.flatMap Ac)/\u.ownsRow w.heap.size 2 1 lv ls.length (ls.flatMap Ac):=⟨h.bl.sep.own (A8 pv ps) (by simp),h.bl.sep.own (A8 lv ls) (by simp)⟩
theorem Gx.push_p(h:Gx w u s p L B pv lv ps ls res)(z:Int)(V:Value)(ho:u'.ownsRow w.heap.size 2 1 V (ps.length+1) (ps.flatMap Ac++[iZ z]))(hg:u.grownBy u' pv.ownBlock)(hat:V.ownBlock=pv.ownBlock\/V.ownBlock=some u.heap.size):Gx w (u'.setCell ⟨B,0,none⟩ V) s p L B V lv (ps++[z]) ls res/\u'.cell? ⟨B,0,none⟩=some pv/\u'.frozen? ⟨B,0,none⟩=false:=by
 have h1:=Bs.app (A:=L) (C:=[A8 lv ls,MK B pv lv res]) (r:=A8 pv ps) h.bl (A8 V (ps++[z])) (by simpa[As.own,A8,Ac]using ho) hg hat;have h2:Bs w u' s p ((L++[A8 V (ps++[z]),A8 lv ls])++MK B pv lv res::[]):=by simpa using h1
 have h3:=h2.set 0 (by omega) V;exact⟨⟨by simpa[MK]using h3⟩,h1.cell (show MK B pv lv res∈_ by simp) 0 (by omega),h1.frozen (show MK B pv lv res∈_ by simp) 0⟩
theorem Gx.push_l(h:Gx w u s p L B pv lv ps ls res)(z:Int)(V:Value)(ho:u'.ownsRow w.heap.size 2 1 V (ls.length+1) (ls.flatMap Ac++[iZ z]))(hg:u.grownBy u' lv.ownBlock)(hat:V.ownBlock=lv.ownBlock\/V.ownBlock=some u.heap.size):Gx w (u'.setCell ⟨B,2,none⟩ V) s p L B pv V ps (ls++[z]) res/\u'.cell? ⟨B,2,none⟩=some lv/\u'.frozen? ⟨B,2,none⟩=false:=by
 have h0:Bs w u s p ((L++[A8 pv ps])++A8 lv ls::[MK B pv lv res]):=by simpa using h.bl
 have h1:=Bs.app (A:=L++[A8 pv ps]) (C:=[MK B pv lv res]) (r:=A8 lv ls) h0 (A8 V (ls++[z])) (by simpa[As.own,A8,Ac]using ho) hg hat;have h2:Bs w u' s p ((L++[A8 pv ps,A8 V (ls++[z])])++MK B pv lv res::[]):=by simpa using h1
 have h3:=h2.set 2 (by omega) V;exact⟨⟨by simpa[MK]using h3⟩,h2.cell (show MK B pv lv res∈_ by simp) 2 (by omega),h2.frozen (show MK B pv lv res∈_ by simp) 2⟩
theorem Gx.set_r(h:Gx w u s p L B pv lv ps ls res)(z:Int):Gx w (u.setCell ⟨B,1,none⟩ (iZ z)) s p L B pv lv ps ls z:=by
 have h2:Bs w u s p ((L++[A8 pv ps,A8 lv ls])++MK B pv lv res::[]):=by simpa using h.bl
 have h3:=h2.set 1 (by omega) (iZ z);exact⟨by simpa[MK]using h3⟩
theorem Gx.new(h:Bs w u s p L):Gx w (u.alloc (.cells #[sN,iZ 0,sN,sN] 58)) s p L u.heap.size sN sN [] [] 0:=by
 have h1:=((h.nil 2 1).nil 2 1).box 58 4 [sN,iZ 0,sN,sN] rfl;exact⟨by simpa[A8,MK]using h1⟩
end
theorem Gx.done{w u u':World}{s:CR}{p:Int}{v:VP}{F:List (List Int×Value)}{cs:List MC}{G:List (MF×VF)}{ts:List MT}{P B:Nat}{E:List As}{pv lv:Value}{ps ls:List Int}{res:Int}(h:Gx w u s p (Ai v F cs G ts (gb P v::E)) B pv lv ps ls res)(V:Value)(ho:u'.ownsRow w.heap.size 58 4 V (G.length+1) (G.flatMap AW++AW (⟨ps,res,ls,[]⟩,⟨pv,lv,sN⟩)))(hg:u.grownBy u' v.f.ownBlock)(hat:V.ownBlock=v.f.ownBlock\/V.ownBlock=some u.heap.size):Bs w (u'.setCell ⟨P,2,none⟩ V) s p (Ai {v with f:=V} F cs (G++[(⟨ps,res,ls,[]⟩,⟨pv,lv,sN⟩)]) ts (gb P {v with f:=V}::E))/\u'.cell? ⟨P,2,none⟩=some v.f/\u'.frozen? ⟨P,2,none⟩=false:=by
 have h0:Bs w u s p (Ai v F cs G ts (gb P v::E)++[A8 pv ps,A8 lv ls]):=h.bl.sub (by
  refine List.Sublist.append_left ?_ _;exact .cons_cons _ (.cons_cons _ (List.nil_sublist _)))
 have h1:=h0.nil 97 4;have h2:Bs w u s p (Ai v F cs G ts (gb P v::E)++Co ((⟨ps,res,ls,[]⟩:MF),(⟨pv,lv,sN⟩:VF))):=by simpa[Co,Ca]using h1
 have h3:=h2.push_f V ho hg hat;exact⟨h3.setp (D:=[]) 2 (by omega) V,h3.cell (AD (show gb P v∈_ by simp)) 2 (by omega),h3.frozen (AD (show gb P v∈_ by simp)) 2⟩
theorem PY(xs:List Int)(m:Nat):(xs.flatMap Ac).take (m*1)=(xs.take m).flatMap Ac:=by
 induction xs generalizing m with
 |nil=>simp
 | cons x r ih=>
   cases m with
   |zero=>simp
   | succ m=>
     rw[List.take_succ_cons,am,am,<-ih m];rfl
def Uw(w:World)(s:CR)(k:GK)(p left lv:Int)(nt:Nat)(D:List As)(e:Ending)(u':World):Prop:=∃(a:Option Addr) (n c:Nat),e=.returned (.slice a n c)/\Hid (GS w u' s k p left lv nt D)/\Hid (∀t,Calls Tryz.prog 86 #[.pointer (some ⟨s.S,0,none⟩),.slice a n c,iZ t,iZ 256] u' (Um w s k p left lv nt D fun b=>Sa k b t))
theorem T8{w u:World}{s:CR}{k:GK}{p left lv:Int}{nt:Nat}{D:List As}(E:Hid (GS w u s k p left lv nt D))(hp:p+1<=1000000000000:=by omega):
 Calls Tryz.prog 87 #[.pointer (some ⟨k.Gb,0,none⟩)] u (Uw w s k p left lv nt D):=by
 obtain⟨i64,hi,hz0,hz1,hz2⟩:=bJ CF;obtain⟨gf,cf,f,ap,cp,al,cl,ac,n,cc,hy,hq,hfi,HC⟩:=E.o.fc;have hlc:=hq.lt.1;have hpr:=hq.pl;have HY:=Af hy;clear hy hq;go_enter Tryz.func87,Tryz.ntmps87;go_upto_region 1 with fail
 refine wp_region_held_drew (S:=Uu k gf cf f ap cp al cl (.slice ac n cc)) (by kernel_rfl) (by exact(HC.o _ (Ae _)).1) (fun hHeld=> ?_);have B0:Hid (Below u.heap.size u u.drew):=Ae _;generalize u.drew=UD at B0 hHeld⊢;refine Ar 0 ?_;refine Ar 1 ?_;refine Ar 2 ?_;refine Ar 3 ?_;refine Ar 4 ?_;refine Ar 5 ?_;refine Ar 6 ?_;refine Ar 7 ?_;refine Ar 8 ?_;refine Ar 9 ?_;refine Ar 10 ?_;refine Ar 11 ?_;refine Ar 12 ?_;refine FL 13 ?_;intro KC hKC;go_simp;refine hKC.o _ _ (by exact(HC.o _ (Ab B0.o lR (Aa _ _))).1) (fun hHeld=> ?_);refine FL 14 ?_;intro KC hKC;go_simp;refine hKC.o _ _ (by exact(HC.o _ (Ab B0.o lR (Aa _ _))).1) (fun hHeld=> ?_);refine wpAnyH_done (by kernel_rfl) ?_ _;have E1:Hid (Ap (UD.alloc (.cells #[.slice ap f.params.length cp,iZ f.result,.slice al f.locals.length cl,.slice ac n cc] 58)) UD.heap.size #[.slice ap f.params.length cp,iZ f.result,.slice al f.locals.length cl,.slice ac n cc] 58/\Below u.heap.size u (UD.alloc (.cells #[.slice ap f.params.length cp,iZ f.result,.slice al f.locals.length cl,.slice ac n cc] 58))):=⟨Ap.new _ _ _,Ab B0.o lR (Aa _ _)⟩
 generalize UD.heap.size=X at E1⊢;generalize UD.alloc (.cells #[.slice ap f.params.length cp,iZ f.result,.slice al f.locals.length cl,.slice ac n cc] 58)=U at E1⊢;go_upto_region 2 with fail
 have HX:Hid (∀W,Below U.heap.size U W->W.cell? ⟨X,0,none⟩=some (.slice ap f.params.length cp)/\W.cell? ⟨X,2,none⟩=some (.slice al f.locals.length cl)):=fun W hW=>⟨Ad hW (E1.o.1.cell 0),Ad hW (E1.o.1.cell 2)⟩
 have hsub:IntKind.i64.wrap ((f.locals.length:Int)-3)=((f.locals.length-3:Nat):Int):=by rw[cQ _ ⟨by omega,by omega⟩];omega
 obtain⟨gl,eal,hcl⟩:∃gl,al=some ⟨gl,0,none⟩/\f.locals.length<=cl:=by
  have o2:=(HC.o _ E1.o.2).2.2;rcases o2.2 with⟨e,h0⟩|⟨g5,cap,cur,e,_,_,h5,_⟩
  . omega
  . simp only[aI]at e
    exact⟨g5,e.1,by rw[e.2.2];exact h5⟩
 subst eal;have hcl3:f.locals.length<=cl+3:=by omega
 refine wp_region_held_drew (S:=fun W=>W.cell? ⟨X,0,none⟩=some (.slice ap f.params.length cp)/\W.cell? ⟨X,2,none⟩=some (sG gl f.locals.length cl)) (by kernel_rfl) (by exact HX.o _ (Ae _)) (fun hHeld=> ?_)
 have B0:Hid (Below U.heap.size U U.drew):=Ae _;generalize U.drew=UD at B0 hHeld⊢;refine Ar 1 ?_;refine Ar 2 ?_;refine Ar 4 ?_;refine Ar 5 ?_;refine Ar 6 ?_;refine Ar 7 ?_;refine Ar 8 ?_;refine Ar 9 ?_;refine Ar 10 ?_;refine FL 0 ?_;intro KC hKC;go_simp;refine hKC.o _ _ (by exact HX.o _ (Ab B0.o lR (Aa _ _))) (fun hHeld=> ?_);refine FL 3 ?_;intro KC hKC;have B1:Hid (Below u.heap.size u (UD.alloc (.cells #[] 2))):=Ab (Ab E1.o.2 lR B0.o) lR (Aa _ _);refine Lm rfl (.tmp 17) (.tmp 19) UD.heap.size 47 2 i64 (iZ 0) 1 8 rfl Tryz.underlying47 hi hz0 hz1 hz2 rfl (by decide) (sG UD.heap.size 0 0) 0 [] (by simp[Act.eval]) (Ik UD _ _) (.slice ap f.params.length cp) f.params.length (f.params.flatMap Ac) (by simp[Act.eval]) (Rd.of_own (HC.o _ B1.o).2.1) (by rw[Aq Ac 1 Al]) (FE _) (by unfold maxLen;omega) (by omega) (Aa _ _).size ?_;intro v1 u1 hown hgrow hat;have E2:Hid (u1.ownsRow UD.heap.size 2 1 v1 f.params.length (f.params.flatMap Ac)/\Below UD.heap.size UD u1):=⟨by simpa using hown,(Aa _ _).grown hgrow (Aa _ _).size (fun j hj=>by cases hj;exact Nat.le_refl _)⟩
 refine hKC.o _ _ (by exact HX.o _ (Ab B0.o lR E2.o.2)) (fun hHeld=> ?_);refine FL 11 ?_;intro KC hKC;have B2:=Af (Ab (Ab E1.o.2 lR B0.o) lR E2.o.2);have RL:Hid (Rd u1 1 (sG gl (f.locals.length-3) cl) (f.locals.length-3) ((f.locals.flatMap Ac).take ((f.locals.length-3)*1))):=Rd.front (Rd.of_own (HC.o _ B2.o).2.2) (by rw[Aq Ac 1 Al]) (by omega) cl;refine Lm rfl (.tmp 20) (.tmp 27) UD.heap.size 47 2 i64 (iZ 0) 1 8 rfl Tryz.underlying47 hi hz0 hz1 hz2 rfl (by decide) v1 f.params.length (f.params.flatMap Ac) (by rfl) E2.o.1 (sG gl (f.locals.length-3) cl) (f.locals.length-3) _ (by rfl) RL.o (by rw[b9,Aq Ac 1 Al];omega) (fun x hx=>FE _ x (eJ hx)) (by unfold maxLen;omega) (by omega) E2.o.2.size ?_;intro v2 u2 hown hgrow hat;have E3:Hid (u2.ownsRow UD.heap.size 2 1 v2 (f.params.length+(f.locals.length-3)) ((f.params++f.locals.take (f.locals.length-3)).flatMap Ac)/\Below UD.heap.size UD u2):=⟨by rw[a8,<-PY];exact hown,E2.o.2.grown hgrow E2.o.2.size (fun j hj=>(E2.o.1.lt j hj).1)⟩
 refine hKC.o _ _ (by exact HX.o _ (Ab B0.o lR E3.o.2)) (fun hHeld=> ?_);refine Ar 12 ?_;refine wpAnyH_done (by kernel_rfl) ?_ _;obtain⟨a9,c9,rfl⟩:=A9 E3.o.1;go_wp2_with fail
 go_ret
 have hl9:(f.params++f.locals.take (f.locals.length-3)).length=f.params.length+(f.locals.length-3):=by rw[aH,b9];omega
 have E4:=Af (E.o.keep (Ab (Ab E1.o.2 lR B0.o) lR E3.o.2));refine⟨a9,_,c9,rfl,E4,fun t=>SA E4 (xs:=f.params++f.locals.take (f.locals.length-3)) (by rw[hl9];exact Rd.of_own E3.o.1) (by omega) (fun b hb=> ?_) hp⟩;obtain⟨y,hy,rfl⟩:=HY.o;refine⟨y,hy,?_⟩;unfold AA;rw[bX (by omega),aX,aU];rw[List.getElem?_append]at hb⊢;split at hb
 . rw[bj (by assumption),hb];rfl
 . rw[bX (by assumption)]
   rw[List.getElem?_take]at hb;split at hb
   . rw[hb];rfl
   . cases hb
theorem TS{w u:World}{s:CR}{k:GK}{p left lv t:Int}{nt:Nat}{D:List As}(E:Hid (GS w u s k p left lv nt D))(hp:p+1<=1000000000000:=by omega):
 Calls Tryz.prog 54 #[.pointer (some ⟨k.Gb,0,none⟩),iZ t] u (Um w s k p left lv nt D fun b=>b<k.G.length):=by
 obtain⟨v,vc,g,h1,h2⟩:=E.o.ex;obtain⟨⟨a1,c1,a2,c2,a3,c3,a4,c4,ev⟩,_⟩:=h1.bl.prow;have hfi:=E.o.ok.fi;have hgl:=E.o.ok.gl;obtain⟨q0,q1,q2,_,_,_⟩:=h1.cells;obtain⟨_,_,p2,_⟩:=h1.pcells;rw[ev]at p2;simp only[]at p2;generalize hn:k.G.length=n at*
 have HF:Hid (∀j,j<n->∃gf r,a3=some ⟨gf,0,none⟩/\u.cell? ⟨gf,j*4+1,none⟩=some (iZ r)):=fun j hj=>by
  obtain⟨y,hy⟩:∃y,k.G[j]?=some y:=⟨_,aA (by omega)⟩;obtain⟨gf,cf,ap,cp,al,cl,ac,cc,e1,e2,⟨f0,f1,f2,f3⟩,o1,o2,o3⟩:=h1.bl.fn hy;rw[ev]at e1;simp only[aI]at e1;exact⟨gf,_,e1.1,f1⟩
 have HU:=Af E.o.src.lt;have HC:Hid (∀W,Below u.heap.size u W->W.cell? ⟨k.Gb,0,none⟩=some (.pointer (some ⟨s.S,0,none⟩))/\W.cell? ⟨k.Gb,1,none⟩=some (.pointer (some ⟨k.P,0,none⟩))/\W.cell? ⟨k.Gb,2,none⟩=some (iZ (k.fi:Int))/\W.cell? ⟨k.P,2,none⟩=some (.slice a3 n c3)):=fun W hW=>⟨Ad hW q0,Ad hW q1,Ad hW q2,Ad hW p2⟩
 clear h1 h2 q0 q1 q2 p2 ev hn;go_enter Tryz.func54,Tryz.ntmps54;obtain⟨_,_,d2,_⟩:=HC.o _ (OX u).2;go_wp2_with fail
 clear d2;go_loopw [5,6] (fun V i wr=>∃(j m:Nat) (aV:Option Addr) (zs:List Int) (cV:Nat),j<=n/\V=.slice aV m cV/\i=iZ j/\m<=j/\Hid (Pk u wr aV m cV zs fun b=>b<n)) (fun _ i _=>n-(intOf i).toNat)
 case atStart=>exact⟨k.fi+1,0,_,[],_,by omega,rfl,by go_num,by omega,Pk.zero u _⟩
 case round=>
  obtain⟨j,m,aV,zs,cV,hj,rfl,rfl,hzl,E1⟩:=hrel;obtain⟨d0,d1,d2,d3⟩:=HC.o _ E1.o.2.2.1;by_cases h1:j<n
  case pos=>
   have h1I:(j:Int)<(n:Int):=by omega
   obtain⟨gf,x,rfl,kz'⟩:=HF.o j h1;have kz:=Ad E1.o.2.2.1 kz';clear kz';cases hxt:(x==t)
   case false=>
    go_wp2_with fail
    go_roundw
    case rel=>exact⟨j+1,m,aV,zs,cV,by omega,rfl,by go_num,by omega,E1⟩
    case measure=>simp[intOf];omega
   go_wp2_with (first|(at_builtin;refine SO E1.o.2.1 E1.o.2.2.1.size ?_;intro g5 cap5 w5 h5 h6;have E5:=OY E1 h5 h6 h1;clear h5 h6)|go_in)
   clear kz d0 d1 d2 d3;go_roundw
   case rel=>exact⟨j+1,m+1,some ⟨g5,0,none⟩,zs++[(j:Int)],cap5,by omega,rfl,by go_num,by omega,E5⟩
   case measure=>simp[intOf];omega
  have h1I:¬(j:Int)<(n:Int):=by omega
  have E3:=Af (E.o.keep E1.o.2.2.1);by_cases hm0:m=0
  case pos=>
   subst hm0;go_wp2_with fail
   go_ret
   exact⟨-1,p,rfl,.inl rfl,by omega,E3⟩
  have hm1:((m:Int)==0)=false:=by rw[du];omega
  go_wp2_with fail
  refine(A5 E3.o.src hp (n:=(m:Int)) (by omega) (by omega)).mono ?_;rintro e u2 ⟨r,h0,h1',rfl,hs2,hd2⟩;obtain⟨rn,rfl⟩:=aS h0;obtain⟨gv,z,hz,rfl,c0⟩:=Q6 E1.o.2.1 hd2 HU.o E1.o.1 (show rn<m by omega);have E2:=Af (aG (E1.o.2.2.2 z hz) (E3.o.draw hs2 hd2));clear hs2 hd2 hz E1;go_wp2_with fail
  go_ret
  exact⟨z,p+1,rfl,.inr E2.o.1,by omega,E2.o.2⟩
end Go.Proofs.YtjcamlobelcepaaGreatDoor
