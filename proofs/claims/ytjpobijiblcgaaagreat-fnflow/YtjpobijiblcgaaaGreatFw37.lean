import Derived.Test.YtjpobijiblcgaaaGreatFw0
import Derived.Test.YtjpobijiblcgaaaGreatFw4
import Derived.Test.YtjpobijiblcgaaaGreatFw35
import Derived.Test.YtjpobijiblcgaaaGreatFw27
import Derived.Deep.RegionHeld
namespace Go.Proofs.YtjpobijiblcgaaaGreat
open Go.ChangeShapes Go.WideShapes Go.ChangeAt Go.RowKit
set_option linter.unusedVariables false
set_option maxHeartbeats 8000000
set_option maxRecDepth 100000
theorem Nb{p:MP}{f:MF}:∀{c a:Nat} {sh:List Int} {T:Nat->List Int} {D:Nat} {e:Int×Nat},Fq p f c a sh T D=.inl e->e.1≠0
 |0,_,_,_,_,_,h=>by cases h
 | c + 1,a,sh,T,D,e,h=>by
   unfold Fq at h;split at h
   . cases h
   . split at h
     . exact Nb h
     . rename_i hc
       cases h
       exact hc
theorem Nd {p:MP}{f:MF}{bs:List MB}:∀{l:List Nat} {s:WS} {e:Int×Nat},F5 p f bs l s=.inl e->e.1≠0
 |[],_,_,h=>by cases h
 | b :: r, s,e,h=>by
   unfold F5 at h;split at h
   . cases h
   . split at h
     . rename_i m _ e' hb
       cases h
       unfold Pb at hb;split at hb
       . rename_i hk
         cases hb
         exact Nb hk
       . split at hb
         . cases hb
           simp
         . cases hb
     . exact Nd h
theorem Of.len{p:MP}{q:Nat}{f:MF}{y:Q1}(h:Of p (q:Int) y)(hc:y.code=0)(hf:p.funcs[q]?=some f):y.shapes.length=f.code.length:=by
 rcases h with⟨_,e⟩|⟨_,_,f',r,h1,_,_,e⟩
 . subst e
   cases hc
 . rw[ao,hf]at h1
   obtain rfl:=bC h1;subst e;revert hc;cases hr:F5 p f r.blocks (r.order.map Int.toNat) Nk with
   |inl e=>intro hc;exact absurd hc (Nd hr)
   |inr s=>intro _;simp[QT]
def LN(u:World)(s:Value)(n:Nat):Prop:=∃xs:List Value,Rd u 1 s n xs/\∀x∈xs,∃(a:Option Addr) (m c:Nat),x=.slice a m c
theorem LN.of{u:World}{s:Value}{rs:List (List Int)}(h:Np u s rs):LN u s rs.length:=by
 obtain⟨xs,h1,h2,h3⟩:=h;refine⟨_,h2,fun x hx=> ?_⟩;obtain⟨y,hy,hxy⟩:=cE.1 hx;obtain⟨a,c,e⟩:=(h3 y hy).is_slice;simp only[BL,am]at hxy;exact⟨a,_,c,by rw[hxy,e]⟩
theorem LN.keep{u u':World}{s:Value}{n:Nat}(h:LN u s n)(hb:Below u.heap.size u u'):LN u' s n:=by
 obtain⟨xs,h1,h2⟩:=h;exact⟨xs,h1.keep hb lR,h2⟩
theorem LN.set{u:World}{s:Value}{n:Nat}(h:LN u s n){a:Addr}{k:IntKind}{z:Int}(ha:u.cell? a=some (.int k z))(V:Value):LN (u.setCell a V) s n:=by
 obtain⟨xs,⟨h1,h2⟩,h3⟩:=h;refine⟨xs,⟨h1,h2.imp_right fun⟨g,o,c,e,hc⟩=>⟨g,o,c,e,fun j v hj=> ?_⟩⟩,h3⟩;have h4:=hc j v hj;obtain⟨b,m,d,e⟩:=h3 v (aE hj);rw[cu _ _ _ _ (fun e'=>by rw[<-e',ha]at h4;rw[e]at h4;cases h4)];exact h4
theorem LN.is_slice{u:World}{s:Value}{n:Nat}(h:LN u s n):∃a c,s=.slice a n c:=by
 obtain⟨xs,h1,_⟩:=h;exact h1.is_slice
theorem QR{u:World}{a:Option Addr}{n c:Nat}(h:LN u (.slice a n c) n){k:Nat}(hk:k<n):∃(g o:Nat) (a1:Option Addr) (m1 c1:Nat),a=some ⟨g,o,none⟩/\u.cell? ⟨g,o+k,none⟩=some (.slice a1 m1 c1):=by
 obtain⟨xs,h2,h3⟩:=h;have hl:=h2.1;obtain⟨x,hx⟩:∃x,xs[k]?=some x:=⟨_,aA (by omega)⟩;obtain⟨a1,m1,c1,e1⟩:=h3 x (aE hx);rcases h2.2 with⟨e0,_⟩|⟨g,o,c',e,hc⟩
 . omega
 . simp only[aI]at e
   exact⟨g,o,a1,m1,c1,e.1,by rw[hc k x hx,e1]⟩
theorem K8(v:VP)(p:MP)(q:Nat)(f:MF)(y:Q1)(s dv:Value)(ds:List Int)(w:World)(hs:p.small)(hfa:Bj p 0)(h:Fr w v p)(hf:p.funcs[q]?=some f)(hy:LN w s y.shapes.length)(hyl:y.shapes.length=f.code.length)(hd:Rd w 1 dv ds.length (ds.flatMap Ab))(hdl:ds.length=p.funcs.length):
 Calls Tryz.prog 102 #[.agg #[v.r,v.k,v.f,v.t],iZ (q:Int),.agg #[iZ y.code,iZ y.at_,iZ y.depth,s],dv] w fun e w'=>(∃n,e=.returned (iZ n))/\Below w.heap.size w w':=by
 obtain⟨r1,r3,k1,k3,t1,t3,f1,f3,rfl⟩:=h.sl;obtain⟨sa,sc,es⟩:∃a c,s=.slice a y.shapes.length c:=hy.is_slice;subst es;obtain⟨da,dc,rfl⟩:=hd.is_slice;have hql:=(aD.1 hf).1;have HL:=Ah (aH hyl hdl);clear hyl hdl;obtain⟨gk,ok,ck,efn,g,hrf,m0,m1,m2,m3⟩:=fn_at h.funcs hf;simp only[aI,bU]at efn;obtain⟨rfl,rfl⟩:=efn;obtain⟨g1,g3,g4,g6,g7,g9,rfl⟩:=FM hrf;have hcs:=(hs.func f (aE hf)).2.2;have hqI:(q:Int)<(p.funcs.length:Int):=by omega
 have H:=Ah (aH hfa (aH h (aH hf (aH hy (aH hd hrf.2.2)))));have E0:=Fl w #[.slice r1 p.regions.length r3,.slice k1 p.consts.length k3,sO gk ok p.funcs.length f3,.slice t1 p.certs.length t3] #[iZ y.code,iZ y.at_,iZ y.depth,.slice sa y.shapes.length sc] 65 159;simp only[]at m3;have M3:Hid (w.cell? ⟨gk,ok+q*4+3,none⟩=some (.slice g7 f.code.length g9)):=m3;clear hfa h hf hy hd hrf m0 m1 m2 m3;go_enter Tryz.func102,Tryz.ntmps102;go_upto_region 1 with fail
 refine Al (fun u=>Hid (An u w.heap.size #[.slice r1 p.regions.length r3,.slice k1 p.consts.length k3,sO gk ok p.funcs.length f3,.slice t1 p.certs.length t3] 65/\An u (w.heap.size+1) #[iZ y.code,iZ y.at_,iZ y.depth,.slice sa y.shapes.length sc] 159/\Below w.heap.size w u)) E0 ?_
 rintro U E1;clear E0;obtain⟨p0,p1,p2,p3⟩:=Bu E1.o.1;obtain⟨z0,z1,z2,z3⟩:=Bu E1.o.2.1;have m3:=Ac E1.o.2.2 M3.o;go_wp2_with fail
 go_loopw [9,11,12] (fun m i _ wr=>∃(m0:Int) (j:Nat),m=iZ m0/\i=iZ j/\j<=f.code.length/\Hid (An wr w.heap.size #[.slice r1 p.regions.length r3,.slice k1 p.consts.length k3,sO gk ok p.funcs.length f3,.slice t1 p.certs.length t3] 65/\An wr (w.heap.size+1) #[iZ y.code,iZ y.at_,iZ y.depth,.slice sa y.shapes.length sc] 159/\Below w.heap.size w wr)) (fun _ i _ _=>f.code.length-(intOf i).toNat)
 case atStart=>exact⟨y.depth,0,rfl,rfl,by omega,E1⟩
 case round=>
  clear E1 p0 p1 p2 p3 z0 z1 z2 z3 m3;obtain⟨mm,j,rfl,rfl,hj,E1⟩:=hrel;by_cases hlt:j<f.code.length
  case neg=>
   go_wp2_with fail
   go_ret
   exact⟨⟨mm,rfl⟩,E1.o.2.2⟩
  have hltI:(j:Int)<(f.code.length:Int):=by omega
  obtain⟨x,hx⟩:∃x,f.code[j]?=some x:=⟨_,aA hlt⟩;obtain⟨gi,oi,ci,ei,x0',x1',_,_⟩:=Oz H.o.2.2.2.2.2 hx;simp only[aI,bU]at ei;obtain⟨rfl,rfl⟩:=ei;have x0:=Ac E1.o.2.2 x0';have HXO:Hid (x.op=28->∃(q:Nat) (fq:MF),x.a=q/\p.funcs[q]?=some fq):=fun e=>(H.o.1.parts.2.2.2.1 q (aD.1 H.o.2.2.1).1 f H.o.2.2.1 j (aD.1 hx).1 x hx).callee e
  by_cases hop:x.op=28
  case neg=>
   have hop':(x.op != 28)=true:=by simpa using hop
   go_wp2_with fail
   go_roundw
   case rel=>exact⟨mm,j+1,rfl,by go_num,by omega,E1⟩
   case measure=>simp[intOf];omega
  obtain⟨cq,fq,hxa,hfq⟩:=HXO.o hop;rw[hxa]at x1';rw[hop]at x0;have hcql:=(aD.1 hfq).1;have hcqI:(cq:Int)<(p.funcs.length:Int):=by omega
  have hcqD:(cq:Int)<(ds.length:Int):=by have:=HL.o.2;omega
  obtain⟨gk',ok',ck',efn',g',hrf',n0,_,_,_⟩:=fn_at H.o.2.1.funcs hfq;simp only[aI,bU,aJ,bf,cg]at efn';obtain⟨⟨rfl,rfl⟩,rfl⟩:=efn';obtain⟨h1,h3,h4,h6,h7,h9,rfl⟩:=FM hrf';simp only[]at n0;obtain⟨gs,os,a1,sl1,c1,es,hsh⟩:=QR H.o.2.2.2.1 (show j<y.shapes.length by have:=HL.o.1;omega);subst es;have hshI:(j:Int)<(y.shapes.length:Int):=by have:=HL.o.1;omega
  obtain⟨dval,hdv⟩:∃z,ds[cq]?=some z:=⟨_,aA (by have:=HL.o.2;omega)⟩
  obtain⟨ga,oa,ea,kz⟩:∃ga oa,da=some ⟨ga,oa,none⟩/\w.cell? ⟨ga,oa+cq,none⟩=some (iZ dval):=by
   rcases H.o.2.2.2.2.1.2 with⟨e0,_⟩|⟨g1,o1,c1',e1,hc⟩
   . omega
   . simp only[aI,bU]at e1
     exact⟨g1,o1,e1.1,hc cq _ (Ed hdv)⟩
  subst ea;have HS:Hid (∀U:World,An U w.heap.size #[.slice r1 p.regions.length r3,.slice k1 p.consts.length k3,sO gk ok p.funcs.length f3,.slice t1 p.certs.length t3] 65/\An U (w.heap.size+1) #[iZ y.code,iZ y.at_,iZ y.depth,sO gs os y.shapes.length sc] 159/\Below w.heap.size w U->U.cell? ⟨w.heap.size+1,3,none⟩=some (sO gs os y.shapes.length sc)/\U.cell? ⟨gs,os+j,none⟩=some (.slice a1 sl1 c1)/\U.cell? ⟨w.heap.size,2,none⟩=some (sO gk ok p.funcs.length f3)/\U.cell? ⟨gi,oi+j*4+1,none⟩=some (iZ (cq:Int))/\U.cell? ⟨gk,ok+cq*4,none⟩=some (.slice h1 fq.params.length h3)/\U.cell? ⟨ga,oa+cq,none⟩=some (iZ dval)):=fun U hU=>⟨(Bu hU.2.1).2.2.2,Ac hU.2.2 hsh,(Bu hU.1).2.2.1,Ac hU.2.2 x1',Ac hU.2.2 n0,Ac hU.2.2 kz⟩
  obtain⟨d1,hd1⟩:∃d1,IntKind.i64.wrap ((sl1:Int)-(fq.params.length:Int))=d1:=⟨_,rfl⟩;obtain⟨d2,hd2⟩:∃d2,IntKind.i64.wrap (d1+dval)=d2:=⟨_,rfl⟩;clear x1' x0' n0 hsh kz hdv hx hxa hop hrf' hfq HXO hcql hlt;go_upto_region 7 with fail
  have ED:=Ah (aH (E1.o.1.keep (Ad _)) (aH (E1.o.2.1.keep (Ad _)) (Af E1.o.2.2 (by simp) (Ad _))));refine wp_region_held_drew (S:=fun U=>U.cell? ⟨w.heap.size+1,3,none⟩=some (sO gs os y.shapes.length sc)/\U.cell? ⟨gs,os+j,none⟩=some (.slice a1 sl1 c1)/\U.cell? ⟨w.heap.size,2,none⟩=some (sO gk ok p.funcs.length f3)/\U.cell? ⟨gi,oi+j*4+1,none⟩=some (iZ (cq:Int))/\U.cell? ⟨gk,ok+cq*4,none⟩=some (.slice h1 fq.params.length h3)/\U.cell? ⟨ga,oa+cq,none⟩=some (iZ dval)) (by kernel_rfl) (by exact HS.o _ ED.o) (fun hHeld=> ?_)
  clear E1 x0 HS;generalize wr.drew=UD at ED hHeld⊢;refine Ak 0 ?_;refine Ak 1 ?_;refine Ak 2 ?_;refine Ak 3 ?_;refine Ak 4 ?_;refine Ak 5 ?_;refine Ak 6 ?_;refine Ak 7 ?_;refine Ak 8 ?_;refine Ak 9 ?_;refine Ak 10 ?_;refine Ak 11 ?_;refine Ak 12 ?_;refine Ak 13 ?_;refine Ak 14 ?_;refine Ak 15 ?_;refine Ak 16 ?_;refine Ak 17 ?_;refine Ak 18 ?_;refine Ak 19 ?_;refine Ak 20 ?_;refine Ak 21 ?_;refine Ak 22 ?_;refine Ak 23 ?_;refine Ak 24 ?_;refine Ak 25 ?_;refine Ak 26 ?_;refine Ak 27 ?_;refine wpAnyH_done (by kernel_rfl) ?_ _;clear hHeld;go_simp;by_cases hgt:d2>mm
  case pos=>
   go_wp2_with fail
   go_roundw
   case rel=>exact⟨d2,j+1,rfl,by go_num,by omega,ED⟩
   case measure=>simp[intOf];omega
  case neg=>
   go_wp2_with fail
   go_roundw
   case rel=>exact⟨mm,j+1,rfl,by go_num,by omega,ED⟩
   case measure=>simp[intOf];omega
end Go.Proofs.YtjpobijiblcgaaaGreat
