import Derived.Test.YtjpobijiblcgaaaGreatFw0
import Derived.Test.YtjpobijiblcgaaaGreatFw12
import Derived.Test.YtjpobijiblcgaaaGreatFw9
import Derived.Test.YtjpobijiblcgaaaGreatFw2
import Derived.Test.YtjpobijiblcgaaaGreatFw13
import Derived.Deep.AppendLies
namespace Go.Proofs.YtjpobijiblcgaaaGreat
open Go.ChangeShapes Go.WideShapes Go.ChangeAt Go.RowKit
set_option linter.unusedVariables false
set_option maxHeartbeats 8000000
set_option maxRecDepth 100000
theorem Dk (s:Value)(xs:List Int)(v:Int)(w:World)(hn:xs.length<=1048576)(h:Rd w 1 s xs.length (xs.flatMap Ab)):
    Calls Tryz.prog 100 #[s,.int .i64 v] w fun e w'=>AM e (v∈xs)/\w'=w:=by
  have H1:Hid (Rd w 1 s xs.length (xs.flatMap Ab)):=h;obtain⟨a1,c1,rfl⟩:=h.is_slice;clear h;generalize hLL:xs.length=n at hn H1⊢;have HL:Hid (xs.length=n):=hLL;clear hLL;go_enter Tryz.func100,Tryz.ntmps100;go_wp2
  go_loopw [5] (fun i wr=>∃k:Nat,k<=n/\i=.int .i64 k/\Hid (∀j,j<k->¬xs[j]?=some v)/\wr=w) (fun i _=>n-(intOf i).toNat)
  case atStart=>exact⟨0,by omega,rfl,fun j hj=>by omega,rfl⟩
  case round=>
    obtain⟨k,hk,rfl,HT,rfl⟩:=hrel;by_cases hlt:k<n
    . obtain⟨x,hx⟩:∃x,xs[k]?=some x:=⟨_,aA (by rw[HL.o];exact hlt)⟩
      rcases H1.o.2 with⟨e0,_⟩|⟨g,o,c,e1,hc1⟩
      . omega
      simp only[aI,bU]at e1;obtain⟨rfl,rfl⟩:=e1;have i0:=Rd.elem Aq hc1 k x hx 0 _ rfl;rw[cZ,aw]at i0;have HX:Hid (xs[k]?=some x):=hx;clear hc1 hx;by_cases hxy:x=v
      . subst hxy
        go_wp2
        go_ret
        exact⟨.yes (aE HX.o),rfl⟩
      . go_wp2
        go_roundw
        case rel=>
          refine⟨k+1,by omega,by go_num,fun j hj=> ?_,trivial⟩;by_cases e:j=k
          . subst e
            rw[HX.o];exact fun e=>hxy (bC e)
          . exact HT.o j (by omega)
        case measure=>simp[intOf];omega
    . have hkn:k=n:=by omega
      subst hkn;go_wp2
      go_ret
      refine⟨.no fun hm=> ?_,rfl⟩;obtain⟨j,hj⟩:=cH hm;exact HT.o j (by have:=(aD.1 hj).1;rw[HL.o]at this;exact this) hj
def Qo(ts:List MT)(fi hd n:Int):Prop:=(n=-1/\C7 ts fi hd=none)\/∃(k:Nat) (c:MT),n=(k:Int)/\ts[k]?=some c/\C7 ts fi hd=some c
theorem IA (v:VP)(p:MP)(fi hd:Int)(w:World)(hs:p.small)(h:Fr w v p):
    Calls Tryz.prog 114 #[.agg #[v.r,v.k,v.f,v.t],.int .i64 fi,.int .i64 hd] w fun e w'=>(∃n,e=.returned (.int .i64 n)/\Qo p.certs fi hd n)/\Below w.heap.size w w':=by
  obtain⟨vr,vk,vf,vt⟩:=v;have H1:Hid (Rd w 4 vt p.certs.length (p.certs.flatMap MT.cells)):=h.certs;have hn:=hs.certs;obtain⟨a1,c1,e1⟩:∃a c,vt=.slice a p.certs.length c:=h.certs.is_slice;subst e1;clear h hs;have HW:Hid (Below w.heap.size w (w.alloc (.cells #[vr,vk,vf,.slice a1 p.certs.length c1] 65))/\DS (w.alloc (.cells #[vr,vk,vf,.slice a1 p.certs.length c1] 65)) w.heap.size vr vk vf (.slice a1 p.certs.length c1)):=⟨Aa _ _,DS.new _ _ _ _ _ _⟩
  generalize hcs:p.certs.length=n at hn H1 HW⊢;have HL:Hid (p.certs.length=n):=hcs;clear hcs;go_enter Tryz.func114,Tryz.ntmps114;go_wp2
  go_loopw [7] (fun i wr=>∃k:Nat,k<=n/\i=.int .i64 k/\Hid (∀j c,j<k->p.certs[j]?=some c->¬(c.func=fi/\c.head=hd))/\Hid (Below w.heap.size w wr/\DS wr w.heap.size vr vk vf (.slice a1 n c1))) (fun i _=>n-(intOf i).toNat)
  case atStart=>exact⟨0,by omega,rfl,fun j c hj=>by omega,HW⟩
  case round=>
    clear HW;obtain⟨k,hk,rfl,HT,HW⟩:=hrel;obtain⟨p0,p1,p2,p3⟩:=HW.o.2;by_cases hlt:k<n
    . obtain⟨x,hx⟩:∃x,p.certs[k]?=some x:=⟨_,aA (by rw[HL.o];exact hlt)⟩
      rcases H1.o.2 with⟨e0,_⟩|⟨b,o,c,e1,hc1⟩
      . omega
      simp only[aI,bU]at e1;obtain⟨rfl,rfl⟩:=e1;have i0:=Rd.elem MT.cells_length hc1 k x hx 0 _ rfl;have i1:=Rd.elem MT.cells_length hc1 k x hx 1 _ rfl;rw[<-HW.o.1.cell (aF i0),aw]at i0;rw[<-HW.o.1.cell (aF i1)]at i1;have HX:Hid (p.certs[k]?=some x):=hx;clear hc1 hx;by_cases q:x.func=fi/\x.head=hd
      . obtain⟨q1,q2⟩:=q
        have HC:Hid (C7 p.certs fi hd=some x):=KB HX.o ⟨q1,q2⟩ fun j c hj hc=>HT.o j c hj hc
        rw[q1]at i0;rw[q2]at i1;clear q1 q2;go_wp2
        go_ret
        exact⟨⟨_,rfl,.inr ⟨k,x,rfl,HX.o,HC.o⟩⟩,HW.o.1⟩
      . have HT':Hid (∀j c,j<k+1->p.certs[j]?=some c->¬(c.func=fi/\c.head=hd)):=fun j c hj hc=>by
          by_cases e:j=k
          . subst e
            rw[HX.o]at hc;cases hc
            exact q
          . exact HT.o j c (by omega) hc
        by_cases q1:x.func=fi
        . have q2:¬x.head=hd:=fun e=>q ⟨q1,e⟩
          clear q;go_wp2
          go_roundw
          case rel=>exact⟨k+1,by omega,by go_num,HT'.o,HW.o⟩
          case measure=>simp[intOf];omega
        . clear q
          go_wp2
          go_roundw
          case rel=>exact⟨k+1,by omega,by go_num,HT'.o,HW.o⟩
          case measure=>simp[intOf];omega
    . have hkn:k=n:=by omega
      subst hkn;go_wp2
      go_ret
      exact⟨⟨_,rfl,.inl ⟨by go_num,KA fun j c hj=>HT.o j c (by have:=(aD.1 hj).1;rw[HL.o]at this;exact this) hj⟩⟩,HW.o.1⟩
def NK(xs:List MI)(m:MB):MB:=⟨m.first,m.last,AU xs (xs.getD m.last.toNat ⟨0,0,0,0⟩) m.last.toNat⟩
def Hi(xs:List MI):List MB:=(A8 xs xs.length).map (NK xs)
theorem FI(xs:List MI):(Hi xs).length=(CA xs xs.length).length:=by unfold Hi;rw[aj,BI]
theorem Kx(L:List Nat)(n b a q:Nat)(ha:L[b]?=some a)(hq:(L++[n])[b+1]?=some q):(build L n)[b]?=some ⟨(a:Int),(q:Int)-1,[]⟩:=by
 unfold build;rw[dS,ha]
 have e:(L.tail++[n])[b]?=some q:=by
  cases L with
  |nil=>simp at ha
  |cons y r=>simpa using hq
 rw[e]
def z3:List Value:=[iZ 0,iZ 0,sN]
structure IW(w u:World)(xs:List MI)(gl cl bl j:Nat)(D:List (MB×Value)):Prop where
 row:u.ownsRow w.heap.size 32 3 (sG bl (CA xs xs.length).length (CA xs xs.length).length) (CA xs xs.length).length ((List.replicate j z3).flatten++D.flatMap Cg)
 fam:CJ u w.heap.size ((sG gl (CA xs xs.length).length cl,(CA xs xs.length).map Int.ofNat)::Dm D)
 done:D.map Prod.fst=(Hi xs).drop j
 bel:Below w.heap.size w u
theorem IW.lead{w u:World}{xs:List MI}{gl cl bl j:Nat}{D:List (MB×Value)}(h:IW w u xs gl cl bl j D):u.ownsRow w.heap.size 2 1 (sG gl (CA xs xs.length).length cl) (CA xs xs.length).length (((CA xs xs.length).map Int.ofNat).flatMap Ab):=by
 have:=h.fam.own _ (bc);simpa using this
theorem CJ.keep{u u':World}{B:Nat}{L:List (Value×List Int)}(h:CJ u B L)(hb:Below u.heap.size u u'):CJ u' B L:=⟨fun r hr=>Aj (h.own r hr) hb lR,h.sep⟩
theorem CJ.add{u u':World}{B:Nat}{y:Value×List Int}{L:List (Value×List Int)}{b:Value}{cb:List Int}(h:CJ u B (y::L))(hb:Below u.heap.size u u')(hn:u'.ownsRow u.heap.size 2 1 b cb.length (cb.flatMap Ab))(hB:B<=u.heap.size):CJ u' B (y::(b,cb)::L):=by
 have hap:∀r∈y::L,Gx (b,cb) r:=by
  intro r hr g hg e;have h1:=hn.lt g hg;have h2:=(h.own r hr).lt g e;omega
 obtain⟨p1,p2⟩:=bi.1 h.sep;refine⟨?_,bi.2 ⟨?_,bi.2 ⟨fun r hr=>hap r (by simp[hr]),p2⟩⟩⟩
 . intro r hr
   simp only[aX]at hr;rcases hr with rfl|rfl|hr
   . exact Aj (h.own _ (by simp)) hb lR
   . exact AP hn hB
   . exact Aj (h.own r (by simp[hr])) hb lR
 . intro r hr
   simp only[aX]at hr;rcases hr with rfl|hr
   . exact(hap y (by simp)).symm
   . exact p1 r hr
theorem CJ.setB{w:World}{base g:Nat}{L:List (Value×List Int)}{B' k n c:Nat}{xs:List Value}(h:CJ w base L)(ho:w.ownsRow B' 32 k (sG g n c) n xs)(i:Nat)(x:Value):CJ (w.setCell ⟨g,i,none⟩ x) base L:=
 ⟨fun y hy=>Bz (h.own y hy) ho (by decide) i x,h.sep⟩
theorem P5(A R:List Value)(y0 y1 y2 c0 c1 c2:Value)(i:Nat)(h:A.length=i):(((A++([y0,y1,y2]++R)).set i c0).set (i+1) c1).set (i+2) c2=A++([c0,c1,c2]++R):=by
 subst h;simp[List.set_append_right]
theorem LJ(b:Nat)(R:List Value):(List.replicate (b+1) z3).flatten++R=(List.replicate b z3).flatten++(z3++R):=by
 rw[List.replicate_succ'];simp
theorem MQ(b:Nat):(List.replicate b z3).flatten.length=b*3:=by
 rw[List.length_flatten];simp[z3]
theorem IW.next{w wr u:World}{xs:List MI}{gl cl bl b a q e:Nat}{D:List (MB×Value)}{x:MI}{ar:Option Addr}{cr:Nat}(h:IW w wr xs gl cl bl (b+1) D)(hb:Below wr.heap.size wr u)(hr:u.ownsRow wr.heap.size 2 1 (.slice ar (AU xs x e).length cr) (AU xs x e).length ((AU xs x e).flatMap Ab))(ha:(CA xs xs.length)[b]?=some a)(hq:(CA xs xs.length++[xs.length])[b+1]?=some q)(he:(q:Int)-1=(e:Int))(hx:xs[e]?=some x):
 IW w (((u.setCell ⟨bl,b*3,none⟩ (iZ a)).setCell ⟨bl,b*3+1,none⟩ (iZ e)).setCell ⟨bl,b*3+2,none⟩ (.slice ar (AU xs x e).length cr)) xs gl cl bl b ((⟨(a:Int),(e:Int),AU xs x e⟩,.slice ar (AU xs x e).length cr)::D):=by
 have r0:=Aj h.row hb lR;have r1:=(r0.stored (b*3) (iZ a)).1;have r2:=(r1.stored (b*3+1) (iZ e)).1;have r3:=(r2.stored (b*3+2) (.slice ar (AU xs x e).length cr)).1;rw[LJ,show z3++D.flatMap Cg=[Value.int .i64 0,iZ 0,sN]++D.flatMap Cg from rfl,P5 _ _ _ _ _ _ _ _ _ (MQ b)]at r3;have hbl:=(At r0).1;have hm:=Kx _ _ _ _ _ ha hq;refine⟨?_,?_,?_,(((Af h.bel lR hb).setCell hbl _).setCell hbl _).setCell hbl _⟩
 . rw[aW]
   exact r3
 . have f0:=CJ.add h.fam hb hr h.bel.size
   exact((f0.setB r0 _ _).setB r1 _ _).setB r2 _ _
 . have hlt:b<(Hi xs).length:=by rw[FI];exact(aD.1 ha).1
   rw[dF,h.done,dJ hlt];congr 1
   have e1:(Hi xs)[b]?=some (NK xs ⟨(a:Int),(q:Int)-1,[]⟩):=by
    unfold Hi;rw[a7,Cb,hm];rfl
   have e2:=(aD.1 e1).2;rw[e2];unfold NK;rw[he,ao,bQ,hx];rfl
def GZ(n g:Nat):Value:=sG g n n
theorem QA:(Tryz.prog.info? 53).map (fun i=>(i.zero,i.size,i.bytes))=some (some sN,1,24):=by kernel_rfl
structure DM(w u:World)(n:Nat)(V:Value)(R:List Nat)(P:Nat->Nat->Bool):Prop where
 o:u.ownsRow w.heap.size 53 1 V R.length (R.map (GZ n))
 rows:∀i g,R[i]?=some g->Eo u w.heap.size g n (P i)
 nodup:R.Nodup
 bel:Below w.heap.size w u
theorem DM.keep{w u u':World}{n:Nat}{V:Value}{R:List Nat}{P:Nat->Nat->Bool}(h:DM w u n V R P)(hb:Below u.heap.size u u'):DM w u' n V R P:=⟨Aj h.o hb lR,fun i g hi=>(h.rows i g hi).keep hb,h.nodup,Af h.bel lR hb⟩
theorem Eo.lt{w:World}{base g n:Nat}{P:Nat->Bool}(h:Eo w base g n P):g<w.heap.size:=by
 obtain⟨_,cur,h1⟩:=At h;exact(an.1 h1).1
theorem Eo.other{w:World}{base g g' n i:Nat}{P:Nat->Bool}{x:Value}(h:Eo w base g n P)(hne:g≠g'):Eo (w.setCell ⟨g',i,none⟩ x) base g n P:=aR h (a:=⟨g',i,none⟩) (fun e=>hne (by simpa[Value.ownBlock]using e)) x
theorem DM.set{w u:World}{n:Nat}{V:Value}{R:List Nat}{P Q:Nat->Nat->Bool}(h:DM w u n V R P){b g d:Nat}{x:Bool}(hb:R[b]?=some g)(hQb:∀j,j<n->Q b j=if j=d then x else P b j)(hQ:∀i,i≠b->Q i=P i):DM w (u.setCell ⟨g,d,none⟩ (.bool x)) n V R Q:=by
 have hg:=h.rows b g hb;refine⟨Bz h.o hg (by decide) d _,fun i g' hi=> ?_,h.nodup,h.bel.setCell (At hg).1 _⟩;by_cases e:i=b
 . subst e
   rw[hb]at hi;cases hi
   exact hg.set d x hQb
 . rw[hQ i e]
   refine(h.rows i g' hi).other fun q=>e ?_
   subst q;obtain⟨i1,e1⟩:=aD.1 hi;obtain⟨i2,e2⟩:=aD.1 hb;exact(List.getElem_inj h.nodup).1 (e1.trans e2.symm)
theorem DM.add{w u u3 u':World}{n:Nat}{V V':Value}{R:List Nat}{P:Nat->Nat->Bool}(h:DM w u n V R P)(hP:∀i,i=R.length->P i=fun _=>false)(h3:u3.ownsRow u.heap.size 4 1 (sG u.heap.size n n) n (bv (fun _=>false) n))(hb3:Below u.heap.size u u3)(hown:u'.ownsRow w.heap.size 53 1 V' (R.length+1) (R.map (GZ n)++[GZ n u.heap.size]))(hg:(u3.alloc (.cells #[GZ n u.heap.size] 53)).grownBy u' V.ownBlock):DM w u' n V' (R++[u.heap.size]) P:=by
 have bA:=Aa u3 (.cells #[GZ n u.heap.size] 53);have hbb:Below u.heap.size u (u3.alloc (.cells #[GZ n u.heap.size] 53)):=Af hb3 lR bA;have o1:=Aj h.o hbb lR;have k3:Eo (u3.alloc (.cells #[GZ n u.heap.size] 53)) w.heap.size u.heap.size n (fun _=>false):=AP (Aj h3 bA lR) h.bel.size;refine⟨by rw[aG,aP,br];exact hown,fun i g hi=> ?_,?_,(Af h.bel lR hbb).grown hg (aY h.bel.size hbb.size) (fun i hi=>(h.o.lt i hi).1)⟩
 . by_cases e:i<R.length
   . rw[bW e]at hi
     exact BP ((h.rows i g hi).keep hbb) hg o1 (by decide)
   . have hl:=(aD.1 hi).1
     simp only[aG,aP]at hl;have hiR:i=R.length:=by omega
     rw[bV (by omega)]at hi;subst hiR;simp only[eR,aM,aJ]at hi;subst hi;rw[hP _ rfl];exact BP k3 hg o1 (by decide)
 . refine dn.2 ⟨h.nodup,by simp,fun a ha c hc e=> ?_⟩
   simp only[aX,bB,cW]at hc;subst hc;obtain⟨i,hi⟩:=cH ha;have:=(h.rows i a hi).lt;omega
theorem Hj(U:World)(x:Value)(t:TypeId):∀j u,[x][j]?=some u->(U.alloc (.cells #[x] t)).cell? ((⟨U.heap.size,0,none⟩:Addr).add j)=some u:=fun j u hj=>by
 rw[Di,bG,(An.new U #[x] t).cell j];simpa using hj
def Fu(w:World)(g n:Nat)(D:Nat->Nat->Bool):Prop:=∀b,b<n->∃r,w.cell? ⟨g,b,none⟩=some (sG r n n)/\∀d,d<n->w.cell? ⟨r,d,none⟩=some (.bool (D b d))
theorem Fu.keep{w w':World}{g n:Nat}{D:Nat->Nat->Bool}(h:Fu w g n D)(hb:Below w.heap.size w w'):Fu w' g n D:=fun b hb'=>by
 obtain⟨r,h1,h2⟩:=h b hb';exact⟨r,Ac hb h1,fun d hd=>Ac hb (h2 d hd)⟩
theorem DM.cell{w u:World}{n g c m:Nat}{R:List Nat}{P:Nat->Nat->Bool}(h:DM w u n (sG g m c) R P)(hm:R.length=m){b:Nat}(hb:b<m):∃r,R[b]?=some r/\u.cell? ⟨g,b,none⟩=some (sG r n n):=by
 subst hm;have:=h.o.cellAt b (by omega);rw[a7,aA hb]at this;exact⟨_,aA hb,this⟩
theorem DM.mat{w u:World}{n g c:Nat}{R:List Nat}{P:Nat->Nat->Bool}(h:DM w u n (sG g n c) R P)(hl:R.length=n):Fu u g n P:=fun b hb=>by
 obtain⟨r,h1,h2⟩:=h.cell hl (b:=b) (by omega);exact⟨r,h2,fun d hd=>(h.rows b r h1).cell hd⟩
theorem Mk (g o c n:Nat)(E:Nat->List Nat)(D:Nat->Nat->Bool)(w:World)(hn:n<=1048576)(h0:0<n)(hD:∀d b,D d b=true↔DA E d b)(hE:∀b,b<n->∀x∈E b,x<n)(hsz:∀b,(E b).length<=2)(h:Ft w g o n E):
 Calls Tryz.prog 19 #[sO g o n c] w fun e w'=>∃gm cm,e=.returned (sG gm n cm)/\Fu w' gm n (fun b d=>D d b)/\Below w.heap.size w w'/\w.heap.size<=gm/\(∀b r,b<n->w'.cell? ⟨gm,b,none⟩=some (sG r n n)->w.heap.size<=r):=by
 obtain⟨j0,hj,hy0,hy1,hy2⟩:=bH C5;obtain⟨k0,hk,hx0,hx1,hx2⟩:=bH QA;have H:Hid (Ft w g o n E/\(∀b,b<n->∀x∈E b,x<n)/\(∀b,(E b).length<=2)/\(∀d b,D d b=true↔DA E d b)):=⟨h,hE,hsz,hD⟩
 clear h hE hsz hD
 have HS:Hid (DM w (w.alloc (.cells #[] 53)) n (sG w.heap.size 0 0) [] (fun _ _=>false)):=by
  refine⟨?_,fun i g hi=>by simp at hi,List.nodup_nil,Aa _ _⟩;exact⟨rfl,.inr ⟨w.heap.size,0,#[],rfl,Nat.le_refl _,An.new w #[] 53,Nat.le_refl _,dP _,rfl,rfl⟩⟩
 go_enter Tryz.func19,Tryz.ntmps19;go_wp2
 go_loopw [4,5] (fun V i wr=>∃(R:List Nat) (gm cm:Nat),V=sG gm R.length cm/\i=iZ (R.length:Int)/\R.length<=n/\Hid (DM w wr n V R (fun _ _=>false))) (fun _ i _=>n-(intOf i).toNat)
 case atStart=>exact⟨[],_,_,rfl,rfl,by simp,HS⟩
 case round=>
  clear HS;obtain⟨R,gm,cm,rfl,rfl,hR,HM⟩:=hrel;by_cases hlt:R.length<n
  . have hltI:(R.length:Int)<(n:Int):=by omega
    have hsz1:=HM.o.bel.size
    go_wp2_with (first
     |(at_make;refine cR _ rfl _ _ 53 rfl wr.heap.size 4 j0 (.bool false) 1 Tryz.underlying53 hj hy0 hy1 .i64 .i64 _ _ n rfl rfl rfl rfl (by rw[hy2];omega) (by unfold maxLen;omega) lR ?_;intro w3 hown hgrow;rw[CR,Fb]at hown;have hb3:Below wr.heap.size wr w3:=(bY _ _).grown hgrow lR (fun k hk=>by cases hk);have hoA:(w3.alloc (.cells #[GZ n wr.heap.size] 53)).ownsRow w.heap.size 53 1 (sG gm R.length cm) R.length (R.map (GZ n)):=Aj HM.o.o (Af hb3 lR (Aa _ _)) lR;have hsA:w.heap.size<=(w3.alloc (.cells #[GZ n wr.heap.size] 53)).heap.size:=by have h1:=hb3.size;have h2:=(Aa w3 (.cells #[GZ n wr.heap.size] 53)).size;omega)
     |(at_builtin;refine wpList_append_lies _ rfl _ _ 56 rfl w.heap.size 53 k0 sN 1 24 Tryz.underlying56 hk hx0 hx1 hx2 rfl (by decide) _ R.length (R.map (GZ n)) rfl hoA ⟨w3.heap.size,0,none⟩ 1 1 [GZ n wr.heap.size] rfl rfl (Hj w3 _ _) (fun u hu=>by simp at hu;subst hu;rfl) (by omega) (by simp[maxLen];omega) (by omega) hsA _ rfl ?_;intro g5 cap5 w5 hown5 hgrow5 hat hlt3;have HM5:Hid (DM w w5 n (sG g5 (R.length+1) cap5) (R++[wr.heap.size]) (fun _ _=>false)):=HM.o.add (fun _ _=>rfl) hown hb3 hown5 hgrow5;clear hown hgrow hown5 hgrow5 hat hlt3 hb3 hoA hsA)
     |go_in)
    go_roundw
    case rel=>exact⟨R++[wr.heap.size],g5,cap5,by rw[aG,aP],by rw[aG,aP];go_num,by rw[aG,aP];omega,HM5⟩
    case measure=>simp[intOf];omega
  . have hRn : R.length=n:=by omega
    have HRN:Hid (R.length=n):=hRn;rw[hRn]at HM;rw[hRn];clear hlt hR hRn
    have HM0:Hid (DM w wr n (sG gm n cm) R (fun i k=>decide (k<0)&&D k i)):=by
     have:(fun i k=>decide (k<0)&&D k i)=(fun(_ _:Nat)=>false):=by funext i k;simp
     show DM w wr n _ R _;rw[this];exact HM.o
    clear HM;go_wp2
    go_loopw [6] (fun i wr=>∃d:Nat,d<=n/\i=iZ d/\Hid (DM w wr n (sG gm n cm) R (fun i k=>decide (k<d)&&D k i))) (fun i _=>n-(intOf i).toNat)
    case atStart=>exact⟨0,by omega,rfl,HM0⟩
    case round =>
     clear HM0;obtain⟨d,hd,rfl,HM⟩:=hrel;by_cases hlt:d<n
     . have hltI:(d:Int)<(n:Int):=by omega
       go_wp2_with fail
       refine(Mp g o c n 0 (d:Int) E _ hn H.o.2.1 H.o.2.2.1 h0 (H.o.1.keep HM.o.bel)).mono ?_;rintro e u2 ⟨gs,P,rfl,hP,hPi,b2⟩
       have HP:Hid (Eo u2 wr.heap.size gs n P/\(∀x,x<n->(!P x)=D d x)/\wr.heap.size<=gs):=by
        refine⟨hP,fun x hx=> ?_,(At hP).1⟩;rw[dz,H.o.2.2.2 d x];unfold DA;have e1:CX E (fun y=>(y:Int)≠(d:Int)) 0 x↔CX E (· ≠d) 0 x:=⟨fun q=>q.mono fun y hy e=>hy (by rw[e]),fun q=>q.mono fun y hy e=>hy (by omega)⟩;rw[<-e1,<-hPi x hx];simp
       have HM2:Hid (DM w u2 n (sG gm n cm) R (fun i k=>(decide (k<d)||(decide (k=d)&&decide (i<0)))&&D k i)):=by
        have e1:(fun i k=>(decide (k<d)||(decide (k=d)&&decide (i<0)))&&D k i)=(fun i k=>decide (k<d)&&D k i):=by funext i k;simp
        show DM w u2 n _ R _;rw[e1];exact HM.o.keep b2
       have HR:Hid ((∀i r,R[i]?=some r->r<wr.heap.size)/\w.heap.size<=wr.heap.size):=⟨fun i r hi=>(HM.o.rows i r hi).lt,HM.o.bel.size⟩
       clear hP hPi b2 HM;go_wp2
       go_loopw [8] (fun i wr=>∃b:Nat,b<=n/\i=iZ b/\Hid (DM w wr n (sG gm n cm) R (fun i k=>(decide (k<d)||(decide (k=d)&&decide (i<b)))&&D k i)/\Eo wr w.heap.size gs n P)) (fun i _=>n-(intOf i).toNat)
       case atStart=>exact⟨0,by omega,rfl,HM2.o,AP HP.o.1 HR.o.2⟩
       case round=>
        clear HM2;obtain⟨b,hb,rfl,HM⟩:=hrel;by_cases hlt2:b<n
        . have hlt2I:(b:Int)<(n:Int):=by omega
          obtain⟨r,hr,c0⟩:=HM.o.1.cell HRN.o hlt2;have c1:=HM.o.2.cell hlt2;have hrow:=HM.o.1.rows b r hr;have c2:=hrow.cell hlt;have z2:=hrow.frozen d;have hne:gs≠r:=by have:=HR.o.1 b r hr;have:=HP.o.2.2;omega
          have HN:Hid (DM w (wr.setCell ⟨r,d,none⟩ (.bool (!P b))) n (sG gm n cm) R (fun i k=>(decide (k<d)||(decide (k=d)&&decide (i<b+1)))&&D k i)/\Eo (wr.setCell ⟨r,d,none⟩ (.bool (!P b))) w.heap.size gs n P):=by
           refine⟨HM.o.1.set hr (fun j hj=> ?_) (fun i hi=> ?_),HM.o.2.other hne⟩
           . by_cases e:j=d
             . subst e
               simp[HP.o.2.1 b hlt2]
             . simp[e]
           . funext k
             have:decide (i<b+1)=decide (i<b):=by simp;omega
             simp[this]
          clear hr hrow;go_wp2
          go_region
          refine AE (fun u=>Hid (DM w u n (sG gm n cm) R (fun i k=>(decide (k<d)||(decide (k=d)&&decide (i<b+1)))&&D k i)/\Eo u w.heap.size gs n P)) ?_ ?_
          . exact⟨HN.o.1.keep (Ad _),HN.o.2.keep (Ad _)⟩
          intro U HU;go_wp2
          go_roundw
          case rel=>exact⟨b+1,by omega,by go_num,HU⟩
          case measure=>simp[intOf];omega
        . obtain rfl:b=n:=by omega
          have HN:Hid (DM w wr b (sG gm b cm) R (fun i k=>decide (k<d+1)&&D k i)):=by
           refine⟨HM.o.1.o,fun i r hi=> ?_,HM.o.1.nodup,HM.o.1.bel⟩;have h1:=HM.o.1.rows i r hi;unfold Eo at h1⊢;rw[Kz (Q:=fun k=>decide (k<d+1)&&D k i)]at h1
           . exact h1
           . intro k hk
             have hib:i<b:=by have:=(aD.1 hi).1;rw[HRN.o]at this;exact this
             have e1:(decide (k<d)||(decide (k=d)&&decide (i<b)))=decide (k<d+1):=by
              rw[dz];simp;omega
             simp only[e1]
          go_wp2
          go_roundw
          case rel=>exact⟨d+1,by omega,by go_num,HN⟩
          case measure=>simp[intOf];omega
     . obtain rfl:d=n:=by omega
       have HN:Hid (Fu wr gm d (fun b k=>D k b)):=fun b hb=>by
        obtain⟨r,h1,h2⟩:=HM.o.mat HRN.o b hb;refine⟨r,h1,fun k hk=> ?_⟩;have:=h2 k hk;simpa[hk]using this
       have HMO:Hid (wr.ownsRow w.heap.size 53 1 (sG gm d cm) d (R.map (GZ d))):=by
        have:=HM.o.o;rw[HRN.o]at this;exact this
       go_wp2
       go_ret
       refine⟨gm,cm,rfl,HN.o,HM.o.bel,(At HMO.o).1,fun b r hb hr=> ?_⟩;obtain⟨r',h1,h2⟩:=HM.o.cell HRN.o (b:=b) hb;rw[hr]at h2;simp only[aJ,aI,bf,cg]at h2;rw[h2];exact(At (HM.o.rows b r' h1)).1
theorem Rt(w:World):(zeroValue 94).run Tryz.prog w=.ok (.agg #[]) w:=by kernel_rfl
theorem PJ(b cnt:Nat)(D:DataW Unit)(z:Int)(w:World)(hz:BN z)(h:BC w b cnt D):
 Calls Tryz.prog 48 #[.map (some b),.int .i64 z] w fun e w'=>e=.returned (.bool (Go.Maps.has D (.int .i64 z)))/\Below w.heap.size w w':=by
 have hown:w.ownsMap Tryz.prog 2 (unitElem (H:=Unit)) b cnt D:=h;go_enter Tryz.func48,Tryz.ntmps48;go_wp2_with (at_lookup;refine wpList_lookup_own_unit _ rfl _ _ 81 rfl 2 94 Jw Tryz.underlying81 (Rt _) b cnt D rfl hown _ _ rfl (eQ Tryz.underlying2 hz) ?_);go_ret;exact⟨rfl,Aa _ _⟩
theorem Og(b:Nat)(w:World):
 Calls Tryz.prog 32 #[.map (some b),.slice none 0 0] w fun e w'=>e=.returned (.tuple #[])/\w'=w:=by
 go_enter Tryz.func32,Tryz.ntmps32;go_wp2
 go_loopw [8] (fun i wr=>i=.int .i64 0/\wr=w) (fun _ _=>0)
 case atStart=>exact⟨rfl,rfl⟩
 case round=>
  obtain⟨rfl,rfl⟩:=hrel;go_wp2
  go_end0
  exact⟨rfl,rfl⟩
def Er(w:World)(g o n:Nat)(E:Nat->List Nat):Prop:=∀b,b<n->∃a c,w.cell? ⟨g,o+b,none⟩=some (.slice a (E b).length c)/\Gk w (.slice a (E b).length c) (E b)
theorem Er.keep{w w':World}{g o n:Nat}{E:Nat->List Nat}(h:Er w g o n E)(hb:Below w.heap.size w w'):Er w' g o n E:=fun b hb'=>by
 obtain⟨a,c,h1,h2⟩:=h b hb';exact⟨a,c,Ac hb h1,h2.keep hb⟩
def Ql(bs be bw bl:Nat):Value:=.func (.func 47) #[] #[.pointer (some ⟨bs,0,none⟩),.pointer (some ⟨be,0,none⟩),.pointer (some ⟨bw,0,none⟩),.pointer (some ⟨bl,0,none⟩)]
structure PO(w u:World)(n bm bs be bw bl:Nat)(EV V:Value)(S O:List Nat):Prop where
 set:∃cnt D,BC u bm cnt D/\cnt+AL S n<=n+1/\∀x:Nat,Go.Maps.has D (.int .i64 (x:Int))=S.contains x
 sb:An u bs #[.map (some bm)] 81
 eb:An u be #[EV] 47
 wb:An u bw #[Ql bs be bw bl] 93
 lb:An u bl #[V] 26
 list:EM u w.heap.size V O
 bel:Below w.heap.size w u
 ge:w.heap.size<=bm/\w.heap.size<=bl
 len:O.length+AL S n<=n
theorem PO.keep{w u u':World}{n bm bs be bw bl:Nat}{EV V:Value}{S O:List Nat}(h:PO w u n bm bs be bw bl EV V S O)(hb:Below u.heap.size u u'):PO w u' n bm bs be bw bl EV V S O:=by
 obtain⟨cnt,D,h1,h2,h3⟩:=h.set;exact⟨⟨cnt,D,h1.keep hb,h2,h3⟩,h.sb.keep hb,h.eb.keep hb,h.wb.keep hb,h.lb.keep hb,h.list.keep hb,Af h.bel lR hb,h.ge,h.len⟩
theorem An.gb{w w':World}{b:Nat}{cur:Array Value}{t:TypeId}{row:Option Nat}(h:An w b cur t)(hg:w.grownBy w' row)(hne:some b≠row):An w' b cur t:=by
 unfold An at*;rw[hg.block b (an.1 h).1 hne];exact h
theorem IX{w:World}{b b' cnt:Nat}{D:DataW Unit}{cur:Array Value}{t:TypeId}(h:BC w b cnt D)(hb:An w b' cur t):b'≠b:=fun e=>by
 obtain⟨es,clock,h1,_⟩:=h;subst e;unfold An at hb;rw[hb]at h1;cases h1
theorem IY{w:World}{base k n b cnt:Nat}{e:TypeId}{v:Value}{xs:List Value}{D:DataW Unit}(h:w.ownsRow base e k v n xs)(hm:BC w b cnt D):some b≠v.ownBlock:=by
 obtain⟨es,clock,hb,_⟩:=hm;intro e1;rcases h.2 with⟨rfl,_⟩|⟨g,cap,cur,rfl,_,hc,_⟩
 . cases e1
 . simp only[Value.ownBlock,aJ]at e1
   subst e1;rw[hb]at hc;cases hc
theorem PO.add{w u u':World}{n bm bs be bw bl cnt b:Nat}{EV V:Value}{S O:List Nat}{D:DataW Unit}(h:PO w u n bm bs be bw bl EV V S O)(hs:BC u bm cnt D)(hc:cnt+AL S n<=n+1)(hD:∀x:Nat,Go.Maps.has D (.int .i64 (x:Int))=S.contains x)(hb:b<n)(hbS:b∉S)(hs':BC u' bm (cnt+1) (D.put (.int .i64 (b:Int)) (.agg [])))(hg:u.grownBy u' (some bm)):PO w u' n bm bs be bw bl EV V (b::S) O:=by
 have hu:=DH S n b hb hbS;have ne:∀{b':Nat} {cur:Array Value} {t:TypeId},An u b' cur t->some b'≠some bm:=fun k e=>IX hs k (bC e)
 refine⟨⟨_,_,hs',by omega,fun x=> ?_⟩,h.sb.gb hg (ne h.sb),h.eb.gb hg (ne h.eb),h.wb.gb hg (ne h.wb),h.lb.gb hg (ne h.lb),AW h.list hg (fun g hgx e=>by rw[e]at hgx;exact IY h.list hs hgx.symm),h.bel.grown hg h.bel.size (fun j hj=>by cases hj;exact h.ge.1),h.ge,by have:=h.len;omega⟩;rw[Ff D (eU hs),hD x];by_cases e:x=b
 . subst e;simp
 . have:¬(x:Int)=(b:Int):=by omega
   simp[e,this]
theorem PO.al{w u:World}{n bm bs be bw bl:Nat}{EV V:Value}{S O:List Nat}(h:PO w u n bm bs be bw bl EV V S O)(o:Obj):(u.alloc o).ownsRow w.heap.size 2 1 V O.length (nv O)/\w.heap.size<=(u.alloc o).heap.size:=⟨h.list.keep (Aa _ _),aY h.bel.size (Aa _ _).size⟩
theorem PO.app{w u u':World}{n bm bs be bw bl b:Nat}{EV V V':Value}{S O:List Nat}(h:PO w u n bm bs be bw bl EV V S O)(hown:u'.ownsRow w.heap.size 2 1 V' (O.length+1) (nv O++[.int .i64 (b:Int)]))(hg:(u.alloc (.cells #[.int .i64 (b:Int)] 2)).grownBy u' V.ownBlock)(hl:O.length+1+AL S n<=n):An u' bl #[V] 26/\PO w (u'.setCell ⟨bl,0,none⟩ V') n bm bs be bw bl EV V' S (O++[b]):=by
 have bA:=Aa u (.cells #[.int .i64 (b:Int)] 2);have h':=h.keep bA;obtain⟨cnt,D,h1,h2,h3⟩:=h'.set;have s1:BC u' bm cnt D:=World.ownsMap.kept h1 hg (IY h'.list h1);have kb:An u' bl #[V] 26:=h'.lb.grown hg h'.list (by decide);have ks:=h'.sb.grown hg h'.list (by decide);have ke:=h'.eb.grown hg h'.list (by decide);have kw:=h'.wb.grown hg h'.list (by decide);have hbel:Below w.heap.size w u':=h'.bel.grown hg h'.bel.size (fun i hi=>(h'.list.lt i hi).1)
 have neb:∀{b':Nat} {cur:Array Value} {t:TypeId},An u' b' cur t->t≠26->b'≠(⟨bl,0,none⟩:Addr).block:=fun k q e=>by
  simp only[]at e;subst e;unfold An at k kb;rw[kb]at k;simp only[aJ,dC]at k;exact q k.2.1.symm
 refine⟨kb,⟨cnt,D,?_,h2,h3⟩,ks.other (neb ks (by decide)) _,ke.other (neb ke (by decide)) _,kw.other (neb kw (by decide)) _,?_,?_,hbel.setCell h.ge.2 _,h.ge,by rw[aG,aP];exact hl⟩
 . refine World.ownsMap.kept s1 (row:=some bl) ⟨rfl,rfl,rfl,by rw[bX];exact Nat.le_refl _,fun k hk hne=>bO u' _ k _ (fun e=>hne (by rw[e]))⟩ (fun e=>IX s1 kb (bC e).symm)
 . have:=kb.set 0 V'
   simpa using this
 . unfold EM
   rw[aG,aP,En];exact aR hown (a:=⟨bl,0,none⟩) (fun q=>A7 hown kb (by decide) bl q rfl) _
def Fp(xs:List MI)(p:Int):Int:=((CA xs xs.length).idxOf p.toNat:Int)
def Hy(xs:List MI)(x:MB×Value):MB×Value:=(⟨x.1.first,x.1.last,x.1.next.map (Fp xs)⟩,x.2)
theorem Ox(xs:List MI)(hg:AD xs)(D:List (MB×Value))(h:D.map Prod.fst=Hi xs):(D.map (Hy xs)).map Prod.fst=Ap xs:=by
  have e1:(D.map (Hy xs)).map Prod.fst=(D.map Prod.fst).map fun b=>⟨b.first,b.last,b.next.map (Fp xs)⟩:=by
    rw[eF,eF];rfl
  rw[e1,h];unfold Hi Ap;rw[eF];apply eZ;intro m hm;obtain⟨b,hb⟩:=cH hm;obtain⟨e,he,hen⟩:=GP xs xs.length hg.1 m hm;obtain⟨x,hx⟩:∃x,xs[e]?=some x:=⟨_,aA hen⟩;have hs:=Jz xs b e x m hg hb he hx;simp only[Function.comp,NK,Df];rw[he,ao,bQ,hx];simp only[eE];rw[hs];rfl
theorem Lx(xs:List MI)(hg:AD xs)(m:MB)(hm:m∈Hi xs)(p:Int)(hp:p∈m.next):0<=p/\p.toNat∈CA xs xs.length:=by
  unfold Hi at hm;obtain⟨m0,hm0,rfl⟩:=bJ.1 hm;obtain⟨b,hb⟩:=cH hm0;obtain⟨e,he,hen⟩:=GP xs xs.length hg.1 m0 hm0;obtain⟨x,hx⟩:∃x,xs[e]?=some x:=⟨_,aA hen⟩;simp only[NK]at hp;rw[he,ao,bQ,hx]at hp;simp only[eE,AU]at hp;rcases aS.1 hp with h1|h1
  . split at h1
    . rename_i q
      simp only[aX,bB,cW]at h1;subst h1;rw[Cb]at hb;refine⟨by omega,?_⟩;rw[ao];exact Iq _ _ _ _ _ hb he q.2
    . cases h1
  . split at h1
    . rename_i q
      simp only[aX,bB,cW]at h1;subst h1;obtain⟨c0,c1⟩:=hg.2.2 e x hx q.1;have c3:(x.c.toNat:Int)=x.c:=d7 c0;exact⟨c0,(Co _ _ _).2 ⟨by omega,GT xs _ e _ x hen hx (by simp[Ef,q.1,c3])⟩⟩
    . cases h1
theorem PL(L:List Nat)(q:Nat):(L.map Int.ofNat).idxOf (q:Int)=L.idxOf q:=by
  induction L with
  |nil=>rfl
  | cons y r ih=>
    rw[dF,eu,eu,ih];by_cases h:y=q
    . subst h
      simp
    . have h1:(Int.ofNat y==(q:Int))=false:=by
        rw[cT];intro e;exact h (by have e':(y:Int)=(q:Int):=e;omega)
      have h2:(y==q)=false:=by simpa using h
      rw[h1,h2]
structure JW(w u:World)(xs:List MI)(gl cl bl:Nat)(F:List (MB×Value)):Prop where
  row:u.ownsRow w.heap.size 32 3 (sG bl (CA xs xs.length).length (CA xs xs.length).length) (CA xs xs.length).length (F.flatMap Cg)
  fam:CJ u w.heap.size ((sG gl (CA xs xs.length).length cl,(CA xs xs.length).map Int.ofNat)::Dm F)
  bel:Below w.heap.size w u
theorem JW.keep{w u u':World}{xs:List MI}{gl cl bl:Nat}{F:List (MB×Value)}(h:JW w u xs gl cl bl F)(hb:Below u.heap.size u u'):JW w u' xs gl cl bl F:=⟨Aj h.row hb lR,h.fam.keep hb,Af h.bel lR hb⟩
theorem JW.drew{w u:World}{xs:List MI}{gl cl bl:Nat}{F:List (MB×Value)}(h:JW w u xs gl cl bl F)(k:Nat):JW w (u.drewN k) xs gl cl bl F:=⟨⟨h.row.1,h.row.2⟩,⟨fun r hr=>⟨(h.fam.own r hr).1,(h.fam.own r hr).2⟩,h.fam.sep⟩,⟨h.bel.os,h.bel.tape,h.bel.output,h.bel.size,h.bel.block⟩⟩
theorem JW.set{w u:World}{xs:List MI}{gl cl bl gv cv n:Nat}{E G:List (MB×Value)}{f l:Int}{ps qs:List Int}{i:Nat}{z:Int}(h:JW w u xs gl cl bl (E++(⟨f,l,ps⟩,sG gv n cv)::G))(hn:ps.length=n)(hq:(ps.flatMap Ab).set i (iZ z)=qs.flatMap Ab)(hl:qs.length=ps.length):JW w (u.setCell ⟨gv,i,none⟩ (iZ z)) xs gl cl bl (E++(⟨f,l,qs⟩,sG gv n cv)::G):=by
  have hv:=h.fam.own (sG gv n cv,ps) (by simp[Dm]);simp only[]at hv;rw[hn]at hv;have h1:=(hv.stored i (iZ z)).1;rw[hq]at h1;refine⟨?_,?_,h.bel.setCell (At hv).1 _⟩
  . have:=Bz h.row hv (by decide) i (iZ z)
    simpa[Cg]using this
  . have hf:=h.fam
    rw[show(((sG gl (CA xs xs.length).length cl,(CA xs xs.length).map Int.ofNat):Value×List Int)::Dm (E++((⟨f,l,ps⟩:MB),(sG gv n cv:Value))::G))=(((sG gl (CA xs xs.length).length cl,(CA xs xs.length).map Int.ofNat):Value×List Int)::Dm E)++((sG gv n cv:Value),ps)::Dm G from by simp[Dm]]at hf;have:=CJ.put (c':=qs) hf hl (by rw[hn];exact h1) (D2 ⟨rfl,rfl,rfl,Nat.le_refl _,fun _ _ _=>rfl⟩ i (iZ z));simpa[Dm]using this
theorem JW.search{w u:World}{xs:List MI}{gl cl bl m:Nat}{F:List (MB×Value)}(h:JW w u xs gl cl bl F)(hm:(CA xs xs.length).length=m)(hm1:m<=1024)(p:Int)(h0:0<=p)(hp:p.toNat∈CA xs xs.length):
    Calls Tryz.prog 29 #[sG gl m cl,iZ p] u fun e w'=>(∃b,e=.returned (.tuple #[iZ (Fp xs p),.bool b]))/\∃q,w'=u.drewN q:=by
  have hl:=Rd.of_own (h.fam.own _ bc);simp only[aj]at hl;have k:=MO gl cl ((CA xs xs.length).map Int.ofNat) p u (by rw[aj,hm];omega) (dX.2 ((C8 xs _).imp (fun h=>by simpa using h))) (by rw[aj];exact hl) (bJ.2 ⟨p.toNat,hp,by simp;omega⟩)
  have e:((CA xs xs.length).map Int.ofNat).idxOf p=(CA xs xs.length).idxOf p.toNat:=by
    have e1:p=(p.toNat:Int):=by omega
    rw[<-PL];congr 1
  rw[aj,hm,e]at k;exact k
theorem N0(xs:List MI)(ps:List Int)(i:Nat)(p:Int)(h:ps[i]?=some p):(((ps.map (Fp xs)).take i++ps.drop i).flatMap Ab).set i (iZ (Fp xs p))=((ps.map (Fp xs)).take (i+1)++ps.drop (i+1)).flatMap Ab:=by
  obtain⟨hlt,hp⟩:=aD.1 h;rw[dJ hlt,hp,a8,aW]
  have hA:((List.take i (ps.map (Fp xs))).flatMap Ab).length=i:=by
    rw[Ax Ab 1 Aq,bh,aj];omega
  rw[show Ab p++List.flatMap Ab (List.drop (i+1) ps)=[Value.int .i64 p]++List.flatMap Ab (List.drop (i+1) ps)from rfl,Rq _ _ _ _ i hA,a6 (by simpa using hlt),a8,a8];simp[Ab,hp]
theorem FX{x:Nat}(h:x<=1048576):BN (x:Int):=by
 simp[BN,Lit.wf,IntKind.min,IntKind.max,IntKind.signed,IntKind.bits];omega
theorem Ph(w:World)(g o c n bm bs be bw bl:Nat)(E:Nat->List Nat)(hn:n<=1024)(hE:∀b,b<n->∀x∈E b,x<n)(hsz:∀b,(E b).length<=2048)(h:Er w g o n E):
 ∀(m:Nat) (S O:List Nat) (b:Nat) (V:Value) (u:World),AL S n=m->b<n->PO w u n bm bs be bw bl (.slice (some ⟨g,o,none⟩) n c) V S O->(b∉S->O.length+AL S n<=n)->
 Calls Tryz.prog 47 #[.int .i64 (b:Int),.pointer (some ⟨bs,0,none⟩),.pointer (some ⟨be,0,none⟩),.pointer (some ⟨bw,0,none⟩),.pointer (some ⟨bl,0,none⟩)] u fun e u'=>e=.returned (.tuple #[])/\∃V' S' O',Vs E S O [b] S' O'/\PO w u' n bm bs be bw bl (.slice (some ⟨g,o,none⟩) n c) V' S' O'/\O'.length+AL S' n<=O.length+AL S n:=by
 obtain⟨k0,hk,hx0,hx1,hx2⟩:=bH Bf;have H:=Ah (aH h (aH hE hsz));clear h hE hsz;intro m;induction m using Nat.strongRecOn with
 | ind m ih=>
   intro S O b V u hm hb hpo hlen
   have IH:Hid (∀m',m'<m->∀(S O:List Nat) (b:Nat) (V:Value) (u:World),AL S n=m'->b<n->PO w u n bm bs be bw bl (.slice (some ⟨g,o,none⟩) n c) V S O->(b∉S->O.length+AL S n<=n)->
    Calls Tryz.prog 47 #[.int .i64 (b:Int),.pointer (some ⟨bs,0,none⟩),.pointer (some ⟨be,0,none⟩),.pointer (some ⟨bw,0,none⟩),.pointer (some ⟨bl,0,none⟩)] u fun e u'=>e=.returned (.tuple #[])/\∃V' S' O',Vs E S O [b] S' O'/\PO w u' n bm bs be bw bl (.slice (some ⟨g,o,none⟩) n c) V' S' O'/\O'.length+AL S' n<=O.length+AL S n):=ih
   have HP:=Ah hpo;obtain⟨cnt,D,hs,hcn,hD⟩:=hpo.set;have HS:=Ah (aH hs (aH hcn hD));have hDb:=hD b;have s0:u.cell? ⟨bs,0,none⟩=some (.map (some bm)):=hpo.sb.cell 0;have hbI:(b:Int)<(n:Int):=by omega
   clear ih hpo hs hD;go_enter Tryz.func47,Tryz.ntmps47;go_wp2_with fail
   refine(PJ bm cnt D (b:Int) u (FX (by omega)) HS.o.1).mono ?_;rintro e u1 ⟨rfl,b1⟩;rw[hDb];have HP1:=Ah (aH (HP.o.keep b1) (HS.o.1.keep b1));clear b1 s0 hDb;cases hc:S.contains b
   . have hbS:b∉S:=by simpa using hc
     have hu1:=DH S n b hb hbS;have HU1:=Ah (aH hu1 (aH hm (hlen hbS)));clear hu1 hm hlen;have s0:u1.cell? ⟨bs,0,none⟩=some (.map (some bm)):=HP1.o.1.sb.cell 0;have HA:Hid ((u1.alloc (.cells #[.int .i64 (b:Int)] 2)).cell? ⟨u1.heap.size,0,none⟩=some (.int .i64 (b:Int))/\BC (u1.alloc (.cells #[.int .i64 (b:Int)] 2)) bm cnt D/\PO w (u1.alloc (.cells #[.int .i64 (b:Int)] 2)) n bm bs be bw bl (.slice (some ⟨g,o,none⟩) n c) V S O/\¬u1.heap.size=bm):=⟨(An.new u1 #[.int .i64 (b:Int)] 2).cell 0,HP1.o.2.keep (Aa _ _),HP1.o.1.keep (Aa _ _),by have:=d8 HP1.o.2;omega⟩
     go_wp2_with fail
     refine(EW bm cnt u1.heap.size 1 D (b:Int) _ (FX (by omega)) (by have:=HS.o.2.1;omega) HA.o.1 HA.o.2.2.2 HA.o.2.1).mono ?_;rintro e u2 ⟨rfl,s2,g2⟩;have HP2:=Ah (HA.o.2.2.1.add HA.o.2.1 HS.o.2.1 HS.o.2.2 hb hbS s2 g2);clear s2 g2 s0 HA HP1 HS HP hcn;obtain⟨a,ca,g0,g1⟩:=H.o.1 b hb;have HG:=Ah (aH g0 g1);replace g0:=Ac HP2.o.bel g0;have e0:u2.cell? ⟨be,0,none⟩=some (.slice (some ⟨g,o,none⟩) n c):=HP2.o.eb.cell 0;have hE2:=H.o.2.2 b;clear g1;go_wp2;go_loopw [20] (fun i wr=>∃(S' O':List Nat) (V':Value) (k:Nat),i=.int .i64 k/\k<=(E b).length/\Hid (Vs E (b::S) O ((E b).take k) S' O'/\PO w wr n bm bs be bw bl (.slice (some ⟨g,o,none⟩) n c) V' S' O'/\O'.length+AL S' n+1<=O.length+AL S n)) (fun i _=>(E b).length-(intOf i).toNat)
     case atStart=>exact⟨b::S,O,V,0,rfl,by omega,by simpa using Vs.nil (b::S) O,HP2.o,by have:=HU1.o;omega⟩
     case round=>
      clear HP2 g0 e0;obtain⟨S',O',V',k,rfl,hkE,HL⟩:=hrel;by_cases hlt:k<(E b).length
      . have hltI:(k:Int)<((E b).length:Int):=by omega
        obtain⟨y,hy⟩:∃y,(E b)[k]?=some y:=⟨_,aA hlt⟩;have hyn:y<n:=H.o.2.1 b hb y (aE hy);obtain⟨ga,oa,rfl,_,y0⟩:=HG.o.2.at_ hy;replace y0:=Ac HL.o.2.1.bel y0
        have f0:wr.cell? ⟨bw,0,none⟩=some (.func (.func 47) #[] #[.pointer (some ⟨bs,0,none⟩),.pointer (some ⟨be,0,none⟩),.pointer (some ⟨bw,0,none⟩),.pointer (some ⟨bl,0,none⟩)]):=HL.o.2.1.wb.cell 0
        have HT:Hid ((E b).take (k+1)=(E b).take k++[y]):=by
         obtain⟨hl,rfl⟩:=aD.1 hy;exact a6 hl
        have hmo:=HL.o.1.more;have hun:=FN n hmo;have HC:=Ah (IH.o (AL S' n) (by have:=HU1.o;omega) S' O' y V' wr rfl hyn HL.o.2.1 (fun _=>by have:=HL.o.2.2;have:=HU1.o;omega));clear hy hmo hun;go_wp2_with fail;refine HC.o.mono ?_;rintro e u3 ⟨rfl,V3,S3,O3,hv3,hp3,hl3⟩
        have HN:Hid (Vs E (b::S) O ((E b).take (k+1)) S3 O3/\PO w u3 n bm bs be bw bl (.slice (some ⟨g,o,none⟩) n c) V3 S3 O3/\O3.length+AL S3 n+1<=O.length+AL S n):=by
         refine⟨?_,hp3,by have:=HL.o.2.2;omega⟩;rw[HT.o];exact HL.o.1.app hv3
        clear hv3 hp3 hl3 y0 f0 HC;go_wp2
        go_roundw
        case rel=>exact⟨S3,O3,V3,k+1,by go_num,by omega,HN⟩
        case measure=>simp[intOf];omega
      . obtain rfl:k=(E b).length:=by omega
        obtain⟨aV,cV,rfl⟩:=AJ HL.o.2.1.list;have hO3:=HU1.o;have hO4:=HL.o.2.2;go_upto_region 7 with fail
        refine Al (fun u=>Hid (PO w u n bm bs be bw bl (.slice (some ⟨g,o,none⟩) n c) (.slice aV O'.length cV) S' O')) HL.o.2.1 ?_;intro U HU;have l0:U.cell? ⟨bl,0,none⟩=some (.slice aV O'.length cV):=HU.o.lb.cell 0;go_wp2_with (at_builtin;refine wpList_append_lies _ rfl _ _ 26 rfl w.heap.size 2 k0 (.int .i64 0) 1 8 Tryz.underlying26 hk hx0 hx1 hx2 rfl (by decide) _ O'.length (nv O') rfl (HU.o.al (.cells #[.int .i64 (b:Int)] 2)).1 ⟨U.heap.size,0,none⟩ 1 1 [.int .i64 (b:Int)] rfl rfl (Bg U (b:Int)) (fun u hu=>by simp at hu;subst hu;rfl) (by omega) (by simp[maxLen];omega) (by omega) (HU.o.al (.cells #[.int .i64 (b:Int)] 2)).2 _ rfl ?_;intro g5 cap5 w5 hown hgrow hat hlt9;obtain⟨kb5,l5⟩:=HU.o.app hown hgrow (by omega);have HU5:Hid (PO w (w5.setCell ⟨bl,0,none⟩ (.slice (some ⟨g5,0,none⟩) (O'.length+1) cap5)) n bm bs be bw bl (.slice (some ⟨g,o,none⟩) n c) (.slice (some ⟨g5,0,none⟩) (O'.length+1) cap5) S' (O'++[b])):=l5;have t5:w5.cell? ⟨bl,0,none⟩=some (.slice aV O'.length cV):=kb5.cell 0;have z5:=kb5.frozen 0;clear hown hgrow hat hlt9 kb5 l5);go_end0;refine⟨rfl,_,S',O'++[b],?_,HU5.o,by rw[aG,aP];omega⟩;have:=HL.o.1;rw[bZ lR]at this;exact .new hbS this (.nil _ _)
   . go_wp2_with fail
     exact aT (v:=.tuple #[]) (by simp[results,Tryz.results47,go_sem]) rfl ⟨rfl,V,S,O,.old (by simpa using hc) (.nil _ _),HP1.o.1,Nat.le_refl _⟩
def GH(D:Nat->Nat->Bool)(d j:Nat):Nat:=((List.range j).filter fun k=>D k d).length
theorem LY(D:Nat->Nat->Bool)(d j:Nat):GH D d (j+1)=GH D d j+if D j d=true then 1 else 0:=by
 unfold GH;rw[dL,dH,aG];cases h:D j d<;>simp[h]
theorem Oq(D:Nat->Nat->Bool)(d j:Nat):GH D d j<=j:=by
 have:=cj (fun k=>D k d) (List.range j);simpa[GH]using this
theorem Mm (gm cm n b:Nat)(D:Nat->Nat->Bool)(w:World)(hn:n<=1048576)(hb:b<n)(h:Fu w gm n (fun b d=>D d b)):
 Calls Tryz.prog 20 #[.slice (some ⟨gm,0,none⟩) n cm,.int .i64 (b:Int)] w fun e w'=>∃best most,e=.returned (.int .i64 best)/\Cp D n b n best most/\w'=w:=by
 have H:Hid (Fu w gm n (fun b d=>D d b)):=h;obtain⟨rb,r0,r1⟩:=h b hb;have HR:Hid (∀d,d<n->w.cell? ⟨rb,d,none⟩=some (.bool (D d b))):=r1;have hbI:(b:Int)<(n:Int):=by omega
 clear h r1;go_enter Tryz.func20,Tryz.ntmps20;go_wp2
 go_loopw [5,6,7] (fun x y i wr=>∃(d:Nat) (best most:Int),d<=n/\x=.int .i64 best/\y=.int .i64 most/\i=.int .i64 d∧-1<=most/\most<=1048576/\Hid (Cp D n b d best most)/\wr=w) (fun _ _ i _=>n-(intOf i).toNat)
 case atStart=>exact⟨0,-1,-1,by omega,rfl,rfl,rfl,by omega,by omega,Cp.start D n b,rfl⟩
 case round=>
  obtain⟨d,best,most,hd,rfl,rfl,rfl,hm1,hm2,HB,rfl⟩:=hrel;by_cases hlt:d<n
  . have hltI:(d:Int)<(n:Int):=by omega
    by_cases e:d=b
    . subst e
      have HN:Hid (Cp D n d (d+1) best most):=HB.o.skip (fun q=>q.1 rfl);go_wp2
      go_roundw
      case rel=>exact⟨d+1,best,most,by omega,by trivial,by trivial,by go_num,hm1,hm2,HN,by trivial⟩
      case measure=>simp[intOf];omega
    . have e':((d:Int)==(b:Int))=false:=by simp;omega
      have eI:¬(d:Int)=(b:Int):=by omega
      have c0:=HR.o d hlt;cases hD:D d b
      . rw[hD]at c0
        have HN:Hid (Cp D n b (d+1) best most):=HB.o.skip (fun q=>by rw[hD]at q;cases q.2);go_wp2;go_roundw
        case rel=>exact⟨d+1,best,most,by omega,by trivial,by trivial,by go_num,hm1,hm2,HN,by trivial⟩
        case measure=>simp[intOf];omega
      . rw [hD]at c0
        obtain⟨rd,d0,d1⟩:=H.o d hlt;have HD1:Hid (∀k,k<n->wr.cell? ⟨rd,k,none⟩=some (.bool (D k d))):=d1;clear d1;go_wp2
        go_loopw [8,9] (fun x i wr'=>∃k:Nat,k<=n/\x=.int .i64 (GH D d k:Int)/\i=.int .i64 k/\wr'=wr) (fun _ i _=>n-(intOf i).toNat)
        case atStart=>exact⟨0,by omega,rfl,rfl,rfl⟩
        case round=>
         obtain⟨k,hk,rfl,rfl,rfl⟩:=hrel;have hle:=Oq D d k;by_cases hlt2:k<n
         . have hlt2I:(k:Int)<(n:Int):=by omega
           have c1:=HD1.o k hlt2;have hs:=LY D d k;cases hDk:D k d
           . rw[hDk]at c1 hs
             simp only[dx,if_false,aw]at hs;go_wp2
             go_roundw
             case rel=>exact⟨k+1,by omega,by rw[hs],by go_num,by trivial⟩
             case measure=>simp[intOf];omega
           . rw[hDk]at c1 hs
             simp only[if_true]at hs;go_wp2
             go_roundw
             case rel=>exact⟨k+1,by omega,by rw[hs];go_num,by go_num,by trivial⟩
             case measure=>simp[intOf];omega
         . obtain rfl:k=n:=by omega
           have hc:JP D k d=GH D d k:=rfl;by_cases hg:most<(GH D d k:Int)
           . have HN:Hid (Cp D k b (d+1) (d:Int) (GH D d k:Int)):=HB.o.more e hD hg
             go_wp2
             go_roundw
             case rel=>exact⟨d+1,_,_,by omega,rfl,rfl,by go_num,by omega,by omega,HN,by trivial⟩
             case measure=>simp[intOf];omega
           . have HN:Hid (Cp D k b (d+1) best most):=HB.o.less (by rw[hc];omega)
             go_wp2
             go_roundw
             case rel=>exact⟨d+1,best,most,by omega,by trivial,by trivial,by go_num,hm1,hm2,HN,by trivial⟩
             case measure=>simp[intOf];omega
  . obtain rfl:d=n:=by omega
    go_wp2
    go_ret
    exact⟨best,most,rfl,HB.o,rfl⟩
end Go.Proofs.YtjpobijiblcgaaaGreat
