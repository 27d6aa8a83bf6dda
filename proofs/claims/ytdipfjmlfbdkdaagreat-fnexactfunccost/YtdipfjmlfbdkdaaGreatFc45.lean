import Derived.Test.YtdipfjmlfbdkdaaGreatFc43
namespace Go.Proofs.YtdipfjmlfbdkdaaGreat
open Go.ChangeShapes Go.WideShapes Go.ChangeAt Go.RowKit
set_option linter.unusedVariables false
set_option maxHeartbeats 8000000
set_option maxRecDepth 100000
theorem Lw(LB:Nat)(h:Int)(x:Ev)(a:Option Addr)(c:Nat)(ks:List Int)(z:Int)(w:World)(hn:ks.length<=1048576)(hB:Ak w LB #[.int .i64 h,.slice x.a x.n x.c,.slice a ks.length c] 68)(hk:Rd w 1 (.slice a ks.length c) ks.length (ks.flatMap Ac)):
 Calls Tryz.prog 134 #[.int .i64 z,.pointer (some ⟨LB,0,none⟩)] w fun e w'=>Aj e (¬z∈ks)/\w'=w:=by
 obtain⟨l0,l1,l2⟩:=BI hB;have H:=AS hk;clear hB hk;go_enter Tryz.func134,Tryz.ntmps134;go_wp2_with fail
 refine(Dh a c ks z w hn H.o).mono ?_;rintro e u ⟨⟨q,rfl,hq⟩,rfl⟩;have HQ:=AS hq;clear hq;go_wp2
 go_ret
 exact⟨.of (by rw[<-HQ.o];cases q<;>simp),rfl⟩
theorem Mw(s:Option Addr)(sc:Nat)(es:List Int)(LB:Nat)(h:Int)(x:Ev)(a:Option Addr)(c:Nat)(ks:List Int)(w:World)(hn:ks.length<=1048576)(hB:Ak w LB #[.int .i64 h,.slice x.a x.n x.c,.slice a ks.length c] 68)(hk:Rd w 1 (.slice a ks.length c) ks.length (ks.flatMap Ac))(hm:es.length<=1048576)(he:Rd w 1 (.slice s es.length sc) es.length (es.flatMap Ac)):
 Calls Tryz.prog 155 #[.slice s es.length sc,.func (.func 134) #[] #[.pointer (some ⟨LB,0,none⟩)]] w fun e w'=>(∃n:Int,e=.returned (.int .i64 n)/\(0<=n↔∃z∈es,¬z∈ks))/\w'=w:=by
 have H:=AS (aq hB (aq hk he));clear hB hk he;go_enter Tryz.func155,Tryz.ntmps155;go_wp2
 go_loopw [8] (fun i wr=>∃k:Nat,k<=es.length/\i=.int .i64 k/\Hid (∀z∈es.take k,z∈ks)/\wr=w) (fun i _=>es.length-(intOf i).toNat)
 case atStart=>exact⟨0,by omega,rfl,fun z hz=>by simp at hz,rfl⟩
 case round=>
 obtain⟨k,hk,rfl,HT,rfl⟩:=hrel;by_cases hlt:k<es.length
 case pos=>
  have hltI:(k:Int)<(es.length:Int):=by omega
  obtain⟨z,hz⟩:∃z,es[k]?=some z:=⟨_,aA hlt⟩
  obtain⟨g,o,ea,e0⟩:∃g o,s=some ⟨g,o,none⟩/\wr.cell? ⟨g,o+k,none⟩=some (.int .i64 z):=by
   rcases H.o.2.2.2 with⟨q,_⟩|⟨g,o,c',e1,hc⟩
   . omega
   . simp only[aF,aw]at e1
     exact⟨g,o,e1.1,hc k _ (Ew hz)⟩
  subst ea;have HZ:=AS hz;clear hz;go_wp2_with fail
  refine(Lw LB h x a c ks z wr hn H.o.1 H.o.2.1).mono ?_;rintro e u1 ⟨⟨b,rfl,hb⟩,rfl⟩;have HB:=AS hb;clear hb;cases b
  case true=>
   have HY:Hid (∃z∈es,¬z∈ks):=⟨z,aE HZ.o,HB.o.1 rfl⟩;go_wp2
   go_ret
   exact⟨⟨(k:Int),rfl,fun _=>HY.o,fun _=>by omega⟩,rfl⟩
  case false=>
   have HT':Hid (∀z∈es.take (k+1),z∈ks):=fun y hy=>by
    rw[List.take_add_one,HZ.o]at hy;rcases aU.1 hy with q|q
    . exact HT.o y q
    . simp at q
      subst q;exact cQ fun q=>by have:=HB.o.2 q;cases this
   go_wp2
   go_roundw
   case rel=>exact⟨k+1,by omega,by go_num,HT'.o,by trivial⟩
   case measure=>simp[intOf];omega
 have HN:Hid (¬∃z∈es,¬z∈ks):=fun⟨z,h1,h2⟩=>h2 (HT.o z (by rw[an (show es.length<=k by omega)];exact h1))
 go_wp2
 go_ret
 exact⟨⟨-1,rfl,fun e=>absurd e (by decide),fun e=>absurd e HN.o⟩,rfl⟩
theorem Mn(s:Option Addr)(sc:Nat)(es:List Int)(LB:Nat)(h:Int)(x:Ev)(a:Option Addr)(c:Nat)(ks:List Int)(w:World)(hn:ks.length<=1048576)(hB:Ak w LB #[.int .i64 h,.slice x.a x.n x.c,.slice a ks.length c] 68)(hk:Rd w 1 (.slice a ks.length c) ks.length (ks.flatMap Ac))(hm:es.length<=1048576)(he:Rd w 1 (.slice s es.length sc) es.length (es.flatMap Ac)):
 Calls Tryz.prog 135 #[.slice s es.length sc,.func (.func 134) #[] #[.pointer (some ⟨LB,0,none⟩)]] w fun e w'=>Aj e (∃z∈es,¬z∈ks)/\w'=w:=by
 have H:=AS (Mw s sc es LB h x a c ks w hn hB hk hm he);clear hB hk he;go_enter Tryz.func135,Tryz.ntmps135;go_wp2_with fail
 refine H.o.mono ?_;rintro e u1 ⟨⟨n,rfl,hnn⟩,rfl⟩;have HB:=AS hnn;clear hnn;go_wp2
 go_ret
 exact⟨.of (by simpa using HB.o),rfl⟩
def KR(bs:List MB)(ks:List Int)(b:Nat):Prop:=∃m,bs[b]?=some m/\∃t∈m.next,¬t∈ks
theorem Ln(v:Bz)(F:List (MB×Value))(N:Nat)(h:Nat)(x:Ev)(ka:Option Addr)(kc:Nat)(ks:List Int)(w:World)(hF:FA w v F N)(hnx:∀z∈F,NM w z.2 z.1/\z.1.next.length<=1048576)(hn:ks.length<=1024)(hk:Rd w 1 (.slice ka ks.length kc) ks.length (ks.flatMap Ac))(hz:∀z∈ks,∃b:Nat,z=(b:Int)/\b<F.length):
 Calls Tryz.prog 101 #[.agg v.cells,.agg #[.int .i64 (h:Int),.slice x.a x.n x.c,.slice ka ks.length kc]] w fun e w'=>∃(a:Option Addr) (c:Nat) (ps:List Int),e=.returned (.slice a ps.length c)/\Rd w' 1 (.slice a ps.length c) ps.length (ps.flatMap Ac)/\(∀z,z∈ps↔z∈ks/\KR (F.map Prod.fst) ks z.toNat)/\ps.length<=1024/\Below w.heap.size w w':=by
 obtain⟨k0,hk0,hx0,hx1,hx2⟩:=bQ BE;have H:=AS (aq hF (aq hnx (aq hk hz)));have hlen:F.length<=1024:=hF.len;obtain⟨ba,bc,eb⟩:=hF.rd.is_slice;simp only[aF]at eb;have HBN:Hid (v.b.n=F.length):=eb.2.1;clear hF hnx hk hz eb ba bc;obtain⟨ba,hba⟩:∃ba,v.b.a=ba:=⟨_,rfl⟩;have HBA:=AS hba;clear hba;have E0:=Bw w v.cells #[.int .i64 (h:Int),.slice x.a x.n x.c,.slice ka ks.length kc] 85 68;go_enter Tryz.func101,Tryz.ntmps101;go_upto_region 1 with fail
 refine Al (fun u=>Hid (Ak u w.heap.size v.cells 85/\Ak u (w.heap.size+1) #[.int .i64 (h:Int),.slice x.a x.n x.c,.slice ka ks.length kc] 68/\Below w.heap.size w u)) E0 ?_
 rintro U HE;clear E0;obtain⟨l0,l1,l2⟩:=BI HE.o.2.1;go_wp2_with fail
 clear l0 l1 l2;go_loopw [6,13] (fun s i wr=>∃(k:Nat) (ps:List Int),k<=ks.length/\i=.int .i64 k/\Hid (wr.ownsRow U.heap.size 2 1 s ps.length (ps.flatMap Ac)/\(∀z,z∈ps↔z∈ks.take k/\KR (F.map Prod.fst) ks z.toNat)/\ps.length<=k/\Below U.heap.size U wr)) (fun _ i _=>ks.length-(intOf i).toNat)
 case atStart=>exact⟨0,[],by omega,rfl,bL _ _ _ _,fun z=>by simp,by simp,aX _ _⟩
 case round=>
 obtain⟨k,ps,hk1,rfl,HS⟩:=hrel;by_cases hlt:k<ks.length
 case neg=>
  obtain⟨sa,sc,es⟩:=Ax HS.o.1;subst es
  have HP:Hid (∀z,z∈ps↔z∈ks/\KR (F.map Prod.fst) ks z.toNat):=fun z=>by
   rw[HS.o.2.1 z,an (show ks.length<=k by omega)]
  go_wp2_with fail
  go_ret
  exact⟨sa,sc,ps,rfl,Rd.of_own HS.o.1,HP.o,by have:=HS.o.2.2.1;omega,Ab HE.o.2.2 lR HS.o.2.2.2⟩
 have hltI:(k:Int)<(ks.length:Int):=by omega
 have HBel:Hid (Below w.heap.size w wr):=Ab HE.o.2.2 lR HS.o.2.2.2;obtain⟨b,ez,hb⟩:=H.o.2.2.2 ks[k] (bq hlt);have hzk:ks[k]?=some (b:Int):=by rw[aA hlt,ez]
 obtain⟨kg,ko,eka,e0⟩:∃g o,ka=some ⟨g,o,none⟩/\wr.cell? ⟨g,o+k,none⟩=some (.int .i64 (b:Int)):=by
  rcases(Rd.keep H.o.2.2.1 HBel.o lR).2 with⟨q,_⟩|⟨g,o,c',e1,hc⟩
  . omega
  . simp only[aF,aw]at e1
    exact⟨g,o,e1.1,hc k _ (Ew hzk)⟩
 subst eka;obtain⟨m,g,o,ma,me,nx,hm,eg,en,i0,i1,i2,e1,e2,hme,hme2,hFk⟩:=(H.o.1.keep HBel.o).at hb;obtain⟨hnr,hnn⟩:=H.o.2.1 _ (aE hFk);obtain⟨na,nc,enx⟩:=Rd.is_slice hnr;simp only[]at enx hnn;subst enx;obtain rfl:ba=some ⟨g,o,none⟩:=by rw[<-HBA.o];exact eg
 have HM:Hid (ks[k]?=some (b:Int)/\(F.map Prod.fst)[b]?=some m/\Rd wr 1 (.slice na m.next.length nc) m.next.length (m.next.flatMap Ac)):=⟨hzk,hm,Rd.keep hnr HBel.o lR⟩
 have hbI:(b:Int)<(F.length:Int):=by omega
 obtain⟨sa,sc,es⟩:=Ax HS.o.1;subst es;have p11:=(HE.o.1.keep HS.o.2.2.2).cell 11;simp only[Bz.cells]at p11;simp only[HBN.o,HBA.o]at p11;have HLB:Hid (Ak wr (w.heap.size+1) #[.int .i64 (h:Int),.slice x.a x.n x.c,.slice (some ⟨kg,ko,none⟩) ks.length kc] 68):=HE.o.2.1.keep HS.o.2.2.2;have HKR:Hid (Rd wr 1 (.slice (some ⟨kg,ko,none⟩) ks.length kc) ks.length (ks.flatMap Ac)):=Rd.keep H.o.2.2.1 HBel.o lR;clear hzk hm hnr hFk ez e1 e2 eg en i0 i1;go_wp2_with fail
 refine(Mn na nc m.next (w.heap.size+1) (h:Int) x (some ⟨kg,ko,none⟩) kc ks wr (by omega) HLB.o HKR.o hnn HM.o.2.2).mono ?_;rintro e u1 ⟨⟨q,rfl,hq⟩,rfl⟩
 have HQ:Hid (q=true↔KR (F.map Prod.fst) ks b):=hq.trans ⟨fun h=>⟨m,HM.o.2.1,h⟩,fun⟨m',h1,h2⟩=>by
  rw[HM.o.2.1]at h1;cases h1
  exact h2⟩
 clear hq
 have HMm:Hid (∀z,z∈ks.take (k+1)↔z∈ks.take k\/z=(b:Int)):=fun z=>by
  rw[List.take_add_one,HM.o.1,aU];simp
 cases q
 case true=>
  have hpl:=HS.o.2.2.1;go_wp2_with (at_builtin;refine wpList_append_own _ rfl _ _ 28 rfl U.heap.size 2 k0 (.int .i64 0) 1 8 Tryz.underlying28 hk0 hx0 hx1 hx2 rfl (by decide) _ ps.length (ps.flatMap Ac) rfl (HS.o.1.alloc _) ⟨u1.heap.size,0,none⟩ 1 1 [.int .i64 (b:Int)] rfl rfl (Go.cell_one_new _ _ _) (fun u hu=>by simp at hu;subst hu;rfl) (by unfold maxLen;omega) (by omega) (by have:=HS.o.2.2.2.size;simp;omega) ?_;intro v' w3 hown3 hgrow3 hnil3)
  have HQ3:Hid (w3.ownsRow U.heap.size 2 1 v' (ps++[(b:Int)]).length ((ps++[(b:Int)]).flatMap Ac)/\Below U.heap.size U w3):=by
   have o1:=HS.o.1;refine⟨?_,(HS.o.2.2.2.alloc HS.o.2.2.2.size _).grown hgrow3 (by have:=HS.o.2.2.2.size;simp;omega) (fun i hi=>(o1.lt i hi).1)⟩;rw[bP,aH];exact hown3
  clear hown3 hgrow3 hnil3;go_roundw
  case rel=>
   refine⟨k+1,ps++[(b:Int)],by omega,by go_num,HQ3.o.1,fun z=> ?_,by rw[aH];simp;omega,HQ3.o.2⟩;rw[aU,HS.o.2.1 z,HMm.o z];simp only[aa,ao,cH];constructor
   . rintro(⟨h1,h2⟩|rfl)
     . exact⟨.inl h1,h2⟩
     . exact⟨.inr rfl,HQ.o.1 (by trivial)⟩
   . rintro⟨h1|h1,h2⟩
     . exact .inl ⟨h1,h2⟩
     . exact .inr h1
  case measure=>simp[intOf];omega
 case false=>
  go_wp2_with fail
  go_roundw
  case rel=>
   refine⟨k+1,ps,by omega,by go_num,HS.o.1,fun z=> ?_,by have:=HS.o.2.2.1;omega,HS.o.2.2.2⟩;rw[HS.o.2.1 z,HMm.o z];constructor
   . rintro⟨h1,h2⟩
     exact⟨.inl h1,h2⟩
   . rintro⟨h1|h1,h2⟩
     . exact⟨h1,h2⟩
     . subst h1
       have:=HQ.o.2 h2;cases this
  case measure=>simp[intOf];omega
def G9(x y:Int):Int:=if x<y then -1 else if y<x then 1 else 0
theorem Nz(x:Int)(w:World):Calls Tryz.prog 129 #[.int .i64 x] w fun e w'=>e=.returned (.bool false)/\w'=w:=by
 go_enter Tryz.func129,Tryz.ntmps129;go_wp2
 go_ret
 exact⟨rfl,rfl⟩
theorem N3(x y:Int)(w:World):Calls Tryz.prog 95 #[.int .i64 x,.int .i64 y] w fun e w'=>e=.returned (.int .i64 (G9 x y))/\w'=w:=by
 have h1:=AS (Nz x);have h2:=AS (Nz y);unfold G9;by_cases hlt:x<y
 . rw[a8 hlt]
   go_enter Tryz.func95,Tryz.ntmps95;go_wp2_with fail
   refine(h1.o w).mono ?_;rintro e u ⟨rfl,rfl⟩;go_wp2_with fail
   refine(h2.o u).mono ?_;rintro e u2 ⟨rfl,rfl⟩;go_wp2_with fail
   go_ret
   exact⟨rfl,rfl⟩
 . rw[bF hlt]
   by_cases hgt:y<x
   . rw[a8 hgt]
     have hgt':x>y:=hgt;go_enter Tryz.func95,Tryz.ntmps95;go_wp2_with fail
     refine(h1.o w).mono ?_;rintro e u ⟨rfl,rfl⟩;go_wp2_with fail
     refine(h2.o u).mono ?_;rintro e u2 ⟨rfl,rfl⟩;go_wp2_with fail
     go_ret
     exact⟨rfl,rfl⟩
   . rw[bF hgt]
     have hgt':¬x>y:=hgt;go_enter Tryz.func95,Tryz.ntmps95;go_wp2_with fail
     refine(h1.o w).mono ?_;rintro e u ⟨rfl,rfl⟩;go_wp2_with fail
     refine(h2.o u).mono ?_;rintro e u2 ⟨rfl,rfl⟩;go_wp2_with fail
     go_ret
     exact⟨rfl,rfl⟩
theorem NA(x:Int)(w:World):Calls Tryz.prog 130 #[.int .i64 x] w fun e w'=>e=.returned (.bool false)/\w'=w:=by
 go_enter Tryz.func130,Tryz.ntmps130;go_wp2
 go_ret
 exact⟨rfl,rfl⟩
theorem N4(x y:Int)(w:World):Calls Tryz.prog 96 #[.int .i64 x,.int .i64 y] w fun e w'=>e=.returned (.int .i64 (G9 x y))/\w'=w:=by
 have h1:=AS (NA x);have h2:=AS (NA y);unfold G9;by_cases hlt:x<y
 . rw[a8 hlt]
   go_enter Tryz.func96,Tryz.ntmps96;go_wp2_with fail
   refine(h1.o w).mono ?_;rintro e u ⟨rfl,rfl⟩;go_wp2_with fail
   refine(h2.o u).mono ?_;rintro e u2 ⟨rfl,rfl⟩;go_wp2_with fail
   go_ret
   exact⟨rfl,rfl⟩
 . rw[bF hlt]
   by_cases hgt:y<x
   . rw[a8 hgt]
     have hgt':x>y:=hgt;go_enter Tryz.func96,Tryz.ntmps96;go_wp2_with fail
     refine(h1.o w).mono ?_;rintro e u ⟨rfl,rfl⟩;go_wp2_with fail
     refine(h2.o u).mono ?_;rintro e u2 ⟨rfl,rfl⟩;go_wp2_with fail
     go_ret
     exact⟨rfl,rfl⟩
   . rw[bF hgt]
     have hgt':¬x>y:=hgt;go_enter Tryz.func96,Tryz.ntmps96;go_wp2_with fail
     refine(h1.o w).mono ?_;rintro e u ⟨rfl,rfl⟩;go_wp2_with fail
     refine(h2.o u).mono ?_;rintro e u2 ⟨rfl,rfl⟩;go_wp2_with fail
     go_ret
     exact⟨rfl,rfl⟩
theorem QU(g:Nat)(a b r:Int)(w:World)(h0:w.cell? ⟨g,0,none⟩=some (.int .i64 a))(h1:w.cell? ⟨g,1,none⟩=some (.int .i64 b))(hr:r=if a=0 then b else a):
 Calls Tryz.prog 94 #[.slice (some ⟨g,0,none⟩) 2 2] w fun e w'=>e=.returned (.int .i64 r)/\w'=w:=by
 have HR:=AS hr;clear hr;go_enter Tryz.func94,Tryz.ntmps94;go_wp2_with fail
 go_loopw [8] (fun i wr=>wr=w/\(i=.int .i64 0\/i=.int .i64 1/\a=0\/i=.int .i64 2/\a=0/\b=0)) (fun i _=>2-(intOf i).toNat)
 case atStart=>exact⟨rfl,.inl rfl⟩
 case round=>
  obtain⟨rfl,rfl|⟨rfl,ha⟩|⟨rfl,ha,hb⟩⟩:=hrel
  . by_cases e:a=0
    . have HA:=AS e
      rw[e]at h0;clear e;go_wp2_with fail
      go_roundw
      case rel=>exact⟨by trivial,.inr (.inl ⟨by trivial,HA.o⟩)⟩
      case measure=>simp[intOf]
    . have e':(a==0)=false:=by simpa using e
      have hv:r=a:=by rw[HR.o,bF e]
      subst hv;go_wp2_with fail
      go_ret
      exact⟨rfl,rfl⟩
  . have HA:=AS ha
    by_cases e:b=0
    . have HB:=AS e
      rw[e]at h1;clear e ha;go_wp2_with fail
      go_roundw
      case rel=>exact⟨by trivial,.inr (.inr ⟨by trivial,HA.o,HB.o⟩)⟩
      case measure=>simp[intOf]
    . have e':(b==0)=false:=by simpa using e
      have hv:r=b:=by rw[HR.o,a8 ha]
      clear ha;subst hv;go_wp2_with fail
      go_ret
      exact⟨rfl,rfl⟩
  . have hv:r=0:=by rw[HR.o,a8 ha,hb]
    clear ha hb HR;subst hv;go_wp2_with fail
    go_ret
    exact⟨rfl,rfl⟩
theorem QK(x y:LV):(if G9 (x.yn:Int) (y.yn:Int)=0 then G9 x.h y.h else G9 (x.yn:Int) (y.yn:Int))=LV.cmp x y:=by
 unfold LV.cmp G9;by_cases h1:x.yn<y.yn
 . have:(x.yn:Int)<(y.yn:Int):=by omega
   simp[h1,this]
 . have:¬(x.yn:Int)<(y.yn:Int):=by omega
   by_cases h2:y.yn<x.yn
   . have:(y.yn:Int)<(x.yn:Int):=by omega
     simp[h1,h2]
   . have:¬(y.yn:Int)<(x.yn:Int):=by omega
     simp[h1,h2]
theorem LI(x y:LV)(W:World):Calls Tryz.prog 93 #[.agg x.enc.toArray,.agg y.enc.toArray] W fun e w'=>e=.returned (.int .i64 (LV.cmp x y))/\∃q os',w'=Go.Sort.grow (W.drewN q) os':=by
 have hcm:=QK x y;obtain⟨hx,xa,xn,xc,ya,yn,yc⟩:=x;obtain⟨hy,xa',xn',xc',ya',yn',yc'⟩:=y;have HC:Hid (∀w,Calls Tryz.prog 95 #[.int .i64 (yn:Int),.int .i64 (yn':Int)] w fun e w'=>e=.returned (.int .i64 (G9 (yn:Int) (yn':Int)))/\w'=w):=fun w=>N3 _ _ w
 have HD:Hid (∀w,Calls Tryz.prog 96 #[.int .i64 hx,.int .i64 hy] w fun e w'=>e=.returned (.int .i64 (G9 hx hy))/\w'=w):=fun w=>N4 _ _ w
 simp only[]at hcm;generalize G9 (yn:Int) (yn':Int)=c1 at HC hcm;generalize G9 hx hy=c2 at HD hcm;generalize LV.cmp ⟨hx,xa,xn,xc,ya,yn,yc⟩ ⟨hy,xa',xn',xc',ya',yn',yc'⟩=rr at hcm⊢;have HCM:=AS hcm.symm;clear hcm;simp only[LV.enc];have E0:=Bw W #[.int .i64 hx,.slice xa xn xc,.slice ya yn yc] #[.int .i64 hy,.slice xa' xn' xc',.slice ya' yn' yc'] 68 68;have E1:Hid (∃os,(W.alloc (.cells #[.int .i64 hx,.slice xa xn xc,.slice ya yn yc] 68)).alloc (.cells #[.int .i64 hy,.slice xa' xn' xc',.slice ya' yn' yc'] 68)=Go.Sort.grow W os):=⟨_,by rw[Go.Sort.alloc_eq_grow,Go.Sort.alloc_eq_grow,Go.Sort.grow_grow]⟩;go_enter Tryz.func93,Tryz.ntmps93;go_upto_region 1 with fail
 refine Al (fun u=>Hid ((Ak u W.heap.size #[.int .i64 hx,.slice xa xn xc,.slice ya yn yc] 68/\Ak u (W.heap.size+1) #[.int .i64 hy,.slice xa' xn' xc',.slice ya' yn' yc'] 68)/\∃os,u=Go.Sort.grow W os)) ⟨⟨E0.1,E0.2.1⟩,E1.o⟩ ?_
 rintro U HE;clear E0 E1;have HR:Hid (Ak U.drew W.heap.size #[.int .i64 hx,.slice xa xn xc,.slice ya yn yc] 68/\Ak U.drew (W.heap.size+1) #[.int .i64 hy,.slice xa' xn' xc',.slice ya' yn' yc'] 68):=⟨HE.o.1.1.keep (Ae _),HE.o.1.2.keep (Ae _)⟩
 have HG:Hid (∃os,U.drew=Go.Sort.grow (W.drewN 1) os):=by
  obtain⟨os,e⟩:=HE.o.2;exact⟨os,by rw[e];rfl⟩
 clear HE;have KS:∀w',Ak w' W.heap.size #[.int .i64 hx,.slice xa xn xc,.slice ya yn yc] 68->Ak w' (W.heap.size+1) #[.int .i64 hy,.slice xa' xn' xc',.slice ya' yn' yc'] 68->w'.cell? ⟨W.heap.size,0,none⟩=some (.int .i64 hx)/\w'.cell? ⟨W.heap.size,2,none⟩=some (.slice ya yn yc)/\w'.cell? ⟨W.heap.size+1,0,none⟩=some (.int .i64 hy)/\w'.cell? ⟨W.heap.size+1,2,none⟩=some (.slice ya' yn' yc'):=fun w' A B=>⟨A.cell 0,A.cell 2,B.cell 0,B.cell 2⟩
 refine wp_region_held_drew (S:=fun w'=>w'.cell? ⟨W.heap.size,0,none⟩=some (.int .i64 hx)/\w'.cell? ⟨W.heap.size,2,none⟩=some (.slice ya yn yc)/\w'.cell? ⟨W.heap.size+1,0,none⟩=some (.int .i64 hy)/\w'.cell? ⟨W.heap.size+1,2,none⟩=some (.slice ya' yn' yc')) (by kernel_rfl) (KS _ HR.o.1 HR.o.2) (fun hHeld=> ?_)
 generalize U.drew=U2 at HR HG hHeld⊢;refine AG 0 ?_;refine AG 1 ?_;refine AG 2 ?_;refine AG 3 ?_;refine AG 4 ?_;refine AG 5 ?_;refine AG 7 ?_;refine AG 8 ?_;refine AG 9 ?_ (hw:=by kernel_rfl);refine AG 10 ?_ (hw:=by kernel_rfl);refine Gq 6 ?_;intro KC hKC;rw[a8 (by kernel_rfl)];go_simp;refine(HC.o U2).mono ?_;rintro e u3 ⟨rfl,rfl⟩;go_simp;refine hKC.o _ _ hHeld (fun hHeld=> ?_);clear hKC KC;refine Gq 11 ?_;intro KC hKC;rw[a8 (by kernel_rfl)];go_simp;refine(HD.o u3).mono ?_;rintro e u4 ⟨rfl,rfl⟩;go_simp;refine hKC.o _ _ hHeld (fun hHeld=> ?_);clear hKC KC;refine Gq 12 ?_;intro KC hKC;rw[a8 (by kernel_rfl)];go_simp;refine hKC.o _ _ (KS _ (HR.o.1.keep (Aa _ _)) (HR.o.2.keep (Aa _ _))) (fun hHeld=> ?_);clear hKC KC;refine Gq 13 ?_;intro KC hKC;rw[a8 (by kernel_rfl)];go_simp;refine(QU u4.heap.size c1 c2 rr _ ((Ak.new _ _ _).cell 0) ((Ak.new _ _ _).cell 1) HCM.o).mono ?_;rintro e u5 ⟨rfl,rfl⟩;go_simp;refine hKC.o _ _ hHeld (fun hHeld=> ?_);clear hKC KC;refine AG 14 ?_ (hw:=by kernel_rfl);refine wpAnyH_done (by kernel_rfl) ?_ _;clear hHeld KS
 have HF:Hid (∃q os',u4.alloc (.cells #[.int .i64 c1,.int .i64 c2] 3)=Go.Sort.grow (W.drewN q) os'):=by
  obtain⟨os,e⟩:=HG.o;exact⟨1,_,by rw[e,Go.Sort.alloc_eq_grow,Go.Sort.grow_grow]⟩
 go_wp2
 go_ret
 exact⟨rfl,HF.o⟩
end Go.Proofs.YtdipfjmlfbdkdaaGreat
