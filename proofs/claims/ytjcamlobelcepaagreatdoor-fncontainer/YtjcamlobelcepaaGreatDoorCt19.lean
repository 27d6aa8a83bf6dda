import Derived.Test.YtjcamlobelcepaaGreatDoorCt17
import Derived.Deep.RegionLawGrows
import Derived.Laws.IdiomStrings
import Derived.Test.YtjcamlobelcepaaGreatDoorCt16
import Derived.Laws.Strings
import Derived.Deep.RegionHeld3
namespace Go.Proofs.YtjcamlobelcepaaGreatDoor
open Go.ChangeShapes Go.WideShapes Go.ChangeAt Go.RowKit
set_option linter.unusedVariables false
set_option maxHeartbeats 4000000
set_option maxRecDepth 100000
theorem KN(B wb mb:Nat)(w:World)(hB:B<=w.heap.size)(hw:B<=wb)(hblk:Ap w wb #[sG mb 4 4] 45)(hm:∀j u,BL[j]?=some u->w.cell? ((⟨mb,0,none⟩:Addr).add j)=some u):
 Calls Tryz.prog 13 #[.pointer (some ⟨wb,0,none⟩),iZ 1,iZ 2] w fun e w'=>e=.returned (.tuple #[])/\DU B w' wb (BL++At 1 2)/\Wg B w w':=by
 obtain⟨i0,hi,hz0,hz1,hz2⟩:=bJ infoBD;have H:=Af (aG hblk hm)
 have PN:Hid (∀u:World,Calls Tryz.prog 45 #[iZ 1,iZ 2] u fun e w'=>∃r,e=.returned r/\w'.ownsRow u.heap.size 5 1 r 2 (At 1 2)/\Below u.heap.size u w'):=fun u=>by
  have:=G7 1 2 u;rw[show PO 2=2 from rfl]at this;exact this
 clear hblk hm;have KS':w.drew.cell? ⟨wb,0,none⟩=some (sG mb 4 4):=(H.o.1.keep (Ae w)).cell 0;go_enter Tryz.func13,Tryz.ntmps13;go_wp2_with fail
 go_region_law (first
  |(refine step_append_grows rfl (.tmp 10) (.tmp 13) 22 rfl 5 i0 (.int .u8 0) 1 1 Tryz.underlying22 hi hz0 hz1 hz2 rfl (by decide) (some ⟨mb,0,none⟩) 4 4 BL (by simp[Act.eval]) (fun e=>by cases e) rfl O1.o.2.2 ⟨g1,0,none⟩ 2 c1 (At 1 2) (by simp[Act.eval]) rfl (Lh O1.o.1) (Ii 1 2) (by omega) (by unfold maxLen;omega) (by omega) ?_;intro V u2 hown hgrow;have O2:Hid (u2.ownsRow u1.heap.size 5 1 V (4+2) (BL++At 1 2)/\Below u1.heap.size u1 u2):=⟨hown,⟨hgrow.os,hgrow.tape,hgrow.output,hgrow.size,fun k hk=>hgrow.block k hk (by simp)⟩⟩;obtain⟨g,cap,rfl,_,_⟩:=hown.form (by omega);have KS':u2.cell? ⟨wb,0,none⟩=some (sG mb 4 4):=(O1.o.2.1.keep O2.o.2).cell 0;have Z:=(O1.o.2.1.keep O2.o.2).frozen 0;clear hown hgrow)
  |(go_simp;go_at_call 45;refine(PN.o _).mono ?_;rintro e u1 ⟨r,rfl,own1,b1⟩;obtain⟨g1,c1,rfl,_,_⟩:=own1.form (by omega);have B1:Hid (Below w.heap.size w u1):=CU b1 lR;have O1:Hid (u1.ownsRow w.heap.size 5 1 (sG g1 2 c1) 2 (At 1 2)/\Ap u1 wb #[sG mb 4 4] 45/\(∀b,some (⟨mb,0,none⟩:Addr)=some b->∀j u,BL[j]?=some u->u1.cell? (b.add j)=some u)):=⟨own1,H.o.1.keep B1.o,fun b hb j u hj=>by cases hb;rw[B1.o.cell (aD (H.o.2 j u hj))];exact H.o.2 j u hj⟩;have KS':u1.cell? ⟨wb,0,none⟩=some (sG mb 4 4):=O1.o.2.1.cell 0;clear own1 b1))
 all_goals
  have hB2:=O1.o.2.1.keep O2.o.2
  have HE:Hid (DU B (u2.setCell ⟨wb,0,none⟩ (sG g (4+2) cap)) wb (BL++At 1 2)/\Wg B w (u2.setCell ⟨wb,0,none⟩ (sG g (4+2) cap))):=by
   refine⟨⟨sG g (4+2) cap,hB2.set 0 _,?_⟩,((Wg.of_below B1.o hB).trans (Wg.of_below O2.o.2 (aR hB B1.o.size))).trans (Wg.of_set hB2 hw 0 _)⟩
   have hg:¬g=wb:=fun e=>by
    have h1:=hB2.lt;have h2:=O1.o.2.1.lt;have h3:=(O2.o.1.lt g rfl).1;omega
   have:=aN (Bv O2.o.1 (aR hB B1.o.size)) (a:=⟨wb,0,none⟩) (by simp only[Value.ownBlock];intro e;exact hg (aZ e)) (sG g (4+2) cap);exact this
  go_end0
  exact⟨rfl,HE.o.1,HE.o.2⟩
def AM(zs:List Int):List Int:=zs.take (zs.length-4)
def DF(zs:List Int):Prop:=10<=zs.length/\zs.take 4=[80,76,67,49]
def Iw(zs:List Int):Prop:=wrap64 (Cd zs (zs.length-4) 4)=FY (~~~(C6 (AM zs) (zs.length-4)))
def Ms(zs:List Int):Prop:=wrap64 (Cd zs 4 2)=1
def Nm:MP:=⟨[],[],[],[]⟩
def Ff(zs:List Int)(c:Int)(p:MP):Prop:=
 (¬DF zs/\c=1/\p=Nm)\/(DF zs/\¬Iw zs/\c=2/\p=Nm)\/(DF zs/\Iw zs/\¬Ms zs/\c=3/\p=Nm)\/
 (DF zs/\Iw zs/\Ms zs/\Im (AM zs) 6=none/\c=4/\p=Nm)\/
 (∃q k,DF zs/\Iw zs/\Ms zs/\Im (AM zs) 6=some (q,k)/\k≠zs.length-4/\c=5/\p=Nm)\/
 (∃q n,DF zs/\Iw zs/\Ms zs/\Im (AM zs) 6=some (q,zs.length-4)/\AV q n/\n≠0/\c=6/\p=Nm)\/
 (DF zs/\Iw zs/\Ms zs/\Im (AM zs) 6=some (p,zs.length-4)/\AV p 0/\c=0)
theorem Ff.one{zs:List Int}{c c':Int}{p p':MP}(h:Ff zs c p)(h':Ff zs c' p'):c=c'/\p=p':=by
 unfold Ff at h h';by_cases s1:DF zs<;>by_cases s2:Iw zs<;>by_cases s3:Ms zs<;>simp only[s1,s2,s3,not_true_eq_false,not_false_eq_true,ao,false_and,false_or,cZ,and_false,exists_false]at h h'
 . cases e:Im (AM zs) 6 with
   | none=>
     simp only[e]at h h';simp at h h';exact⟨h.1.trans h'.1.symm,h.2.trans h'.2.symm⟩
   | some y=>
     obtain⟨q,k⟩:=y;simp only[e,aM,Prod.mk.injEq]at h h';simp only[reduceCtorEq,false_and,false_or]at h h';rcases h with⟨_,_,⟨rfl,rfl⟩,hk,rfl,rfl⟩|⟨_,n,⟨rfl,hk⟩,hf,hn,rfl,rfl⟩|⟨⟨rfl,hk⟩,hf,rfl⟩<;>rcases h' with⟨_,_,⟨rfl,rfl⟩,hk',rfl,rfl⟩|⟨_,n',⟨rfl,hk'⟩,hf',hn',rfl,rfl⟩|⟨⟨rfl,hk'⟩,hf',rfl⟩
     all_goals first
      |exact⟨rfl,rfl⟩
      |(exfalso;omega)
      |(exfalso;exact hk hk')
      |(exfalso;exact hk' hk)
      |(exfalso;exact hn (hf.one hf'))
      |(exfalso;exact hn' (hf'.one hf))
 all_goals exact⟨h.1.trans h'.1.symm,h.2.trans h'.2.symm⟩
structure Fq(xs:List Int)(c:Int):Prop where
 low:0<=c
 high:c<(xs.length:Int)
 mask:bits .and .i64 c (c+1)=0
 one:∀j:Nat,(j:Int)<=c->xs[j]?=xs[0]?
theorem He (a1:Option Addr)(c1:Nat)(xs:List Int)(c:Int)(w:World)(hn:xs.length<=1048576)(hcap:xs.length<=c1)(h:Rd w 1 (.slice a1 xs.length c1) xs.length (xs.flatMap Ac)):
 Calls Tryz.prog 108 #[.slice a1 xs.length c1,iZ c] w fun e w'=>Am e (Fq xs c)/\Below w.heap.size w w':=by
 have H1:=Af h;clear h;generalize hLL:xs.length=n at hn hcap H1;have HL:=Af hLL;clear hLL;by_cases q0:0<=c/\c<(n:Int)
 . have hit:decide (0<=c/\c<(n:Int))=true:=decide_eq_true q0
   obtain⟨c,rfl⟩:=aS q0.1;have hcn:c<n:=by omega
   clear q0;by_cases q1:bits .and .i64 (c:Int) ((c:Int)+1)=0
   . have HM:Hid (bits .and .i64 (c:Int) ((c:Int)+1)=0):=q1
     obtain⟨y,hy⟩:∃y,xs[0]?=some y:=⟨_,aA (by rw[HL.o];omega)⟩;rcases H1.o.2 with⟨e0,_⟩|⟨g,o,cc,e1,hc1⟩
     . omega
     simp only[aI,ao]at e1;obtain⟨rfl,rfl⟩:=e1;have j0:=Rd.elem Al hc1 0 y hy 0 _ rfl;simp only[Nat.zero_mul,aT]at j0;have HC:=Af hc1;have HY:=Af hy;clear hc1 hy;go_enter Tryz.func108,Tryz.ntmps108;go_wp2_with fail
     refine(AG (c:Int) (n:Int) _).mono ?_;rintro e u ⟨rfl,rfl⟩;rw[hit];have k1:(c:Int)+1<=(c1:Int):=by omega
     have k2:(0:Int)<=(c:Int)+1:=by omega
     have k3:(0:Int)<(n:Int):=by omega
     have k4:((c:Int)+1).toNat=c+1:=by omega
     go_wp2
     clear k1 k2 hit q1;go_loopw [24] (fun i wr=>∃k:Nat,k<=c+1/\i=iZ k/\Hid (∀j,j<k->xs[j]?=some y)/\∃m,wr=u.drewN m) (fun i _=>c+1-(intOf i).toNat)
     case atStart=>exact⟨0,by omega,rfl,fun j hj=>by omega,0,rfl⟩
     case round=>
      obtain⟨k,hk,rfl,HT,m,rfl⟩:=hrel;by_cases hlt:k<c+1
      . obtain⟨x,hx⟩:∃x,xs[k]?=some x:=⟨_,aA (by rw[HL.o];omega)⟩
        have i0:=Rd.elem Al HC.o k x hx 0 _ rfl;rw[bR,aT]at i0;have HX:=Af hx;clear hx;have hlt':(k:Int)<(c:Int)+1:=by omega
        by_cases hxy:x=y
        . subst hxy
          have HT2:Hid (∀j,j<k+1->xs[j]?=some x):=fun j hj=>by
           by_cases e:j=k
           . rw[e];exact HX.o
           . exact HT.o j (by omega)
          go_wp2
          go_roundw
          case rel=>exact⟨k+1,by omega,by go_num,HT2,_,rfl⟩
          case measure=>simp[intOf];omega
        . have HN:Hid (¬Fq xs c):=fun e=>by
           have:=e.one k (by omega);rw[HX.o,HY.o]at this;exact hxy (aZ this)
          have hxy':(x==y)=false:=by simpa using hxy
          have hxy'':(x != y)=true:=by simpa using hxy
          go_wp2
          go_ret
          exact⟨.no HN.o,Aj _ _ _⟩
      . have hkn:k=c+1:=by omega
        subst hkn;have HY2:Hid (Fq xs c):=⟨by omega,by rw[HL.o];omega,HM.o,fun j hj=>by rw[HY.o];exact HT.o j (by omega)⟩;go_wp2;go_ret;exact⟨.yes HY2.o,Aj _ _ _⟩
   . have HN:Hid (¬Fq xs c):=fun e=>q1 e.mask
     have q1':(bits .and .i64 (c:Int) ((c:Int)+1)==0)=false:=by simpa using q1
     clear H1;go_enter Tryz.func108,Tryz.ntmps108;go_wp2_with fail
     refine(AG (c:Int) (n:Int) _).mono ?_;rintro e u ⟨rfl,rfl⟩;rw[hit];go_wp2
     go_ret
     exact⟨.no HN.o,aq _ _⟩
 . have HN:Hid (¬Fq xs c):=fun e=>q0 ⟨e.low,by have:=e.high;rw[HL.o]at this;exact this⟩
   have hit:decide (0<=c/\c<(n:Int))=false:=cI q0
   clear H1;go_enter Tryz.func108,Tryz.ntmps108;go_wp2_with fail
   refine(AG c (n:Int) _).mono ?_;rintro e u ⟨rfl,rfl⟩;rw[hit];go_wp2
   go_ret
   exact⟨.no HN.o,aq _ _⟩
structure PF(w6 u:World)(X:Nat)(Vb Vo Vi:Value)(Is:List Int)(Vl:Value)(ys:List (ML×Value×Value)):Prop where
 blk:Ap u X #[iZ 0,iZ 0,Vb,Vo,Vi,Vl] 163
 fam:IK u w6.heap.size ((Vi,Is)::I4 ys)
 lps:u.ownsRow w6.heap.size 171 3 Vl ys.length (ys.flatMap Cm)
 fx:∀k,k<w6.heap.size->k≠X->u.heap[k]?=w6.heap[k]?
 size:w6.heap.size<=u.heap.size
 bel:Below X w6 u
 lt:X<w6.heap.size
theorem PF.keep{w6 u u':World}{X:Nat}{Vb Vo Vi Vl:Value}{Is:List Int}{ys:List (ML×Value×Value)}(h:PF w6 u X Vb Vo Vi Is Vl ys)(hb:Below u.heap.size u u'):PF w6 u' X Vb Vo Vi Is Vl ys:=⟨h.blk.keep hb,h.fam.keepB hb,Ah h.lps hb lR,fun k hk hne=>by rw[hb.block k (bZ hk h.size)];exact h.fx k hk hne,aR h.size hb.size,h.bel.trans (hb.mono (by have:=h.lt;have:=h.size;omega)),h.lt⟩
theorem PF.cell{w6 u:World}{X:Nat}{Vb Vo Vi Vl:Value}{Is:List Int}{ys:List (ML×Value×Value)}(h:PF w6 u X Vb Vo Vi Is Vl ys){a:Addr}{x:Value}(hb:w6.cell? a=some x)(hne:a.block≠X):u.cell? a=some x:=by
 have:=h.fx a.block (aD hb) hne;unfold World.cell? at*;rw[this];exact hb
theorem PF.idom{w6 u u':World}{X g cap:Nat}{Vb Vo Vi Vl:Value}{Is:List Int}{ys:List (ML×Value×Value)}{z:Int}(h:PF w6 u X Vb Vo Vi Is Vl ys)(hown:u'.ownsRow w6.heap.size 2 1 (sG g (Is.length+1) cap) (Is.length+1) (Is.flatMap Ac++[iZ z]))(hg:u.grownBy u' Vi.ownBlock)(hat:Vi.ownBlock=some g\/g=u.heap.size):Ap u' X #[iZ 0,iZ 0,Vb,Vo,Vi,Vl] 163/\PF w6 (u'.setCell ⟨X,4,none⟩ (sG g (Is.length+1) cap)) X Vb Vo (sG g (Is.length+1) cap) (Is++[z]) Vl ys:=by
 have oI:=h.fam.own (Vi,Is) (bp ..);have kb:=h.blk.grown hg oI (by decide);have kl:u'.ownsRow w6.heap.size 171 3 Vl ys.length (ys.flatMap Cm):=Cs h.lps hg oI (by decide)
 have kf:IK u' w6.heap.size ((sG g (Is.length+1) cap,Is++[z])::I4 ys):=by
  have:=IK.grow (A:=[]) (l':=Is++[z]) (V':=sG g (Is.length+1) cap) (g:=g) h.fam (by
   rw[aH,aP,a8];exact hown) rfl hg (hat.imp id fun e=>by omega)
  simpa using this
 refine⟨kb,?_,kf.other kb (by decide) 4 _,aN kl (a:=⟨X,4,none⟩) (Jz kb kl (by decide)) _,fun k hk hne=> ?_,?_,?_,h.lt⟩
 . have:=kb.set 4 (sG g (Is.length+1) cap)
   simpa using this
 . rw[bI u' _ k _ hne,hg.block k (bZ hk h.size) (fun e=>by have:=(oI.lt k e.symm).1;omega)]
   exact h.fx k hk hne
 . rw[bf]
   exact aR h.size hg.size
 . exact(h.bel.grown hg (by have:=h.lt;have:=h.size;omega) (fun i hi=>by have:=(oI.lt i hi).1;have:=h.lt;omega)).setCell lR _
theorem PF.loop{w6 u u1 u':World}{X g cap:Nat}{Vb Vo Vi Vl BV KV:Value}{Is:List Int}{ys:List (ML×Value×Value)}{m:ML}(h:PF w6 u X Vb Vo Vi Is Vl ys)(hb:Below u.heap.size u u1)(h1:u1.ownsRow u.heap.size 2 1 BV m.back.length (m.back.flatMap Ac))(h2:u1.ownsRow u.heap.size 2 1 KV m.blocks.length (m.blocks.flatMap Ac))(hne:∀q,BV.ownBlock=some q->KV.ownBlock≠some q)(hown:u'.ownsRow w6.heap.size 171 3 (sG g (ys.length+1) cap) (ys.length+1) (ys.flatMap Cm++[iZ m.head,BV,KV]))(hg:u1.grownBy u' Vl.ownBlock):Ap u' X #[iZ 0,iZ 0,Vb,Vo,Vi,Vl] 163/\PF w6 (u'.setCell ⟨X,5,none⟩ (sG g (ys.length+1) cap)) X Vb Vo Vi Is (sG g (ys.length+1) cap) (ys++[(m,BV,KV)]):=by
 have h':=h.keep hb;have kb:=h'.blk.grown hg h'.lps (by decide)
 have kf0:IK u1 w6.heap.size ((Vi,Is)::I4 (ys++[(m,BV,KV)])):=by
  have:=h.fam.join2 hb h1 h2 hne h.size;simpa[I4]using this
 have kf:IK u' w6.heap.size ((Vi,Is)::I4 (ys++[(m,BV,KV)])):=kf0.grown_other hg h'.lps (by decide);refine⟨kb,?_,kf.other kb (by decide) 5 _,?_,fun k hk hne=> ?_,?_,?_,h.lt⟩
 . have:=kb.set 5 (sG g (ys.length+1) cap)
   simpa using this
 . rw[aH,aP,a8]
   exact aN hown (a:=⟨X,5,none⟩) (Jz kb hown (by decide)) _
 . rw[bI u' _ k _ hne,hg.block k (bZ hk h'.size) (fun e=>by have:=(h'.lps.lt k e.symm).1;omega)]
   exact h'.fx k hk hne
 . rw[bf]
   exact aR h'.size hg.size
 . exact(h'.bel.grown hg (by have:=h.lt;have:=h'.size;omega) (fun i hi=>by have:=(h'.lps.lt i hi).1;have:=h.lt;omega)).setCell lR _
theorem Ig(E:Nat->List Nat)(D L:Nat->Nat->Bool)(n b:Nat):Da E D L n (b+1)=Da E D L n b++(if Bg E D n b=[]then[]else[⟨(b:Int),Ea (Bg E D n b),Ea ((List.range n).filter (L b))⟩]):=by
 unfold Da;rw[ch,List.filterMap_append];by_cases h:Bg E D n b=[]
 . simp[h]
 . simp[h]
theorem Fx{w:World}{b:Nat}{t:TypeId}{a0 a1 a2:Value}(h:Ap w b #[a0,a1,a2] t):w.cell? ⟨b,0,none⟩=some a0/\w.cell? ⟨b,1,none⟩=some a1/\w.cell? ⟨b,2,none⟩=some a2:=⟨h.cell 0,h.cell 1,h.cell 2⟩
theorem FO(w:World)(A B:Array Value)(s t:TypeId):Ap ((w.alloc (.cells A s)).alloc (.cells B t)) w.heap.size A s/\Ap ((w.alloc (.cells A s)).alloc (.cells B t)) (w.heap.size+1) B t/\Below w.heap.size w ((w.alloc (.cells A s)).alloc (.cells B t)):=by
 have b1:=Aa w (.cells A s);have b2:=Aa (w.alloc (.cells A s)) (.cells B t);refine⟨(Ap.new w _ _).keep b2,?_,Ab b1 lR b2⟩;have k2:=Ap.new (w.alloc (.cells A s)) B t;have e1:(w.alloc (.cells A s)).heap.size=w.heap.size+1:=by simp
 rw[e1]at k2;exact k2
theorem P5(w:World)(A B C:Array Value)(s t r:TypeId):Ap (((w.alloc (.cells A s)).alloc (.cells B t)).alloc (.cells C r)) w.heap.size A s/\Ap (((w.alloc (.cells A s)).alloc (.cells B t)).alloc (.cells C r)) (w.heap.size+1) B t/\Ap (((w.alloc (.cells A s)).alloc (.cells B t)).alloc (.cells C r)) (w.heap.size+1+1) C r/\Below w.heap.size w (((w.alloc (.cells A s)).alloc (.cells B t)).alloc (.cells C r)):=by
 obtain⟨h1,h2,h3⟩:=FO w A B s t;generalize e1:(w.alloc (.cells A s)).alloc (.cells B t)=u at*;have e2:u.heap.size=w.heap.size+1+1:=by rw[<-e1];simp
 have b1:=Aa u (.cells C r);have k2:=Ap.new u C r;rw[e2]at k2;exact⟨h1.keep b1,h2.keep b1,k2,Ab h3 lR b1⟩
theorem ML.same_iff(a b:ML):a=b↔a.head=b.head/\a.back=b.back/\a.blocks=b.blocks:=by
 obtain⟨a1,a2,a3⟩:=a;obtain⟨b1,b2,b3⟩:=b;simp
theorem Gk(a b:ML)(v1 v2 u1 u2:Value)(w:World)(ha:a.back.length<=1048576/\a.blocks.length<=1048576)(hb:b.back.length<=1048576/\b.blocks.length<=1048576)(h:RE w (a,v1,v2))(h':RE w (b,u1,u2)):
 Calls Tryz.prog 133 #[.agg #[.int .i64 a.head,v1,v2],.agg #[.int .i64 b.head,u1,u2]] w fun e w'=>Am e (a=b)/\Below w.heap.size w w':=by
 have H:Hid (RE w (a,v1,v2)/\RE w (b,u1,u2)/\(a.back.length<=1048576/\a.blocks.length<=1048576)/\b.back.length<=1048576/\b.blocks.length<=1048576):=⟨h,h',ha,hb⟩
 clear h h' ha hb;have E0:=FO w #[.int .i64 a.head,v1,v2] #[.int .i64 b.head,u1,u2] 171 171;go_enter Tryz.func133,Tryz.ntmps133;go_upto_region 1 with fail
 refine An (fun u=>Ap u w.heap.size #[.int .i64 a.head,v1,v2] 171/\Ap u (w.heap.size+1) #[.int .i64 b.head,u1,u2] 171/\Below w.heap.size w u) E0 ?_
 rintro U E1;clear E0;have HE:Hid (Ap U w.heap.size #[.int .i64 a.head,v1,v2] 171/\Ap U (w.heap.size+1) #[.int .i64 b.head,u1,u2] 171/\Below w.heap.size w U):=E1
 clear E1;obtain⟨p0,p1,p2⟩:=Fx HE.o.1;obtain⟨o0,o1,o2⟩:=Fx HE.o.2.1;by_cases q:a.head=b.head
 . have HQ:Hid (a.head=b.head):=q
   rw[q]at p0;clear q;go_wp2_with fail
   refine(Dd v1 u1 a.back b.back U H.o.2.2.1.1 H.o.2.2.2.1 (H.o.1.1.keep HE.o.2.2 lR) (H.o.2.1.1.keep HE.o.2.2 lR)).mono ?_;rintro e u3 ⟨⟨b1,rfl,hb1⟩,m1,e1⟩
   have HE1:Hid (Ap u3 w.heap.size #[.int .i64 a.head,v1,v2] 171/\Ap u3 (w.heap.size+1) #[.int .i64 b.head,u1,u2] 171/\Below w.heap.size w u3):=by
    subst e1;exact⟨HE.o.1.keep (Aj _ _ _),HE.o.2.1.keep (Aj _ _ _),Ab HE.o.2.2 lR (Aj _ _ _)⟩
   have HB:Hid (b1=true↔a.back=b.back):=hb1;clear HE p0 p1 p2 o0 o1 o2 e1 hb1;obtain⟨p0,p1,p2⟩:=Fx HE1.o.1;obtain⟨o0,o1,o2⟩:=Fx HE1.o.2.1;cases b1
   . go_wp2
     go_ret
     exact⟨.no (fun e=>by have:=HB.o.2 ((ML.same_iff a b).1 e).2.1;simp at this),HE1.o.2.2⟩
   . go_wp2_with fail
     refine(Dd v2 u2 a.blocks b.blocks u3 H.o.2.2.1.2 H.o.2.2.2.2 (H.o.1.2.keep HE1.o.2.2 lR) (H.o.2.1.2.keep HE1.o.2.2 lR)).mono ?_;rintro e u4 ⟨⟨b2,rfl,hb2⟩,m2,e2⟩
     have HE2:Hid (Below w.heap.size w u4):=by
      subst e2;exact Ab HE1.o.2.2 lR (Aj _ _ _)
     have HB2:Hid (b2=true↔a.blocks=b.blocks):=hb2;clear HE1 p0 p1 p2 o0 o1 o2 e2 hb2;go_wp2
     go_ret
     exact⟨.of ⟨fun e=>(ML.same_iff a b).2 ⟨HQ.o,HB.o.1 (by first|rfl|trivial),HB2.o.1 e⟩,fun e=>HB2.o.2 ((ML.same_iff a b).1 e).2.2⟩,HE2.o⟩
 . go_wp2
   go_ret
   exact⟨.no fun e=>q ((ML.same_iff a b).1 e).1,HE.o.2.2⟩
def Qd(s:CR)(k:GK)(vc:Value)(left lv:Int):As:=Bb k.Gb 81 7 [.pointer (some ⟨s.S,0,none⟩),.pointer (some ⟨k.P,0,none⟩),.int .i64 (k.fi:Int),vc,.int .i64 left,.int .i64 lv,.int .i64 0]
structure SM(w u:World)(s:CR)(k:GK)(p:Int)(v:VP)(vc:Value)(g:Gn)(left lv:Int)(D:List As):Prop where
 bl:Bs w u s p (Ai v k.F g.consts k.G g.certs (Ca vc g.code::gb k.P v::Qd s k vc left lv::D))
section
variable {w u u':World} {s:CR} {k:GK} {p:Int} {v:VP} {vc:Value} {g:Gn} {left lv:Int} {D:List As}
theorem SM.keep(h:SM w u s k p v vc g left lv D)(hb:Below u.heap.size u u'):SM w u' s k p v vc g left lv D:=⟨h.bl.keep hb⟩
theorem SM.draw{p':Int}(h:SM w u s k p v vc g left lv D)(hs:D8 u' s.S s.a s.len s.cap p')(hd:AR s.S u u'):SM w u' s k p' v vc g left lv D:=⟨h.bl.draw hs hd⟩
theorem SM.cells(h:SM w u s k p v vc g left lv D):u.cell? ⟨k.Gb,0,none⟩=some (.pointer (some ⟨s.S,0,none⟩))/\u.cell? ⟨k.Gb,1,none⟩=some (.pointer (some ⟨k.P,0,none⟩))/\u.cell? ⟨k.Gb,2,none⟩=some (.int .i64 (k.fi:Int))/\u.cell? ⟨k.Gb,3,none⟩=some vc/\u.cell? ⟨k.Gb,4,none⟩=some (.int .i64 left)/\u.cell? ⟨k.Gb,5,none⟩=some (.int .i64 lv):=
 have m:Qd s k vc left lv∈Ai v k.F g.consts k.G g.certs (Ca vc g.code::gb k.P v::Qd s k vc left lv::D):=AD (by simp)
 ⟨h.bl.cell m 0 (by omega),h.bl.cell m 1 (by omega),h.bl.cell m 2 (by omega),h.bl.cell m 3 (by omega),h.bl.cell m 4 (by omega),h.bl.cell m 5 (by omega)⟩
theorem SM.frozen(h:SM w u s k p v vc g left lv D)(i:Nat):u.frozen? ⟨k.Gb,i,none⟩=false:=h.bl.frozen (AD (show Qd s k vc left lv∈_ by simp)) i
theorem SM.pcells(h:SM w u s k p v vc g left lv D):u.cell? ⟨k.P,0,none⟩=some v.r/\u.cell? ⟨k.P,1,none⟩=some v.k/\u.cell? ⟨k.P,2,none⟩=some v.f/\u.cell? ⟨k.P,3,none⟩=some v.t:=
 have m:gb k.P v∈Ai v k.F g.consts k.G g.certs (Ca vc g.code::gb k.P v::Qd s k vc left lv::D):=AD (by simp)
 ⟨h.bl.cell m 0 (by omega),h.bl.cell m 1 (by omega),h.bl.cell m 2 (by omega),h.bl.cell m 3 (by omega)⟩
theorem SM.push(h:SM w u s k p v vc g left lv D)(xs:List MI)(V:Value)(ho:u'.ownsRow w.heap.size 97 4 V (g.code.length+xs.length) (g.code.flatMap MI.cells++xs.flatMap MI.cells))(hg:u.grownBy u' vc.ownBlock)(hat:V.ownBlock=vc.ownBlock\/V.ownBlock=some u.heap.size):SM w (u'.setCell ⟨k.Gb,3,none⟩ V) s k p v V ⟨g.code++xs,g.consts,g.certs⟩ left lv D/\u'.cell? ⟨k.Gb,3,none⟩=some vc/\u'.frozen? ⟨k.Gb,3,none⟩=false:=by
 have h1:=h.bl.push_n xs V ho hg hat;exact⟨⟨h1.setp (D:=[Ca V (g.code++xs),gb k.P v]) 3 (by omega) V⟩,h1.cell (AD (show Qd s k vc left lv∈_ by simp)) 3 (by omega),h1.frozen (AD (show Qd s k vc left lv∈_ by simp)) 3⟩
theorem SM.left_(h:SM w u s k p v vc g left lv D)(x:Int):SM w (u.setCell ⟨k.Gb,4,none⟩ (.int .i64 x)) s k p v vc g x lv D:=⟨h.bl.setp (D:=[Ca vc g.code,gb k.P v]) 4 (by omega) (.int .i64 x)⟩
theorem SM.level_(h:SM w u s k p v vc g left lv D)(x:Int):SM w (u.setCell ⟨k.Gb,5,none⟩ (.int .i64 x)) s k p v vc g left x D:=⟨h.bl.setp (D:=[Ca vc g.code,gb k.P v]) 5 (by omega) (.int .i64 x)⟩
theorem SM.push_c(h:SM w u s k p v vc g left lv D)(x:MC)(V:Value)(ho:u'.ownsRow w.heap.size 53 2 V (g.consts.length+1) (g.consts.flatMap MC.cells++x.cells))(hg:u.grownBy u' v.k.ownBlock)(hat:V.ownBlock=v.k.ownBlock\/V.ownBlock=some u.heap.size):SM w (u'.setCell ⟨k.P,1,none⟩ V) s k p {v with k:=V} vc ⟨g.code,g.consts++[x],g.certs⟩ left lv D/\(u'.cell? ⟨k.P,1,none⟩=some v.k/\u'.frozen? ⟨k.P,1,none⟩=false)/\u'.cell? ⟨k.Gb,1,none⟩=some (.pointer (some ⟨k.P,0,none⟩))/\(u'.setCell ⟨k.P,1,none⟩ V).cell? ⟨k.Gb,1,none⟩=some (.pointer (some ⟨k.P,0,none⟩)):=by
 have h1:=h.bl.push_c x V ho hg hat;have h2:SM w (u'.setCell ⟨k.P,1,none⟩ V) s k p {v with k:=V} vc ⟨g.code,g.consts++[x],g.certs⟩ left lv D:=⟨h1.setp (D:=[Ca vc g.code]) 1 (by omega) V⟩;exact⟨h2,⟨h1.cell (AD (show gb k.P v∈_ by simp)) 1 (by omega),h1.frozen (AD (show gb k.P v∈_ by simp)) 1⟩,h1.cell (AD (show Qd s k vc left lv∈_ by simp)) 1 (by omega),h2.cells.2.1⟩
theorem SM.push_t(h:SM w u s k p v vc g left lv D)(x:MT)(V:Value)(ho:u'.ownsRow w.heap.size 62 4 V (g.certs.length+1) (g.certs.flatMap MT.cells++x.cells))(hg:u.grownBy u' v.t.ownBlock)(hat:V.ownBlock=v.t.ownBlock\/V.ownBlock=some u.heap.size):SM w (u'.setCell ⟨k.P,3,none⟩ V) s k p {v with t:=V} vc ⟨g.code,g.consts,g.certs++[x]⟩ left lv D/\(u'.cell? ⟨k.P,3,none⟩=some v.t/\u'.frozen? ⟨k.P,3,none⟩=false)/\(u'.cell? ⟨k.Gb,1,none⟩=some (.pointer (some ⟨k.P,0,none⟩))/\u'.cell? ⟨k.Gb,2,none⟩=some (.int .i64 (k.fi:Int)))/\(u'.setCell ⟨k.P,3,none⟩ V).cell? ⟨k.Gb,1,none⟩=some (.pointer (some ⟨k.P,0,none⟩))/\(u'.setCell ⟨k.P,3,none⟩ V).cell? ⟨k.Gb,2,none⟩=some (.int .i64 (k.fi:Int)):=by
 have h1:=h.bl.push_t x V ho hg hat;have h2:SM w (u'.setCell ⟨k.P,3,none⟩ V) s k p {v with t:=V} vc ⟨g.code,g.consts,g.certs++[x]⟩ left lv D:=⟨h1.setp (D:=[Ca vc g.code]) 3 (by omega) V⟩;exact⟨h2,⟨h1.cell (AD (show gb k.P v∈_ by simp)) 3 (by omega),h1.frozen (AD (show gb k.P v∈_ by simp)) 3⟩,⟨h1.cell (AD (show Qd s k vc left lv∈_ by simp)) 1 (by omega),h1.cell (AD (show Qd s k vc left lv∈_ by simp)) 2 (by omega)⟩,h2.cells.2.1,h2.cells.2.2.1⟩
end
theorem De(w:World)(cs:List Value)(t:TypeId):∀j u,cs[j]?=some u->(w.alloc (.cells cs.toArray t)).cell? ((⟨w.heap.size,0,none⟩:Addr).add j)=some u:=fun j u hj=>by
 rw[Ds,bV,(Ap.new w cs.toArray t).cell j];simpa using hj
theorem Ok(l:List MI):∀u∈l.flatMap MI.cells,u.oneCell'=true:=fun u hu=>by
 obtain⟨x,_,hx⟩:=cG.1 hu;simp only[MI.cells,bG,bY,cZ]at hx;rcases hx with rfl|rfl|rfl|rfl<;>rfl
structure GS(w u:World)(s:CR)(k:GK)(p left lv:Int)(nt:Nat)(D:List As):Prop where
 ok:Kf k
 ex:∃v vc g,SM w u s k p v vc g left lv D/\Lr k g left nt
def GSC(w u:World)(s:CR)(k:GK)(p left lv:Int)(nt:Nat)(D:List As)(r:Nat):Prop:=Kf k/\∃v vc g,SM w u s k p v vc g left lv D/\Lr k g left nt/\r<g.consts.length
def Pf(w u:World)(s:CR)(k:GK)(p left lv:Int)(nt:Nat)(D:List As)(x:MI):Prop:=Kf k/\∃v vc g,SM w u s k p v vc ⟨g.code++[x],g.consts,g.certs⟩ (left-1) lv D/\Lr k g left nt
def TE(w u:World)(s:CR)(k:GK)(p left lv:Int)(nt:Nat)(D:List As)(n:Nat):Prop:=Kf k/\∃v vc g,SM w u s k p v vc g left lv D/\Lr k g left nt/\(n:Int)<k.L0-left/\∀x∈g.certs,x.func=k.fi->x.head<n
section
variable {w u u':World} {s:CR} {k:GK} {p p' left lv:Int} {nt:Nat} {D:List As}
theorem GS.keep(h:GS w u s k p left lv nt D)(hb:Below u.heap.size u u'):GS w u' s k p left lv nt D:=by
 obtain⟨v,vc,g,h1,h2⟩:=h.ex;exact⟨h.ok,v,vc,g,h1.keep hb,h2⟩
theorem GS.draw(h:GS w u s k p left lv nt D)(hs:D8 u' s.S s.a s.len s.cap p')(hd:AR s.S u u'):GS w u' s k p' left lv nt D:=by
 obtain⟨v,vc,g,h1,h2⟩:=h.ex;exact⟨h.ok,v,vc,g,h1.draw hs hd,h2⟩
theorem GS.src(h:GS w u s k p left lv nt D):D8 u s.S s.a s.len s.cap p:=by
 obtain⟨v,vc,g,h1,h2⟩:=h.ex;exact h1.bl.bel.src
theorem GS.le(h:GS w u s k p left lv nt D):left<=k.L0/\k.L0<=300/\0<=p:=by
 obtain⟨v,vc,g,h1,h2⟩:=h.ex;have:=h2.len;have:=h.ok.l0;have:=h.src.low;omega
theorem GS.back{J:List Nat}(h:GS w u s {k with J:=J} p left lv nt D)(hj:∀j∈k.J,j∈J):GS w u s k p left lv nt D:=by
 obtain⟨v,vc,g,h1,h2⟩:=h.ex;exact⟨⟨h.ok.f3,h.ok.fr,h.ok.ft,h.ok.fi,h.ok.gl,h.ok.fn,h.ok.l0⟩,v,vc,g,⟨h1.bl⟩,h2.back hj⟩
theorem GS.cells(h:GS w u s k p left lv nt D):∃a c,u.cell? ⟨k.Gb,0,none⟩=some (.pointer (some ⟨s.S,0,none⟩))/\u.cell? ⟨k.Gb,1,none⟩=some (.pointer (some ⟨k.P,0,none⟩))/\u.cell? ⟨k.Gb,2,none⟩=some (.int .i64 (k.fi:Int))/\u.cell? ⟨k.Gb,3,none⟩=some (.slice a (k.L0-left).toNat c)/\u.cell? ⟨k.Gb,4,none⟩=some (.int .i64 left)/\u.cell? ⟨k.Gb,5,none⟩=some (.int .i64 lv):=by
 obtain⟨v,vc,g,h1,h2⟩:=h.ex;obtain⟨⟨a,c,e⟩,_⟩:=h1.bl.nrow;have hc:=h1.cells;have hl:g.code.length=(k.L0-left).toNat:=by have:=h2.len;omega
 rw[e,hl]at hc;exact⟨a,c,hc⟩
theorem Pf.keep{x:MI}(h:Pf w u s k p left lv nt D x)(hb:Below u.heap.size u u'):Pf w u' s k p left lv nt D x:=by
 obtain⟨hk,v,vc,g,h1,h2⟩:=h;exact⟨hk,v,vc,g,h1.keep hb,h2⟩
theorem Ol(E:Hid (GS w u s k p left lv nt D)){n:Int}(hp:p+1<=1000000000000:=by omega)(hn:1<=n:=by omega)(hn':n<=1000000:=by omega):Calls Tryz.prog 34 #[.pointer (some ⟨s.S,0,none⟩),.int .i64 n] u fun e u'=>∃r:Int,e=.returned (.int .i64 r)/\(0<=r/\r<n)/\Hid (GS w u' s k (p+1) left lv nt D):=
 (A5 E.o.src hp hn hn').mono fun e u' ⟨r,h0,h1,e1,hs,hd⟩=>⟨r,e1,⟨h0,h1⟩,E.o.draw hs hd⟩
theorem TT(E:Hid (GS w u s k p left lv nt D)){n:Int}(hp:p+1<=1000000000000:=by omega)(hn:1<=n:=by omega)(hn':n<=1000000:=by omega):Calls Tryz.prog 91 #[.pointer (some ⟨s.S,0,none⟩),.int .i64 n] u fun e u'=>∃b:Bool,e=.returned (.bool b)/\Hid (GS w u' s k (p+1) left lv nt D):=
 (Ib E.o.src hp hn hn').mono fun e u' ⟨b,e1,hs,hd⟩=>⟨b,e1,E.o.draw hs hd⟩
theorem wdG(E:Hid (GS w u s k p left lv nt D))(hp:p+4<=1000000000000:=by omega):Calls Tryz.prog 89 #[.pointer (some ⟨s.S,0,none⟩)] u fun e u'=>∃x p':Int,e=.returned (.int .u32 x)/\(0<=x/\x<4294967296)/\(p<=p'/\p'<=p+4)/\Hid (GS w u' s k p' left lv nt D):=
 (N0 E.o.src hp).mono fun e u' ⟨x,p',h0,h1,e1,h2,h3,hs,hd⟩=>⟨x,p',e1,⟨h0,h1⟩,⟨h2,h3⟩,E.o.draw hs hd⟩
end
theorem Dp.front{w:World}{a:Option Addr}{n c m:Nat}{zs:List Int}(h:Dp w (.slice a n c) n (zs.map (Value.int .u8)))(hm:m<=n)(hc:0<m):Dp w (.slice a m c) m ((zs.take m).map (Value.int .u8)):=by
 obtain⟨h1,h2⟩:=h;have hl:zs.length=n:=by simpa using h1
 refine⟨by simp;omega,?_⟩;rcases h2 with⟨rfl,_⟩|⟨g,o,c',e,hcell⟩
 . omega
 . cases e
   refine .inr ⟨g,o,c,rfl,fun j u hj=>hcell j u ?_⟩;rw[List.map_take,List.getElem?_take]at hj;split at hj
   . exact hj
   . cases hj
theorem DC.take{zs:List Int}(h:DC zs)(m:Nat):DC (zs.take m):=fun j=>by
 have:=h j;rw[aU,List.getElem?_take]at*;split
 . exact this
 . simp
abbrev rb(X:Nat)(c:Int)(v:VP):As:=Bb X 32 5 [iZ c,v.r,v.k,v.f,v.t]
theorem Ll:Nm.small:=⟨by simp[Nm],by simp[Nm],by simp[Nm],by simp[Nm],by simp[Nm],by simp[Nm]⟩
theorem QD{u:World}{R:Nat}{x0 x1 x2 x3 x4:Value}{t:TypeId}(h:Ap u R #[x0,x1,x2,x3,x4] t)(y0 y1 y2 y3 y4:Value):Ap (((((u.setCell ⟨R,0,none⟩ y0).setCell ⟨R,1,none⟩ y1).setCell ⟨R,2,none⟩ y2).setCell ⟨R,3,none⟩ y3).setCell ⟨R,4,none⟩ y4) R #[y0,y1,y2,y3,y4] t:=by
 have:=((((h.set 0 y0).set 1 y1).set 2 y2).set 3 y3).set 4 y4;simpa using this
abbrev DD:Value:=sN
structure Dw(w u:World)(x0 x1 x2 x3 x4:Value):Prop where
 blk:Ap u w.heap.size #[x0,x1,x2,x3,x4] 32
 bel:Below w.heap.size w u
theorem Dw.keep{w u v:World}{x0 x1 x2 x3 x4:Value}(h:Dw w u x0 x1 x2 x3 x4)(hb:Below u.heap.size u v):Dw w v x0 x1 x2 x3 x4:=⟨h.blk.keep hb,Ab h.bel lR hb⟩
theorem Dw.set{w u:World}{x0 x1 x2 x3 x4:Value}(h:Dw w u x0 x1 x2 x3 x4)(y0 y1 y2 y3 y4:Value):Dw w (((((u.setCell ⟨w.heap.size,0,none⟩ y0).setCell ⟨w.heap.size,1,none⟩ y1).setCell ⟨w.heap.size,2,none⟩ y2).setCell ⟨w.heap.size,3,none⟩ y3).setCell ⟨w.heap.size,4,none⟩ y4) y0 y1 y2 y3 y4:=
 ⟨QD h.blk _ _ _ _ _,((((h.bel.setCell lR _).setCell lR _).setCell lR _).setCell lR _).setCell lR _⟩
theorem Dw.cells{w u:World}{x0 x1 x2 x3 x4:Value}(h:Dw w u x0 x1 x2 x3 x4):(u.cell? ⟨w.heap.size,0,none⟩=some x0/\u.cell? ⟨w.heap.size,1,none⟩=some x1/\u.cell? ⟨w.heap.size,2,none⟩=some x2/\u.cell? ⟨w.heap.size,3,none⟩=some x3/\u.cell? ⟨w.heap.size,4,none⟩=some x4)/\(u.frozen? ⟨w.heap.size,0,none⟩=false/\u.frozen? ⟨w.heap.size,1,none⟩=false/\u.frozen? ⟨w.heap.size,2,none⟩=false/\u.frozen? ⟨w.heap.size,3,none⟩=false/\u.frozen? ⟨w.heap.size,4,none⟩=false):=⟨⟨h.blk.cell 0,h.blk.cell 1,h.blk.cell 2,h.blk.cell 3,h.blk.cell 4⟩,h.blk.frozen 0,h.blk.frozen 1,h.blk.frozen 2,h.blk.frozen 3,h.blk.frozen 4⟩
theorem CI.five{u:World}{R base:Nat}{L:List As}(h:CI u base L)(hR:R<base)(y0 y1 y2 y3 y4:Value):CI (((((u.setCell ⟨R,0,none⟩ y0).setCell ⟨R,1,none⟩ y1).setCell ⟨R,2,none⟩ y2).setCell ⟨R,3,none⟩ y3).setCell ⟨R,4,none⟩ y4) base L:=by
 have c1:DX (fun j=>j=R) u (u.setCell ⟨R,0,none⟩ y0):=(DX.refl (fun j=>j=R) u).setCell (ad:=⟨R,0,none⟩) (.inl rfl) y0;have c2:=c1.setCell (ad:=⟨R,1,none⟩) (.inl rfl) y1;have c3:=c2.setCell (ad:=⟨R,2,none⟩) (.inl rfl) y2;have c4:=c3.setCell (ad:=⟨R,3,none⟩) (.inl rfl) y3;have c5:=c4.setCell (ad:=⟨R,4,none⟩) (.inl rfl) y4;exact h.chg c5 (fun j hj e=>by omega)
theorem DF.str{zs:List Int}(hz:DC zs)(h10:10<=zs.length):∃b:ByteArray,b=⟨((zs.take 4).map fun z=>UInt8.ofNat z.toNat).toArray⟩/\(DF zs↔b=⟨#[80,76,67,49]⟩):=by
 refine⟨_,rfl,?_⟩;match zs,h10 with
 | z0 ::z1::z2::z3::r,h10=>
   have b0:=hz 0;have b1:=hz 1;have b2:=hz 2;have b3:=hz 3;simp only[List.getD_cons_zero,List.getD_cons_succ]at b0 b1 b2 b3
   have e:∀z:Int,0<=z->z<=255->∀n:Nat,n<=255->(UInt8.ofNat z.toNat=UInt8.ofNat n↔z=n):=fun z h0 h1 n hn=>by
    constructor
    . intro e
      have e2:=congrArg UInt8.toNat e;rw[UInt8.toNat_ofNat',UInt8.toNat_ofNat']at e2;omega
    . intro e
      rw[e];rfl
   unfold DF;simp only[List.take_succ_cons,List.take_zero,db,List.map_nil];constructor
   . rintro⟨_,h⟩
     simp only[eN,cj]at h;obtain⟨rfl,rfl,rfl,rfl⟩:=h;rfl
   . intro h
     refine⟨h10,?_⟩
     have h2:[UInt8.ofNat z0.toNat,UInt8.ofNat z1.toNat,UInt8.ofNat z2.toNat,UInt8.ofNat z3.toNat]=[80,76,67,49]:=by
      have:=congrArg (fun b:ByteArray=>b.data.toList) h;simpa using this
     simp only[eN,cj]at h2;rw[(e z0 b0.1 b0.2 80 (by omega)).1 h2.1,(e z1 b1.1 b1.2 76 (by omega)).1 h2.2.1,(e z2 b2.1 b2.2 67 (by omega)).1 h2.2.2.1,(e z3 b3.1 b3.2 49 (by omega)).1 h2.2.2.2];rfl
theorem Hk{t:Int}(h:DZ t=true):¬t=0:=by
 unfold DZ at h;simp at h;omega
theorem NK{xs:List Int}(h:xs.all DZ=true){k:Nat}{x:Int}(hk:xs[k]?=some x):DZ x=true:=dp.1 h x (aF hk)
theorem Hz{f:MF}(hf:CJ f)(n:Int):Hw f n↔¬AA f n=0:=by
 constructor
 . rintro⟨h0,h1⟩
   obtain⟨k,rfl⟩:=aS h0;by_cases q:k<f.params.length
   . rw[IZ (aA q)]
     exact Hk (NK hf.pt (aA q))
   . have q2:k-f.params.length<f.locals.length:=by omega
     have e:=IX (f:=f) (aA q2);have ej:((f.params.length:Int)+((k-f.params.length:Nat):Int))=(k:Int):=by omega
     rw[ej]at e;rw[e];exact Hk (NK hf.lt (aA q2))
 . intro h
   by_cases q0:n<0
   . exact absurd (Gq q0) h
   by_cases q1:(f.params.length:Int)+f.locals.length<=n
   . exact absurd (IY q1) h
   . exact⟨by omega,by omega⟩
theorem EJ{p:MP}{a b:Nat}{l:List Int}(h3:p.regions.length=3)(hl:p.regions[a]?=some l):Bt p a b=l.getD b 0:=Iy (by have:=(aE.1 hl).1;omega) hl
theorem JB{p:MP}(hp:Ax p.regions)(a b:Int):¬Bt p a b=0↔∃l,0<=a/\p.regions[a.toNat]?=some l/\0<=b/\b<(l.length:Int):=by
 constructor
 . intro h
   have hq:¬(a<0\/2<a\/b<0):=fun e=>h (Ev e)
   obtain⟨i,rfl⟩:=aS (show 0<=a by omega);obtain⟨j,rfl⟩:=aS (show 0<=b by omega);have hi:i<p.regions.length:=by have:=hp.1;omega
   rw[EJ hp.1 (aA hi)]at h;refine⟨p.regions[i],by omega,by rw[aX];exact aA hi,by omega,?_⟩;by_cases hj:j<p.regions[i].length
   . omega
   . exact absurd (by rw[aU,ae (by omega)];rfl) h
 . rintro⟨l,h0,hl,h1,h2⟩
   obtain⟨i,rfl⟩:=aS h0;obtain⟨j,rfl⟩:=aS h1;rw[aX]at hl;rw[EJ hp.1 hl];have hj:j<l.length:=by omega
   have e:l.getD j 0=l[j]:=by rw[aU,aA hj];rfl
   rw[e];have hr:=hp.2 i (aE.1 hl).1 l hl;exact Hk (NK hr.2 (aA hj))
theorem G8{p:MP}(hp:Ax p.regions)(op a b:Int)(ho:op=4\/op=5\/op=6\/op=7):CS p op a b↔¬Bt p a b=0/\((op=4\/op=6)\/¬a=0):=by
 rw[JB hp];constructor
 . rintro⟨l,h1,h2,h3,h4,h5⟩
   refine⟨⟨l,h1,h2,h3,h4⟩,?_⟩;by_cases q:a=0
   . left
     by_cases q5:op=5\/op=7
     . exact absurd ⟨q5,q⟩ h5
     . omega
   . exact .inr q
 . rintro⟨⟨l,h1,h2,h3,h4⟩,h5⟩
   exact⟨l,h1,h2,h3,h4,fun⟨e1,e2⟩=>by omega⟩
theorem Oh{p:MP}(hp:Ax p.regions){a b:Nat}{l:List Int}(hl:p.regions[a]?=some l)(hb:b<l.length)(c:Int):Fq (l.drop b) c↔D7 p a b c:=by
 have hr:=hp.2 a (aE.1 hl).1 l hl
 have cell:∀j:Nat,Bt p (a:Int) ((b:Int)+(j:Int))=l.getD (b+j) 0:=fun j=>by
  have:=EJ (b:=b+j) hp.1 hl;rw[Int.natCast_add]at this;exact this
 have cell0:Bt p (a:Int) (b:Int)=l.getD b 0:=EJ hp.1 hl;have dr:∀j:Nat,(l.drop b)[j]?=l[b+j]?:=fun j=>by rw[eE]
 constructor
 . intro h
   have hh:=h.high;rw[cH]at hh;have h0:=h.low;have hlen:=hr.1;refine⟨h.low,by omega,h.mask,?_,fun j hj=> ?_⟩
   . rw[JB hp]
     exact⟨l,by omega,by rw[aX];exact hl,by omega,by omega⟩
   . have:=h.one j hj
     rw[dr,dr]at this;rw[cell,cell0,aU,aU,this];rfl
 . intro h
   have key:∀j:Nat,(j:Int)<=c->b+j<l.length:=fun j hj=>by
    have e:=h.one j hj;have hne:=h.there;rw[<-e,cell]at hne;by_cases q:b+j<l.length
    . exact q
    . exact absurd (by rw[aU,ae (by omega)];rfl) hne
   obtain⟨k,rfl⟩:=aS h.low;have hk:=key k (by omega);refine⟨h.low,by rw[cH];omega,h.mask,fun j hj=> ?_⟩;have hj':=key j hj;have e:=h.one j hj;rw[cell,cell0,aU,aU,aA hj',aA hb]at e;rw[dr,dr,aT,aA hj',aA hb];simpa using e
structure Sq(k:Nat)(w u:World)(tp tr:TypeId)(p r o:List Value):Prop where
 par:u.ownsRow w.heap.size tp k (.slice (some ⟨w.heap.size,0,none⟩) 1 1) 1 p
 res:u.ownsRow w.heap.size tr k (.slice (some ⟨w.heap.size+1,0,none⟩) 1 1) 1 r
 loc:u.ownsRow w.heap.size tr k (.slice (some ⟨w.heap.size+1+1,0,none⟩) 1 1) 1 o
 bel:Below w.heap.size w u
 siz:w.heap.size+3<=u.heap.size
theorem Sq.of(k:Nat)(w:World)(tp tr:TypeId)(p r o:Array Value)(hp:p.size=k)(hr:r.size=k)(ho:o.size=k):
 Sq k w (((w.alloc (.cells p tp)).alloc (.cells r tr)).alloc (.cells o tr)) tp tr p.toList r.toList o.toList:=by
 have b1:Below w.heap.size w (w.alloc (.cells p tp)):=(aq _ _).alloc lR _;have c2:Below (w.alloc (.cells p tp)).heap.size (w.alloc (.cells p tp)) ((w.alloc (.cells p tp)).alloc (.cells r tr)):=(aq _ _).alloc lR _;have c3:Below ((w.alloc (.cells p tp)).alloc (.cells r tr)).heap.size ((w.alloc (.cells p tp)).alloc (.cells r tr)) (((w.alloc (.cells p tp)).alloc (.cells r tr)).alloc (.cells o tr)):=(aq _ _).alloc lR _;have r1:=cF (base:=w.heap.size) (e:=tp) (size:=k) w p 1 lR (by unfold maxLen;omega) (by omega);have r2:=cF (base:=w.heap.size) (e:=tr) (size:=k) (w.alloc (.cells p tp)) r 1 (by simp) (by unfold maxLen;omega) (by omega);have r3:=cF (base:=w.heap.size) (e:=tr) (size:=k) ((w.alloc (.cells p tp)).alloc (.cells r tr)) o 1 (by simp<;>omega) (by unfold maxLen;omega) (by omega);refine⟨Ah (Ah r1 c2 lR) c3 lR,?_,?_,(b1.trans (c2.mono (by simp))).trans (c3.mono (by simp<;>omega)),by simp<;>omega⟩
 . have:=Ah r2 c3 lR
   simpa using this
 . simpa using r3
theorem Sq.keep{k:Nat}{w u u':World}{tp tr:TypeId}{p r o:List Value}(h:Sq k w u tp tr p r o)(hb:Below u.heap.size u u'):Sq k w u' tp tr p r o:=
 ⟨Ah h.par hb lR,Ah h.res hb lR,Ah h.loc hb lR,h.bel.trans (hb.mono (by have:=h.siz;omega)),aR h.siz hb.size⟩
theorem Sq.set{k:Nat}{w u:World}{tp tr:TypeId}{p r o:List Value}(h:Sq k w u tp tr p r o)(j:Nat)(x:Value):Sq k w (u.setCell ⟨w.heap.size+1+1,j,none⟩ x) tp tr p r (o.set j x):=
 ⟨aN h.par (by simp[Value.ownBlock]<;>omega) x,aN h.res (by simp[Value.ownBlock]) x,(h.loc.stored j x).1,h.bel.setCell (by simp<;>omega) x,by have:=h.siz;simpa using this⟩
structure VL where
 b:Value
 k:Value
def Ju(w:World)(v:VL)(m:ML):Prop:=RE w (m,v.b,v.k)
def ML.small(m:ML):Prop:=m.back.length<=1048576/\m.blocks.length<=1048576
def ML.fits(m:ML):Prop:=m.back.length<=9223372036854775807/\m.blocks.length<=9223372036854775807
def ML.wf(m:ML):Prop:=Ec m.head
theorem Ju.keep{w w':World}{v:VL}{m:ML}(h:Ju w v m){B:Nat}(hb:Below B w w')(hB:w.heap.size<=B):Ju w' v m:=⟨Rd.keep h.1 hb hB,Rd.keep h.2 hb hB⟩
end Go.Proofs.YtjcamlobelcepaaGreatDoor
