import Derived.Test.YtdipfjmlfbdkdaaGreatFc5
import Derived.Maps.OwnSet
import Derived.Shelf.SlGeneric
import Derived.Shelf.SortG.Plain
import Derived.Shelf.SortG.SortNone
import Derived.Shelf.SlicesG.SearchI
import Derived.Shelf.SlicesG.Turned
import Derived.Ground.SlgnProg
import Derived.Sort.OwnSortedInts
namespace Go.Proofs
open Go.Shelf
def Tryz.lSort_ren:Go.Shelf.Ren:=⟨fun|53=>122|64=>149|63=>148|78=>166|79=>167|70=>158|71=>159|72=>160|73=>161|74=>162|75=>163|59=>144|76=>164|77=>165|88=>190|89=>191|90=>192|91=>193|92=>194|68=>130|96=>203|n=>n,fun|22=>28|23=>2|3=>3|51=>205|0=>0|67=>70|69=>172|4=>4|61=>224|60=>223|44=>185|5=>5|9=>9|75=>236|79=>240|83=>247|84=>248|n=>n,fun|n=>n⟩
theorem Tryz.lSort:Go.Proofs.SlLaysN.n53 Tryz.prog Tryz.lSort_ren:={
 mixed:=by kernel_rfl
 f53:=⟨Tryz.f122.name,by decide,Tryz.func122.trans (congrArg some (by kernel_rfl))⟩
 f59:=⟨Tryz.f144.name,by decide,Tryz.func144.trans (congrArg some (by kernel_rfl))⟩
 f63:=⟨Tryz.f148.name,by decide,Tryz.func148.trans (congrArg some (by kernel_rfl))⟩
 f64:=Tryz.func149.trans (congrArg some (by kernel_rfl))
 f68:=⟨Tryz.f130.name,by decide,Tryz.func130.trans (congrArg some (by kernel_rfl))⟩
 f70:=⟨Tryz.f158.name,by decide,Tryz.func158.trans (congrArg some (by kernel_rfl))⟩
 f71:=⟨Tryz.f159.name,by decide,Tryz.func159.trans (congrArg some (by kernel_rfl))⟩
 f72:=⟨Tryz.f160.name,by decide,Tryz.func160.trans (congrArg some (by kernel_rfl))⟩
 f73:=⟨Tryz.f161.name,by decide,Tryz.func161.trans (congrArg some (by kernel_rfl))⟩
 f74:=⟨Tryz.f162.name,by decide,Tryz.func162.trans (congrArg some (by kernel_rfl))⟩
 f75:=⟨Tryz.f163.name,by decide,Tryz.func163.trans (congrArg some (by kernel_rfl))⟩
 f76:=⟨Tryz.f164.name,by decide,Tryz.func164.trans (congrArg some (by kernel_rfl))⟩
 f77:=⟨Tryz.f165.name,by decide,Tryz.func165.trans (congrArg some (by kernel_rfl))⟩
 f78:=Tryz.func166.trans (congrArg some (by kernel_rfl))
 f79:=Tryz.func167.trans (congrArg some (by kernel_rfl))
 f88:=⟨Tryz.f190.name,by decide,Tryz.func190.trans (congrArg some (by kernel_rfl))⟩
 f89:=Tryz.func191.trans (congrArg some (by kernel_rfl))
 f90:=Tryz.func192.trans (congrArg some (by kernel_rfl))
 f91:=⟨Tryz.f193.name,by decide,Tryz.func193.trans (congrArg some (by kernel_rfl))⟩
 f92:=⟨Tryz.f194.name,by decide,Tryz.func194.trans (congrArg some (by kernel_rfl))⟩
 f96:=⟨Tryz.f203.name,by decide,Tryz.func203.trans (congrArg some (by kernel_rfl))⟩
 t0:=Tryz.underlying0
 a0:=Tryz.isAgg0
 z0:=Tryz.sizeOf0
 v0:=Tryz.zeroValue0
 t3:=Tryz.underlying3
 a3:=Tryz.isAgg3
 z3:=Tryz.sizeOf3
 v3:=Tryz.zeroValue3
 t4:=Tryz.underlying4
 a4:=Tryz.isAgg4
 z4:=Tryz.sizeOf4
 v4:=Tryz.zeroValue4
 t5:=Tryz.underlying5
 a5:=Tryz.isAgg5
 z5:=Tryz.sizeOf5
 v5:=Tryz.zeroValue5
 t9:=Tryz.underlying9
 a9:=Tryz.isAgg9
 z9:=Tryz.sizeOf9
 v9:=Tryz.zeroValue9
 t22:=Tryz.underlying28
 a22:=Tryz.isAgg28
 z22:=Tryz.sizeOf28
 v22:=Tryz.zeroValue28
 t23:=Tryz.underlying2
 a23:=Tryz.isAgg2
 z23:=Tryz.sizeOf2
 v23:=Tryz.zeroValue2
 t44:=Tryz.underlying185
 a44:=Tryz.isAgg185
 z44:=Tryz.sizeOf185
 v44:=Tryz.zeroValue185
 t51:=Tryz.underlying205
 a51:=Tryz.isAgg205
 z51:=Tryz.sizeOf205
 v51:=Tryz.zeroValue205
 t60:=Tryz.underlying223
 a60:=Tryz.isAgg223
 z60:=Tryz.sizeOf223
 v60:=Tryz.zeroValue223
 t61:=Tryz.underlying224
 a61:=Tryz.isAgg224
 z61:=Tryz.sizeOf224
 v61:=Tryz.zeroValue224
 t67:=Tryz.underlying70
 a67:=Tryz.isAgg70
 z67:=Tryz.sizeOf70
 v67:=Tryz.zeroValue70
 t69:=Tryz.underlying172
 a69:=Tryz.isAgg172
 z69:=Tryz.sizeOf172
 v69:=Tryz.zeroValue172
 t75:=Tryz.underlying236
 a75:=Tryz.isAgg236
 z75:=Tryz.sizeOf236
 v75:=Tryz.zeroValue236
 t79:=Tryz.underlying240
 a79:=Tryz.isAgg240
 z79:=Tryz.sizeOf240
 v79:=Tryz.zeroValue240
 t83:=Tryz.underlying247
 a83:=Tryz.isAgg247
 z83:=Tryz.sizeOf247
 v83:=Tryz.zeroValue247
 t84:=Tryz.underlying248
 a84:=Tryz.isAgg248
 z84:=Tryz.sizeOf248
 v84:=Tryz.zeroValue248}
def Tryz.lSearch_ren:Go.Shelf.Ren:=⟨fun|49=>115|59=>144|60=>145|68=>130|n=>n,fun|22=>28|23=>2|3=>3|4=>4|51=>205|0=>0|n=>n,fun|n=>n⟩
theorem Tryz.lSearch:Go.Proofs.SlLaysN.n49 Tryz.prog Tryz.lSearch_ren:={
 mixed:=by kernel_rfl
 f49:=⟨Tryz.f115.name,by decide,Tryz.func115.trans (congrArg some (by kernel_rfl))⟩
 f59:=⟨Tryz.f144.name,by decide,Tryz.func144.trans (congrArg some (by kernel_rfl))⟩
 f60:=⟨Tryz.f145.name,by decide,Tryz.func145.trans (congrArg some (by kernel_rfl))⟩
 f68:=⟨Tryz.f130.name,by decide,Tryz.func130.trans (congrArg some (by kernel_rfl))⟩
 t0:=Tryz.underlying0
 a0:=Tryz.isAgg0
 z0:=Tryz.sizeOf0
 v0:=Tryz.zeroValue0
 t3:=Tryz.underlying3
 a3:=Tryz.isAgg3
 z3:=Tryz.sizeOf3
 v3:=Tryz.zeroValue3
 t4:=Tryz.underlying4
 a4:=Tryz.isAgg4
 z4:=Tryz.sizeOf4
 v4:=Tryz.zeroValue4
 t22:=Tryz.underlying28
 a22:=Tryz.isAgg28
 z22:=Tryz.sizeOf28
 v22:=Tryz.zeroValue28
 t23:=Tryz.underlying2
 a23:=Tryz.isAgg2
 z23:=Tryz.sizeOf2
 v23:=Tryz.zeroValue2
 t51:=Tryz.underlying205
 a51:=Tryz.isAgg205
 z51:=Tryz.sizeOf205
 v51:=Tryz.zeroValue205}
def Tryz.lContains_ren:Go.Shelf.Ren:=⟨fun|31=>124|29=>150|n=>n,fun|22=>28|23=>2|4=>4|3=>3|0=>0|n=>n,fun|n=>n⟩
theorem Tryz.lContains:Go.Proofs.SlLaysN.n31 Tryz.prog Tryz.lContains_ren:={
 mixed:=by kernel_rfl
 f29:=⟨Tryz.f150.name,by decide,Tryz.func150.trans (congrArg some (by kernel_rfl))⟩
 f31:=⟨Tryz.f124.name,by decide,Tryz.func124.trans (congrArg some (by kernel_rfl))⟩
 t0:=Tryz.underlying0
 a0:=Tryz.isAgg0
 z0:=Tryz.sizeOf0
 v0:=Tryz.zeroValue0
 t3:=Tryz.underlying3
 a3:=Tryz.isAgg3
 z3:=Tryz.sizeOf3
 v3:=Tryz.zeroValue3
 t4:=Tryz.underlying4
 a4:=Tryz.isAgg4
 z4:=Tryz.sizeOf4
 v4:=Tryz.zeroValue4
 t22:=Tryz.underlying28
 a22:=Tryz.isAgg28
 z22:=Tryz.sizeOf28
 v22:=Tryz.zeroValue28
 t23:=Tryz.underlying2
 a23:=Tryz.isAgg2
 z23:=Tryz.sizeOf2
 v23:=Tryz.zeroValue2}
end Go.Proofs
namespace Go.Proofs.YtdipfjmlfbdkdaaGreat
open Go.ChangeShapes Go.WideShapes Go.ChangeAt Go.RowKit
set_option linter.unusedVariables false
set_option maxHeartbeats 2000000
set_option maxRecDepth 100000
inductive CJ (E:Nat->List Nat) (ok:Nat->Prop) (a:Nat):Nat->Prop
 |here:ok a->CJ E ok a a
 |step {b c:Nat}:CJ E ok a b->c∈E b->ok c->CJ E ok a c
inductive DE (E:Nat->List Nat) (ok:Nat->Prop) (a:Nat):Nat->Nat->Prop
 |here (k:Nat):ok a->DE E ok a k a
 |step {k b c:Nat}:DE E ok a k b->c∈E b->ok c->DE E ok a (k+1) c
section
variable {E:Nat->List Nat} {ok ok':Nat->Prop} {a b c:Nat}
theorem CJ.trans(h:CJ E ok a b)(h':CJ E ok b c):CJ E ok a c:=by
 induction h' with
 |here _=>exact h
 |step _ h2 h3 ih=>exact .step ih h2 h3
theorem CJ.mono(h:CJ E ok a b)(hw:∀x,ok x->ok' x):CJ E ok' a b:=by
 induction h with
 |here h=>exact .here (hw _ h)
 |step _ h2 h3 ih=>exact .step ih h2 (hw _ h3)
theorem CJ.okb(h:CJ E ok a b):ok b:=by
 cases h with
 |here h=>exact h
 |step _ _ h=>exact h
theorem CJ.ok0(h:CJ E ok a b):ok a:=by
 induction h with
 |here h=>exact h
 |step _ _ _ ih=>exact ih
theorem CJ.lt{n:Nat}(hE:∀b,b<n->∀x∈E b,x<n)(ha:a<n)(h:CJ E ok a b):b<n:=by
 induction h with
 |here _=>exact ha
 |step _ h2 _ ih=>exact hE _ ih _ h2
theorem DE.mono{k k':Nat}(h:DE E ok a k b)(hk:k<=k'):DE E ok a k' b:=by
 induction h generalizing k' with
 |here k h=>exact .here _ h
 | step _ h2 h3 ih=>
   cases k' with
   |zero=>omega
   |succ k'=>exact .step (ih (by omega)) h2 h3
theorem DE.rch{k:Nat}(h:DE E ok a k b):CJ E ok a b:=by
 induction h with
 |here k h=>exact .here h
 |step _ h2 h3 ih=>exact .step ih h2 h3
theorem CJ.some(h:CJ E ok a b):∃k,DE E ok a k b:=by
 induction h with
 |here h=>exact⟨0,.here _ h⟩
 | step _ h2 h3 ih=>
   obtain⟨k,hk⟩:=ih;exact⟨k+1,.step hk h2 h3⟩
end
theorem JO(m:Nat)(Q:Nat->Nat->Prop)(hm:∀i k k',Q i k->k<=k'->Q i k')(P:Nat->Prop)(h:∀i,P i->∃k,Q i k):∃K,∀i,i<m->P i->Q i K:=by
 induction m with
 |zero=>exact⟨0,fun i hi=>absurd hi (Nat.not_lt_zero _)⟩
 | succ m ih=>
   obtain⟨K,hK⟩:=ih;by_cases hp:P m
   . obtain⟨k,hk⟩:=h m hp
     refine⟨max K k,fun i hi hpi=> ?_⟩;by_cases e:i=m
     . subst e
       exact hm _ _ _ hk (Nat.le_max_right _ _)
     . exact hm _ _ _ (hK i (by omega) hpi) (Nat.le_max_left _ _)
   . refine⟨K,fun i hi hpi=> ?_⟩
     by_cases e:i=m
     . subst e
       exact absurd hpi hp
     . exact hK i (by omega) hpi
theorem Om(E:Nat->List Nat)(n:Nat):∃K,∀e,e<n->∀x,x<n->CJ E (· ≠e) 0 x->DE E (· ≠e) 0 K x:=by
 have h1:∀e,∃k,∀x,x<n->CJ E (· ≠e) 0 x->DE E (· ≠e) 0 k x:=fun e=>
  JO n (fun x k=>DE E (· ≠e) 0 k x) (fun i k k' h hk=>h.mono hk) (fun x=>CJ E (· ≠e) 0 x) (fun i h=>h.some)
 obtain⟨K,hK⟩:=JO n (fun e k=>∀x,x<n->CJ E (· ≠e) 0 x->DE E (· ≠e) 0 k x) (fun i k k' h hk x hx hr=>(h x hx hr).mono hk) (fun _=>True) (fun i _=>h1 i);exact⟨K,fun e he x hx hr=>hK e he trivial x hx hr⟩
def Ca(E:Nat->List Nat)(d b:Nat):Prop:=¬CJ E (· ≠d) 0 b
inductive CV (I:Nat->Int) (d:Nat):Nat->Prop
 |here:CV I d d
 |up {b c:Nat}:b≠0->I b=(c:Int)->CV I d c->CV I d b
def Kn(I:Nat->Int)(b:Nat):Prop:=b=0\/I b≠ -1
structure J4(n:Nat)(pl:Nat->Nat)(I:Nat->Int):Prop where
 up:∀b,b<n->b≠0->I b≠ -1->∃c:Nat,I b=(c:Int)/\c<n/\pl c<pl b/\Kn I c
section
variable {n:Nat} {pl:Nat->Nat} {I J:Nat->Int} {d e b c x:Nat}
theorem CV.trans(h:CV I d c)(h':CV I c b):CV I d b:=by
 induction h' with
 |here=>exact h
 |up h1 h2 _ ih=>exact .up h1 h2 ih
theorem CV.pls(ht:J4 n pl I)(hb:b<n)(h:CV I d b):pl d<=pl b/\(d≠b->pl d<pl b)/\d<n:=by
 induction h with
 |here=>exact⟨Nat.le_refl _,fun h=>absurd rfl h,hb⟩
 | @up b c h1 h2 _ ih=>
   obtain⟨c',e,h3,h4,_⟩:=ht.up b hb h1 (by rw[h2];omega);obtain rfl:c'=c:=by omega
   obtain⟨i1,i2,i3⟩:=ih h3;exact⟨by omega,fun _=>by omega,i3⟩
theorem CV.kn(ht:J4 n pl I)(hb:b<n)(hk:Kn I b)(h:CV I d b):Kn I d:=by
 induction h with
 |here=>exact hk
 | @up b c h1 h2 _ ih=>
   obtain⟨c',e,h3,h4,h5⟩:=ht.up b hb h1 (by rw[h2];omega);obtain rfl:c'=c:=by omega
   exact ih h3 h5
theorem CV.zero(h:CV I d 0):d=0:=by
 cases h with
 |here=>rfl
 |up h1=>exact absurd rfl h1
theorem CV.cases'(h:CV I d b)(hd:d≠b):b≠0/\∃c:Nat,I b=(c:Int)/\CV I d c:=by
 cases h with
 |here=>exact absurd rfl hd
 |up h1 h2 h3=>exact⟨h1,_,h2,h3⟩
theorem CV.anti(ht:J4 n pl I)(hb:b<n)(h:CV I d b)(h':CV I b d):d=b:=by
 have h1:=h.pls ht hb;have h2:=h'.pls ht h1.2.2;by_cases e:d=b
 . exact e
 . have:=h1.2.1 e
   omega
theorem CV.turn(hI:∀y,y≠b->I y=J y)(h:CV I d x):CV J d x\/(CV J b x/\CV I b x/\CV I d b):=by
 induction h with
 |here=>exact .inl .here
 | @up x c h1 h2 h3 ih=>
   by_cases e:x=b
   . subst e
     exact .inr ⟨.here,.here,.up h1 h2 h3⟩
   . rcases ih with ih|⟨i1,i2,i3⟩
     . exact .inl (.up h1 (by rw[<-hI x e];exact h2) ih)
     . exact .inr ⟨.up h1 (by rw[<-hI x e];exact h2) i1,.up h1 h2 i2,i3⟩
end
def BD(I:Nat->Int)(a b m:Nat):Prop:=∀d,CV I d m↔CV I d a/\CV I d b
theorem BD.same(I:Nat->Int)(a:Nat):BD I a a a:=fun d=>⟨fun h=>⟨h,h⟩,fun h=>h.1⟩
theorem BD.symm{I:Nat->Int}{a b m:Nat}(h:BD I a b m):BD I b a m:=fun d=>(h d).trans And.comm
theorem BD.left{n:Nat}{pl:Nat->Nat}{I:Nat->Int}{a b m c:Nat}(ht:J4 n pl I)(hb:b<n)(hp:pl b<pl a)(ha:a≠0)(hc:I a=(c:Int))(h:BD I c b m):BD I a b m:=fun d=>by
 rw[h d];refine⟨fun q=>⟨.up ha hc q.1,q.2⟩,fun q=>⟨?_,q.2⟩⟩;by_cases e:d=a
 . subst e
   have:=(q.2.pls ht hb).1;omega
 . obtain⟨_,c',e1,e2⟩:=q.1.cases' e
   obtain rfl:c'=c:=by omega
   exact e2
def AQ(n:Nat)(I:Nat->Int)(ps:List Nat)(z:Int):Prop:=(z=-1/\∀p∈ps,¬Kn I p)\/∃m:Nat,z=(m:Int)/\m<n/\Kn I m/\(∃p∈ps,Kn I p)/\∀d,CV I d m↔∀p∈ps,Kn I p->CV I d p
structure FO(E:Nat->List Nat)(n:Nat)(pl:Nat->Nat)(I:Nat->Int):Prop where
 tree:J4 n pl I
 dom:∀x,x<n->Kn I x->∀d,Ca E d x->CV I d x
 way:∀b c:Nat,b<n->b≠0->I b=(c:Int)->CJ E (fun x=>pl c<=pl x) c b
def I9(E:Nat->List Nat)(n:Nat)(pl:Nat->Nat)(I:Nat->Int)(k j:Nat):Prop:=∀x,x<n->Kn I x->∀e,CV I e x->¬DE E (· ≠e) 0 k x/\(pl x<j->¬DE E (· ≠e) 0 (k+1) x)
theorem FO.down{E:Nat->List Nat}{n:Nat}{pl:Nat->Nat}{I:Nat->Int}(h:FO E n pl I){b x:Nat}(hx:x<n)(ha:CV I b x):CJ E (fun y=>pl b<=pl y) b x:=by
 induction ha with
 |here=>exact .here lR
 | @up x c h1 h2 h3 ih=>
   obtain⟨c',e,h4,h5,_⟩:=h.tree.up x hx h1 (by rw[h2];omega);obtain rfl:c'=c:=by omega
   have hp:=(h3.pls h.tree h4).1;exact(ih h4).trans ((h.way x c' hx h1 h2).mono fun y hy=>by omega)
theorem DE.split{E:Nat->List Nat}{e b k x:Nat}(h:DE E (· ≠e) 0 k x):DE E (· ≠b) 0 k x\/DE E (· ≠e) 0 k b:=by
 induction h with
 | here k h=>
   by_cases q:(0:Nat)=b
   . subst q;exact .inr (.here _ h)
   . exact .inl (.here _ q)
 | @step k p c h1 h2 h3 ih=>
   rcases ih with ih|ih
   . by_cases q:c=b
     . subst q;exact .inr (.step h1 h2 h3)
     . exact .inl (.step ih h2 q)
   . exact .inr (ih.mono (by omega))
def GR(E:Nat->List Nat)(n b:Nat)(ps:List Nat):Prop:=∀p,p∈ps↔p<n/\b∈E p
theorem K4{E:Nat->List Nat}{n b d:Nat}{ps:List Nat}(hps:GR E n b ps)(h:Ca E d b)(hd:d≠b):∀p∈ps,Ca E d p:=fun p hp hr=>h (.step hr ((hps p).1 hp).2 hd.symm)
theorem Ka{E:Nat->List Nat}{n b d:Nat}{ps:List Nat}(hE:∀b,b<n->∀x∈E b,x<n)(hn:0<n)(hps:GR E n b ps)(hb:b≠0)(h:∀p∈ps,Ca E d p):Ca E d b:=fun hr=>by
 cases hr with
 |here _=>exact hb rfl
 |step h1 h2 _=>exact h _ ((hps _).2 ⟨h1.lt hE hn,h2⟩) h1
structure Ce(E:Nat->List Nat)(n:Nat)(pl:Nat->Nat):Prop where
 pos:0<n
 edge:∀b,b<n->∀x∈E b,x<n
 zero:pl 0=0
 first:∀b,b<n->b≠0->0<pl b
 inj:∀a b,a<n->b<n->pl a=pl b->a=b
 par:∀b,b<n->b≠0->∃q,q<n/\b∈E q/\pl q<pl b
section
variable {E:Nat->List Nat} {n:Nat} {pl:Nat->Nat} {I J:Nat->Int} {b m k:Nat} {ps:List Nat}
theorem Gz(hP:Ce E n pl)(hD:FO E n pl I)(hb:b<n)(hb0:b≠0)(hps:GR E n b ps)(hkn:∀x,x<n->pl x<pl b->Kn I x){z:Int}(hc:AQ n I ps z):∃m:Nat,z=(m:Int)/\m<n/\Kn I m/\pl m<pl b/\∀d,CV I d m↔∀p∈ps,Kn I p->CV I d p:=by
 obtain⟨q,q1,q2,q3⟩:=hP.par b hb hb0;have qk:=hkn q q1 q3;have qp:=(hps q).2 ⟨q1,q2⟩;rcases hc with⟨_,h⟩|⟨m,h1,h2,h3,_,h4⟩
 . exact absurd qk (h q qp)
 . have:=((h4 m).1 .here q qp qk).pls hD.tree q1
   exact⟨m,h1,h2,h3,by omega,h4⟩
theorem FO.set(hP:Ce E n pl)(hD:FO E n pl I)(hb:b<n)(hb0:b≠0)(hps:GR E n b ps)(hkn:∀x,x<n->pl x<pl b->Kn I x)(hm:m<n)(hmk:Kn I m)(hml:pl m<pl b)(hmd:∀d,CV I d m↔∀p∈ps,Kn I p->CV I d p)(hJ:∀y,y≠b->I y=J y)(hJb:J b=(m:Int)):FO E n pl J/\(∀x,Kn I x->Kn J x)/\(∀x,Kn J x->x=b\/Kn I x)/\(∀d,CV I d m↔CV J d m):=by
 have hk1:∀x,Kn I x->Kn J x:=fun x h=>by
  by_cases e:x=b
  . subst e;exact .inr (by rw[hJb];omega)
  . rcases h with h|h
    . exact .inl h
    . exact .inr (by rw[<-hJ x e];exact h)
 have hk2:∀x,Kn J x->x=b\/Kn I x:=fun x h=>by
  by_cases e:x=b
  . exact .inl e
  . rcases h with h|h
    . exact .inr (.inl h)
    . exact .inr (.inr (by rw[hJ x e];exact h))
 have hT:J4 n pl J:=⟨fun x hx h0 h1=>by
  by_cases e:x=b
  . subst e
    exact⟨m,hJb,hm,hml,hk1 m hmk⟩
  . obtain⟨c,c1,c2,c3,c4⟩:=hD.tree.up x hx h0 (by rw[hJ x e];exact h1)
    exact⟨c,by rw[<-hJ x e];exact c1,c2,c3,hk1 c c4⟩⟩
 have hmm:∀d,CV I d m↔CV J d m:=fun d=>by
  constructor
  . intro h
    rcases h.turn hJ with h|⟨_,h2,_⟩
    . exact h
    . have:=(h2.pls hD.tree hm).1
      omega
  . intro h
    rcases h.turn (fun y hy=>(hJ y hy).symm)with h|⟨_,h2,_⟩
    . exact h
    . have:=(h2.pls hT hm).1
      omega
 have hdb:∀d,Ca E d b->CV J d b:=fun d hd=>by
  by_cases e:d=b
  . subst e;exact .here
  . refine .up hb0 hJb ((hmm d).1 ((hmd d).2 fun p hp hk=>hD.dom p ((hps p).1 hp).1 hk d (K4 hps hd e p hp)))
 refine⟨⟨hT,fun x hx hk d hd=> ?_,fun x c hx h0 hc=> ?_⟩,hk1,hk2,hmm⟩
 . by_cases e:x=b
   . subst e;exact hdb d hd
   . have hkI:=(hk2 x hk).resolve_left e
     rcases(hD.dom x hx hkI d hd).turn hJ with h|⟨h1,h2,h3⟩
     . exact h
     . by_cases e2:d=b
       . subst e2;exact h1
       . refine(hdb d fun hr=>hd (hr.trans ((hD.down hx h2).mono fun y hy q=> ?_))).trans h1
         subst q;have:=(h3.pls hD.tree hb).2.1 e2;omega
 . by_cases e:x=b
   . subst e
     obtain rfl:c=m:=by omega
     obtain⟨q,q1,q2,q3⟩:=hP.par x hx h0;have qa:=(hmd c).1 .here q ((hps q).2 ⟨q1,q2⟩) (hkn q q1 q3);exact .step (hD.down q1 qa) q2 (d8 hml)
   . exact hD.way x c hx h0 (by rw[hJ x e];exact hc)
theorem I9.set(hP:Ce E n pl)(hD:FO E n pl I)(hU:I9 E n pl I k (pl b))(hb:b<n)(hb0:b≠0)(hps:GR E n b ps)(hkn:∀x,x<n->pl x<pl b->Kn I x)(hall:k=0\/∀x,x<n->Kn I x)(hm:m<n)(hmk:Kn I m)(hml:pl m<pl b)(hmd:∀d,CV I d m↔∀p∈ps,Kn I p->CV I d p)(hJ:∀y,y≠b->I y=J y)(hJb:J b=(m:Int)):I9 E n pl J k (pl b+1):=by
 obtain⟨hDJ,hk1,hk2,hmm⟩:=hD.set hP hb hb0 hps hkn hm hmk hml hmd hJ hJb
 have hub:∀e,CV J e b->¬DE E (· ≠e) 0 (k+1) b:=fun e he hr=>by
  by_cases q:e=b
  . subst q
    exact hr.rch.okb rfl
  . obtain⟨_,c,c1,c2⟩:=he.cases' q
    obtain rfl:c=m:=by omega
    have hall':=(hmd e).1 ((hmm e).2 c2);cases hr with
    |here _ h=>exact hb0 rfl
    | @step _ p _ h1 h2 h3=>
      have hp:p<n:=h1.rch.lt hP.edge hP.pos
      have hpk:Kn I p:=by
       rcases hall with rfl|h
       . cases h1
         exact .inl rfl
       . exact h p hp
      exact(hU p hp hpk e (hall' p ((hps p).2 ⟨hp,h2⟩) hpk)).1 h1
 intro x hx hk e he;by_cases q:x=b
 . subst q
   exact⟨fun h=>hub e he (h.mono (by omega)),fun _=>hub e he⟩
 . have hkI:=(hk2 x hk).resolve_left q
   rcases he.turn (fun y hy=>(hJ y hy).symm)with h|⟨h1,h2,h3⟩
   . refine⟨(hU x hx hkI e h).1,fun hl=>(hU x hx hkI e h).2 ?_⟩
     by_cases e2:pl x=pl b
     . exact absurd (hP.inj x b hx hb e2) q
     . omega
   . refine⟨fun hr=> ?_,fun hl=> ?_⟩
     . rcases hr.split (b:=b)with hr|hr
       . exact(hU x hx hkI b h1).1 hr
       . exact hub e h3 (hr.mono (by omega))
     . have:=(h1.pls hD.tree hx).2.1 (Ne.symm q)
       omega
theorem PT(hP:Ce E n pl)(hD:FO E n pl I)(hall:∀x,x<n->Kn I x)(pr:Nat->List Nat)(hpr:∀b,b<n->GR E n b (pr b))(hfix:∀b,b<n->b≠0->AQ n I (pr b) (I b)){d x:Nat}(hx:x<n):CV I d x↔Ca E d x:=by
 refine⟨fun ha hr=> ?_,hD.dom x hx (hall x hx) d⟩;induction hr with
 |here h=>exact h (CV.zero ha).symm
 | @step p c h1 h2 h3 ih=>
   have hp:p<n:=h1.lt hP.edge hP.pos;obtain⟨h0,m,e1,e2⟩:=ha.cases' (Ne.symm h3);have hps:=hpr c hx;obtain⟨m',f1,_,_,_,f2⟩:=Gz hP hD hx h0 hps (fun y hy _=>hall y hy) (hfix c hx h0);obtain rfl:m'=m:=by omega
   exact ih hp ((f2 d).1 e2 p ((hps p).2 ⟨hp,h2⟩) (hall p hp))
theorem PS(hP:Ce E n pl)(hD:FO E n pl I)(hall:∀x,x<n->Kn I x)(hdom:∀x,x<n->∀d,CV I d x->Ca E d x)(hb:b<n)(hb0:b≠0)(hps:GR E n b ps){z:Int}(hc:AQ n I ps z):z=I b:=by
 obtain⟨m,h1,h2,h3,h4,h5⟩:=Gz hP hD hb hb0 hps (fun y hy _=>hall y hy) hc;obtain⟨c,c1,c2,c3,c4⟩:=hD.tree.up b hb hb0 ((hall b hb).resolve_left hb0)
 have key:∀d,CV I d m↔CV I d c:=fun d=>by
  constructor
  . intro h
    have hd:d≠b:=fun e=>by
     have:=(h.pls hD.tree h2).1;rw[e]at this;omega
    have h6:Ca E d b:=Ka hP.edge hP.pos hps hb0 fun p hp=>hdom p ((hps p).1 hp).1 d ((h5 d).1 h p hp (hall p ((hps p).1 hp).1))
    obtain⟨_,c',e1,e2⟩:=(hD.dom b hb (hall b hb) d h6).cases' hd;obtain rfl:c'=c:=by omega
    exact e2
  . intro h
    have hd:d≠b:=fun e=>by
     have:=(h.pls hD.tree c2).1;rw[e]at this;omega
    have h6:=hdom b hb d (.up hb0 c1 h);exact(h5 d).2 fun p hp hk=>hD.dom p ((hps p).1 hp).1 hk d (K4 hps h6 hd p hp)
 have:=CV.anti hD.tree c2 ((key m).1 .here) ((key c).2 .here);rw[h1,c1,this]
theorem FO.start(hI:∀y,I y=-1):FO E n pl I:=⟨⟨fun b _ _ h=>absurd (hI b) h⟩,fun x hx hk d hd=>by
 obtain rfl:x=0:=hk.resolve_right fun h=>h (hI x)
 by_cases e:d=0
 . subst e;exact .here
 . exact absurd (.here (Ne.symm e)) hd,fun b c _ _ h=>by rw[hI b]at h;omega⟩
theorem I9.start(hP:Ce E n pl)(hI:∀y,I y=-1):I9 E n pl I 0 1:=fun x hx hk e he=>by
 obtain rfl:x=0:=hk.resolve_right fun h=>h (hI x)
 obtain rfl:=he.zero;exact⟨fun h=>h.rch.ok0 rfl,fun _ h=>h.rch.ok0 rfl⟩
theorem I9.pass(hP:Ce E n pl)(hU:I9 E n pl I k n)(hpn:∀x,x<n->pl x<n):I9 E n pl I (k+1) 1:=fun x hx hk e he=>by
 refine⟨(hU x hx hk e he).2 (hpn x hx),fun hl=> ?_⟩;by_cases q:x=0
 . subst q
   obtain rfl:=he.zero;exact fun h=>h.rch.ok0 rfl
 . have:=hP.first x hx q
   omega
end
inductive Vs (E:Nat->List Nat):List Nat->List Nat->List Nat->List Nat->List Nat->Prop
 |nil (S O:List Nat):Vs E S O [] S O
 |old {S O r S' O':List Nat} {b:Nat}:b∈S->Vs E S O r S' O'->Vs E S O (b::r) S' O'
 |new {S O r S1 O1 S2 O2:List Nat} {b:Nat}:b∉S->Vs E (b::S) O (E b) S1 O1->Vs E S1 (O1++[b]) r S2 O2->Vs E S O (b::r) S2 O2
theorem Vs.one{E:Nat->List Nat}{S O r S1 O1 S2 O2:List Nat}(h:Vs E S O r S1 O1)(h':Vs E S O r S2 O2):S1=S2/\O1=O2:=by
 induction h generalizing S2 O2 with
 |nil S O=>cases h' with|nil=>exact⟨rfl,rfl⟩
 | old h1 _ ih=>
   cases h' with
   |old _ h3=>exact ih h3
   |new h3=>exact absurd h1 h3
 | new h1 _ _ ih1 ih2=>
   cases h' with
   |old h3=>exact absurd h3 h1
   | new _ h3 h4=>
     obtain⟨rfl,rfl⟩:=ih1 h3;exact ih2 h4
theorem Vs.app{E:Nat->List Nat}{S O r r' S1 O1 S2 O2:List Nat}(h:Vs E S O r S1 O1)(h':Vs E S1 O1 r' S2 O2):Vs E S O (r++r') S2 O2:=by
 induction h with
 |nil S O=>exact h'
 |old h1 _ ih=>exact .old h1 (ih h')
 |new h1 h2 _ _ ih=>exact .new h1 h2 (ih h')
structure QF(E:Nat->List Nat)(S O r S' O' N:List Nat):Prop where
 o:O'=O++N
 seen:∀x,x∈S'↔x∈S\/x∈N
 nodup:N.Nodup
 fresh:∀x∈N,x∉S
 todo:∀x∈r,x∈S'
 closed:∀x∈N,∀y∈E x,y∈S'
 par:∀x∈N,x∈r\/∃p A B C,N=A++x::B++p::C/\x∈E p
 from_:∀x∈N,∃t∈r,CJ E (· ∉S) t x
theorem Vs.told{E:Nat->List Nat}{S O r S' O':List Nat}(h:Vs E S O r S' O'):∃N,QF E S O r S' O' N:=by
 induction h with
 |nil S O=>exact⟨[],by simp,by simp,List.nodup_nil,by simp,by simp,by simp,by simp,by simp⟩
 | @old S O r S' O' b h1 _ ih=>
   obtain⟨N,t⟩:=ih;refine⟨N,t.o,t.seen,t.nodup,t.fresh,fun x hx=> ?_,t.closed,fun x hx=> ?_,fun x hx=> ?_⟩
   . rcases aa.1 hx with rfl|hx
     . exact(t.seen x).2 (.inl h1)
     . exact t.todo x hx
   . rcases t.par x hx with h|h
     . exact .inl (bK _ h)
     . exact .inr h
   . obtain⟨y,h2,h3⟩:=t.from_ x hx
     exact⟨y,bK _ h2,h3⟩
 | @new S O r S1 O1 S2 O2 b h1 _ _ ih1 ih2=>
   obtain⟨N1,t1⟩:=ih1;obtain⟨N2,t2⟩:=ih2;have hs1:∀x,x∈S1↔x=b\/x∈S\/x∈N1:=fun x=>by rw[t1.seen,aa,or_assoc]
   have hs2:∀x,x∈S2↔x=b\/x∈S\/x∈N1\/x∈N2:=fun x=>by
    rw[t2.seen,hs1];constructor
    . rintro((h|h|h)|h)
      . exact .inl h
      . exact .inr (.inl h)
      . exact .inr (.inr (.inl h))
      . exact .inr (.inr (.inr h))
    . rintro(h|h|h|h)
      . exact .inl (.inl h)
      . exact .inl (.inr (.inl h))
      . exact .inl (.inr (.inr h))
      . exact .inr h
   have hm:∀x,x∈N1++b::N2↔x=b\/x∈N1\/x∈N2:=fun x=>by
    rw[aU,aa];constructor
    . rintro(h|h|h)
      . exact .inr (.inl h)
      . exact .inl h
      . exact .inr (.inr h)
    . rintro(h|h|h)
      . exact .inr (.inl h)
      . exact .inl h
      . exact .inr (.inr h)
   refine⟨N1++b::N2,?_,fun x=> ?_,?_,fun x hx=> ?_,fun x hx=> ?_,fun x hx y hy=> ?_,fun x hx=> ?_,fun x hx=> ?_⟩
   . rw[t2.o,t1.o];simp
   . rw[hs2,hm]
     constructor
     . rintro(h|h|h)
       . exact .inr (.inl h)
       . exact .inl h
       . exact .inr (.inr h)
     . rintro(h|h|h)
       . exact .inr (.inl h)
       . exact .inl h
       . exact .inr (.inr h)
   . rw[dX]
     refine⟨t1.nodup,List.nodup_cons.2 ⟨fun h=>t2.fresh b h ((hs1 b).2 (.inl rfl)),t2.nodup⟩,fun x hx y hy e=> ?_⟩;subst e;rcases aa.1 hy with rfl|hy
     . exact t1.fresh x hx (bR ..)
     . exact t2.fresh x hy ((hs1 x).2 (.inr (.inr hx)))
   . rcases(hm x).1 hx with rfl|h|h
     . exact h1
     . exact fun q=>t1.fresh x h (bK _ q)
     . exact fun q=>t2.fresh x h ((hs1 x).2 (.inr (.inl q)))
   . rcases aa.1 hx with rfl|hx
     . exact(hs2 x).2 (.inl rfl)
     . exact t2.todo x hx
   . rcases(hm x).1 hx with rfl|h|h
     . exact(t2.seen y).2 (.inl (t1.todo y hy))
     . exact(t2.seen y).2 (.inl (t1.closed x h y hy))
     . exact t2.closed x h y hy
   . rcases(hm x).1 hx with rfl|h|h
     . exact .inl (bR ..)
     . rcases t1.par x h with q|⟨p,A,B,C,q1,q2⟩
       . obtain⟨A,B,rfl⟩:=List.append_of_mem h
         exact .inr ⟨b,A,B,N2,by simp,q⟩
       . exact .inr ⟨p,A,B,C++b::N2,by rw[q1];simp,q2⟩
     . rcases t2.par x h with q|⟨p,A,B,C,q1,q2⟩
       . exact .inl (bK _ q)
       . exact .inr ⟨p,N1++b::A,B,C,by rw[q1];simp,q2⟩
   . rcases(hm x).1 hx with rfl|h|h
     . exact⟨x,bR ..,.here h1⟩
     . obtain⟨t,q1,q2⟩:=t1.from_ x h
       have q3:CJ E (· ∉S) t x:=q2.mono fun y hy q=>hy (bK _ q)
       exact⟨b,bR ..,(CJ.step (.here h1) q1 q3.ok0).trans q3⟩
     . obtain⟨t,q1,q2⟩:=t2.from_ x h
       exact⟨t,bK _ q1,q2.mono fun y hy q=>hy ((hs1 y).2 (.inr (.inl q)))⟩
theorem QF.iff{E:Nat->List Nat}{S O r S' O' N:List Nat}(t:QF E S O r S' O' N)(x:Nat):x∈N↔∃q∈r,CJ E (· ∉S) q x:=by
 refine⟨t.from_ x,?_⟩;rintro⟨q,h1,h2⟩;induction h2 with
 |here h=>exact((t.seen _).1 (t.todo _ h1)).resolve_left h
 |step _ h3 h4 ih=>exact((t.seen _).1 (t.closed _ ih _ h3)).resolve_left h4
def Az(S:List Nat)(n:Nat):Nat:=((List.range n).filter fun i=> !S.contains i).length
theorem C7(S:List Nat)(n x:Nat)(hx:x<n)(hn:x∉S):Az (x::S) n+1=Az S n:=by
 unfold Az;induction n with
 |zero=>omega
 | succ n ih=>
   rw[cj,ce,ce,aH,aH];by_cases e:x=n
   . subst e
     have h1:(List.range x).filter (fun i=> !(x::S).contains i)=(List.range x).filter (fun i=> !S.contains i):=by
      apply List.filter_congr;intro i hi
      have:i≠x:=by
       have:=br.1 hi;omega
      simp[this]
     rw[h1];simp[hn]
   . have:=ih (by omega)
     have e2:((x::S).contains n)=S.contains n:=by
      have:¬n=x:=fun q=>e q.symm
      simp[this]
     rw[di,di,e2];simp only[d6];omega
theorem DD(n:Nat):Az [] n=n:=by
 unfold Az;simp only[List.contains_nil,Bool.not_false];rw[List.filter_eq_self.2 (fun a _=>rfl),bo]
theorem Eb(L:List Nat)(n:Nat)(hl:∀x∈L,x<n)(hd:L.Nodup):L.length+Az L n=n:=by
 induction L with
 |nil=>simp[DD]
 | cons x L ih=>
   obtain⟨h1,h2⟩:=List.nodup_cons.1 hd;have:=ih (fun y hy=>hl y (bK _ hy)) h2;have:=C7 L n x (hl x (bR ..)) h1;rw[dJ];omega
def B8(O:List Nat)(b:Nat):Nat:=O.reverse.idxOf b
theorem QX{O:List Nat}{b:Nat}(h:b∈O):B8 O b<O.length:=by
 have:b∈O.reverse:=cW.2 h;have:=dV.2 this;unfold B8;simpa using this
theorem FK{O:List Nat}{b:Nat}(h:b∈O):O.reverse[B8 O b]?=some b:=by
 have h':b∈O.reverse:=cW.2 h;have h2:=dV.2 h';unfold B8;rw[aA h2,List.getElem_idxOf]
theorem NE{O:List Nat}{a b:Nat}(ha:a∈O)(hb:b∈O)(h:B8 O a=B8 O b):a=b:=by
 have h1:=FK ha;have h2:=FK hb;rw[h,h2]at h1;exact(ae h1).symm
theorem Ol{O A B C:List Nat}{x p:Nat}(hd:O.Nodup)(h:O=A++x::B++p::C):B8 O p<B8 O x:=by
 unfold B8;subst h;have e1:(A++x::B++p::C).reverse=C.reverse++p::(B.reverse++x::A.reverse):=by simp
 have hd':(C.reverse++p::(B.reverse++x::A.reverse)).Nodup:=by rw[<-e1];exact List.pairwise_reverse.2 (hd.imp Ne.symm)
 rw[e1];obtain⟨d1,d2,d3⟩:=dX.1 hd';obtain⟨d4,d5⟩:=List.nodup_cons.1 d2;have hp:p∉C.reverse:=fun q=>d3 p q p (bR ..) rfl
 have hx:x∉C.reverse:=fun q=>d3 x q x (by simp) rfl
 have hpx:p≠x:=fun q=>d4 (by rw[q];simp)
 rw[List.idxOf_append,List.idxOf_append,bF hp,bF hx,eG,eG];have:(p==x)=false:=by simpa using hpx
 simp[this]
theorem C5{E:Nat->List Nat}{n:Nat}(hn:0<n)(hE:∀b,b<n->∀x∈E b,x<n){S O:List Nat}(h:Vs E [] [] [0] S O)(hall:∀b,b<n->b∈S):Ce E n (B8 O)/\O.Nodup/\O.length=n/\(∀x,x∈O↔x<n)/\O.reverse[0]?=some 0:=by
 obtain⟨N,t⟩:=h.told;obtain rfl:O=N:=by simpa using t.o
 have hm:∀x,x∈O↔x<n:=fun x=>by
  constructor
  . intro hx
    obtain⟨q,h1,h2⟩:=t.from_ x hx;have:q=0:=by simpa using h1
    subst this;exact h2.lt hE hn
  . intro hx
    have:=(t.seen x).1 (hall x hx);simpa using this
 have hlen:O.length=n:=by
  have h1:=Eb O n (fun x hx=>(hm x).1 hx) t.nodup
  have:Az O n=0:=by
   unfold Az;rw[List.length_eq_zero_iff,List.filter_eq_nil_iff];intro a ha;simp[(hm a).2 (List.mem_range.1 ha)]
  omega
 have hend:∃M,O=M++[0]:=by
  cases h with
  |old h1=>cases h1
  | new _ h2 h3=>
    cases h3 with
    |nil=>exact⟨_,rfl⟩
 obtain⟨M,hM⟩:=hend;have h0:O.reverse[0]?=some 0:=by rw[hM];simp
 have hz:B8 O 0=0:=by unfold B8;rw[hM];simp
 refine⟨⟨hn,hE,hz,fun b hb h0=> ?_,fun a b ha hb=>NE ((hm a).2 ha) ((hm b).2 hb),fun b hb hb0=> ?_⟩,t.nodup,hlen,hm,h0⟩
 . rcases Nat.eq_zero_or_pos (B8 O b)with e|e
   . exact absurd (NE ((hm b).2 hb) ((hm 0).2 hn) (by rw[e,hz])) h0
   . exact e
 . rcases t.par b ((hm b).2 hb)with q|⟨p,A,B,C,q1,q2⟩
   . exact absurd (by simpa using q) hb0
   . exact⟨p,(hm p).1 (by rw[q1];simp),q2,Ol t.nodup q1⟩
section
variable {E:Nat->List Nat} {n:Nat} {pl:Nat->Nat} {b c d k:Nat}
theorem Ca.self(E:Nat->List Nat)(d:Nat):Ca E d d:=fun h=>h.okb rfl
theorem Ca.of_zero(h:Ca E d 0):d=0:=by
 by_cases e:d=0
 . exact e
 . exact absurd (.here (Ne.symm e)) h
theorem Ca.zero(E:Nat->List Nat)(b:Nat):Ca E 0 b:=fun h=>h.ok0 rfl
theorem CJ.split{e x:Nat}(h:CJ E (· ≠e) 0 x):CJ E (· ≠b) 0 x\/CJ E (· ≠e) 0 b:=by
 induction h with
 | here h=>
   by_cases q:(0:Nat)=b
   . subst q;exact .inr (.here h)
   . exact .inl (.here q)
 | @step p c h1 h2 h3 ih=>
   rcases ih with ih|ih
   . by_cases q:c=b
     . subst q;exact .inr (.step h1 h2 h3)
     . exact .inl (.step ih h2 q)
   . exact .inr ih
theorem Ca.trans(h:Ca E k d)(h':Ca E d c):Ca E k c:=fun hr=>by
 rcases hr.split (b:=d)with hr|hr
 . exact h' hr
 . exact h hr
theorem Ca.way(hP:Ce E n pl)(hb:b<n)(h:Ca E d b):CJ E (fun x=>pl d<=pl x) d b/\pl d<=pl b/\(d≠b->pl d<pl b):=by
 suffices ∀m b,pl b<=m->b<n->Ca E d b->CJ E (fun x=>pl d<=pl x) d b/\pl d<=pl b/\(d≠b->pl d<pl b)from this _ b lR hb h
 intro m;induction m with
 | zero=>
   intro b h1 h2 h3;by_cases e:d=b
   . subst e;exact⟨.here lR,Nat.le_refl _,fun q=>absurd rfl q⟩
   . by_cases e0:b=0
     . subst e0;exact absurd h3.of_zero e
     . have:=hP.first b h2 e0
       omega
 | succ m ih=>
   intro b h1 h2 h3;by_cases e:d=b
   . subst e;exact⟨.here lR,Nat.le_refl _,fun q=>absurd rfl q⟩
   . by_cases e0:b=0
     . subst e0;exact absurd h3.of_zero e
     . obtain⟨q,q1,q2,q3⟩:=hP.par b h2 e0
       obtain⟨i1,i2,_⟩:=ih q (by omega) q1 fun hr=>h3 (.step hr q2 (Ne.symm e))
       exact⟨.step i1 q2 (by omega),by omega,fun _=>by omega⟩
theorem Ca.anti(hP:Ce E n pl)(hb:b<n)(hd:d<n)(h:Ca E d b)(h':Ca E b d):d=b:=by
 by_cases e:d=b
 . exact e
 . have:=(h.way hP hb).2.2 e
   have:=(h'.way hP hd).2.1;omega
def DO(E:Nat->List Nat)(b c:Nat):Prop:=c≠b/\Ca E c b/\∀d,d≠b->Ca E d b->Ca E d c
theorem DO.one(hP:Ce E n pl){c':Nat}(hc:c<n)(hc':c'<n)(h:DO E b c)(h':DO E b c'):c=c':=Ca.anti hP hc' hc (h'.2.2 c h.1 h.2.1) (h.2.2 c' h'.1 h'.2.1)
theorem QT(P:Nat->Prop)(pl:Nat->Nat)(B:Nat)(hB:∀d,P d->pl d<=B)(h:∃d,P d):∃c,P c/\∀d,P d->pl d<=pl c:=by
 obtain⟨d,hd⟩:=h;suffices ∀m d,P d->B<=pl d+m->∃c,P c/\∀d,P d->pl d<=pl c from this B d hd (by omega)
 intro m;induction m with
 | zero=>
   intro d hd h;exact⟨d,hd,fun e he=>by have:=hB e he;omega⟩
 | succ m ih=>
   intro d hd h;by_cases q:∃e,P e/\pl d<pl e
   . obtain⟨e,h1,h2⟩:=q
     exact ih e h1 (by omega)
   . exact⟨d,hd,fun e he=>by
      by_cases r:pl e<=pl d
      . exact r
      . exact absurd ⟨e,he,by omega⟩ q⟩
theorem FG(hP:Ce E n pl)(hr:∀x,x<n->CJ E (fun _=>True) 0 x)(hb:b<n)(h:Ca E d b):d<n:=by
 by_cases e:d<n
 . exact e
 . refine absurd ?_ h
   have h1:=hr b hb;clear h;induction h1 with
   |here _=>exact .here (by omega)
   | step q1 q2 q3 ih=>
     have h3:=q1.lt hP.edge hP.pos;exact .step (ih h3) q2 (by omega)
theorem Ny(hP:Ce E n pl)(hr:∀x,x<n->CJ E (fun _=>True) 0 x)(hb:b<n)(h0:b≠0):∃c,c<n/\DO E b c:=by
 obtain⟨c,⟨c1,c2⟩,c3⟩:=QT (fun d=>d≠b/\Ca E d b) pl (pl b) (fun d h=>(h.2.way hP hb).2.1) ⟨0,Ne.symm h0,Ca.zero E b⟩
 refine⟨c,FG hP hr hb c2,c1,c2,fun d d1 d2 hq=> ?_⟩;by_cases e:d=c
 . subst e
   exact hq.okb rfl
 . have hlt:pl d<pl c:=by
    have h1:=c3 d ⟨d1,d2⟩;have h2:=hP.inj d c (FG hP hr hb d2) (FG hP hr hb c2);by_cases q:pl d=pl c
    . exact absurd (h2 q) e
    . omega
   exact d2 (hq.trans (((c2.way hP hb).1).mono fun x hx q=>by subst q;omega))
end
def J6(D:Nat->Nat->Bool)(n d:Nat):Nat:=((List.range n).filter fun k=>D k d).length
theorem GU(P Q:Nat->Bool)(n c:Nat)(h:∀k,k<n->P k=true->Q k=true)(hc:c<n)(h1:P c=false)(h2:Q c=true):((List.range n).filter P).length<((List.range n).filter Q).length:=by
 have key:∀m,m<=n->((List.range m).filter P).length+(if c<m then 1 else 0)<=((List.range m).filter Q).length:=by
  intro m;induction m with
  |zero=>simp
  | succ m ih=>
    intro hm;have:=ih (by omega);rw[cj,ce,ce,aH,aH];by_cases e:m=c
    . subst e
      simp only[di,h1,h2,d6];simp at this⊢;omega
    . have hlt:(c<m+1)=(c<m):=by simp;omega
      simp only[hlt];cases hp:P m with
      | false=>
        simp only[di,hp,d6];simp only[dj,if_false,dz];omega
      | true=>
        have hq:=h m (by omega) hp;simp only[di,hp,hq,d6];simp only[if_true,dJ,dz];omega
 have:=key n lR;rw[a8 hc]at this;omega
theorem OQ{E:Nat->List Nat}{n:Nat}{pl:Nat->Nat}{D:Nat->Nat->Bool}(hP:Ce E n pl)(hD:∀d b,D d b=true↔Ca E d b){c d:Nat}(hc:c<n)(hd:d<n)(h:Ca E d c)(hne:d≠c):J6 D n d<J6 D n c:=by
 refine GU _ _ n c (fun k _ hk=>(hD k c).2 (((hD k d).1 hk).trans h)) hc ?_ ((hD c c).2 (Ca.self E c));cases q:D c d with
 |false=>rfl
 |true=>exact absurd (Ca.anti hP hc hd h ((hD c d).1 q)) hne
def BJ(D:Nat->Nat->Bool)(n b j:Nat)(best most:Int):Prop:=(best=-1/\most=-1/\∀d,d<j->¬(d≠b/\D d b=true))\/∃c:Nat,c<j/\best=(c:Int)/\most=(J6 D n c:Int)/\c≠b/\D c b=true/\∀d,d<j->d≠b->D d b=true->J6 D n d<=J6 D n c
theorem BJ.end_{E:Nat->List Nat}{n:Nat}{pl:Nat->Nat}{D:Nat->Nat->Bool}(hP:Ce E n pl)(hr:∀x,x<n->CJ E (fun _=>True) 0 x)(hD:∀d b,D d b=true↔Ca E d b){b:Nat}{best most:Int}(hb:b<n)(h:BJ D n b n best most):(b=0/\best=-1)\/b≠0/\∃c:Nat,c<n/\best=(c:Int)/\DO E b c:=by
 by_cases h0:b=0
 . subst h0
   rcases h with⟨h1,_⟩|⟨c,_,_,_,h2,h3,_⟩
   . exact .inl ⟨rfl,h1⟩
   . exact absurd ((hD c 0).1 h3).of_zero h2
 . obtain⟨c,hc,hi⟩:=Ny hP hr hb h0
   refine .inr ⟨h0,c,hc,?_,hi⟩;rcases h with⟨_,_,h1⟩|⟨d,h1,h2,_,h3,h4,h5⟩
   . exact absurd ⟨hi.1,(hD c b).2 hi.2.1⟩ (h1 c hc)
   . by_cases e:d=c
     . rw[h2,e]
     . have h6:=hi.2.2 d h3 ((hD d b).1 h4)
       have h7:=OQ hP hD hc h1 h6 e;have h8:=h5 c hc hi.1 ((hD c b).2 hi.2.1);omega
theorem BJ.start(D:Nat->Nat->Bool)(n b:Nat):BJ D n b 0 (-1) (-1):=.inl ⟨rfl,rfl,fun d hd=>by omega⟩
theorem BJ.skip{D:Nat->Nat->Bool}{n b j:Nat}{best most:Int}(h:BJ D n b j best most)(hj:¬(j≠b/\D j b=true)):BJ D n b (j+1) best most:=by
 rcases h with⟨h1,h2,h3⟩|⟨c,h1,h2,h3,h4,h5,h6⟩
 . exact .inl ⟨h1,h2,fun d hd=>by
    by_cases e:d=j
    . subst e;exact hj
    . exact h3 d (by omega)⟩
 . exact .inr ⟨c,by omega,h2,h3,h4,h5,fun d hd d1 d2=>by
    by_cases e:d=j
    . subst e;exact absurd ⟨d1,d2⟩ hj
    . exact h6 d (by omega) d1 d2⟩
theorem BJ.less{D:Nat->Nat->Bool}{n b j:Nat}{best most:Int}(h:BJ D n b j best most)(hm:(J6 D n j:Int)<=most):BJ D n b (j+1) best most:=by
 rcases h with⟨h1,h2,h3⟩|⟨c,h1,h2,h3,h4,h5,h6⟩
 . omega
 . exact .inr ⟨c,by omega,h2,h3,h4,h5,fun d hd d1 d2=>by
    by_cases e:d=j
    . subst e;omega
    . exact h6 d (by omega) d1 d2⟩
theorem BJ.more{D:Nat->Nat->Bool}{n b j:Nat}{best most:Int}(h:BJ D n b j best most)(h1:j≠b)(h2:D j b=true)(hm:most<(J6 D n j:Int)):BJ D n b (j+1) (j:Int) (J6 D n j:Int):=by
 refine .inr ⟨j,by omega,rfl,rfl,h1,h2,fun d hd d1 d2=> ?_⟩;by_cases e:d=j
 . subst e;omega
 . rcases h with⟨_,_,h3⟩|⟨c,_,_,h3,_,_,h6⟩
   . exact absurd ⟨d1,d2⟩ (h3 d (by omega))
   . have:=h6 d (by omega) d1 d2
     omega
def AV(E:Nat->List Nat)(n b:Nat):List Nat:=(List.range n).flatMap fun p=>((E p).filter fun x=>decide (x=b)).map fun _=>p
def An(E:Nat->List Nat)(D:Nat->Nat->Bool)(n h:Nat):List Nat:=(List.range n).flatMap fun p=>((E p).filter fun x=>decide (x=h)&&D h p).map fun _=>p
theorem BS(E:Nat->List Nat)(n b p:Nat):p∈AV E n b↔p<n/\b∈E p:=by
 simp only[AV,dO,br,au,da,cG];constructor
 . rintro⟨q,h1,x,⟨h2,rfl⟩,rfl⟩
   exact⟨h1,h2⟩
 . rintro⟨h1,h2⟩
   exact⟨p,h1,b,⟨h2,rfl⟩,rfl⟩
theorem EL(E:Nat->List Nat)(n b:Nat):GR E n b (AV E n b):=BS E n b
theorem Cu(E:Nat->List Nat)(D:Nat->Nat->Bool)(n h p:Nat):p∈An E D n h↔p<n/\h∈E p/\D h p=true:=by
 simp only[An,dO,br,au,da,dw,cG];constructor
 . rintro⟨q,h1,x,⟨h2,rfl,h3⟩,rfl⟩
   exact⟨h1,h2,h3⟩
 . rintro⟨h1,h2,h3⟩
   exact⟨p,h1,h,⟨h2,rfl,h3⟩,rfl⟩
def Ar(E:Nat->List Nat)(D:Nat->Nat->Bool)(n h x:Nat):Prop:=x=h\/∃t∈An E D n h,CJ (AV E n) (· ≠h) t x
structure D1(E:Nat->List Nat)(n:Nat)(bad:Nat->Nat->Prop)(b k x:Nat):Prop where
 lt:b<n
 at_:(E b)[k]?=some x
 is:bad b x
 less:∀b' k' x',b'<n->(E b')[k']?=some x'->b'<b\/(b'=b/\k'<k)->¬bad b' x'
theorem D1.one{E:Nat->List Nat}{n:Nat}{bad:Nat->Nat->Prop}{b k x b' k' x':Nat}(h:D1 E n bad b k x)(h':D1 E n bad b' k' x'):x=x':=by
 by_cases e:b=b'
 . subst e
   by_cases e2:k=k'
   . subst e2
     have h1:=h.at_;rw[h'.at_]at h1;exact(ae h1).symm
   . rcases Nat.lt_or_gt_of_ne e2 with q|q
     . exact absurd h.is (h'.less b k x h.lt h.at_ (.inr ⟨rfl,q⟩))
     . exact absurd h'.is (h.less b k' x' h'.lt h'.at_ (.inr ⟨rfl,q⟩))
 . rcases Nat.lt_or_gt_of_ne e with q|q
   . exact absurd h.is (h'.less b k x h.lt h.at_ (.inl q))
   . exact absurd h'.is (h.less b' k' x' h'.lt h'.at_ (.inl q))
def IX(O:List Nat)(D:Nat->Nat->Bool)(b x:Nat):Prop:=B8 O x<=B8 O b/\¬D x b=true
theorem BF(x:MI)(w:World):Calls Tryz.prog 74 #[.int .i64 x.op] w fun e w'=>e=.returned (.bool (AB x))/\w'=w:=by
 by_cases h1:x.op=25
 . have e:AB x=true:=by simp[AB,h1]
   rw[e,h1];go_enter Tryz.func74,Tryz.ntmps74;go_wp2
   go_ret
   exact⟨rfl,rfl⟩
 . by_cases h2:x.op=26
   . have e:AB x=true:=by simp[AB,h2]
     rw[e,h2];go_enter Tryz.func74,Tryz.ntmps74;go_wp2
     go_ret
     exact⟨rfl,rfl⟩
   . by_cases h3:x.op=27
     . have e:AB x=true:=by simp[AB,h3]
       rw[e,h3];go_enter Tryz.func74,Tryz.ntmps74;go_wp2
       go_ret
       exact⟨rfl,rfl⟩
     . have e:AB x=false:=by simp[AB,h1,h2,h3]
       have q1:(x.op==25)=false:=by simpa using h1
       have q2:(x.op==26)=false:=by simpa using h2
       have q3:(x.op==27)=false:=by simpa using h3
       rw[e];generalize x.op=op at h1 h2 h3 q1 q2 q3;go_enter Tryz.func74,Tryz.ntmps74;go_wp2
       go_ret
       exact⟨rfl,rfl⟩
theorem ME (s:Value)(xs:List MI)(w:World)(hn:xs.length<=1048576)(h:Rd w 4 s xs.length (xs.flatMap MI.cells)):
 Calls Tryz.prog 73 #[s] w fun e w'=>Aj e (Aw xs)/\w'=w:=by
 have H:Hid (Rd w 4 s xs.length (xs.flatMap MI.cells)):=h;obtain⟨a1,c1,rfl⟩:=h.is_slice;clear h;generalize hLL:xs.length=n at hn H;have HL:Hid (xs.length=n):=hLL;clear hLL;by_cases q0:n<1
 . have HN:Hid (¬Aw xs):=fun e=>by have:=e.1;rw[HL.o]at this;omega
   have q0':(n:Int)<1:=by omega
   go_enter Tryz.func73,Tryz.ntmps73;go_wp2
   go_ret
   exact⟨.no HN.o,rfl⟩
 have q0':¬(n:Int)<1:=by omega
 by_cases q1:1024<n
 . have HN:Hid (¬Aw xs):=fun e=>by have:=e.2.1;rw[HL.o]at this;omega
   have q1':(1024:Int)<(n:Int):=by omega
   go_enter Tryz.func73,Tryz.ntmps73;go_wp2
   go_ret
   exact⟨.no HN.o,rfl⟩
 have q1':¬(1024:Int)<(n:Int):=by omega
 go_enter Tryz.func73,Tryz.ntmps73;go_wp2
 go_loopw [4] (fun i wr=>∃k:Nat,k<=n/\i=.int .i64 k/\Hid (∀j,j<k->∀x,xs[j]?=some x->AB x=true->0<=x.c/\x.c<(n:Int))/\wr=w) (fun i _=>n-(intOf i).toNat)
 case atStart=>exact⟨0,by omega,rfl,fun j hj=>by omega,rfl⟩
 case round=>
  obtain⟨k,hk,rfl,HT,rfl⟩:=hrel;by_cases hlt:k<n
  . obtain ⟨x,hx⟩:∃x,xs[k]?=some x:=⟨_,aA (by rw[HL.o];exact hlt)⟩
    have HX:Hid (xs[k]?=some x):=hx;rcases H.o.2 with⟨e0,_⟩|⟨g,o,c,e1,hc1⟩
    . omega
    simp only[aF,aw]at e1;obtain⟨rfl,rfl⟩:=e1;have i0:=Rd.elem MI.cells_length hc1 k _ hx 0 _ rfl;have i3:=Rd.elem MI.cells_length hc1 k _ hx 3 _ rfl;rw[aS]at i0;clear hc1 hx;have hkL:(k:Int)<(n:Int):=by omega
    go_wp2_with fail
    refine(BF x _).mono ?_;rintro e u ⟨rfl,rfl⟩;cases hgo:AB x
    . have HN:Hid (∀j,j<k+1->∀x,xs[j]?=some x->AB x=true->0<=x.c/\x.c<(n:Int)):=fun j hj y hy hg=>by
       by_cases e:j=k
       . subst e
         rw[HX.o]at hy;cases hy
         rw[hgo]at hg;cases hg
       . exact HT.o j (by omega) y hy hg
      go_wp2
      go_roundw
      case rel=>exact⟨k+1,by omega,by go_num,HN,by trivial⟩
      case measure=>simp[intOf];omega
    . by_cases r0:x.c<0
      . have HN:Hid (¬Aw xs):=fun e=>by have:=e.2.2 k x HX.o hgo;omega
        go_wp2
        go_ret
        exact⟨.no HN.o,rfl⟩
      . by_cases r1:(n:Int)<=x.c
        . have HN:Hid (¬Aw xs):=fun e=>by have:=e.2.2 k x HX.o hgo;rw[HL.o]at this;omega
          go_wp2
          go_ret
          exact⟨.no HN.o,rfl⟩
        . have HN:Hid (∀j,j<k+1->∀x,xs[j]?=some x->AB x=true->0<=x.c/\x.c<(n:Int)):=fun j hj y hy hg=>by
           by_cases e:j=k
           . subst e
             rw[HX.o]at hy;cases hy
             omega
           . exact HT.o j (by omega) y hy hg
          go_wp2
          go_roundw
          case rel=>exact⟨k+1,by omega,by go_num,HN,by trivial⟩
          case measure=>simp[intOf];omega
  . have HY:Hid (Aw xs):=⟨by rw[HL.o];omega,by rw[HL.o];omega,fun i x hi hg=>by
     have hlt:=(aD.1 hi).1;rw[HL.o]at hlt⊢;exact HT.o i (by omega) x hi hg⟩
    go_wp2
    go_ret
    exact⟨.yes HY.o,rfl⟩
theorem Bp(x:MI)(w:World):Calls Tryz.prog 143 #[.agg #[.int .i64 x.op,.int .i64 x.a,.int .i64 x.b,.int .i64 x.c]] w fun e w'=>e=.returned (.bool (AB x))/\Below w.heap.size w w':=by
 by_cases h1:x.op=25
 . have e:AB x=true:=by simp[AB,h1]
   rw[e,h1];go_enter Tryz.func143,Tryz.ntmps143;go_wp2
   go_ret
   exact⟨rfl,(aX _ _).alloc lR _⟩
 . by_cases h2:x.op=26
   . have e:AB x=true:=by simp[AB,h2]
     rw[e,h2];go_enter Tryz.func143,Tryz.ntmps143;go_wp2
     go_ret
     exact⟨rfl,(aX _ _).alloc lR _⟩
   . by_cases h3:x.op=27
     . have e:AB x=true:=by simp[AB,h3]
       rw[e,h3];go_enter Tryz.func143,Tryz.ntmps143;go_wp2
       go_ret
       exact⟨rfl,(aX _ _).alloc lR _⟩
     . have e:AB x=false:=by simp[AB,h1,h2,h3]
       have q1:(x.op==25)=false:=by simpa using h1
       have q2:(x.op==26)=false:=by simpa using h2
       have q3:(x.op==27)=false:=by simpa using h3
       rw[e];generalize x.op=op at h1 h2 h3 q1 q2 q3;go_enter Tryz.func143,Tryz.ntmps143;go_wp2
       go_ret
       exact⟨rfl,(aX _ _).alloc lR _⟩
theorem Il(x:MI)(w:World):Calls Tryz.prog 84 #[.agg #[.int .i64 x.op,.int .i64 x.a,.int .i64 x.b,.int .i64 x.c]] w fun e w'=>e=.returned (.bool (DX x))/\Below w.heap.size w w':=by
 by_cases h1:x.op=25
 . have e:DX x=false:=by simp[DX,h1]
   rw[e,h1];go_enter Tryz.func84,Tryz.ntmps84;go_wp2
   go_ret
   exact⟨rfl,(aX _ _).alloc lR _⟩
 . by_cases h2:x.op=29
   . have e:DX x=false:=by simp[DX,h2]
     rw[e,h2];go_enter Tryz.func84,Tryz.ntmps84;go_wp2
     go_ret
     exact⟨rfl,(aX _ _).alloc lR _⟩
   . have e:DX x=true:=by simp[DX,h1,h2]
     have q1:(x.op != 25)=true:=by simpa using h1
     have q2:(x.op != 29)=true:=by simpa using h2
     rw[e];generalize x.op=op at h1 h2 q1 q2;go_enter Tryz.func84,Tryz.ntmps84;go_wp2
     go_ret
     exact⟨rfl,(aX _ _).alloc lR _⟩
theorem JF(z:Int)(c:Nat)(w:World)(hc:(c:Int)<=1048576):Calls Tryz.prog 55 #[.int .i64 z,.int .i64 (c:Int)] w fun e w'=>e=.returned (.bool (decide (0<=z/\z<(c:Int))))/\w'=w:=by
 by_cases h1:0<=z
 . by_cases h2:z<(c:Int)
   . have e:decide (0<=z/\z<(c:Int))=true:=by simp[h1,h2]
     rw[e];go_enter Tryz.func55,Tryz.ntmps55;go_wp2
     go_ret
     exact⟨rfl,rfl⟩
   . have e:decide (0<=z/\z<(c:Int))=false:=by simp[h1,h2]
     rw[e];go_enter Tryz.func55,Tryz.ntmps55;go_wp2
     go_ret
     exact⟨rfl,rfl⟩
 . have e:decide (0<=z/\z<(c:Int))=false:=by simp[h1]
   rw[e];go_enter Tryz.func55,Tryz.ntmps55;go_wp2
   go_ret
   exact⟨rfl,rfl⟩
theorem Iw:Go.Maps.Keyed Tryz.prog 2:=Go.Maps.int_keyed Tryz.underlying2
def AU(w:World)(b cnt:Nat)(D:DataW Unit):Prop:=w.ownsMap Tryz.prog 2 (unitElem (H:=Unit)) b cnt D
theorem Ek(b cnt g c:Nat)(D:DataW Unit)(z:Int)(w:World)(hz:CD z)(hcnt:cnt<=1048576)(hc:w.cell? ⟨g,0,none⟩=some (.int .i64 z))(hgb:¬g=b)(h:AU w b cnt D):
 Calls Tryz.prog 102 #[.map (some b),.slice (some ⟨g,0,none⟩) 1 c] w fun e w'=>e=.returned (.tuple #[])/\AU w' b (cnt+1) (D.put (.int .i64 z) (.agg []))/\w.grownBy w' (some b):=by
 have H:Hid (AU w b cnt D):=h;clear h;go_enter Tryz.func102,Tryz.ntmps102;go_wp2
 go_loopw [8] (fun i wr=>∃k:Nat,k<=1/\i=.int .i64 k/\((k=0/\wr=w)\/(k=1/\Hid (AU wr b (cnt+1) (D.put (.int .i64 z) (.agg []))/\w.grownBy wr (some b))))) (fun i _=>1-(intOf i).toNat)
 case atStart=>exact⟨0,by omega,rfl,.inl ⟨rfl,rfl⟩⟩
 case round=>
  obtain⟨k,hk,rfl,hh⟩:=hrel;rcases hh with⟨rfl,rfl⟩|⟨rfl,HE⟩
  . rw[show((0:Nat):Int)=0 from rfl]
    go_wp2_with (at_mapUpdate;refine wpList_mapUpdate_own _ rfl _ _ _ 174 rfl 2 201 Iw Tryz.underlying174 (unitElem (H:=Unit)) b cnt D rfl H.o (by unfold maxLen;omega) _ _ _ rfl rfl (dt Tryz.underlying2 hz) _ [] unitElem_mk ?_;intro w1 hown1 hgrow1)
    have HN:Hid (AU w1 b (cnt+1) (D.put (.int .i64 z) (.agg []))/\_):=⟨hown1,hgrow1⟩
    clear hown1 hgrow1;go_wp2
    go_roundw
    case rel=>exact⟨1,by omega,by go_num,.inr ⟨rfl,HN⟩⟩
    case measure=>simp[intOf]
  . rw[show((1:Nat):Int)=1 from rfl]
    go_wp2
    go_end0
    exact⟨rfl,HE.o.1,HE.o.2⟩
theorem LJ(g cap:Nat)(zs:List Int)(w:World)(hH:Go.Sort.Holds (Value.int .i64) w g 0 zs.toArray)(hb:g<w.heap.size)(hl:zs.length<4611686018427387904):
 Calls Tryz.prog 122 #[.slice (some ⟨g,0,none⟩) zs.length cap] w fun e w'=>e=.returned (.tuple #[])/\∃n os,w'=Go.Sort.grow (Go.Sort.putRow (Value.int .i64) (Go.Sort.ahead w n) g 0 (zs.mergeSort fun x y=>decide (x<=y)).toArray) os:=by
 have h:=AnyG.slices_Sort_int Tryz.lSort g 0 cap zs w hH hb hl;exact h
def CA(c:MC):Prop:=Db c.type=true/\(c.type=1->c.word<=1)
def AH(cs:List MC):Prop:=cs.length<=64/\∀j,j<cs.length->∀c,cs[j]?=some c->CA c
theorem BW{α:Type}{q:α->Prop}{xs:List α}{k:Nat}{x:α}(h1:xs[k]?=some x)(hx:q x)(h:∀j,j<k->∀c,xs[j]?=some c->q c):∀j,j<k+1->∀c,xs[j]?=some c->q c:=by
 intro j hj c hc;by_cases e:j=k
 . subst e
   rw[h1]at hc;exact(ae hc)▸hx
 . exact h j (by omega) c hc
theorem Ko (v:VP)(p:MP)(w:World)(hs:p.small)(h:Dg w v p):
 Calls Tryz.prog 38 #[.agg #[v.r,v.k,v.f,v.t]] w fun e w'=>Aj e (AH p.consts)/\Below w.heap.size w w':=by
 have H1:Hid (Rd w 2 v.k p.consts.length (p.consts.flatMap MC.cells)):=h.consts;have hn:=hs.consts;obtain⟨vr,vk,vf,vt⟩:=v;obtain⟨a1,c1,e1⟩:∃a c,vk=.slice a p.consts.length c:=h.consts.is_slice;subst e1;clear h hs;have HW:Hid (Below w.heap.size w (w.alloc (.cells #[vr,.slice a1 p.consts.length c1,vf,vt] 35))/\Cd (w.alloc (.cells #[vr,.slice a1 p.consts.length c1,vf,vt] 35)) w.heap.size vr (.slice a1 p.consts.length c1) vf vt):=⟨Aa _ _,Cd.new _ _ _ _ _ _⟩
 generalize hcs:p.consts=cs at*;clear hcs;generalize hLL:cs.length=n at hn H1 HW;have HL:Hid (cs.length=n):=hLL;clear hLL;go_enter Tryz.func38,Tryz.ntmps38;go_wp2
 go_loopw [3] (fun i wr=>∃k:Nat,k<=n/\i=.int .i64 k/\Hid (∀j,j<k->∀c,cs[j]?=some c->CA c)/\Hid (Below w.heap.size w wr/\Cd wr w.heap.size vr (.slice a1 n c1) vf vt)) (fun i _=>n-(intOf i).toNat)
 case atStart=>exact⟨0,by omega,rfl,fun j hj=>by omega,HW⟩
 case round =>
  clear HW;obtain⟨k,hk,rfl,HT,HW⟩:=hrel;obtain⟨p0,p1,p2,p3⟩:=HW.o.2;by_cases hlt:k<n
  . obtain ⟨x,hx⟩:∃x,cs[k]?=some x:=⟨_,aA (by rw[HL.o];exact hlt)⟩
    rcases H1.o.2 with⟨e0,_⟩|⟨b,o,c,e1,hc1⟩
    . omega
    . simp only[aF,aw]at e1
      obtain⟨rfl,rfl⟩:=e1;have i0:=Rd.elem MC.cells_length hc1 k x hx 0 _ rfl;have i1:=Rd.elem MC.cells_length hc1 k x hx 1 _ rfl;rw[<-HW.o.1.cell (aC i0),aS]at i0;rw[<-HW.o.1.cell (aC i1)]at i1;have HX:Hid (cs[k]?=some x):=hx;clear hc1 hx;have nb:¬b=wr.heap.size:=bJ (aC i0);have mb:b<wr.heap.size:=aC i0;have HW2:Hid (Below w.heap.size w (wr.alloc (.cells #[.int .i64 x.type,.int .u32 x.word] 114))/\Cd (wr.alloc (.cells #[.int .i64 x.type,.int .u32 x.word] 114)) w.heap.size vr (.slice (some ⟨b,o,none⟩) n c1) vf vt):=⟨Ab HW.o.1 lR (Aa _ _),HW.o.2.alloc _⟩
      go_wp2_with fail
      refine(CO x.type _).mono ?_;rintro e u ⟨rfl,rfl⟩;clear i0 i1 nb mb p0 p1 p2 p3;cases t1:Db x.type
      . have HN:Hid (¬AH cs):=fun e=>by have:=(e.2 k (by rw[HL.o];exact hlt) x HX.o).1;simp[t1]at this
        clear t1;go_wp2
        go_ret
        exact⟨.no HN.o,HW2.o.1⟩
      . have HT1:Hid (Db x.type=true):=t1
        clear t1;by_cases q1:x.type=1
        . rw[q1]at HW2
          by_cases q2:1<x.word
          . have HN:Hid (¬AH cs):=fun e=>by have:=(e.2 k (by rw[HL.o];exact hlt) x HX.o).2 q1;omega
            go_wp2
            go_ret
            exact⟨.no HN.o,HW2.o.1⟩
          . have HC:Hid (CA x):=⟨HT1.o,fun _=>by omega⟩
            go_wp2
            go_roundw
            case rel=>exact⟨k+1,by omega,by go_num,BW HX.o HC.o HT.o,HW2⟩
            case measure=>simp[intOf];omega
        . have q1':(x.type==1)=false:=by simpa using q1
          have HC:Hid (CA x):=⟨HT1.o,fun e=>absurd e q1⟩;go_wp2
          go_roundw
          case rel=>exact⟨k+1,by omega,by go_num,BW HX.o HC.o HT.o,HW2⟩
          case measure=>simp[intOf];omega
  . have hkn:n=k:=by omega
    subst hkn
    have HY:Hid (decide ((n:Int)<=64)=true↔AH cs):=by
     show _↔_;rw[cG];exact⟨fun e=>⟨by rw[HL.o];omega,by rw[HL.o];exact HT.o⟩,fun e=>by have:=e.1;rw[HL.o]at this;omega⟩
    go_wp2
    go_ret
    exact⟨.of HY.o,HW.o.1⟩
end Go.Proofs.YtdipfjmlfbdkdaaGreat
