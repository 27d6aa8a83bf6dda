import Derived.Test.YtjcamlobelcepaaGreatDoorCt6
import Derived.Laws.AppendOwn
namespace Go.Proofs.YtjcamlobelcepaaGreatDoor
open Go.ChangeShapes Go.WideShapes Go.ChangeAt Go.RowKit
set_option linter.unusedVariables false
set_option maxHeartbeats 4000000
set_option maxRecDepth 100000
inductive EH (E:Nat->List Nat) (ok:Nat->Prop) (a:Nat):Nat->Prop
 |here:ok a->EH E ok a a
 |step {b c:Nat}:EH E ok a b->c∈E b->ok c->EH E ok a c
inductive GW (E:Nat->List Nat) (ok:Nat->Prop) (a:Nat):Nat->Nat->Prop
 |here (k:Nat):ok a->GW E ok a k a
 |step {k b c:Nat}:GW E ok a k b->c∈E b->ok c->GW E ok a (k+1) c
section
variable {E:Nat->List Nat} {ok ok':Nat->Prop} {a b c:Nat}
theorem EH.trans(h:EH E ok a b)(h':EH E ok b c):EH E ok a c:=by
 induction h' with
 |here _=>exact h
 |step _ h2 h3 ih=>exact .step ih h2 h3
theorem EH.mono(h:EH E ok a b)(hw:∀x,ok x->ok' x):EH E ok' a b:=by
 induction h with
 |here h=>exact .here (hw _ h)
 |step _ h2 h3 ih=>exact .step ih h2 (hw _ h3)
theorem EH.okb(h:EH E ok a b):ok b:=by
 cases h with
 |here h=>exact h
 |step _ _ h=>exact h
theorem EH.ok0(h:EH E ok a b):ok a:=by
 induction h with
 |here h=>exact h
 |step _ _ _ ih=>exact ih
theorem EH.lt{n:Nat}(hE:∀b,b<n->∀x∈E b,x<n)(ha:a<n)(h:EH E ok a b):b<n:=by
 induction h with
 |here _=>exact ha
 |step _ h2 _ ih=>exact hE _ ih _ h2
theorem GW.mono{k k':Nat}(h:GW E ok a k b)(hk:k<=k'):GW E ok a k' b:=by
 induction h generalizing k' with
 |here k h=>exact .here _ h
 | step _ h2 h3 ih=>
   cases k' with
   |zero=>omega
   |succ k'=>exact .step (ih (by omega)) h2 h3
theorem GW.rch{k:Nat}(h:GW E ok a k b):EH E ok a b:=by
 induction h with
 |here k h=>exact .here h
 |step _ h2 h3 ih=>exact .step ih h2 h3
theorem EH.some(h:EH E ok a b):∃k,GW E ok a k b:=by
 induction h with
 |here h=>exact⟨0,.here _ h⟩
 | step _ h2 h3 ih=>
   obtain⟨k,hk⟩:=ih;exact⟨k+1,.step hk h2 h3⟩
end
def Fd(E:Nat->List Nat)(d b:Nat):Prop:=¬EH E (· ≠d) 0 b
inductive Fp (I:Nat->Int) (d:Nat):Nat->Prop
 |here:Fp I d d
 |up {b c:Nat}:b≠0->I b=(c:Int)->Fp I d c->Fp I d b
def Kn(I:Nat->Int)(b:Nat):Prop:=b=0\/I b≠ -1
structure Ql(n:Nat)(pl:Nat->Nat)(I:Nat->Int):Prop where
 up:∀b,b<n->b≠0->I b≠ -1->∃c:Nat,I b=(c:Int)/\c<n/\pl c<pl b/\Kn I c
section
variable {n:Nat} {pl:Nat->Nat} {I J:Nat->Int} {d e b c x:Nat}
theorem Fp.trans(h:Fp I d c)(h':Fp I c b):Fp I d b:=by
 induction h' with
 |here=>exact h
 |up h1 h2 _ ih=>exact .up h1 h2 ih
theorem Fp.pls(ht:Ql n pl I)(hb:b<n)(h:Fp I d b):pl d<=pl b/\(d≠b->pl d<pl b)/\d<n:=by
 induction h with
 |here=>exact⟨Nat.le_refl _,fun h=>absurd rfl h,hb⟩
 | @up b c h1 h2 _ ih=>
   obtain⟨c',e,h3,h4,_⟩:=ht.up b hb h1 (by rw[h2];omega);obtain rfl:c'=c:=by omega
   obtain⟨i1,i2,i3⟩:=ih h3;exact⟨by omega,fun _=>by omega,i3⟩
theorem Fp.zero(h:Fp I d 0):d=0:=by
 cases h with
 |here=>rfl
 |up h1=>exact absurd rfl h1
theorem Fp.cases'(h:Fp I d b)(hd:d≠b):b≠0/\∃c:Nat,I b=(c:Int)/\Fp I d c:=by
 cases h with
 |here=>exact absurd rfl hd
 |up h1 h2 h3=>exact⟨h1,_,h2,h3⟩
theorem Fp.anti(ht:Ql n pl I)(hb:b<n)(h:Fp I d b)(h':Fp I b d):d=b:=by
 have h1:=h.pls ht hb;have h2:=h'.pls ht h1.2.2;by_cases e:d=b
 . exact e
 . have:=h1.2.1 e
   omega
theorem Fp.turn(hI:∀y,y≠b->I y=J y)(h:Fp I d x):Fp J d x\/(Fp J b x/\Fp I b x/\Fp I d b):=by
 induction h with
 |here=>exact .inl .here
 | @up x c h1 h2 h3 ih=>
   by_cases e:x=b
   . subst e
     exact .inr ⟨.here,.here,.up h1 h2 h3⟩
   . rcases ih with ih|⟨i1,i2,i3⟩
     . exact .inl (.up h1 (by rw[<-hI x e];exact h2) ih)
     . exact .inr ⟨.up h1 (by rw[<-hI x e];exact h2) i1,.up h1 h2 i2,i3⟩
end
def Ga(I:Nat->Int)(a b m:Nat):Prop:=∀d,Fp I d m↔Fp I d a/\Fp I d b
theorem Ga.same(I:Nat->Int)(a:Nat):Ga I a a a:=fun d=>⟨fun h=>⟨h,h⟩,fun h=>h.1⟩
theorem Ga.symm{I:Nat->Int}{a b m:Nat}(h:Ga I a b m):Ga I b a m:=fun d=>(h d).trans And.comm
theorem Ga.left{n:Nat}{pl:Nat->Nat}{I:Nat->Int}{a b m c:Nat}(ht:Ql n pl I)(hb:b<n)(hp:pl b<pl a)(ha:a≠0)(hc:I a=(c:Int))(h:Ga I c b m):Ga I a b m:=fun d=>by
 rw[h d];refine⟨fun q=>⟨.up ha hc q.1,q.2⟩,fun q=>⟨?_,q.2⟩⟩;by_cases e:d=a
 . subst e
   have:=(q.2.pls ht hb).1;omega
 . obtain⟨_,c',e1,e2⟩:=q.1.cases' e
   obtain rfl:c'=c:=by omega
   exact e2
structure Me(E:Nat->List Nat)(n:Nat)(pl:Nat->Nat)(I:Nat->Int):Prop where
 tree:Ql n pl I
 dom:∀x,x<n->Kn I x->∀d,Fd E d x->Fp I d x
 way:∀b c:Nat,b<n->b≠0->I b=(c:Int)->EH E (fun x=>pl c<=pl x) c b
def Qm(E:Nat->List Nat)(n:Nat)(pl:Nat->Nat)(I:Nat->Int)(k j:Nat):Prop:=∀x,x<n->Kn I x->∀e,Fp I e x->¬GW E (· ≠e) 0 k x/\(pl x<j->¬GW E (· ≠e) 0 (k+1) x)
theorem Me.down{E:Nat->List Nat}{n:Nat}{pl:Nat->Nat}{I:Nat->Int}(h:Me E n pl I){b x:Nat}(hx:x<n)(ha:Fp I b x):EH E (fun y=>pl b<=pl y) b x:=by
 induction ha with
 |here=>exact .here lR
 | @up x c h1 h2 h3 ih=>
   obtain⟨c',e,h4,h5,_⟩:=h.tree.up x hx h1 (by rw[h2];omega);obtain rfl:c'=c:=by omega
   have hp:=(h3.pls h.tree h4).1;exact(ih h4).trans ((h.way x c' hx h1 h2).mono fun y hy=>by omega)
theorem GW.split{E:Nat->List Nat}{e b k x:Nat}(h:GW E (· ≠e) 0 k x):GW E (· ≠b) 0 k x\/GW E (· ≠e) 0 k b:=by
 induction h with
 | here k h=>
   by_cases q:(0:Nat)=b
   . subst q;exact .inr (.here _ h)
   . exact .inl (.here _ q)
 | @step k p c h1 h2 h3 ih=>
   rcases ih with ih|ih
   . by_cases q:c=b
     . subst q;exact .inr (.step h1 h2 h3)
     . exact .inl (.step ih h2 q)
   . exact .inr (ih.mono (by omega))
def Qh(E:Nat->List Nat)(n b:Nat)(ps:List Nat):Prop:=∀p,p∈ps↔p<n/\b∈E p
theorem QA{E:Nat->List Nat}{n b d:Nat}{ps:List Nat}(hps:Qh E n b ps)(h:Fd E d b)(hd:d≠b):∀p∈ps,Fd E d p:=fun p hp hr=>h (.step hr ((hps p).1 hp).2 hd.symm)
structure Gc(E:Nat->List Nat)(n:Nat)(pl:Nat->Nat):Prop where
 pos:0<n
 edge:∀b,b<n->∀x∈E b,x<n
 zero:pl 0=0
 first:∀b,b<n->b≠0->0<pl b
 inj:∀a b,a<n->b<n->pl a=pl b->a=b
 par:∀b,b<n->b≠0->∃q,q<n/\b∈E q/\pl q<pl b
section
variable {E:Nat->List Nat} {n:Nat} {pl:Nat->Nat} {I J:Nat->Int} {b m k:Nat} {ps:List Nat}
theorem Me.set(hP:Gc E n pl)(hD:Me E n pl I)(hb:b<n)(hb0:b≠0)(hps:Qh E n b ps)(hkn:∀x,x<n->pl x<pl b->Kn I x)(hm:m<n)(hmk:Kn I m)(hml:pl m<pl b)(hmd:∀d,Fp I d m↔∀p∈ps,Kn I p->Fp I d p)(hJ:∀y,y≠b->I y=J y)(hJb:J b=(m:Int)):Me E n pl J/\(∀x,Kn I x->Kn J x)/\(∀x,Kn J x->x=b\/Kn I x)/\(∀d,Fp I d m↔Fp J d m):=by
 have hk1:∀x,Kn I x->Kn J x:=fun x h=>by
  by_cases e:x=b
  . subst e;exact .inr (by rw[hJb];omega)
  . rcases h with h|h
    . exact .inl h
    . exact .inr (by rw[<-hJ x e];exact h)
 have hk2:∀x,Kn J x->x=b\/Kn I x:=fun x h=>by
  by_cases e:x=b
  . exact .inl e
  . rcases h with h|h
    . exact .inr (.inl h)
    . exact .inr (.inr (by rw[hJ x e];exact h))
 have hT:Ql n pl J:=⟨fun x hx h0 h1=>by
  by_cases e:x=b
  . subst e
    exact⟨m,hJb,hm,hml,hk1 m hmk⟩
  . obtain⟨c,c1,c2,c3,c4⟩:=hD.tree.up x hx h0 (by rw[hJ x e];exact h1)
    exact⟨c,by rw[<-hJ x e];exact c1,c2,c3,hk1 c c4⟩⟩
 have hmm:∀d,Fp I d m↔Fp J d m:=fun d=>by
  constructor
  . intro h
    rcases h.turn hJ with h|⟨_,h2,_⟩
    . exact h
    . have:=(h2.pls hD.tree hm).1
      omega
  . intro h
    rcases h.turn (fun y hy=>(hJ y hy).symm)with h|⟨_,h2,_⟩
    . exact h
    . have:=(h2.pls hT hm).1
      omega
 have hdb:∀d,Fd E d b->Fp J d b:=fun d hd=>by
  by_cases e:d=b
  . subst e;exact .here
  . refine .up hb0 hJb ((hmm d).1 ((hmd d).2 fun p hp hk=>hD.dom p ((hps p).1 hp).1 hk d (QA hps hd e p hp)))
 refine⟨⟨hT,fun x hx hk d hd=> ?_,fun x c hx h0 hc=> ?_⟩,hk1,hk2,hmm⟩
 . by_cases e:x=b
   . subst e;exact hdb d hd
   . have hkI:=(hk2 x hk).resolve_left e
     rcases(hD.dom x hx hkI d hd).turn hJ with h|⟨h1,h2,h3⟩
     . exact h
     . by_cases e2:d=b
       . subst e2;exact h1
       . refine(hdb d fun hr=>hd (hr.trans ((hD.down hx h2).mono fun y hy q=> ?_))).trans h1
         subst q;have:=(h3.pls hD.tree hb).2.1 e2;omega
 . by_cases e:x=b
   . subst e
     obtain rfl:c=m:=by omega
     obtain⟨q,q1,q2,q3⟩:=hP.par x hx h0;have qa:=(hmd c).1 .here q ((hps q).2 ⟨q1,q2⟩) (hkn q q1 q3);exact .step (hD.down q1 qa) q2 (dY hml)
   . exact hD.way x c hx h0 (by rw[hJ x e];exact hc)
theorem Qm.set(hP:Gc E n pl)(hD:Me E n pl I)(hU:Qm E n pl I k (pl b))(hb:b<n)(hb0:b≠0)(hps:Qh E n b ps)(hkn:∀x,x<n->pl x<pl b->Kn I x)(hall:k=0\/∀x,x<n->Kn I x)(hm:m<n)(hmk:Kn I m)(hml:pl m<pl b)(hmd:∀d,Fp I d m↔∀p∈ps,Kn I p->Fp I d p)(hJ:∀y,y≠b->I y=J y)(hJb:J b=(m:Int)):Qm E n pl J k (pl b+1):=by
 obtain⟨hDJ,hk1,hk2,hmm⟩:=hD.set hP hb hb0 hps hkn hm hmk hml hmd hJ hJb
 have hub:∀e,Fp J e b->¬GW E (· ≠e) 0 (k+1) b:=fun e he hr=>by
  by_cases q:e=b
  . subst q
    exact hr.rch.okb rfl
  . obtain⟨_,c,c1,c2⟩:=he.cases' q
    obtain rfl:c=m:=by omega
    have hall':=(hmd e).1 ((hmm e).2 c2);cases hr with
    |here _ h=>exact hb0 rfl
    | @step _ p _ h1 h2 h3=>
      have hp:p<n:=h1.rch.lt hP.edge hP.pos
      have hpk:Kn I p:=by
       rcases hall with rfl|h
       . cases h1
         exact .inl rfl
       . exact h p hp
      exact(hU p hp hpk e (hall' p ((hps p).2 ⟨hp,h2⟩) hpk)).1 h1
 intro x hx hk e he;by_cases q:x=b
 . subst q
   exact⟨fun h=>hub e he (h.mono (by omega)),fun _=>hub e he⟩
 . have hkI:=(hk2 x hk).resolve_left q
   rcases he.turn (fun y hy=>(hJ y hy).symm)with h|⟨h1,h2,h3⟩
   . refine⟨(hU x hx hkI e h).1,fun hl=>(hU x hx hkI e h).2 ?_⟩
     by_cases e2:pl x=pl b
     . exact absurd (hP.inj x b hx hb e2) q
     . omega
   . refine⟨fun hr=> ?_,fun hl=> ?_⟩
     . rcases hr.split (b:=b)with hr|hr
       . exact(hU x hx hkI b h1).1 hr
       . exact hub e h3 (hr.mono (by omega))
     . have:=(h1.pls hD.tree hx).2.1 (Ne.symm q)
       omega
theorem Me.start(hI:∀y,I y=-1):Me E n pl I:=⟨⟨fun b _ _ h=>absurd (hI b) h⟩,fun x hx hk d hd=>by
 obtain rfl:x=0:=hk.resolve_right fun h=>h (hI x)
 by_cases e:d=0
 . subst e;exact .here
 . exact absurd (.here (Ne.symm e)) hd,fun b c _ _ h=>by rw[hI b]at h;omega⟩
theorem Qm.start(hP:Gc E n pl)(hI:∀y,I y=-1):Qm E n pl I 0 1:=fun x hx hk e he=>by
 obtain rfl:x=0:=hk.resolve_right fun h=>h (hI x)
 obtain rfl:=he.zero;exact⟨fun h=>h.rch.ok0 rfl,fun _ h=>h.rch.ok0 rfl⟩
end
inductive Vs (E:Nat->List Nat):List Nat->List Nat->List Nat->List Nat->List Nat->Prop
 |nil (S O:List Nat):Vs E S O [] S O
 |old {S O r S' O':List Nat} {b:Nat}:b∈S->Vs E S O r S' O'->Vs E S O (b::r) S' O'
 |new {S O r S1 O1 S2 O2:List Nat} {b:Nat}:b∉S->Vs E (b::S) O (E b) S1 O1->Vs E S1 (O1++[b]) r S2 O2->Vs E S O (b::r) S2 O2
theorem Vs.one{E:Nat->List Nat}{S O r S1 O1 S2 O2:List Nat}(h:Vs E S O r S1 O1)(h':Vs E S O r S2 O2):S1=S2/\O1=O2:=by
 induction h generalizing S2 O2 with
 |nil S O=>cases h' with|nil=>exact⟨rfl,rfl⟩
 | old h1 _ ih=>
   cases h' with
   |old _ h3=>exact ih h3
   |new h3=>exact absurd h1 h3
 | new h1 _ _ ih1 ih2=>
   cases h' with
   |old h3=>exact absurd h3 h1
   | new _ h3 h4=>
     obtain⟨rfl,rfl⟩:=ih1 h3;exact ih2 h4
theorem Vs.app{E:Nat->List Nat}{S O r r' S1 O1 S2 O2:List Nat}(h:Vs E S O r S1 O1)(h':Vs E S1 O1 r' S2 O2):Vs E S O (r++r') S2 O2:=by
 induction h with
 |nil S O=>exact h'
 |old h1 _ ih=>exact .old h1 (ih h')
 |new h1 h2 _ _ ih=>exact .new h1 h2 (ih h')
structure SL(E:Nat->List Nat)(S O r S' O' N:List Nat):Prop where
 o:O'=O++N
 seen:∀x,x∈S'↔x∈S\/x∈N
 nodup:N.Nodup
 fresh:∀x∈N,x∉S
 todo:∀x∈r,x∈S'
 closed:∀x∈N,∀y∈E x,y∈S'
 par:∀x∈N,x∈r\/∃p A B C,N=A++x::B++p::C/\x∈E p
 from_:∀x∈N,∃t∈r,EH E (· ∉S) t x
theorem Vs.told{E:Nat->List Nat}{S O r S' O':List Nat}(h:Vs E S O r S' O'):∃N,SL E S O r S' O' N:=by
 induction h with
 |nil S O=>exact⟨[],by simp,by simp,List.nodup_nil,by simp,by simp,by simp,by simp,by simp⟩
 | @old S O r S' O' b h1 _ ih=>
   obtain⟨N,t⟩:=ih;refine⟨N,t.o,t.seen,t.nodup,t.fresh,fun x hx=> ?_,t.closed,fun x hx=> ?_,fun x hx=> ?_⟩
   . rcases bG.1 hx with rfl|hx
     . exact(t.seen x).2 (.inl h1)
     . exact t.todo x hx
   . rcases t.par x hx with h|h
     . exact .inl (bP _ h)
     . exact .inr h
   . obtain⟨y,h2,h3⟩:=t.from_ x hx
     exact⟨y,bP _ h2,h3⟩
 | @new S O r S1 O1 S2 O2 b h1 _ _ ih1 ih2=>
   obtain⟨N1,t1⟩:=ih1;obtain⟨N2,t2⟩:=ih2;have hs1:∀x,x∈S1↔x=b\/x∈S\/x∈N1:=fun x=>by rw[t1.seen,bG,or_assoc]
   have hs2:∀x,x∈S2↔x=b\/x∈S\/x∈N1\/x∈N2:=fun x=>by
    rw[t2.seen,hs1];constructor
    . rintro((h|h|h)|h)
      . exact .inl h
      . exact .inr (.inl h)
      . exact .inr (.inr (.inl h))
      . exact .inr (.inr (.inr h))
    . rintro(h|h|h|h)
      . exact .inl (.inl h)
      . exact .inl (.inr (.inl h))
      . exact .inl (.inr (.inr h))
      . exact .inr h
   have hm:∀x,x∈N1++b::N2↔x=b\/x∈N1\/x∈N2:=fun x=>by
    rw[ah,bG];constructor
    . rintro(h|h|h)
      . exact .inr (.inl h)
      . exact .inl h
      . exact .inr (.inr h)
    . rintro(h|h|h)
      . exact .inr (.inl h)
      . exact .inl h
      . exact .inr (.inr h)
   refine⟨N1++b::N2,?_,fun x=> ?_,?_,fun x hx=> ?_,fun x hx=> ?_,fun x hx y hy=> ?_,fun x hx=> ?_,fun x hx=> ?_⟩
   . rw[t2.o,t1.o];simp
   . rw[hs2,hm]
     constructor
     . rintro(h|h|h)
       . exact .inr (.inl h)
       . exact .inl h
       . exact .inr (.inr h)
     . rintro(h|h|h)
       . exact .inr (.inl h)
       . exact .inl h
       . exact .inr (.inr h)
   . rw[dk]
     refine⟨t1.nodup,List.nodup_cons.2 ⟨fun h=>t2.fresh b h ((hs1 b).2 (.inl rfl)),t2.nodup⟩,fun x hx y hy e=> ?_⟩;subst e;rcases bG.1 hy with rfl|hy
     . exact t1.fresh x hx (bp ..)
     . exact t2.fresh x hy ((hs1 x).2 (.inr (.inr hx)))
   . rcases(hm x).1 hx with rfl|h|h
     . exact h1
     . exact fun q=>t1.fresh x h (bP _ q)
     . exact fun q=>t2.fresh x h ((hs1 x).2 (.inr (.inl q)))
   . rcases bG.1 hx with rfl|hx
     . exact(hs2 x).2 (.inl rfl)
     . exact t2.todo x hx
   . rcases(hm x).1 hx with rfl|h|h
     . exact(t2.seen y).2 (.inl (t1.todo y hy))
     . exact(t2.seen y).2 (.inl (t1.closed x h y hy))
     . exact t2.closed x h y hy
   . rcases(hm x).1 hx with rfl|h|h
     . exact .inl (bp ..)
     . rcases t1.par x h with q|⟨p,A,B,C,q1,q2⟩
       . obtain⟨A,B,rfl⟩:=List.append_of_mem h
         exact .inr ⟨b,A,B,N2,by simp,q⟩
       . exact .inr ⟨p,A,B,C++b::N2,by rw[q1];simp,q2⟩
     . rcases t2.par x h with q|⟨p,A,B,C,q1,q2⟩
       . exact .inl (bP _ q)
       . exact .inr ⟨p,N1++b::A,B,C,by rw[q1];simp,q2⟩
   . rcases(hm x).1 hx with rfl|h|h
     . exact⟨x,bp ..,.here h1⟩
     . obtain⟨t,q1,q2⟩:=t1.from_ x h
       have q3:EH E (· ∉S) t x:=q2.mono fun y hy q=>hy (bP _ q)
       exact⟨b,bp ..,(EH.step (.here h1) q1 q3.ok0).trans q3⟩
     . obtain⟨t,q1,q2⟩:=t2.from_ x h
       exact⟨t,bP _ q1,q2.mono fun y hy q=>hy ((hs1 y).2 (.inr (.inl q)))⟩
theorem SL.iff{E:Nat->List Nat}{S O r S' O' N:List Nat}(t:SL E S O r S' O' N)(x:Nat):x∈N↔∃q∈r,EH E (· ∉S) q x:=by
 refine⟨t.from_ x,?_⟩;rintro⟨q,h1,h2⟩;induction h2 with
 |here h=>exact((t.seen _).1 (t.todo _ h1)).resolve_left h
 |step _ h3 h4 ih=>exact((t.seen _).1 (t.closed _ ih _ h3)).resolve_left h4
def Bz(S:List Nat)(n:Nat):Nat:=((List.range n).filter fun i=> !S.contains i).length
theorem Jb(S:List Nat)(n x:Nat)(hx:x<n)(hn:x∉S):Bz (x::S) n+1=Bz S n:=by
 unfold Bz;induction n with
 |zero=>omega
 | succ n ih=>
   rw[ch,cS,cS,aH,aH];by_cases e:x=n
   . subst e
     have h1:(List.range x).filter (fun i=> !(x::S).contains i)=(List.range x).filter (fun i=> !S.contains i):=by
      apply List.filter_congr;intro i hi
      have:i≠x:=by
       have:=cX.1 hi;omega
      simp[this]
     rw[h1];simp[hn]
   . have:=ih (by omega)
     have e2:((x::S).contains n)=S.contains n:=by
      have:¬n=x:=fun q=>e q.symm
      simp[this]
     rw[dH,dH,e2];simp only[dX];omega
theorem Kb(n:Nat):Bz [] n=n:=by
 unfold Bz;simp only[List.contains_nil,Bool.not_false];rw[List.filter_eq_self.2 (fun a _=>rfl),br]
theorem JZ(L:List Nat)(n:Nat)(hl:∀x∈L,x<n)(hd:L.Nodup):L.length+Bz L n=n:=by
 induction L with
 |nil=>simp[Kb]
 | cons x L ih=>
   obtain⟨h1,h2⟩:=List.nodup_cons.1 hd;have:=ih (fun y hy=>hl y (bP _ hy)) h2;have:=Jb L n x (hl x (bp ..)) h1;rw[bL];omega
def J7(O:List Nat)(b:Nat):Nat:=O.reverse.idxOf b
theorem Ou{O:List Nat}{b:Nat}(h:b∈O):O.reverse[J7 O b]?=some b:=by
 have h':b∈O.reverse:=eF.2 h;have h2:=dd.2 h';unfold J7;rw[aA h2,List.getElem_idxOf]
theorem OZ{O:List Nat}{a b:Nat}(ha:a∈O)(hb:b∈O)(h:J7 O a=J7 O b):a=b:=by
 have h1:=Ou ha;have h2:=Ou hb;rw[h,h2]at h1;exact(aZ h1).symm
theorem PQ{O A B C:List Nat}{x p:Nat}(hd:O.Nodup)(h:O=A++x::B++p::C):J7 O p<J7 O x:=by
 unfold J7;subst h;have e1:(A++x::B++p::C).reverse=C.reverse++p::(B.reverse++x::A.reverse):=by simp
 have hd':(C.reverse++p::(B.reverse++x::A.reverse)).Nodup:=by rw[<-e1];exact List.pairwise_reverse.2 (hd.imp Ne.symm)
 rw[e1];obtain⟨d1,d2,d3⟩:=dk.1 hd';obtain⟨d4,d5⟩:=List.nodup_cons.1 d2;have hp:p∉C.reverse:=fun q=>d3 p q p (bp ..) rfl
 have hx:x∉C.reverse:=fun q=>d3 x q x (by simp) rfl
 have hpx:p≠x:=fun q=>d4 (by rw[q];simp)
 rw[List.idxOf_append,List.idxOf_append,bX hp,bX hx,List.idxOf_cons,List.idxOf_cons];have:(p==x)=false:=by simpa using hpx
 simp[this]
theorem EO{E:Nat->List Nat}{n:Nat}(hn:0<n)(hE:∀b,b<n->∀x∈E b,x<n){S O:List Nat}(h:Vs E [] [] [0] S O)(hall:∀b,b<n->b∈S):Gc E n (J7 O)/\O.Nodup/\O.length=n/\(∀x,x∈O↔x<n)/\O.reverse[0]?=some 0:=by
 obtain⟨N,t⟩:=h.told;obtain rfl:O=N:=by simpa using t.o
 have hm:∀x,x∈O↔x<n:=fun x=>by
  constructor
  . intro hx
    obtain⟨q,h1,h2⟩:=t.from_ x hx;have:q=0:=by simpa using h1
    subst this;exact h2.lt hE hn
  . intro hx
    have:=(t.seen x).1 (hall x hx);simpa using this
 have hlen:O.length=n:=by
  have h1:=JZ O n (fun x hx=>(hm x).1 hx) t.nodup
  have:Bz O n=0:=by
   unfold Bz;rw[List.length_eq_zero_iff,List.filter_eq_nil_iff];intro a ha;simp[(hm a).2 (List.mem_range.1 ha)]
  omega
 have hend:∃M,O=M++[0]:=by
  cases h with
  |old h1=>cases h1
  | new _ h2 h3=>
    cases h3 with
    |nil=>exact⟨_,rfl⟩
 obtain⟨M,hM⟩:=hend;have h0:O.reverse[0]?=some 0:=by rw[hM];simp
 have hz:J7 O 0=0:=by unfold J7;rw[hM];simp
 refine⟨⟨hn,hE,hz,fun b hb h0=> ?_,fun a b ha hb=>OZ ((hm a).2 ha) ((hm b).2 hb),fun b hb hb0=> ?_⟩,t.nodup,hlen,hm,h0⟩
 . rcases Nat.eq_zero_or_pos (J7 O b)with e|e
   . exact absurd (OZ ((hm b).2 hb) ((hm 0).2 hn) (by rw[e,hz])) h0
   . exact e
 . rcases t.par b ((hm b).2 hb)with q|⟨p,A,B,C,q1,q2⟩
   . exact absurd (by simpa using q) hb0
   . exact⟨p,(hm p).1 (by rw[q1];simp),q2,PQ t.nodup q1⟩
section
variable {E:Nat->List Nat} {n:Nat} {pl:Nat->Nat} {b c d k:Nat}
theorem Fd.self(E:Nat->List Nat)(d:Nat):Fd E d d:=fun h=>h.okb rfl
theorem Fd.of_zero(h:Fd E d 0):d=0:=by
 by_cases e:d=0
 . exact e
 . exact absurd (.here (Ne.symm e)) h
theorem Fd.zero(E:Nat->List Nat)(b:Nat):Fd E 0 b:=fun h=>h.ok0 rfl
theorem EH.split{e x:Nat}(h:EH E (· ≠e) 0 x):EH E (· ≠b) 0 x\/EH E (· ≠e) 0 b:=by
 induction h with
 | here h=>
   by_cases q:(0:Nat)=b
   . subst q;exact .inr (.here h)
   . exact .inl (.here q)
 | @step p c h1 h2 h3 ih=>
   rcases ih with ih|ih
   . by_cases q:c=b
     . subst q;exact .inr (.step h1 h2 h3)
     . exact .inl (.step ih h2 q)
   . exact .inr ih
theorem Fd.trans(h:Fd E k d)(h':Fd E d c):Fd E k c:=fun hr=>by
 rcases hr.split (b:=d)with hr|hr
 . exact h' hr
 . exact h hr
theorem Fd.way(hP:Gc E n pl)(hb:b<n)(h:Fd E d b):EH E (fun x=>pl d<=pl x) d b/\pl d<=pl b/\(d≠b->pl d<pl b):=by
 suffices ∀m b,pl b<=m->b<n->Fd E d b->EH E (fun x=>pl d<=pl x) d b/\pl d<=pl b/\(d≠b->pl d<pl b)from this _ b lR hb h
 intro m;induction m with
 | zero=>
   intro b h1 h2 h3;by_cases e:d=b
   . subst e;exact⟨.here lR,Nat.le_refl _,fun q=>absurd rfl q⟩
   . by_cases e0:b=0
     . subst e0;exact absurd h3.of_zero e
     . have:=hP.first b h2 e0
       omega
 | succ m ih=>
   intro b h1 h2 h3;by_cases e:d=b
   . subst e;exact⟨.here lR,Nat.le_refl _,fun q=>absurd rfl q⟩
   . by_cases e0:b=0
     . subst e0;exact absurd h3.of_zero e
     . obtain⟨q,q1,q2,q3⟩:=hP.par b h2 e0
       obtain⟨i1,i2,_⟩:=ih q (by omega) q1 fun hr=>h3 (.step hr q2 (Ne.symm e))
       exact⟨.step i1 q2 (by omega),by omega,fun _=>by omega⟩
theorem Fd.anti(hP:Gc E n pl)(hb:b<n)(hd:d<n)(h:Fd E d b)(h':Fd E b d):d=b:=by
 by_cases e:d=b
 . exact e
 . have:=(h.way hP hb).2.2 e
   have:=(h'.way hP hd).2.1;omega
def F5(E:Nat->List Nat)(b c:Nat):Prop:=c≠b/\Fd E c b/\∀d,d≠b->Fd E d b->Fd E d c
theorem F5.one(hP:Gc E n pl){c':Nat}(hc:c<n)(hc':c'<n)(h:F5 E b c)(h':F5 E b c'):c=c':=Fd.anti hP hc' hc (h'.2.2 c h.1 h.2.1) (h.2.2 c' h'.1 h'.2.1)
theorem Tg(P:Nat->Prop)(pl:Nat->Nat)(B:Nat)(hB:∀d,P d->pl d<=B)(h:∃d,P d):∃c,P c/\∀d,P d->pl d<=pl c:=by
 obtain⟨d,hd⟩:=h;suffices ∀m d,P d->B<=pl d+m->∃c,P c/\∀d,P d->pl d<=pl c from this B d hd (by omega)
 intro m;induction m with
 | zero=>
   intro d hd h;exact⟨d,hd,fun e he=>by have:=hB e he;omega⟩
 | succ m ih=>
   intro d hd h;by_cases q:∃e,P e/\pl d<pl e
   . obtain⟨e,h1,h2⟩:=q
     exact ih e h1 (by omega)
   . exact⟨d,hd,fun e he=>by
      by_cases r:pl e<=pl d
      . exact r
      . exact absurd ⟨e,he,by omega⟩ q⟩
theorem NR(hP:Gc E n pl)(hr:∀x,x<n->EH E (fun _=>True) 0 x)(hb:b<n)(h:Fd E d b):d<n:=by
 by_cases e:d<n
 . exact e
 . refine absurd ?_ h
   have h1:=hr b hb;clear h;induction h1 with
   |here _=>exact .here (by omega)
   | step q1 q2 q3 ih=>
     have h3:=q1.lt hP.edge hP.pos;exact .step (ih h3) q2 (by omega)
theorem OP(hP:Gc E n pl)(hr:∀x,x<n->EH E (fun _=>True) 0 x)(hb:b<n)(h0:b≠0):∃c,c<n/\F5 E b c:=by
 obtain⟨c,⟨c1,c2⟩,c3⟩:=Tg (fun d=>d≠b/\Fd E d b) pl (pl b) (fun d h=>(h.2.way hP hb).2.1) ⟨0,Ne.symm h0,Fd.zero E b⟩
 refine⟨c,NR hP hr hb c2,c1,c2,fun d d1 d2 hq=> ?_⟩;by_cases e:d=c
 . subst e
   exact hq.okb rfl
 . have hlt:pl d<pl c:=by
    have h1:=c3 d ⟨d1,d2⟩;have h2:=hP.inj d c (NR hP hr hb d2) (NR hP hr hb c2);by_cases q:pl d=pl c
    . exact absurd (h2 q) e
    . omega
   exact d2 (hq.trans (((c2.way hP hb).1).mono fun x hx q=>by subst q;omega))
end
def Lz(D:Nat->Nat->Bool)(n d:Nat):Nat:=((List.range n).filter fun k=>D k d).length
theorem MM(P Q:Nat->Bool)(n c:Nat)(h:∀k,k<n->P k=true->Q k=true)(hc:c<n)(h1:P c=false)(h2:Q c=true):((List.range n).filter P).length<((List.range n).filter Q).length:=by
 have key:∀m,m<=n->((List.range m).filter P).length+(if c<m then 1 else 0)<=((List.range m).filter Q).length:=by
  intro m;induction m with
  |zero=>simp
  | succ m ih=>
    intro hm;have:=ih (by omega);rw[ch,cS,cS,aH,aH];by_cases e:m=c
    . subst e
      simp only[dH,h1,h2,dX];simp at this⊢;omega
    . have hlt:(c<m+1)=(c<m):=by simp;omega
      simp only[hlt];cases hp:P m with
      | false=>
        simp only[dH,hp,dX];simp only[dO,if_false,bc];omega
      | true=>
        have hq:=h m (by omega) hp;simp only[dH,hp,hq,dX];simp only[if_true,bL,bc];omega
 have:=key n lR;rw[bj hc]at this;omega
theorem Qw{E:Nat->List Nat}{n:Nat}{pl:Nat->Nat}{D:Nat->Nat->Bool}(hP:Gc E n pl)(hD:∀d b,D d b=true↔Fd E d b){c d:Nat}(hc:c<n)(hd:d<n)(h:Fd E d c)(hne:d≠c):Lz D n d<Lz D n c:=by
 refine MM _ _ n c (fun k _ hk=>(hD k c).2 (((hD k d).1 hk).trans h)) hc ?_ ((hD c c).2 (Fd.self E c));cases q:D c d with
 |false=>rfl
 |true=>exact absurd (Fd.anti hP hc hd h ((hD c d).1 q)) hne
def Cp(D:Nat->Nat->Bool)(n b j:Nat)(best most:Int):Prop:=(best=-1/\most=-1/\∀d,d<j->¬(d≠b/\D d b=true))\/∃c:Nat,c<j/\best=(c:Int)/\most=(Lz D n c:Int)/\c≠b/\D c b=true/\∀d,d<j->d≠b->D d b=true->Lz D n d<=Lz D n c
theorem Cp.end_{E:Nat->List Nat}{n:Nat}{pl:Nat->Nat}{D:Nat->Nat->Bool}(hP:Gc E n pl)(hr:∀x,x<n->EH E (fun _=>True) 0 x)(hD:∀d b,D d b=true↔Fd E d b){b:Nat}{best most:Int}(hb:b<n)(h:Cp D n b n best most):(b=0/\best=-1)\/b≠0/\∃c:Nat,c<n/\best=(c:Int)/\F5 E b c:=by
 by_cases h0:b=0
 . subst h0
   rcases h with⟨h1,_⟩|⟨c,_,_,_,h2,h3,_⟩
   . exact .inl ⟨rfl,h1⟩
   . exact absurd ((hD c 0).1 h3).of_zero h2
 . obtain⟨c,hc,hi⟩:=OP hP hr hb h0
   refine .inr ⟨h0,c,hc,?_,hi⟩;rcases h with⟨_,_,h1⟩|⟨d,h1,h2,_,h3,h4,h5⟩
   . exact absurd ⟨hi.1,(hD c b).2 hi.2.1⟩ (h1 c hc)
   . by_cases e:d=c
     . rw[h2,e]
     . have h6:=hi.2.2 d h3 ((hD d b).1 h4)
       have h7:=Qw hP hD hc h1 h6 e;have h8:=h5 c hc hi.1 ((hD c b).2 hi.2.1);omega
theorem Cp.start(D:Nat->Nat->Bool)(n b:Nat):Cp D n b 0 (-1) (-1):=.inl ⟨rfl,rfl,fun d hd=>by omega⟩
theorem Cp.skip{D:Nat->Nat->Bool}{n b j:Nat}{best most:Int}(h:Cp D n b j best most)(hj:¬(j≠b/\D j b=true)):Cp D n b (j+1) best most:=by
 rcases h with⟨h1,h2,h3⟩|⟨c,h1,h2,h3,h4,h5,h6⟩
 . exact .inl ⟨h1,h2,fun d hd=>by
    by_cases e:d=j
    . subst e;exact hj
    . exact h3 d (by omega)⟩
 . exact .inr ⟨c,by omega,h2,h3,h4,h5,fun d hd d1 d2=>by
    by_cases e:d=j
    . subst e;exact absurd ⟨d1,d2⟩ hj
    . exact h6 d (by omega) d1 d2⟩
theorem Cp.less{D:Nat->Nat->Bool}{n b j:Nat}{best most:Int}(h:Cp D n b j best most)(hm:(Lz D n j:Int)<=most):Cp D n b (j+1) best most:=by
 rcases h with⟨h1,h2,h3⟩|⟨c,h1,h2,h3,h4,h5,h6⟩
 . omega
 . exact .inr ⟨c,by omega,h2,h3,h4,h5,fun d hd d1 d2=>by
    by_cases e:d=j
    . subst e;omega
    . exact h6 d (by omega) d1 d2⟩
theorem Cp.more{D:Nat->Nat->Bool}{n b j:Nat}{best most:Int}(h:Cp D n b j best most)(h1:j≠b)(h2:D j b=true)(hm:most<(Lz D n j:Int)):Cp D n b (j+1) (j:Int) (Lz D n j:Int):=by
 refine .inr ⟨j,by omega,rfl,rfl,h1,h2,fun d hd d1 d2=> ?_⟩;by_cases e:d=j
 . subst e;omega
 . rcases h with⟨_,_,h3⟩|⟨c,_,_,h3,_,_,h6⟩
   . exact absurd ⟨d1,d2⟩ (h3 d (by omega))
   . have:=h6 d (by omega) d1 d2
     omega
def OM(E:Nat->List Nat)(n b:Nat):List Nat:=(List.range n).flatMap fun p=>((E p).filter fun x=>decide (x=b)).map fun _=>p
def Bg(E:Nat->List Nat)(D:Nat->Nat->Bool)(n h:Nat):List Nat:=(List.range n).flatMap fun p=>((E p).filter fun x=>decide (x=h)&&D h p).map fun _=>p
theorem K5(E:Nat->List Nat)(n b p:Nat):p∈OM E n b↔p<n/\b∈E p:=by
 simp only[OM,cG,cX,cE,dW,dE];constructor
 . rintro⟨q,h1,x,⟨h2,rfl⟩,rfl⟩
   exact⟨h1,h2⟩
 . rintro⟨h1,h2⟩
   exact⟨p,h1,b,⟨h2,rfl⟩,rfl⟩
theorem Po(E:Nat->List Nat)(D:Nat->Nat->Bool)(n h p:Nat):p∈Bg E D n h↔p<n/\h∈E p/\D h p=true:=by
 simp only[Bg,cG,cX,cE,dW,eG,dE];constructor
 . rintro⟨q,h1,x,⟨h2,rfl,h3⟩,rfl⟩
   exact⟨h1,h2,h3⟩
 . rintro⟨h1,h2,h3⟩
   exact⟨p,h1,h,⟨h2,rfl,h3⟩,rfl⟩
def Hg(E:Nat->List Nat)(D:Nat->Nat->Bool)(n h x:Nat):Prop:=x=h\/∃t∈Bg E D n h,EH (OM E n) (· ≠h) t x
structure Hu(E:Nat->List Nat)(n:Nat)(bad:Nat->Nat->Prop)(b k x:Nat):Prop where
 lt:b<n
 at_:(E b)[k]?=some x
 is:bad b x
 less:∀b' k' x',b'<n->(E b')[k']?=some x'->b'<b\/(b'=b/\k'<k)->¬bad b' x'
theorem Hu.one{E:Nat->List Nat}{n:Nat}{bad:Nat->Nat->Prop}{b k x b' k' x':Nat}(h:Hu E n bad b k x)(h':Hu E n bad b' k' x'):x=x':=by
 by_cases e:b=b'
 . subst e
   by_cases e2:k=k'
   . subst e2
     have h1:=h.at_;rw[h'.at_]at h1;exact(aZ h1).symm
   . rcases Nat.lt_or_gt_of_ne e2 with q|q
     . exact absurd h.is (h'.less b k x h.lt h.at_ (.inr ⟨rfl,q⟩))
     . exact absurd h'.is (h.less b k' x' h'.lt h'.at_ (.inr ⟨rfl,q⟩))
 . rcases Nat.lt_or_gt_of_ne e with q|q
   . exact absurd h.is (h'.less b k x h.lt h.at_ (.inl q))
   . exact absurd h'.is (h.less b' k' x' h'.lt h'.at_ (.inl q))
def Rr(O:List Nat)(D:Nat->Nat->Bool)(b x:Nat):Prop:=J7 O x<=J7 O b/\¬D x b=true
theorem Cl(x:MI)(w:World):Calls Tryz.prog 144 #[.int .i64 x.op] w fun e w'=>e=.returned (.bool (Bj x))/\w'=w:=by
 by_cases h1:x.op=25
 . have e:Bj x=true:=by simp[Bj,h1]
   rw[e,h1];go_enter Tryz.func144,Tryz.ntmps144;go_wp2
   go_ret
   exact⟨rfl,rfl⟩
 . by_cases h2:x.op=26
   . have e:Bj x=true:=by simp[Bj,h2]
     rw[e,h2];go_enter Tryz.func144,Tryz.ntmps144;go_wp2
     go_ret
     exact⟨rfl,rfl⟩
   . by_cases h3:x.op=27
     . have e:Bj x=true:=by simp[Bj,h3]
       rw[e,h3];go_enter Tryz.func144,Tryz.ntmps144;go_wp2
       go_ret
       exact⟨rfl,rfl⟩
     . have e:Bj x=false:=by simp[Bj,h1,h2,h3]
       have q1:(x.op==25)=false:=by simpa using h1
       have q2:(x.op==26)=false:=by simpa using h2
       have q3:(x.op==27)=false:=by simpa using h3
       rw[e];generalize x.op=op at h1 h2 h3 q1 q2 q3;go_enter Tryz.func144,Tryz.ntmps144;go_wp2
       go_ret
       exact⟨rfl,rfl⟩
theorem N6 (s:Value)(xs:List MI)(w:World)(hn:xs.length<=1048576)(h:Rd w 4 s xs.length (xs.flatMap MI.cells)):
 Calls Tryz.prog 143 #[s] w fun e w'=>Am e (Be xs)/\w'=w:=by
 have H:Hid (Rd w 4 s xs.length (xs.flatMap MI.cells)):=h;obtain⟨a1,c1,rfl⟩:=h.is_slice;clear h;generalize hLL:xs.length=n at hn H;have HL:Hid (xs.length=n):=hLL;clear hLL;by_cases q0:n<1
 . have HN:Hid (¬Be xs):=fun e=>by have:=e.1;rw[HL.o]at this;omega
   have q0':(n:Int)<1:=by omega
   go_enter Tryz.func143,Tryz.ntmps143;go_wp2
   go_ret
   exact⟨.no HN.o,rfl⟩
 have q0':¬(n:Int)<1:=by omega
 by_cases q1:1024<n
 . have HN:Hid (¬Be xs):=fun e=>by have:=e.2.1;rw[HL.o]at this;omega
   have q1':(1024:Int)<(n:Int):=by omega
   go_enter Tryz.func143,Tryz.ntmps143;go_wp2
   go_ret
   exact⟨.no HN.o,rfl⟩
 have q1':¬(1024:Int)<(n:Int):=by omega
 go_enter Tryz.func143,Tryz.ntmps143;go_wp2
 go_loopw [4] (fun i wr=>∃k:Nat,k<=n/\i=.int .i64 k/\Hid (∀j,j<k->∀x,xs[j]?=some x->Bj x=true->0<=x.c/\x.c<(n:Int))/\wr=w) (fun i _=>n-(intOf i).toNat)
 case atStart=>exact⟨0,by omega,rfl,fun j hj=>by omega,rfl⟩
 case round=>
  obtain⟨k,hk,rfl,HT,rfl⟩:=hrel;by_cases hlt:k<n
  . obtain ⟨x,hx⟩:∃x,xs[k]?=some x:=⟨_,aA (by rw[HL.o];exact hlt)⟩
    have HX:Hid (xs[k]?=some x):=hx;rcases H.o.2 with⟨e0,_⟩|⟨g,o,c,e1,hc1⟩
    . omega
    simp only[aI,ao]at e1;obtain⟨rfl,rfl⟩:=e1;have i0:=Rd.elem MI.cells_length hc1 k _ hx 0 _ rfl;have i3:=Rd.elem MI.cells_length hc1 k _ hx 3 _ rfl;rw[aT]at i0;clear hc1 hx;have hkL:(k:Int)<(n:Int):=by omega
    go_wp2_with fail
    refine(Cl x _).mono ?_;rintro e u ⟨rfl,rfl⟩;cases hgo:Bj x
    . have HN:Hid (∀j,j<k+1->∀x,xs[j]?=some x->Bj x=true->0<=x.c/\x.c<(n:Int)):=fun j hj y hy hg=>by
       by_cases e:j=k
       . subst e
         rw[HX.o]at hy;cases hy
         rw[hgo]at hg;cases hg
       . exact HT.o j (by omega) y hy hg
      go_wp2
      go_roundw
      case rel=>exact⟨k+1,by omega,by go_num,HN,by trivial⟩
      case measure=>simp[intOf];omega
    . by_cases r0:x.c<0
      . have HN:Hid (¬Be xs):=fun e=>by have:=e.2.2 k x HX.o hgo;omega
        go_wp2
        go_ret
        exact⟨.no HN.o,rfl⟩
      . by_cases r1:(n:Int)<=x.c
        . have HN:Hid (¬Be xs):=fun e=>by have:=e.2.2 k x HX.o hgo;rw[HL.o]at this;omega
          go_wp2
          go_ret
          exact⟨.no HN.o,rfl⟩
        . have HN:Hid (∀j,j<k+1->∀x,xs[j]?=some x->Bj x=true->0<=x.c/\x.c<(n:Int)):=fun j hj y hy hg=>by
           by_cases e:j=k
           . subst e
             rw[HX.o]at hy;cases hy
             omega
           . exact HT.o j (by omega) y hy hg
          go_wp2
          go_roundw
          case rel=>exact⟨k+1,by omega,by go_num,HN,by trivial⟩
          case measure=>simp[intOf];omega
  . have HY:Hid (Be xs):=⟨by rw[HL.o];omega,by rw[HL.o];omega,fun i x hi hg=>by
     have hlt:=(aE.1 hi).1;rw[HL.o]at hlt⊢;exact HT.o i (by omega) x hi hg⟩
    go_wp2
    go_ret
    exact⟨.yes HY.o,rfl⟩
theorem Kx(x0 x1 x2 x3:Value)(g:VF)(f:MF)(n:Nat)(z:Int)(w:World)(hs:f.small)(h:EI w g f)(hz:(f.params++f.locals)[n]?=some z):
 Calls Tryz.prog 110 #[.agg #[x0,x1,x2,x3,g.p,iZ f.result,g.l,g.c],iZ (n:Int)] w fun e w'=>e=.returned (iZ z)/\Below w.heap.size w w':=by
 obtain⟨a1,c1,e1⟩:=h.1.is_slice;obtain⟨a2,c2,e2⟩:=h.2.1.is_slice;obtain⟨vp,vl,vc⟩:=g;obtain⟨s1,s2,s3⟩:=hs;simp only[]at e1 e2;subst e1 e2;have HB:Hid (Below w.heap.size w (w.alloc (.cells #[x0,x1,x2,x3,.slice a1 f.params.length c1,iZ f.result,.slice a2 f.locals.length c2,vc] 117))):=Aa _ _;by_cases q:n<f.params.length
 . rw[bS q]at hz
   have hq:(n:Int)<(f.params.length:Int):=by omega
   rcases h.1.2 with⟨e0,_⟩|⟨gr,gor,gcr,e1,hc2⟩
   . omega
   simp only[aI,ao]at e1;obtain⟨rfl,rfl⟩:=e1;have l0:=Rd.elem Al hc2 n z hz 0 _ rfl;rw[bR,aT]at l0;have l1:=(HB.o.cell (aD l0)).trans l0;have nb:¬gr=w.heap.size:=bC (aD l0);clear h hz hc2;generalize f.params.length=N at*;generalize f.locals.length=M at*;go_enter Tryz.func110,Tryz.ntmps110;go_wp2
   go_ret
   exact⟨rfl,HB.o⟩
 . rw[bH (by omega)]at hz
   have hlt:=(aE.1 hz).1;obtain⟨d,rfl⟩:∃d,n=f.params.length+d:=⟨n-f.params.length,by omega⟩;rw[df]at hz;have hq:¬((f.params.length+d:Nat):Int)<(f.params.length:Int):=by omega
   rcases h.2.1.2 with⟨e0,_⟩|⟨gr,gor,gcr,e1,hc2⟩
   . omega
   simp only[aI,ao]at e1;obtain⟨rfl,rfl⟩:=e1;have l0:=Rd.elem Al hc2 d z hz 0 _ rfl;rw[bR,aT]at l0;have l1:=(HB.o.cell (aD l0)).trans l0;have nb:¬gr=w.heap.size:=bC (aD l0);have hd:d<f.locals.length:=by omega
   clear h hz hc2 q hlt;generalize f.params.length=N at*;generalize f.locals.length=M at*;have hsub:((N+d:Nat):Int)-(N:Int)=(d:Int):=by omega
   go_enter Tryz.func110,Tryz.ntmps110;go_wp2
   go_ret
   exact⟨rfl,HB.o⟩
theorem DI.next{α:Type}{r:EQ α}{j k kk k2:Nat}{bad bb b2:Bool}{ys:List α}{x:α}(h:DI (Bu r j) k bad ys kk bb)(hx:DI r kk bb x k2 b2):DI (Bu r (j+1)) k bad (ys++[x]) k2 b2:=by
 rcases h with⟨h1,h2,h3⟩|⟨h1,h2⟩
 . rcases hx with⟨g1,g2,g3⟩|⟨g1,g2⟩
   . exact .inl ⟨h1,g2,DR h3 g3⟩
   . rcases g2 with g2|g2
     . rw[h2]at g2;cases g2
     . exact .inr ⟨g1,.inr (DS h3 g2)⟩
 . rcases hx with⟨g1,g2,g3⟩|⟨g1,g2⟩
   . rw[h1]at g1;cases g1
   . exact .inr ⟨g1,h2.imp_right fun e=>CO e (by omega)⟩
theorem DI.upto{α:Type}{r:EQ α}{j d k kk:Nat}{bad:Bool}{ys:List α}(h:DI (Bu r j) k bad ys kk true)(hd:j<=d):DI (Bu r d) k bad ys kk true:=by
 rcases h with⟨_,h,_⟩|⟨_,h⟩
 . cases h
 . exact .inr ⟨rfl,h.imp_right fun e=>CO e hd⟩
theorem GH(w:World)(cs:List Value)(t:TypeId):∀j u,cs[j]?=some u->(w.alloc (.cells cs.toArray t)).cell? ((⟨w.heap.size,0,none⟩:Addr).add j)=some u:=fun j u hj=>by
 rw[Ds,bV,(Ap.new w cs.toArray t).cell j];simpa using hj
theorem Du{α:Type}(f:α->List Value)(ys:List α)(k:Nat):((ys.take k).flatMap f).length<=(ys.flatMap f).length:=by
 conv=>rhs;rw[<-dP k ys,a8,aH]
 omega
def FW(x:Int):List Value:=At x 1
theorem Gu(B wb:Nat)(bs:List Value)(cw:Nat)(s:Value)(ys:List Int)(base:Nat)(w:World)(h1:1<=cw)(h8:cw<=8)(hy:ys.length<=1048576)(hb:bs.length+8+(ys.flatMap FW).length<=1073741000)(hB:B<=w.heap.size)(hw:B<=wb)(h:DU B w wb bs)(hs:w.ownsRow base 2 1 s ys.length (ys.flatMap Ac)):
 Calls Tryz.prog 14 #[.pointer (some ⟨wb,0,none⟩),iZ (cw:Int),s,.func (Fn.func 15) #[.pointer (some ⟨wb,0,none⟩)] #[]] w fun e w'=>e=.returned (.tuple #[])/\DU B w' wb (bs++(At ys.length cw++ys.flatMap FW))/\Wg B w w':=by
 have H:=Af (aG h hs);obtain⟨a1,c1,e1⟩:=(Rd.of_own hs).is_slice;subst e1;generalize hLL:ys.length=n at hy H⊢;have HL:=Af hLL;go_enter Tryz.func14,Tryz.ntmps14;go_wp2_with fail
 refine(A4 B wb bs (n:Int) cw _ h1 h8 (by omega) hB hw H.o.1).mono ?_;rintro e u1 ⟨rfl,hW,hG⟩;have K:=Af (aG hW hG);go_wp2
 go_loopw [17] (fun i wr=>∃k:Nat,k<=n/\i=iZ k/\Hid (DU B wr wb (bs++At n cw++(ys.take k).flatMap FW)/\Wg B w wr)) (fun i _=>n-(intOf i).toNat)
 case atStart=>exact⟨0,by omega,rfl,⟨by simpa using K.o.1,K.o.2⟩⟩
 case round=>
  obtain⟨k,hk,rfl,HI⟩:=hrel;by_cases hlt:k<n
  . obtain⟨x,hx⟩:∃x,ys[k]?=some x:=⟨_,aA (by rw[HL.o];exact hlt)⟩
    have hnx:bs++At n cw++(ys.take (k+1)).flatMap FW=bs++At n cw++(ys.take k).flatMap FW++FW x:=by
     obtain⟨hlt',rfl⟩:=aE.1 hx;rw[aj hlt',a8,<-a6];simp
    have hlen:(bs++At n cw++(ys.take k).flatMap FW).length<=1073741000:=by
     have:=Du FW ys k;simp only[aH,Av];omega
    rcases(Rd.of_own H.o.2).2 with⟨e0,_⟩|⟨g,o,c,e1,hc1⟩
    . omega
    simp only[aI,ao]at e1;obtain⟨rfl,rfl⟩:=e1;have hrow:=Rd.of_own (HI.o.2.own H.o.2 (by decide) (by decide));rcases hrow.2 with⟨e0,_⟩|⟨g',o',c',e1,hc2⟩
    . omega
    simp only[aI,aM,cN,ao,cj]at e1;obtain⟨⟨rfl,rfl⟩,rfl⟩:=e1;have j0:=Rd.elem Al hc2 k x hx 0 _ rfl;rw[bR,aT]at j0;have HX:=Af (aG hx hnx);go_wp2_with fail
    refine(Fb B wb _ x _ HI.o.1 hlen (aR hB HI.o.2.size) hw).mono ?_;rintro e u ⟨rfl,hW,hG⟩;have HN:Hid (DU B u wb (bs++At n cw++(ys.take (k+1)).flatMap FW)/\Wg B w u):=⟨by rw[HX.o.2];exact hW,HI.o.2.trans hG⟩
    go_wp2
    go_roundw
    case rel=>exact⟨k+1,by omega,by go_num,HN⟩
    case measure=>simp[intOf];omega
  . have hkn:k=n:=by omega
    subst hkn
    have HE:Hid (DU B wr wb (bs++(At k cw++ys.flatMap FW))/\Wg B w wr):=by
     refine⟨?_,HI.o.2⟩;have:=HI.o.1;rw[<-HL.o,List.take_length,HL.o,a6]at this;exact this
    go_wp2
    go_end0
    exact⟨rfl,HE.o.1,HE.o.2⟩
theorem KA(B wb:Nat)(bs:List Value)(cw:Nat)(s:Value)(ys:List MI)(base:Nat)(w:World)(h1:1<=cw)(h8:cw<=8)(hy:ys.length<=1048576)(hb:bs.length+8+(ys.flatMap Bf).length<=1073741000)(hB:B<=w.heap.size)(hw:B<=wb)(h:DU B w wb bs)(hs:w.ownsRow base 97 4 s ys.length (ys.flatMap MI.cells)):
 Calls Tryz.prog 46 #[.pointer (some ⟨wb,0,none⟩),iZ (cw:Int),s,.func (Fn.func 47) #[.pointer (some ⟨wb,0,none⟩)] #[]] w fun e w'=>e=.returned (.tuple #[])/\DU B w' wb (bs++(At ys.length cw++ys.flatMap Bf))/\Wg B w w':=by
 have H:=Af (aG h hs);obtain⟨a1,c1,e1⟩:=(Rd.of_own hs).is_slice;subst e1;generalize hLL:ys.length=n at hy H⊢;have HL:=Af hLL;go_enter Tryz.func46,Tryz.ntmps46;go_wp2_with fail
 refine(A4 B wb bs (n:Int) cw _ h1 h8 (by omega) hB hw H.o.1).mono ?_;rintro e u1 ⟨rfl,hW,hG⟩;have K:=Af (aG hW hG);go_wp2
 go_loopw [17] (fun i wr=>∃k:Nat,k<=n/\i=iZ k/\Hid (DU B wr wb (bs++At n cw++(ys.take k).flatMap Bf)/\Wg B w wr)) (fun i _=>n-(intOf i).toNat)
 case atStart=>exact⟨0,by omega,rfl,⟨by simpa using K.o.1,K.o.2⟩⟩
 case round=>
  obtain⟨k,hk,rfl,HI⟩:=hrel;by_cases hlt:k<n
  . obtain⟨x,hx⟩:∃x,ys[k]?=some x:=⟨_,aA (by rw[HL.o];exact hlt)⟩
    have hnx:bs++At n cw++(ys.take (k+1)).flatMap Bf=bs++At n cw++(ys.take k).flatMap Bf++Bf x:=by
     obtain⟨hlt',rfl⟩:=aE.1 hx;rw[aj hlt',a8,<-a6];simp
    have hlen:(bs++At n cw++(ys.take k).flatMap Bf).length<=1073741000:=by
     have:=Du Bf ys k;simp only[aH,Av];omega
    rcases(Rd.of_own H.o.2).2 with⟨e0,_⟩|⟨g,o,c,e1,hc1⟩
    . omega
    simp only[aI,ao]at e1;obtain⟨rfl,rfl⟩:=e1;have hrow:=Rd.of_own (HI.o.2.own H.o.2 (by decide) (by decide));rcases hrow.2 with⟨e0,_⟩|⟨g',o',c',e1,hc2⟩
    . omega
    simp only[aI,aM,cN,ao,cj]at e1;obtain⟨⟨rfl,rfl⟩,rfl⟩:=e1;have j0:=Rd.elem MI.cells_length hc2 k x hx 0 _ rfl;have j1:=Rd.elem MI.cells_length hc2 k x hx 1 _ rfl;have j2:=Rd.elem MI.cells_length hc2 k x hx 2 _ rfl;have j3:=Rd.elem MI.cells_length hc2 k x hx 3 _ rfl;rw[aT]at j0;have HX:=Af (aG hx hnx);have nb:¬g=wr.heap.size:=bC (aD j0);have mb:g<wr.heap.size:=aD j0;have HA:Hid (DU B (wr.alloc (.cells #[iZ x.op,iZ x.a,iZ x.b,iZ x.c] 97)) wb (bs++At n cw++(ys.take k).flatMap Bf)/\Wg B w (wr.alloc (.cells #[iZ x.op,iZ x.a,iZ x.b,iZ x.c] 97))):=⟨HI.o.1.call (Aa _ _),HI.o.2.trans (Wg.of_below (Aa _ _) (aR hB HI.o.2.size))⟩
    go_wp2_with fail
    refine(OC B wb _ x _ HA.o.1 hlen (aR hB HA.o.2.size) hw).mono ?_;rintro e u ⟨rfl,hW,hG⟩;have HN:Hid (DU B u wb (bs++At n cw++(ys.take (k+1)).flatMap Bf)/\Wg B w u):=⟨by rw[HX.o.2];exact hW,HA.o.2.trans hG⟩
    go_wp2
    go_roundw
    case rel=>exact⟨k+1,by omega,by go_num,HN⟩
    case measure=>simp[intOf];omega
  . have hkn:k=n:=by omega
    subst hkn
    have HE:Hid (DU B wr wb (bs++(At k cw++ys.flatMap Bf))/\Wg B w wr):=by
     refine⟨?_,HI.o.2⟩;have:=HI.o.1;rw[<-HL.o,List.take_length,HL.o,a6]at this;exact this
    go_wp2
    go_end0
    exact⟨rfl,HE.o.1,HE.o.2⟩
theorem Kz(B wb:Nat)(bs:List Value)(cw:Nat)(s:Value)(ys:List MC)(base:Nat)(w:World)(h1:1<=cw)(h8:cw<=8)(hy:ys.length<=1048576)(hb:bs.length+8+(ys.flatMap AY).length<=1073741000)(hB:B<=w.heap.size)(hw:B<=wb)(hr:∀x∈ys,0<=x.word/\x.word<=4294967295)(h:DU B w wb bs)(hs:w.ownsRow base 53 2 s ys.length (ys.flatMap MC.cells)):
 Calls Tryz.prog 16 #[.pointer (some ⟨wb,0,none⟩),iZ (cw:Int),s,.func (Fn.func 17) #[.pointer (some ⟨wb,0,none⟩)] #[]] w fun e w'=>e=.returned (.tuple #[])/\DU B w' wb (bs++(At ys.length cw++ys.flatMap AY))/\Wg B w w':=by
 have H:=Af (aG h hs);have HR:=Af hr;obtain⟨a1,c1,e1⟩:=(Rd.of_own hs).is_slice;subst e1;generalize hLL:ys.length=n at hy H⊢;have HL:=Af hLL;go_enter Tryz.func16,Tryz.ntmps16;go_wp2_with fail
 refine(A4 B wb bs (n:Int) cw _ h1 h8 (by omega) hB hw H.o.1).mono ?_;rintro e u1 ⟨rfl,hW,hG⟩;have K:=Af (aG hW hG);go_wp2
 go_loopw [17] (fun i wr=>∃k:Nat,k<=n/\i=iZ k/\Hid (DU B wr wb (bs++At n cw++(ys.take k).flatMap AY)/\Wg B w wr)) (fun i _=>n-(intOf i).toNat)
 case atStart=>exact⟨0,by omega,rfl,⟨by simpa using K.o.1,K.o.2⟩⟩
 case round=>
  obtain⟨k,hk,rfl,HI⟩:=hrel;by_cases hlt:k<n
  . obtain⟨x,hx⟩:∃x,ys[k]?=some x:=⟨_,aA (by rw[HL.o];exact hlt)⟩
    have hnx:bs++At n cw++(ys.take (k+1)).flatMap AY=bs++At n cw++(ys.take k).flatMap AY++AY x:=by
     obtain⟨hlt',rfl⟩:=aE.1 hx;rw[aj hlt',a8,<-a6];simp
    have hlen:(bs++At n cw++(ys.take k).flatMap AY).length<=1073741000:=by
     have:=Du AY ys k;simp only[aH,Av];omega
    rcases(Rd.of_own H.o.2).2 with⟨e0,_⟩|⟨g,o,c,e1,hc1⟩
    . omega
    simp only[aI,ao]at e1;obtain⟨rfl,rfl⟩:=e1;have hrow:=Rd.of_own (HI.o.2.own H.o.2 (by decide) (by decide));rcases hrow.2 with⟨e0,_⟩|⟨g',o',c',e1,hc2⟩
    . omega
    simp only[aI,aM,cN,ao,cj]at e1;obtain⟨⟨rfl,rfl⟩,rfl⟩:=e1;have j0:=Rd.elem MC.cells_length hc2 k x hx 0 _ rfl;have j1:=Rd.elem MC.cells_length hc2 k x hx 1 _ rfl;rw[aT]at j0;have HX:=Af (aG hx hnx);have nb:¬g=wr.heap.size:=bC (aD j0);have mb:g<wr.heap.size:=aD j0;have HA:Hid (DU B (wr.alloc (.cells #[iZ x.type,.int .u32 x.word] 53)) wb (bs++At n cw++(ys.take k).flatMap AY)/\Wg B w (wr.alloc (.cells #[iZ x.type,.int .u32 x.word] 53))):=⟨HI.o.1.call (Aa _ _),HI.o.2.trans (Wg.of_below (Aa _ _) (aR hB HI.o.2.size))⟩
    go_wp2_with fail
    refine(Oz B wb _ x _ HA.o.1 hlen (aR hB HA.o.2.size) hw (HR.o x (aF HX.o.1)).1 (HR.o x (aF HX.o.1)).2).mono ?_;rintro e u ⟨rfl,hW,hG⟩;have HN:Hid (DU B u wb (bs++At n cw++(ys.take (k+1)).flatMap AY)/\Wg B w u):=⟨by rw[HX.o.2];exact hW,HA.o.2.trans hG⟩
    go_wp2
    go_roundw
    case rel=>exact⟨k+1,by omega,by go_num,HN⟩
    case measure=>simp[intOf];omega
  . have hkn:k=n:=by omega
    subst hkn
    have HE:Hid (DU B wr wb (bs++(At k cw++ys.flatMap AY))/\Wg B w wr):=by
     refine⟨?_,HI.o.2⟩;have:=HI.o.1;rw[<-HL.o,List.take_length,HL.o,a6]at this;exact this
    go_wp2
    go_end0
    exact⟨rfl,HE.o.1,HE.o.2⟩
theorem LQ(B wb:Nat)(bs:List Value)(cw:Nat)(s:Value)(ys:List MT)(base:Nat)(w:World)(h1:1<=cw)(h8:cw<=8)(hy:ys.length<=1048576)(hb:bs.length+8+(ys.flatMap Bo).length<=1073741000)(hB:B<=w.heap.size)(hw:B<=wb)(hr:∀x∈ys,0<=x.init/\x.init<=4294967295)(h:DU B w wb bs)(hs:w.ownsRow base 62 4 s ys.length (ys.flatMap MT.cells)):
 Calls Tryz.prog 20 #[.pointer (some ⟨wb,0,none⟩),iZ (cw:Int),s,.func (Fn.func 21) #[.pointer (some ⟨wb,0,none⟩)] #[]] w fun e w'=>e=.returned (.tuple #[])/\DU B w' wb (bs++(At ys.length cw++ys.flatMap Bo))/\Wg B w w':=by
 have H:=Af (aG h hs);have HR:=Af hr;obtain⟨a1,c1,e1⟩:=(Rd.of_own hs).is_slice;subst e1;generalize hLL:ys.length=n at hy H⊢;have HL:=Af hLL;go_enter Tryz.func20,Tryz.ntmps20;go_wp2_with fail
 refine(A4 B wb bs (n:Int) cw _ h1 h8 (by omega) hB hw H.o.1).mono ?_;rintro e u1 ⟨rfl,hW,hG⟩;have K:=Af (aG hW hG);go_wp2
 go_loopw [17] (fun i wr=>∃k:Nat,k<=n/\i=iZ k/\Hid (DU B wr wb (bs++At n cw++(ys.take k).flatMap Bo)/\Wg B w wr)) (fun i _=>n-(intOf i).toNat)
 case atStart=>exact⟨0,by omega,rfl,⟨by simpa using K.o.1,K.o.2⟩⟩
 case round=>
  obtain⟨k,hk,rfl,HI⟩:=hrel;by_cases hlt:k<n
  . obtain⟨x,hx⟩:∃x,ys[k]?=some x:=⟨_,aA (by rw[HL.o];exact hlt)⟩
    have hnx:bs++At n cw++(ys.take (k+1)).flatMap Bo=bs++At n cw++(ys.take k).flatMap Bo++Bo x:=by
     obtain⟨hlt',rfl⟩:=aE.1 hx;rw[aj hlt',a8,<-a6];simp
    have hlen:(bs++At n cw++(ys.take k).flatMap Bo).length<=1073741000:=by
     have:=Du Bo ys k;simp only[aH,Av];omega
    rcases(Rd.of_own H.o.2).2 with⟨e0,_⟩|⟨g,o,c,e1,hc1⟩
    . omega
    simp only[aI,ao]at e1;obtain⟨rfl,rfl⟩:=e1;have hrow:=Rd.of_own (HI.o.2.own H.o.2 (by decide) (by decide));rcases hrow.2 with⟨e0,_⟩|⟨g',o',c',e1,hc2⟩
    . omega
    simp only[aI,aM,cN,ao,cj]at e1;obtain⟨⟨rfl,rfl⟩,rfl⟩:=e1;have j0:=Rd.elem MT.cells_length hc2 k x hx 0 _ rfl;have j1:=Rd.elem MT.cells_length hc2 k x hx 1 _ rfl;have j2:=Rd.elem MT.cells_length hc2 k x hx 2 _ rfl;have j3:=Rd.elem MT.cells_length hc2 k x hx 3 _ rfl;rw[aT]at j0;have HX:=Af (aG hx hnx);have nb:¬g=wr.heap.size:=bC (aD j0);have mb:g<wr.heap.size:=aD j0;have HA:Hid (DU B (wr.alloc (.cells #[iZ x.func,iZ x.head,iZ x.counter,.int .u32 x.init] 62)) wb (bs++At n cw++(ys.take k).flatMap Bo)/\Wg B w (wr.alloc (.cells #[iZ x.func,iZ x.head,iZ x.counter,.int .u32 x.init] 62))):=⟨HI.o.1.call (Aa _ _),HI.o.2.trans (Wg.of_below (Aa _ _) (aR hB HI.o.2.size))⟩
    go_wp2_with fail
    refine(P7 B wb _ x _ HA.o.1 hlen (aR hB HA.o.2.size) hw (HR.o x (aF HX.o.1)).1 (HR.o x (aF HX.o.1)).2).mono ?_;rintro e u ⟨rfl,hW,hG⟩;have HN:Hid (DU B u wb (bs++At n cw++(ys.take (k+1)).flatMap Bo)/\Wg B w u):=⟨by rw[HX.o.2];exact hW,HA.o.2.trans hG⟩
    go_wp2
    go_roundw
    case rel=>exact⟨k+1,by omega,by go_num,HN⟩
    case measure=>simp[intOf];omega
  . have hkn:k=n:=by omega
    subst hkn
    have HE:Hid (DU B wr wb (bs++(At k cw++ys.flatMap Bo))/\Wg B w wr):=by
     refine⟨?_,HI.o.2⟩;have:=HI.o.1;rw[<-HL.o,List.take_length,HL.o,a6]at this;exact this
    go_wp2
    go_end0
    exact⟨rfl,HE.o.1,HE.o.2⟩
theorem JC(s:Value)(cs:List MC)(w:World)(hn:cs.length<=1048576)(hw:∀c∈cs,0<=c.word)(h:Rd w 2 s cs.length (cs.flatMap MC.cells)):
 Calls Tryz.prog 41 #[s] w fun e w'=>Am e (AP cs)/\Below w.heap.size w w':=by
 have H1:=Af h;obtain⟨a1,c1,rfl⟩:=h.is_slice;have HZ:=Af hw;generalize hLL:cs.length=n at hn H1;have HL:=Af hLL;by_cases q0:64<n
 . have HN:Hid (¬AP cs):=fun e=>absurd e.1 (by rw[HL.o];omega)
   go_enter Tryz.func41,Tryz.ntmps41;go_wp2
   go_ret
   exact⟨.no HN.o,aq _ _⟩
 go_enter Tryz.func41,Tryz.ntmps41;go_wp2
 go_loopw [10] (fun i wr=>∃k:Nat,k<=n/\i=iZ k/\Hid (∀j,j<k->∀c,cs[j]?=some c->Cv c)/\Hid (Below w.heap.size w wr)) (fun i _=>n-(intOf i).toNat)
 case atStart=>exact⟨0,by omega,rfl,fun j hj=>by omega,aq _ _⟩
 case round=>
  obtain⟨k,hk,rfl,HT,HW⟩:=hrel;by_cases hlt:k<n
  . obtain⟨x,hx⟩:∃x,cs[k]?=some x:=⟨_,aA (by rw[HL.o];exact hlt)⟩
    rcases H1.o.2 with⟨e0,_⟩|⟨b,o,c,e1,hc1⟩
    . omega
    . simp only[aI,ao]at e1
      obtain⟨rfl,rfl⟩:=e1;have i0:=Rd.elem MC.cells_length hc1 k x hx 0 _ rfl;have i1:=Rd.elem MC.cells_length hc1 k x hx 1 _ rfl;rw[<-HW.o.cell (aD i0),aT]at i0;rw[<-HW.o.cell (aD i1)]at i1;have HX:=Af hx;have nb:¬b=wr.heap.size:=bC (aD i0);have mb:b<wr.heap.size:=aD i0;have HW2:Hid (Below w.heap.size w (wr.alloc (.cells #[iZ x.type,.int .u32 x.word] 53))):=Ab HW.o lR (Aa _ _);go_wp2_with fail
      refine(M5 x.type x.word _ (HZ.o x (aF HX.o))).mono ?_;rintro e u ⟨⟨b1,rfl,hb1⟩,blu⟩;have HW3:=Af (Ab HW2.o lR blu);cases b1
      . have HN:Hid (¬AP cs):=fun e=>absurd (hb1.2 (e.2 k (by rw[HL.o];exact hlt) x HX.o)) dG
        go_wp2
        go_ret
        exact⟨.no HN.o,HW3.o⟩
      . have HC:Hid (Cv x):=hb1.1 rfl
        go_wp2
        go_roundw
        case rel=>exact⟨k+1,by omega,by go_num,CC HX.o HC.o HT.o,HW3⟩
        case measure=>simp[intOf];omega
  . have hkn:n=k:=by omega
    subst hkn;have HY:Hid (AP cs):=⟨by rw[HL.o];omega,by rw[HL.o];exact HT.o⟩;go_wp2;go_ret;exact⟨.yes HY.o,HW.o⟩
theorem Kp(v:VF)(f:MF)(w:World)(hs:f.small)(h:EI w v f):
 Calls Tryz.prog 63 #[.agg #[v.p,iZ f.result,v.l,v.c]] w fun e w'=>Am e (CJ f)/\Below w.heap.size w w':=by
 have H1:=Af (aG h hs);obtain⟨a1,c1,e1⟩:=h.1.is_slice;obtain⟨a2,c2,e2⟩:=h.2.1.is_slice;obtain⟨a3,c3,e3⟩:=h.2.2.is_slice;obtain⟨vp,vl,vc⟩:=v;obtain⟨s1,s2,s3⟩:=hs;simp only[]at e1 e2 e3;subst e1 e2 e3;have HB:Hid (Below w.heap.size w (w.alloc (.cells #[.slice a1 f.params.length c1,iZ f.result,.slice a2 f.locals.length c2,.slice a3 f.code.length c3] 58))):=Aa _ _;by_cases q1:8<f.params.length
 . have HN:Hid (¬CJ f):=fun e=>absurd e.par (by omega)
   generalize f.params.length=n1 at*;generalize f.locals.length=n2 at*;generalize f.code.length=n3 at*;go_enter Tryz.func63,Tryz.ntmps63;go_wp2
   go_ret
   exact⟨.no HN.o,HB.o⟩
 by_cases q2:32<f.params.length+f.locals.length
 . have HN:Hid (¬CJ f):=fun e=>absurd e.loc (by omega)
   generalize f.params.length=n1 at*;generalize f.locals.length=n2 at*;generalize f.code.length=n3 at*;go_enter Tryz.func63,Tryz.ntmps63;go_wp2
   go_ret
   exact⟨.no HN.o,HB.o⟩
 by_cases q3:f.code.length=0
 . have HN:Hid (¬CJ f):=fun e=>e.code0 q3
   generalize f.params.length=n1 at*;generalize f.locals.length=n2 at*;generalize f.code.length=n3 at*;subst q3;go_enter Tryz.func63,Tryz.ntmps63;go_wp2
   go_ret
   exact⟨.no HN.o,HB.o⟩
 by_cases q4:1024<f.code.length
 . have HN:Hid (¬CJ f):=fun e=>absurd e.code1 (by omega)
   generalize f.params.length=n1 at*;generalize f.locals.length=n2 at*;generalize f.code.length=n3 at*;go_enter Tryz.func63,Tryz.ntmps63;go_wp2
   go_ret
   exact⟨.no HN.o,HB.o⟩
 have q1':¬(8:Int)<(f.params.length:Int):=by omega
 have q2':¬(32:Int)<(f.params.length:Int)+(f.locals.length:Int):=by omega
 have q3':((f.code.length:Int)==0)=false:=by simpa using q3
 have q4':¬(1024:Int)<(f.code.length:Int):=by omega
 have HQ:Hid (f.params.length<=8/\f.params.length+f.locals.length<=32/\¬f.code.length=0/\f.code.length<=1024):=⟨by omega,by omega,q3,by omega⟩
 go_enter Tryz.func63,Tryz.ntmps63;go_wp2_with fail
 refine(Fw _ f.params _ H1.o.2.1 (H1.o.1.1.keep HB.o lR)).mono ?_;rintro e u ⟨rfl,rfl⟩;cases t1:f.params.all DZ
 . have HN:Hid (¬CJ f):=fun e=>by have:=e.pt;simp[t1]at this
   go_wp2
   go_ret
   exact⟨.no HN.o,HB.o⟩
 have HT1:=Af t1;go_wp2_with fail
 refine(Fw _ f.locals _ H1.o.2.2.1 (H1.o.1.2.1.keep HB.o lR)).mono ?_;rintro e u ⟨rfl,rfl⟩;cases t1:f.locals.all DZ
 . have HN:Hid (¬CJ f):=fun e=>by have:=e.lt;simp[t1]at this
   go_wp2
   go_ret
   exact⟨.no HN.o,HB.o⟩
 have HT2:=Af t1;generalize hR:f.result=R at*;have HE:=Af hR;by_cases q5:R=0
 . subst q5
   have HY:Hid (CJ f):=⟨HQ.o.1,HQ.o.2.1,HT1.o,HT2.o,.inl HE.o,HQ.o.2.2.1,HQ.o.2.2.2⟩;go_wp2
   go_ret
   exact⟨.yes HY.o,HB.o⟩
 . have q5':(R==0)=false:=by simpa using q5
   go_wp2_with fail
   refine(DP R _).mono ?_;rintro e u ⟨rfl,rfl⟩;cases t1:DZ R
   . have HN:Hid (¬CJ f):=fun e=>by have:=e.res;rw[HE.o]at this;simp[q5,t1]at this
     go_wp2
     go_ret
     exact⟨.no HN.o,HB.o⟩
   . have HY:Hid (CJ f):=⟨HQ.o.1,HQ.o.2.1,HT1.o,HT2.o,.inr (by rw[HE.o];exact t1),HQ.o.2.2.1,HQ.o.2.2.2⟩
     go_wp2
     go_ret
     exact⟨.yes HY.o,HB.o⟩
end Go.Proofs.YtjcamlobelcepaaGreatDoor
