import Derived.Test.YtjpobijiblcgaaaGreatFw24
import Derived.Test.YtjpobijiblcgaaaGreatFw2
import Derived.Test.YtjpobijiblcgaaaGreatFw0
import Derived.Lib.AppendZerosOnto
import Derived.Lib.AppendZeros
import Derived.Laws.Append
import Derived.Test.YtjpobijiblcgaaaGreatFw8
namespace Go.Proofs.YtjpobijiblcgaaaGreat
open Go.ChangeShapes Go.WideShapes Go.ChangeAt Go.RowKit
set_option linter.unusedVariables false
theorem J4{t:Int}(h:FC t=true):¬t=0:=by
 unfold FC at h;simp at h;omega
theorem Bj.parts{p:MP}(h:Bj p 0):Bb p.regions/\BF p.consts/\Cj p.funcs/\DJ p/\Ci p:=by
 unfold Bj at h;rcases h with h|h|h|h|h|h
 . exact absurd h.1 (by decide)
 . exact absurd h.1 (by decide)
 . exact absurd h.1 (by decide)
 . exact absurd h.1 (by decide)
 . exact absurd h.1 (by decide)
 . exact h.2
theorem Bj.instr{p:MP}(h:Bj p 0){i j:Nat}{f:MF}{x:MI}(hf:p.funcs[i]?=some f)(hx:f.code[j]?=some x):A9 p f x:=h.parts.2.2.2.1 i (aD.1 hf).1 f hf j (aD.1 hx).1 x hx
theorem It:AR 1=1/\AR 2=2/\AR 3=2/\AR 4=3/\AR 5=3/\AR 6=4/\AR 7=4/\AR 27=10/\AR 28=11:=by decide+kernel
theorem A9.const{p:MP}{f:MF}{x:MI}(h:A9 p f x)(e:x.op=1):∃(q:Nat) (z:MC),x.a=q/\p.consts[q]?=some z:=by
 obtain⟨_,_,h⟩:=h;rw[e,It.1]at h;unfold Ce Cx at h
 have h1:0<=x.a/\x.a<p.consts.length:=by
  rcases h with h|h|h|h|h|h|h|h|h|h<;>first|(exfalso;omega)|exact⟨h.2.1,h.2.2.1⟩
 obtain⟨q,hq⟩:=aq h1.1;rw[hq]at h1;exact⟨q,_,hq,aA (by omega)⟩
theorem Nt{p:MP}{a b:Int}(h3:p.regions.length=3)(h:¬Cn p a b=0):∃(q z:Nat) (r:List Int),a=q/\b=z/\p.regions[q]?=some r/\r[z]?=some (Cn p a b):=by
 by_cases h0:a<0\/2<a\/b<0
 . exact absurd (Fc h0) h
 . obtain⟨q,hq⟩:=aq (by omega:0<=a)
   obtain⟨z,hz⟩:=aq (by omega:0<=b);subst hq hz;have hr:p.regions[q]?=some (p.regions[q]'(by omega)):=aA (by omega)
   refine⟨q,z,_,rfl,rfl,hr,?_⟩;have e:=Jm (p:=p) (r:=q) (c:=z) (by omega) hr;rw[e]at h⊢;rw[bQ]at h⊢;cases e2:(p.regions[q]'(by omega))[z]? with
   |none=>rw[e2]at h;exact absurd rfl h
   |some t=>rfl
theorem Nv{p:MP}{x:MI}{q z:Nat}{r:List Int}{t:Int}(h1:x.a=q)(h2:x.b=z)(hr:p.regions[q]?=some r)(ht:r[z]?=some t):El p x=t:=by
 unfold El;rw[h1,h2];simp only[ao,hr,ht];rfl
theorem A9.cell{p:MP}{f:MF}{x:MI}(h3:p.regions.length=3)(h:A9 p f x)(e:x.op=4\/x.op=5\/x.op=6\/x.op=7):∃(q z:Nat) (r:List Int),x.a=q/\x.b=z/\p.regions[q]?=some r/\r[z]?=some (El p x):=by
 obtain⟨_,_,h⟩:=h
 have hf:AR x.op=3\/AR x.op=4:=by
  rcases e with e|e|e|e<;>rw[e]
  . exact .inl It.2.2.2.1
  . exact .inl It.2.2.2.2.1
  . exact .inr It.2.2.2.2.2.1
  . exact .inr It.2.2.2.2.2.2.1
 unfold Ce Cx at h
 have hc:¬Cn p x.a x.b=0:=by
  rcases h with h|h|h|h|h|h|h|h|h|h<;>first|(exfalso;omega)|exact h.2.1|exact h.2.1.there
 obtain⟨q,z,r,h1,h2,hr,ht⟩:=Nt h3 hc;refine⟨q,z,r,h1,h2,hr,?_⟩;rw[Nv h1 h2 hr ht];exact ht
theorem A9.callee{p:MP}{f:MF}{x:MI}(h:A9 p f x)(e:x.op=28):∃(q:Nat) (fq:MF),x.a=q/\p.funcs[q]?=some fq:=by
 obtain⟨_,_,h⟩:=h;rw[e,It.2.2.2.2.2.2.2.2]at h;unfold Ce Cx at h
 have h1:0<=x.a/\x.a<p.funcs.length:=by
  rcases h with h|h|h|h|h|h|h|h|h|h<;>first|(exfalso;omega)|exact⟨h.2.1,h.2.2.1⟩
 obtain⟨q,hq⟩:=aq h1.1;rw[hq]at h1;exact⟨q,_,hq,aA (by omega)⟩
theorem Qf:AR 8=5/\AR 9=5/\AR 10=5/\AR 11=5/\AR 12=5/\AR 13=6/\AR 14=6/\AR 15=6/\AR 16=6/\AR 20=7/\AR 21=5/\AR 22=8:=by decide+kernel
theorem A9.type{p:MP}{f:MF}{x:MI}(h:A9 p f x)(e:(8<=x.op/\x.op<=16)\/x.op=20\/x.op=21):FC x.a=true:=by
 obtain⟨_,_,h⟩:=h
 have hf:AR x.op=5\/AR x.op=6\/AR x.op=7:=by
  have h3:x.op=8\/x.op=9\/x.op=10\/x.op=11\/x.op=12\/x.op=13\/x.op=14\/x.op=15\/x.op=16\/x.op=20\/x.op=21:=by omega
  obtain⟨k0,k1,k2,k3,k4,k5,k6,k7,k8,k9,kA,kB⟩:=Qf;rcases h3 with e|e|e|e|e|e|e|e|e|e|e<;>rw[e]<;>omega
 unfold Ce Cx at h;rcases h with h|h|h|h|h|h|h|h|h|h<;>first|(exfalso;omega)|(rcases h.1 with h|h|h<;>first|exact h.2|(rcases h.2 with e|e<;>rw[e]<;>rfl))
theorem A9.conv{p:MP}{f:MF}{x:MI}(h:A9 p f x)(e:x.op=22):FC x.a=true/\FC x.b=true:=by
 obtain⟨_,_,h⟩:=h;have hf:AR x.op=8:=by rw[e];exact Qf.2.2.2.2.2.2.2.2.2.2.2
 unfold Ce Cx at h;rcases h with h|h|h|h|h|h|h|h|h|h<;>first|(exfalso;omega)|exact⟨h.2.1,h.2.2.1⟩
theorem A9.loc0{p:MP}{f:MF}{x:MI}(h:A9 p f x)(e:x.op=2):AS f x.a≠0:=fun e0=>by
 have h5:=h.2.2;have hf2:AR x.op=2:=by rw[e];exact It.2.1
 unfold Ce Cx at h5;rcases h5 with h|h|h|h|h|h|h|h|h|h<;>first|(exfalso;omega)|exact h.2.1 e0
theorem Oy{p:MP}{f:MF}{x:MI}(hp:Bj p 0)(hx:A9 p f x):(∀t∈Ay p f x,t=0->0<(Aw p f x).length)/\(Ay p f x).length<=2:=by
 have hpp:=hp.parts;have one:∀t:Int,t≠0->(∀u∈[t],u=0->0<(Aw p f x).length)/\[t].length<=2:=fun t ht=>⟨fun u hu e=>by simp only[am]at hu;exact absurd (hu.symm.trans e) ht,by simp⟩
 unfold Ay;by_cases c1:x.op=1
 . rw[cD c1]
   obtain⟨q,z,e1,e2⟩:=hx.const c1;have hc:=hpp.2.1.2 q (aD.1 e2).1 z e2;have e3:Rx p.consts x.a.toNat=z:=by unfold Rx;rw[e1,ao,e2];rfl
   rw[e3];exact one _ (J4 hc.1)
 rw[bu c1];by_cases c2:x.op=2
 . rw[cD c2];exact one _ (hx.loc0 c2)
 rw[bu c2];by_cases c4:x.op=4\/x.op=6
 . rw[cD c4]
   obtain⟨q,z,r,e1,e2,e3,e4⟩:=hx.cell hpp.1.1 (by omega);have:=(hpp.1.2 q (aD.1 e3).1 r e3).2;exact one _ (J4 (fE.1 this _ (aE e4)))
 rw[bu c4];by_cases c8:8<=x.op/\x.op<=16
 . rw[cD c8];exact one _ (J4 (hx.type (by omega)))
 rw[bu c8];by_cases c17:x.op=17\/x.op=18
 . rw[cD c17];exact one _ (by decide)
 rw[bu c17];by_cases c19:x.op=19
 . rw[cD c19];exact one _ (by decide)
 rw[bu c19];by_cases c20:x.op=20\/x.op=21
 . rw[cD c20];exact one _ (by decide)
 rw[bu c20];by_cases c22:x.op=22
 . rw[cD c22];exact one _ (J4 (hx.conv c22).2)
 rw[bu c22];by_cases c23:x.op=23
 . rw[cD c23]
   have e1:Aw p f x=[0]:=by unfold Aw;rw[bu (by omega),bu (by omega),bu (by omega),bu (by omega),bu (by omega),bu (by omega),bu (by omega),bu (by omega),cD (by omega)]
   rw[e1];exact⟨fun _ _ _=>by simp,by simp⟩
 rw[bu c23];by_cases c28:x.op=28
 . rw[cD c28]
   obtain⟨q,fq,e1,e2⟩:=hx.callee c28;have hfq:LQ fq:=hpp.2.2.1.2.2.1 q (aD.1 e2).1 fq e2;rw[e1,ao,e2];simp only[];unfold BS;by_cases hr:fq.result=0
   . rw[cD hr];exact⟨fun t ht=>(by cases ht),by simp⟩
   . rw[bu hr];exact one _ hr
 . rw[bu c28];exact⟨fun t ht=>(by cases ht),by simp⟩
theorem DN(xs:List Int):∀u∈xs.flatMap Ab,u.oneCell'=true:=by
 intro u hu;obtain⟨x,_,hx⟩:=cE.1 hu;simp[Ab]at hx;subst hx;rfl
end Go.Proofs.YtjpobijiblcgaaaGreat
