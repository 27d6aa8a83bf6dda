import Derived.Test.YtlejplpkomddeaaGreatR0
import Derived.Test.YtlejplpkomddeaaGreatR12
namespace Go.Proofs.YtlejplpkomddeaaGreat
open Go.ChangeShapes Go.WideShapes Go.ChangeAt Go.RowKit
set_option linter.unusedVariables false
theorem Ey{t:Int}(h:CE t=true):¬t=0:=by
 unfold CE at h;simp at h;omega
theorem LS{xs:List Int}(h:xs.all CE=true){k:Nat}{x:Int}(hk:xs[k]?=some x):CE x=true:=List.all_eq_true.1 h x (mG hk)
theorem Gi{f:MF}(hf:BO f)(n:Int):Gy f n↔¬Av f n=0:=by
 constructor
 ·rintro⟨h0,h1⟩
  obtain⟨k,rfl⟩:=Int.eq_ofNat_of_zero_le h0;by_cases q:k<f.params.length
  ·rw[G5 (gE q)]
   exact Ey (LS hf.pt (gE q))
  ·have q2:k-f.params.length<f.locals.length:=by omega
   have e:=GN (f:=f) (gE q2);have ej:((f.params.length:Int)+((k-f.params.length:Nat):Int))=(k:Int):=by omega
   rw[ej]at e;rw[e];exact Ey (LS hf.lt (gE q2))
 ·intro h
  by_cases q0:n<0
  ·exact absurd (Fp q0) h
  by_cases q1:(f.params.length:Int)+f.locals.length<=n
  ·exact absurd (GY q1) h
  ·exact⟨by omega,by omega⟩
theorem Et{p:MP}{a b:Nat}{l:List Int}(h3:p.regions.length=3)(hl:p.regions[a]?=some l):Bl p a b=l.getD b 0:=Dj (by have:=(gI.1 hl).1;omega) hl
theorem Hp{p:MP}(hp:AB p.regions)(a b:Int):¬Bl p a b=0↔∃l,0<=a/\p.regions[a.toNat]?=some l/\0<=b/\b<(l.length:Int):=by
 constructor
 ·intro h
  have hq:¬(a<0\/2<a\/b<0):=fun e=>h (Eb e)
  obtain⟨i,rfl⟩:=Int.eq_ofNat_of_zero_le (show 0<=a by omega);obtain⟨j,rfl⟩:=Int.eq_ofNat_of_zero_le (show 0<=b by omega);have hi:i<p.regions.length:=by have:=hp.1;omega
  rw[Et hp.1 (gE hi)]at h;refine⟨p.regions[i],by omega,by rw[Int.toNat_natCast];exact gE hi,by omega,?_⟩;by_cases hj:j<p.regions[i].length
  ·omega
  ·exact absurd (by rw[List.getD_eq_getElem?_getD,List.getElem?_eq_none (by omega)];rfl) h
 ·rintro⟨l,h0,hl,h1,h2⟩
  obtain⟨i,rfl⟩:=Int.eq_ofNat_of_zero_le h0;obtain⟨j,rfl⟩:=Int.eq_ofNat_of_zero_le h1;rw[Int.toNat_natCast]at hl;rw[Et hp.1 hl];have hj:j<l.length:=by omega
  have e:l.getD j 0=l[j]:=by rw[List.getD_eq_getElem?_getD,gE hj];rfl
  rw[e];have hr:=hp.2 i (gI.1 hl).1 l hl;exact Ey (LS hr.2 (gE hj))
theorem FX{p:MP}(hp:AB p.regions)(op a b:Int)(ho:op=4\/op=5\/op=6\/op=7):CS p op a b↔¬Bl p a b=0/\((op=4\/op=6)\/¬a=0):=by
 rw[Hp hp];constructor
 ·rintro⟨l,h1,h2,h3,h4,h5⟩
  refine⟨⟨l,h1,h2,h3,h4⟩,?_⟩;by_cases q:a=0
  ·left
   by_cases q5:op=5\/op=7
   ·exact absurd ⟨q5,q⟩ h5
   ·omega
  ·exact .inr q
 ·rintro⟨⟨l,h1,h2,h3,h4⟩,h5⟩
  exact⟨l,h1,h2,h3,h4,fun⟨e1,e2⟩=>by omega⟩
theorem LT{p:MP}(hp:AB p.regions){a b:Nat}{l:List Int}(hl:p.regions[a]?=some l)(hb:b<l.length)(c:Int):Fv (l.drop b) c↔DP p a b c:=by
 have hr:=hp.2 a (gI.1 hl).1 l hl
 have cell:∀j:Nat,Bl p (a:Int) ((b:Int)+(j:Int))=l.getD (b+j) 0:=fun j=>by
  have:=Et (b:=b+j) hp.1 hl;rw[Int.natCast_add]at this;exact this
 have cell0:Bl p (a:Int) (b:Int)=l.getD b 0:=Et hp.1 hl;have dr:∀j:Nat,(l.drop b)[j]?=l[b+j]?:=fun j=>by rw[List.getElem?_drop]
 constructor
 ·intro h
  have hh:=h.high;rw[List.length_drop]at hh;have h0:=h.low;have hlen:=hr.1;refine⟨h.low,by omega,h.mask,?_,fun j hj=> ?_⟩
  ·rw[Hp hp]
   exact⟨l,by omega,by rw[Int.toNat_natCast];exact hl,by omega,by omega⟩
  ·have:=h.one j hj
   rw[dr,dr]at this;rw[cell,cell0,List.getD_eq_getElem?_getD,List.getD_eq_getElem?_getD,this];rfl
 ·intro h
  have key:∀j:Nat,(j:Int)<=c->b+j<l.length:=fun j hj=>by
   have e:=h.one j hj;have hne:=h.there;rw[<-e,cell]at hne;by_cases q:b+j<l.length
   ·exact q
   ·exact absurd (by rw[List.getD_eq_getElem?_getD,List.getElem?_eq_none (by omega)];rfl) hne
  obtain⟨k,rfl⟩:=Int.eq_ofNat_of_zero_le h.low;have hk:=key k (by omega);refine⟨h.low,by rw[List.length_drop];omega,h.mask,fun j hj=> ?_⟩;have hj':=key j hj;have e:=h.one j hj;rw[cell,cell0,List.getD_eq_getElem?_getD,List.getD_eq_getElem?_getD,gE hj',gE hb]at e;rw[dr,dr,Nat.add_zero,gE hj',gE hb];simpa using e
theorem A4.parts{p:MP}(h:A4 p 0):AB p.regions/\AV p.consts/\AY p.funcs/\Ct p/\Bi p:=by
 unfold A4 at h;rcases h with h|h|h|h|h|h
 ·exact absurd h.1 (by decide)
 ·exact absurd h.1 (by decide)
 ·exact absurd h.1 (by decide)
 ·exact absurd h.1 (by decide)
 ·exact absurd h.1 (by decide)
 ·exact h.2
theorem A4.instr{p:MP}(h:A4 p 0){i j:Nat}{f:MF}{x:MI}(hf:p.funcs[i]?=some f)(hx:f.code[j]?=some x):AN p f x:=h.parts.2.2.2.1 i (gI.1 hf).1 f hf j (gI.1 hx).1 x hx
theorem Fi:AC 1=1/\AC 2=2/\AC 3=2/\AC 4=3/\AC 5=3/\AC 6=4/\AC 7=4/\AC 27=10/\AC 28=11:=by decide+kernel
theorem AN.const{p:MP}{f:MF}{x:MI}(h:AN p f x)(e:x.op=1):∃(q:Nat) (z:MC),x.a=q/\p.consts[q]?=some z:=by
 obtain⟨_,_,h⟩:=h;rw[e,Fi.1]at h;unfold AP AQ at h
 have h1:0<=x.a/\x.a<p.consts.length:=by
  rcases h with h|h|h|h|h|h|h|h|h|h<;>first|(exfalso;omega)|exact⟨h.2.1,h.2.2.1⟩
 obtain⟨q,hq⟩:=Int.eq_ofNat_of_zero_le h1.1;rw[hq]at h1;exact⟨q,_,hq,gE (by omega)⟩
theorem Mb{f:MF}{a:Int}(h:¬Av f a=0):∃q:Nat,a=q/\(f.params++f.locals)[q]?=some (Av f a):=by
 by_cases h0:a<0
 ·exact absurd (Fp h0) h
 ·obtain⟨q,hq⟩:=Int.eq_ofNat_of_zero_le (by omega:0<=a)
  refine⟨q,hq,?_⟩;subst hq;unfold Av at h⊢;rw[if_neg h0]at h⊢;rw[List.getD_eq_getElem?_getD]at h⊢;simp only[Int.toNat_natCast]at h⊢;cases e:(f.params++f.locals)[q]? with
  |none=>rw[e]at h;exact absurd rfl h
  |some z=>rfl
theorem AN.local{p:MP}{f:MF}{x:MI}(h:AN p f x)(e:x.op=2\/x.op=3\/x.op=27):∃q:Nat,x.a=q/\(f.params++f.locals)[q]?=some (Av f x.a):=by
 apply Mb;obtain⟨_,_,h⟩:=h
 have hf:AC x.op=2\/AC x.op=10:=by
  rcases e with e|e|e<;>rw[e]
  ·exact .inl Fi.2.1
  ·exact .inl Fi.2.2.1
  ·exact .inr Fi.2.2.2.2.2.2.2.1
 unfold AP AQ at h;rcases h with h|h|h|h|h|h|h|h|h|h<;>first|(exfalso;omega)|exact h.2.1
theorem MK{p:MP}{a b:Int}(h3:p.regions.length=3)(h:¬Bl p a b=0):∃(q z:Nat) (r:List Int),a=q/\b=z/\p.regions[q]?=some r/\r[z]?=some (Bl p a b):=by
 by_cases h0:a<0\/2<a\/b<0
 ·exact absurd (Eb h0) h
 ·obtain⟨q,hq⟩:=Int.eq_ofNat_of_zero_le (by omega:0<=a)
  obtain⟨z,hz⟩:=Int.eq_ofNat_of_zero_le (by omega:0<=b);subst hq hz;have hr:p.regions[q]?=some (p.regions[q]'(by omega)):=gE (by omega)
  refine⟨q,z,_,rfl,rfl,hr,?_⟩;have e:=Dj (p:=p) (r:=q) (c:=z) (by omega) hr;rw[e]at h⊢;rw[List.getD_eq_getElem?_getD]at h⊢;cases e2:(p.regions[q]'(by omega))[z]? with
  |none=>rw[e2]at h;exact absurd rfl h
  |some t=>rfl
theorem Nf{p:MP}{x:MI}{q z:Nat}{r:List Int}{t:Int}(h1:x.a=q)(h2:x.b=z)(hr:p.regions[q]?=some r)(ht:r[z]?=some t):Cf p x=t:=by
 unfold Cf;rw[h1,h2];simp only[Int.toNat_natCast,hr,ht];rfl
theorem AN.cell{p:MP}{f:MF}{x:MI}(h3:p.regions.length=3)(h:AN p f x)(e:x.op=4\/x.op=5\/x.op=6\/x.op=7):∃(q z:Nat) (r:List Int),x.a=q/\x.b=z/\p.regions[q]?=some r/\r[z]?=some (Cf p x):=by
 obtain⟨_,_,h⟩:=h
 have hf:AC x.op=3\/AC x.op=4:=by
  rcases e with e|e|e|e<;>rw[e]
  ·exact .inl Fi.2.2.2.1
  ·exact .inl Fi.2.2.2.2.1
  ·exact .inr Fi.2.2.2.2.2.1
  ·exact .inr Fi.2.2.2.2.2.2.1
 unfold AP AQ at h
 have hc:¬Bl p x.a x.b=0:=by
  rcases h with h|h|h|h|h|h|h|h|h|h<;>first|(exfalso;omega)|exact h.2.1|exact h.2.1.there
 obtain⟨q,z,r,h1,h2,hr,ht⟩:=MK h3 hc;refine⟨q,z,r,h1,h2,hr,?_⟩;rw[Nf h1 h2 hr ht];exact ht
theorem AN.mask{p:MP}{f:MF}{x:MI}(h:AN p f x)(e:x.op=6\/x.op=7):DP p x.a x.b x.c:=by
 obtain⟨_,_,h⟩:=h
 have hf:AC x.op=4:=by
  rcases e with e|e<;>rw[e]
  ·exact Fi.2.2.2.2.2.1
  ·exact Fi.2.2.2.2.2.2.1
 unfold AP AQ at h;rcases h with h|h|h|h|h|h|h|h|h|h<;>first|(exfalso;omega)|exact h.2.1
theorem AN.callee{p:MP}{f:MF}{x:MI}(h:AN p f x)(e:x.op=28):∃(q:Nat) (fq:MF),x.a=q/\p.funcs[q]?=some fq:=by
 obtain⟨_,_,h⟩:=h;rw[e,Fi.2.2.2.2.2.2.2.2]at h;unfold AP AQ at h
 have h1:0<=x.a/\x.a<p.funcs.length:=by
  rcases h with h|h|h|h|h|h|h|h|h|h<;>first|(exfalso;omega)|exact⟨h.2.1,h.2.2.1⟩
 obtain⟨q,hq⟩:=Int.eq_ofNat_of_zero_le h1.1;rw[hq]at h1;exact⟨q,_,hq,gE (by omega)⟩
theorem AN.target{p:MP}{f:MF}{x:MI}(h:AN p f x)(e:x.op=25\/x.op=26\/x.op=27):0<=x.c/\x.c<f.code.length:=by
 obtain⟨_,_,h⟩:=h;have hk:AC 25=9/\AC 26=9/\AC 27=10:=by decide+kernel
 have hf:AC x.op=9\/AC x.op=10:=by
  rcases e with e|e|e<;>rw[e]
  ·exact .inl hk.1
  ·exact .inl hk.2.1
  ·exact .inr hk.2.2
 unfold AP AQ at h;rcases h with h|h|h|h|h|h|h|h|h|h<;>first|(exfalso;omega)|exact h.2.2.2
end Go.Proofs.YtlejplpkomddeaaGreat
