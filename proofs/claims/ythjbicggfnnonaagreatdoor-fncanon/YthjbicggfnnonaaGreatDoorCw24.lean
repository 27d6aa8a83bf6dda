import Derived.Test.YthjbicggfnnonaaGreatDoorCw22
import Derived.Test.YthjbicggfnnonaaGreatDoorCw19
namespace Go.Proofs.YthjbicggfnnonaaGreatDoor
open Go.ChangeShapes Go.WideShapes Go.ChangeAt Go.RowKit
set_option linter.unusedVariables false
set_option maxHeartbeats 8000000
set_option maxRecDepth 100000
variable {p:MP}{i b c G n g:Nat}{f:MF}{x:MI}{a:Int}{z:Value}{u w:World}{bad:Bool}{I:List Nat}{C:List Int}
theorem Bj.parts(h:Bj p 0):AD p.aB/\Bg p.ag/\Bk p.funcs/\CI p/\BG p:=by
 unfold Bj at h;rcases h with h|h|h|h|h|h
 . exact absurd h.1 dC
 . exact absurd h.1 dC
 . exact absurd h.1 dC
 . exact absurd h.1 dC
 . exact absurd h.1 dC
 exact h.2
theorem Bj.iq(h:Bj p 0){j:Nat}(a:p.funcs[i]?=some f)(b:f.code[j]?=some x):A8 p f x:=h.parts.2.2.2.1 i (d7.1 a).1 f a j (d7.1 b).1 x b
theorem GY:AW 1=1/\AW 2=2/\AW 3=2/\AW 4=3/\AW 5=3/\AW 6=4/\AW 7=4/\AW 27=10/\AW 28=11:=by decide+kernel
theorem A8.const(h:A8 p f x)(e:x.op=1):∃(q:Nat) (z:MC),x.a=q/\p.ag[q]?=some z:=by
 obtain⟨_,_,h⟩:=h;rw[e,GY.1]at h;unfold A4 Bb at h;have h1:0<=x.a/\x.a<p.ag.length:=by rcases h with h|h|h|h|h|h|h|h|h|h<;>first|(exfalso;omega)|exact⟨h.2.1,h.2.2.1⟩
 obtain⟨q,b⟩:=i7 h1.1;rw[b]at h1;exact⟨q,_,b,an oM⟩
theorem Ps(h:¬AR f a=0):∃q:Nat,a=q/\(f.params++f.locals)[q]?=some (AR f a):=by
 by_cases b:a<0
 . exact absurd (Ho b) h
 obtain⟨q,c⟩:=i7 (by omega:0<=a);refine⟨q,c,?_⟩;subst c;unfold AR at h⊢;rw[lE b]at h⊢;rw[kF]at h⊢;simp only[kJ]at h⊢;cases e:(f.params++f.locals)[q]? with
 |none=>rw[e]at h;exact absurd rfl h
 |some z=>rfl
theorem A8.local(h:A8 p f x)(e:x.op=2\/x.op=3\/x.op=27):∃q:Nat,x.a=q/\(f.params++f.locals)[q]?=some (AR f x.a):=by
 apply Ps;obtain⟨_,_,h⟩:=h;have b:AW x.op=2\/AW x.op=10:=by
  rcases e with e|e|e<;>rw[e]
  . exact .inl GY.2.1
  . exact .inl GY.2.2.1
  exact .inr GY.2.2.2.2.2.2.2.1
 unfold A4 Bb at h;rcases h with h|h|h|h|h|h|h|h|h|h<;>first|(exfalso;omega)|exact h.2.1
theorem QK{b:Int}(j:p.aB.length=3)(h:¬Ch p a b=0):∃(q z:Nat) (r:List Int),a=q/\b=z/\p.aB[q]?=some r/\r[z]?=some (Ch p a b):=by
 by_cases f:a<0\/2<a\/b<0
 . exact absurd (FA f) h
 obtain⟨q,g⟩:=i7 (by omega:0<=a);obtain⟨z,i⟩:=i7 (by omega:0<=b);subst g i;have d:p.aB[q]?=some (p.aB[q]'oM):=an oM
 refine⟨q,z,_,rfl,rfl,d,?_⟩;have e:=Jz (p:=p) (r:=q) (c:=z) oM d;rw[e]at h⊢;rw[kF]at h⊢;cases e2:(p.aB[q]'oM)[z]? with
 |none=>rw[e2]at h;exact absurd rfl h
 |some t=>rfl
theorem QM{q z:Nat}{r:List Int}{t:Int}(h1:x.a=q)(h2:x.b=z)(c:p.aB[q]?=some r)(d:r[z]?=some t):FW p x=t:=by unfold FW;rw[h1,h2];simp only[kJ,c,d];rfl
theorem A8.cell(g:p.aB.length=3)(h:A8 p f x)(e:x.op=4\/x.op=5\/x.op=6\/x.op=7):∃(q z:Nat) (r:List Int),x.a=q/\x.b=z/\p.aB[q]?=some r/\r[z]?=some (FW p x):=by
 obtain⟨_,_,h⟩:=h;have j:AW x.op=3\/AW x.op=4:=by
  rcases e with e|e|e|e<;>rw[e]
  . exact .inl GY.2.2.2.1
  . exact .inl GY.2.2.2.2.1
  . exact .inr GY.2.2.2.2.2.1
  exact .inr GY.2.2.2.2.2.2.1
 unfold A4 Bb at h;have i:¬Ch p x.a x.b=0:=by rcases h with h|h|h|h|h|h|h|h|h|h<;>first|(exfalso;omega)|exact h.2.1|exact h.2.1.there
 obtain⟨q,z,r,h1,h2,c,d⟩:=QK g i;refine⟨q,z,r,h1,h2,c,?_⟩;rw[QM h1 h2 c d];exact d
theorem A8.jf(h:A8 p f x)(e:x.op=6\/x.op=7):EY p x.a x.b x.c:=by
 obtain⟨_,_,h⟩:=h;have d:AW x.op=4:=by
  rcases e with e|e<;>rw[e]
  . exact GY.2.2.2.2.2.1
  exact GY.2.2.2.2.2.2.1
 unfold A4 Bb at h;rcases h with h|h|h|h|h|h|h|h|h|h<;>first|(exfalso;omega)|exact h.2.1
theorem A8.callee(h:A8 p f x)(e:x.op=28):∃(q:Nat) (c:MF),x.a=q/\p.funcs[q]?=some c:=by
 obtain⟨_,_,h⟩:=h;rw[e,GY.2.2.2.2.2.2.2.2]at h;unfold A4 Bb at h;have h1:0<=x.a/\x.a<p.funcs.length:=by rcases h with h|h|h|h|h|h|h|h|h|h<;>first|(exfalso;omega)|exact⟨h.2.1,h.2.2.1⟩
 obtain⟨q,b⟩:=i7 h1.1;rw[b]at h1;exact⟨q,_,b,an oM⟩
theorem T7:AW 8=5/\AW 9=5/\AW 10=5/\AW 11=5/\AW 12=5/\AW 13=6/\AW 14=6/\AW 15=6/\AW 16=6/\AW 20=7/\AW 21=5/\AW 22=8:=by decide+kernel
theorem A8.type(h:A8 p f x)(e:(8<=x.op/\x.op<=16)\/x.op=20\/x.op=21):Fk x.a=true:=by
 obtain⟨_,_,h⟩:=h;have c:AW x.op=5\/AW x.op=6\/AW x.op=7:=by
  have b:x.op=8\/x.op=9\/x.op=10\/x.op=11\/x.op=12\/x.op=13\/x.op=14\/x.op=15\/x.op=16\/x.op=20\/x.op=21:=oM
  obtain⟨d,g,i,j,k,l,m,n,q,r,s,t⟩:=T7;rcases b with e|e|e|e|e|e|e|e|e|e|e<;>rw[e]<;>omega
 unfold A4 Bb at h;rcases h with h|h|h|h|h|h|h|h|h|h<;>first|(exfalso;omega)|(rcases h.1 with h|h|h<;>first|exact h.2|(rcases h.2 with e|e<;>rw[e]<;>rfl))
theorem A8.conv(h:A8 p f x)(e:x.op=22):Fk x.a=true/\Fk x.b=true:=by
 obtain⟨_,_,h⟩:=h;have c:AW x.op=8:=by rw[e];exact T7.2.2.2.2.2.2.2.2.2.2.2
 unfold A4 Bb at h;rcases h with h|h|h|h|h|h|h|h|h|h<;>first|(exfalso;omega)|exact⟨h.2.1,h.2.2.1⟩
theorem A8.jT(h:A8 p f x)(e:x.op=2):AR f x.a≠0:=fun c=>by
 have b:=h.2.2;have d:AW x.op=2:=by rw[e];exact GY.2.1
 unfold A4 Bb at b;rcases b with h|h|h|h|h|h|h|h|h|h<;>first|(exfalso;omega)|exact h.2.1 c
theorem Ss(D:Bj p 0)(d:A8 p f x):(∀t∈AE p f x,t=0->0<(AC p f x).length)/\(AE p f x).length<=2:=by
 have i:=D.parts;have one:∀t:Int,t≠0->(∀u∈[t],u=0->0<(AC p f x).length)/\[t].length<=2:=fun t g=>⟨fun u A e=>by simp only[kM]at A;exact absurd (A.symm.trans e) g,sP⟩
 unfold AE;by_cases c1:x.op=1
 . rw[lI c1];obtain⟨q,z,c,b⟩:=d.const c1;have C:=i.2.1.2 q (d7.1 b).1 z b;(have h:Wt p.ag x.a.toNat=z:=by unfold Wt;rw[c,kJ,b];rfl);rw[h];exact one _ (IK C.1)
 rw[lE c1];by_cases c2:x.op=2
 . rw[lI c2];exact one _ (d.jT c2)
 rw[lE c2];by_cases c4:x.op=4\/x.op=6
 . rw[lI c4];obtain⟨q,z,r,c,b,h,B⟩:=d.cell i.1.1 oM;have:=(i.1.2 q (d7.1 h).1 r h).2;exact one _ (IK (nM.1 this _ (d9 B)))
 rw[lE c4];by_cases y:8<=x.op/\x.op<=16
 . rw[lI y];exact one _ (IK (d.type oM))
 rw[lE y];by_cases n:x.op=17\/x.op=18
 . rw[lI n];exact one _ dC
 rw[lE n];by_cases s:x.op=19
 . rw[lI s];exact one _ dC
 rw[lE s];by_cases v:x.op=20\/x.op=21
 . rw[lI v];exact one _ dC
 rw[lE v];by_cases j:x.op=22
 . rw[lI j];exact one _ (IK (d.conv j).2)
 rw[lE j];by_cases w:x.op=23
 . rw[lI w];(have c:AC p f x=[0]:=by unfold AC;rw[lE oM,lE oM,lE oM,lE oM,lE oM,lE oM,lE oM,lE oM,lI oM]);rw[c];exact⟨fun _ _ _=>sP,sP⟩
 rw[lE w];by_cases k:x.op=28
 . rw[lI k];obtain⟨q,l,c,b⟩:=d.callee k;have E:Dh l:=i.2.2.1.2.2.1 q (d7.1 b).1 l b;rw[c,kJ,b];simp only[];unfold Cm;by_cases m:l.result=0
   . rw[lI m];exact⟨fun t g=>(by cases g),sP⟩
   rw[lE m];exact one _ m
 rw[lE k];exact⟨fun t g=>(by cases g),sP⟩
def OL(zs:List Int)(k a:Nat):List Value:=((zs.drop k).take (a-k)).map (Value.int .u8)
theorem Td(zs:List Int)(k:Nat):OL zs k k=[]:=by simp[OL]
theorem Kq(zs:List Int){a:Nat}(h:a<=b)(d:b<=c):OL zs a b++OL zs b c=OL zs a c:=by unfold OL;rw[<-lW,show c-a=(b-a)+(c-b)from oM,List.take_add,List.drop_drop,show a+(b-a)=b from oM]
theorem PX(zs:List Int)(f:C7 zs)(p:Nat):∀n,n<=7->∃x:Nat,BW zs p n=(x:Int)/\x<2 ^ (8*n)/\∀i,i<n->((x / 2 ^ (8*i) % 256:Nat):Int)=zs.getD (p+i) 0
 |0,_=>⟨0,rfl,by decide,fun i b=>absurd b (by omega)⟩
 | n +1,hn=>by
   obtain⟨x,v,d,s⟩:=PX zs f p n oM;have k:=f (p+n);obtain⟨c,a⟩:=i7 k.1;have m:=a;rw[kF]at a;have z:(2:Nat) ^ (8*n)<=2 ^ 48:=Nat.pow_le_pow_right dC oM;have j:0<(2:Nat) ^ (8*n):=Nat.pow_pos dC;have r:((2 ^ (8*n):Nat):Int)=2 ^ (8*n):=sP;have l:c<=255:=oM;have A:c*2 ^ (8*n)<=255*2 ^ (8*n):=Nat.mul_le_mul_right _ l;(have u:(2:Nat) ^ (8*(n+1))=256*2 ^ (8*n):=by rw[show 8*(n+1)=8*n+8 from oM,Nat.pow_add,Nat.mul_comm]);(have w:IntKind.u64.wrap (c:Int)=(c:Int):=by show(c:Int) % 2 ^ 64=c;omega);(have y:IntKind.u64.wrap ((c:Int)*2 ^ (8*n))=((c*2 ^ (8*n):Nat):Int):=by show(c:Int)*2 ^ (8*n) % 2 ^ 64=_;rw[<-r,<-Int.natCast_mul];generalize c*2 ^ (8*n)=q at*;omega);(have t:x ||| (c*2 ^ (8*n))=c*2 ^ (8*n)+x:=by rw[Nat.or_comm,<-Nat.shiftLeft_eq,Nat.shiftLeft_add_eq_or_of_lt d]);refine⟨c*2 ^ (8*n)+x,?_,by rw[u];omega,fun i b=> ?_⟩
   . show bits .or .u64 (BW zs p n) _=_;rw[v,a,w,y,Wh _ _ oM oM,t]
   by_cases e:i=n
   . subst e;rw[Nat.add_comm,Nat.add_mul_div_right _ _ j,Nat.div_eq_of_lt d,ki,m];(congr 1);omega
   rw[<-s i oM];(have g:(2:Nat) ^ (8*n)=2 ^ (8*i)*(256*2 ^ (8*(n-i-1))):=by rw[show 8*n=8*i+(8+8*(n-i-1))from oM,Nat.pow_add,Nat.pow_add]);(have h:c*2 ^ (8*n)+x=x+2 ^ (8*i)*(256*(c*2 ^ (8*(n-i-1)))):=by rw[g,Nat.add_comm];(congr 1);rw[Nat.mul_left_comm,Nat.mul_left_comm c]);rw[h,Nat.add_mul_div_left _ _ (Nat.pow_pos dC)];(congr 1);omega
section
variable {zs:List Int} {α β:Type}
def Wr(zs:List Int)(r:FT α)(P:α->List Value->Prop):Prop:=∀k x a,r k=some (x,a)->k<=zs.length->k<=a/\a<=zs.length/\P x (OL zs k a)
theorem Wr.num(d:C7 zs)(n:Nat)(b:n<=7):Wr zs (Cz zs n) fun x l=>l=Az x n/\0<=x/\x<2 ^ (8*n):=fun k x s h q=>by
 have j:=Jl d b h;obtain⟨rfl,g,c⟩:=Jk h;refine⟨oM,g,?_,j⟩;obtain⟨y,m,r,f⟩:=PX zs d k n b;have p:(2:Nat) ^ (8*n)<=2 ^ 56:=Nat.pow_le_pow_right dC oM;have e:wrap64 (y:Int)=y:=by unfold wrap64;omega
 rw[m,e]at c;subst c;unfold OL Az;apply la;intro i;rw[kh,kh,mO];by_cases a:i<n
 . rw[List.getElem?_take_of_lt a,nH,nO a];have:=f i a;rw[kF,an oM]at this;rw[an oM];simp only[nF,mm]at this⊢;rw[<-this];simp
 rw[kK (by rw[lB];omega),kK (by rw[lO];omega)];rfl
theorem Wr.gM{x:α}{P:α->List Value->Prop}(h:P x []):Wr zs (Fc x) P:=fun k y b e a=>by simp only[Fc,i4,Prod.mk.injEq]at e;obtain⟨rfl,rfl⟩:=e;exact⟨Nat.le_refl _,a,by rw[Td];exact h⟩
theorem Wr.then{r:FT α}{g:α->FT β}{P:α->List Value->Prop}{Q:β->List Value->Prop}(h:Wr zs r P)(m:∀x l,P x l->Wr zs (g x) fun z l'=>Q z (l++l')):Wr zs (CD r g) Q:=fun k z p e n=>by
 cases e1:r k with
 |none=>rw[AB e1]at e;cases e
 | some y=>obtain⟨x,a⟩:=y;rw[Cp e1]at e;obtain⟨b,c,d⟩:=h k x a e1 n;obtain⟨f,i,j⟩:=m x _ d a z p e c;exact⟨oM,i,by rw[<-Kq zs b f];exact j⟩
theorem Wr.mono{r:FT α}{P Q:α->List Value->Prop}(h:Wr zs r P)(c:∀x l,P x l->Q x l):Wr zs r Q:=fun k x b e a=>⟨(h k x b e a).1,(h k x b e a).2.1,c _ _ (h k x b e a).2.2⟩
theorem Wr.many{r:FT α}{f:α->List Value}(h:Wr zs r fun x l=>l=f x)(c:Nat):Wr zs (A9 r c) fun xs l=>xs.length=c/\l=xs.flatMap f:=by
 induction c with
 |zero=>exact Wr.gM ⟨rfl,rfl⟩
 | succ c d=>
   refine Wr.then d fun xs l a=>Wr.then h fun x l' b=>Wr.gM ⟨?_,?_⟩
   . rw[f6,a.1];rfl
   rw[a.2,b,kO];simp
theorem Wr.list{r:FT α}{f:α->List Value}(e:C7 zs)(n:Nat)(d:n<=7)(h:Wr zs r fun x l=>l=f x):Wr zs (Eg zs n r) fun xs l=>l=Az xs.length n++xs.flatMap f:=by
 refine(Wr.num e n d).then fun c l a=>(h.many c.toNat).mono fun xs l' b=> ?_
 rw[a.1,b.2,b.1,mj a.2.1]
theorem Wr.types(a:C7 zs)(n:Nat)(b:n<=7):Wr zs (B4 zs n) fun xs l=>l=Az xs.length n++CV 1 xs:=Wr.list a n b ((Wr.num a 1 oM).mono fun _ _ h=>h.1)
theorem Wr.const(a:C7 zs):Wr zs (D6 zs) fun x l=>l=Bz x:=(Wr.num a 1 oM).then fun t l h=>(Wr.num a 4 oM).then fun x l' b=>Wr.gM (by rw[h.1,b.1];simp[Bz])
theorem Wr.iq(d:C7 zs):Wr zs (FY zs) fun x l=>l=BI x:=(Wr.num d 1 oM).then fun o l h=>(Wr.num d 1 oM).then fun a f h1=>(Wr.num d 2 oM).then fun b g h2=>(Wr.num d 4 oM).then fun c i e=>Wr.gM (by rw[h.1,h1.1,h2.1,e.1];simp[BI,CV])
theorem Wr.hY(d:C7 zs):Wr zs (Iv zs) fun x l=>l=Cf x:=(Wr.num d 2 oM).then fun o l h=>(Wr.num d 2 oM).then fun a f h1=>(Wr.num d 1 oM).then fun b g h2=>(Wr.num d 4 oM).then fun c i e=>Wr.gM (by rw[h.1,h1.1,h2.1,e.1];simp[Cf,CV])
theorem Wr.func(a:C7 zs):Wr zs (Fb zs) fun x l=>l=BC x:=(Wr.types a 1 oM).then fun i l h=>(Wr.num a 1 oM).then fun r d h1=>(Wr.types a 1 oM).then fun g e h2=>(Wr.list a 2 oM (Wr.iq a)).then fun c f b=>Wr.gM (by rw[h,h1.1,h2,b];simp[BC,CV])
theorem Wr.prog(a:C7 zs):Wr zs (FR zs) fun p l=>CY p=B8++Az 1 2++l:=((Wr.types a 2 oM).many 3).then fun rs l h=>(Wr.list a 2 oM (Wr.const a)).then fun c e h1=>(Wr.list a 2 oM (Wr.func a)).then fun d f h2=>(Wr.list a 2 oM (Wr.hY a)).then fun ts g b=>Wr.gM (by rw[h.2,h1,h2,b,show(fun xs:List Int=>Az xs.length 2++CV 1 xs)=Cb from rfl];simp[CY])
end
theorem DQ.jM{zs:List Int}(a:C7 zs)(h:DQ zs 0 p):Bj p 0/\p.wf/\ME p=zs.map (Value.int .u8):=by
 unfold DQ at h;rcases h with h|h|h|h|h|h|h
 . exact absurd h.2.1 oM
 . exact absurd h.2.2.1 oM
 . exact absurd h.2.2.2.1 oM
 . exact absurd h.2.2.2.2.1 oM
 . obtain⟨q,k,h⟩:=h;exact absurd h.2.2.2.2.2.1 oM
 . obtain⟨q,n,h⟩:=h;exact absurd h.2.2.2.2.2.2.1 oM
 obtain⟨⟨A,u⟩,b,g,f,r,_⟩:=h;have e:(AN zs).length=zs.length-4:=by unfold AN;rw[lB];omega
 have i:C7 (AN zs):=a.take _;refine⟨r,(A7.prog i 6 p _ f).2,?_⟩;obtain⟨y,z,m⟩:=Wr.prog i 6 p _ f (by rw[e];omega);have j:=(Wr.num a 2 oM 4 _ 6 (by unfold Cz;rw[lI oM]) oM).2.2.1;have l:=(Wr.num a 4 oM (zs.length-4) _ zs.length (by unfold Cz;rw[lI oM,show zs.length-4+4=zs.length from oM]) oM).2.2.1;unfold Kz at g;unfold Hc at b;rw[g]at j;rw[b]at l;have v:B8=OL zs 0 4:=by unfold OL;rw[List.drop_zero,u];rfl
 have w:OL (AN zs) 6 (zs.length-4)=OL zs 6 (zs.length-4):=by unfold OL AN;rw[List.drop_take,List.take_take,Nat.min_self]
 have c:CY p=OL zs 0 (zs.length-4):=by rw[m,v,<-j,w,Kq zs oM oM,Kq zs oM oM]
 have d:CY p=(AN zs).map (Value.int .u8):=by rw[c];unfold OL AN;rw[List.drop_zero,Nat.sub_zero]
 have s:BN (CY p)=AN zs:=by rw[d];unfold BN;rw[nT];exact(mW fun x _=>rfl).trans (List.map_id _)
 have t:(CY p).length=zs.length-4:=by rw[d,kZ,e]
 unfold ME;rw[s,t,<-l,c,Kq zs oM oM];unfold OL;rw[List.drop_zero,Nat.sub_zero,List.take_length]
theorem VW{g o L c:Nat}{a:List Int}(h:Cj u (sO g o L c) L (a.map (Value.int .u8)))(l:C7 a)(n:10<=L){str:ByteArray}(k:str=⟨((a.take 4).map fun z=>UInt8.ofNat z.toNat).toArray⟩):(convert 22 9 (sO g o 4 c)).run Tryz.prog u=.ok (.string str) u:=by
 have r:a.length=L:=by simpa using h.1
 have f:((a.take 4).map fun z=>UInt8.ofNat z.toNat).length=4:=oT;have:=run_convert_bytes_back (P:=Tryz.prog) u 22 9 5 ⟨g,o,none⟩ c ((a.take 4).map fun z=>UInt8.ofNat z.toNat) Tryz.underlying22 Tryz.underlying5 Tryz.underlying9 (fun j p=>by
  have q:j<4:=oM;rcases h.2 with⟨e,_⟩|⟨m,s,c',e,i⟩
  . omega
  cases e
  have d:j<a.length:=oM;have b:=l j;rw[kF,an d]at b;simp only[mm]at b;have:=i j (.int .u8 a[j]) (by rw[kh,an d];rfl);rw[DF,this];simp only[List.getElem_map,List.getElem_take,UInt8.toNat_ofNat'];congr 2
  omega)
 rw[f,<-k]at this;exact this
theorem T6{M:Nat}(h:∀j,u.cell? ⟨M,j,none⟩=(#[.int .u8 80,.int .u8 76,.int .u8 67,.int .u8 49]:Array Value)[j]?):(convert 22 9 (sG M 4 4)).run Tryz.prog u=.ok (.string ⟨#[80,76,67,49]⟩) u:=
 run_convert_bytes_back (P:=Tryz.prog) u 22 9 5 ⟨M,0,none⟩ 4 [80,76,67,49] Tryz.underlying22 Tryz.underlying5 Tryz.underlying9 (fun j a=>by
  rw[DF,ki,h j];match j,a with
  |0,_=>rfl
  |1,_=>rfl
  |2,_=>rfl
  |3,_=>rfl)
theorem O6(a b:Value)(str:ByteArray)(u:World)(h1:(convert 22 9 a).run Tryz.prog u=.ok (.string str) u)(h2:(convert 22 9 b).run Tryz.prog u=.ok (.string ⟨#[80,76,67,49]⟩) u):
 Calls Tryz.prog 121 #[a,b] u fun e c=>e=.returned (.bool (str.toList==[80,76,67,49]))/\c=u:=by
 go_enter Tryz.func121,Tryz.ntmps121;go_wp2;go_ret;exact⟨rfl,rfl⟩
theorem J6(g o L c M:Nat)(str:ByteArray)(u:World)(f:10<=L)(h:L<=c)(h1:(convert 22 9 (sO g o 4 c)).run Tryz.prog u=.ok (.string str) u)(h2:(convert 22 9 (sG M 4 4)).run Tryz.prog u=.ok (.string ⟨#[80,76,67,49]⟩) u):
 Calls Tryz.prog 94 #[sO g o L c,sG M 4 4] u fun e d=>e=.returned (.bool (str.toList==[80,76,67,49]))/\d=u:=by
 have j:(4:Int)<=(L:Int):=oM;have i:(4:Int)<=(c:Int):=oM;have a:=Ag h1;have b:=Ag h2;clear h1 h2;go_enter Tryz.func94,Tryz.ntmps94;go_wp2_with (go_at_call 121;refine(O6 _ _ str u a.o b.o).mono ?_;rintro e k ⟨rfl,rfl⟩);go_ret;exact⟨rfl,rfl⟩
def Ug(w:World)(B I L:Nat)(a:Option Addr)(c:Nat)(b:List Int)(e:Ending)(d:World):Prop:=(e=BF 1/\¬DI b/\En (fun j=>j=I) w d)\/(e=BF 2/\DI b/\¬Hc b/\En (fun j=>j=I) w d)\/(e=.returned (.tuple #[])/\DI b/\Hc b/\IF d B I (L-4) a c (AN b) 4/\En (fun j=>j=I) w d)
theorem MG(B I L:Nat)(a:Option Addr)(c:Nat)(b:List Int)(w:World)(J:D3 w)(aJ:0<B)(h:IF w B I L a c b 0):
 Calls Tryz.prog 55 #[.pointer (some ⟨I,0,none⟩)] w (Ug w B I L a c b):=by
 have aq:=h.len;have hL:=h.ir;have H:=h.cap;have r:=Ag h;have Z:=Ag J;have V:=Ag aq;have aE:=h.lt;have G:=h.hB;obtain⟨c0,c1⟩:=Ij h.cC;have au:=h.rd w (kV _ _);have ah:=h.hz;go_enter Tryz.func55,Tryz.ntmps55;by_cases aA:L<10
 . have aj:¬(10:Int)<=(L:Int):=oM;(have s:Hid (¬DI b):=fun hs=>by have:=hs.1;omega);go_wp2_with (go_at_call 56;refine(Eu 1 _).mono ?_;rintro e q ⟨rfl,d⟩;obtain rfl:=d.symm;unfold BF);exact⟨rfl,.inl ⟨rfl,s.o,En.refl _ _⟩⟩
 have aj:(10:Int)<=(L:Int):=oM;obtain⟨g,o,hg⟩:∃g o,a=some ⟨g,o,none⟩:=by
  rcases au.2 with⟨e,_⟩|⟨g,o,c',e,_⟩
  . omega
  cases e;exact⟨g,o,rfl⟩
 subst hg;obtain⟨str,aw,ao⟩:=DI.str ah oM;have s:Hid (DI b↔(str.toList==[80,76,67,49])=true):=by show _↔_;rw[ao,beq_iff_eq,ByteArray.toList_eq];exact⟨fun e=>by rw[e],fun e=>ByteArray.ext (Array.toList_inj.1 e)⟩
 have HW:Hid (∀u,Below w.heap.size w u->(convert 22 9 (sO g o 4 c)).run Tryz.prog u=.ok (.string str) u):=fun u d=>VW (h.rd u (d.mono oM)) ah oM aw
 generalize ae:(str.toList==[80,76,67,49])=z at s;have aH:=Lib.run_convert_bytes_const (P:=Tryz.prog) w 22 5 #[.int .u8 80,.int .u8 76,.int .u8 67,.int .u8 49] 4 4 Tryz.underlying22 Tryz.underlying5;cases z
 . go_wp2_with (first|(go_at_call 94;refine(J6 g o L c w.heap.size str _ oM H (HW.o _ (Aa _ _)) (T6 (fun j=>World.cell?_alloc_mark w #[.int .u8 80,.int .u8 76,.int .u8 67,.int .u8 49] 5 (4,5) j))).mono ?_;rintro e q ⟨rfl,d⟩;rw[ae];subst d)|(go_at_call 56;refine(Eu 1 _).mono ?_;rintro e q ⟨rfl,d⟩;subst d;unfold BF));exact⟨rfl,.inl ⟨rfl,fun h=>(by have:=s.o.1 h;cases this),En.of (Aa _ _)⟩⟩
 have Y:Hid (DI b):=s.o.2 rfl;go_upto_region 1 with(first|(go_at_call 94;refine(J6 g o L c w.heap.size str _ oM H (HW.o _ (Aa _ _)) (T6 (fun j=>World.cell?_alloc_mark w #[.int .u8 80,.int .u8 76,.int .u8 67,.int .u8 49] 5 (4,5) j))).mono ?_;rintro e q ⟨rfl,d⟩;rw[ae];subst d)|(go_at_call 56;refine(Ev 1 _).mono ?_;rintro e q ⟨rfl,d⟩;subst d))
 refine Ao (fun u=>Hid (Below w.heap.size w u)) (Aa _ _) ?_;intro u0 O;have U:=Ag (r.o.aa O.o);obtain⟨c0,c1⟩:=Ij U.o.cC;have am:((L-4:Nat):Int)=(L:Int)-4:=oM;have aG:(L:Int)-4<=(c:Int):=oM;have aF:(0:Int)<=(L:Int)-4:=oM;have aD:(4:Int)<=(L:Int):=oM;have aL:((L:Int)-4).toNat=L-4:=oM;have HG:Hid (∀u,Below B u0 u->Calls Tryz.prog 95 #[sO g o L c,iZ ((L:Int)-4),iZ 4] u fun e M=>e=.returned (.agg #[.bool true,iZ (wrap64 (BW b (L-4) 4))])/\Below u.heap.size u M):=fun u d=>by have:=IZ (sO g o L c) L b (L-4) 4 u hL (U.o.rd u d) (fun a' c' e=>by cases e;exact H) oM oM oM;rw[am]at this;exact this
 have W:Hid (∀u,Below B w u->Cj u (sO g o (L-4) c) (L-4) ((AN b).map (Value.int .u8))):=fun u d=>by have:=(r.o.rd u d).front (m:=L-4) oM oM;rw[AN,V.o];exact this
 have a8:Hid (C7 (AN b)):=r.o.hz.take _;have T:Hid (∀u,Below B w u->D3 u->Calls Tryz.prog 26 #[sO g o (L-4) c] u fun e M=>e=.returned (.int .u32 (DO (~~~(BU (AN b) (L-4)))))/\M=u):=fun u d J=>PT _ (L-4) (AN b) u oM (W.o u d) a8.o J
 have aI:IntKind.i64.wrap (DO (~~~(BU (AN b) (L-4))))=DO (~~~(BU (AN b) (L-4))):=by
  have:=Hu (~~~(BU (AN b) (L-4)))
  exact lU _ ⟨oM,oM⟩
 have E:Hid (Hc b↔wrap64 (BW b (L-4) 4)=DO (~~~(BU (AN b) (L-4)))):=by unfold Hc;rw[V.o];exact Iff.rfl
 generalize wrap64 (BW b (L-4) 4)=l at*;generalize DO (~~~(BU (AN b) (L-4)))=K at*
 go_upto_region 3 with(go_at_call 95;refine(HG.o _ (kV _ _)).mono ?_;rintro e N ⟨rfl,b1⟩;have B1:Hid (Below w.heap.size w N):=Ac O.o lR b1;clear b1)
 refine Ao (fun u=>Hid (Below w.heap.size w u/\Aw u N.heap.size #[.bool true,iZ l] 44)) ⟨Ac B1.o lR (Aa _ _),Aw.new _ _ _⟩ ?_
 generalize N.heap.size=X;intro q Q;have a6:Hid (∀u,Below w.heap.size w u->D3 u):=fun u d j hj=>by rw[d.cell (d5 (Z.o j hj))];exact Z.o j hj
 have t:∀u,Below w.heap.size w u/\Aw u X #[.bool true,iZ l] 44->(u.cell? ⟨X,1,none⟩=some (iZ l)/\u.cell? ⟨I,0,none⟩=some (sO g o L c)):=fun u h=>⟨h.2.cell 1,(r.o.aa h.1).cC.cell 0⟩
 have f:=Ag (f7 (Ac Q.o.1 lR (Ae _)) (Q.o.2.aa (Ae _)));by_cases x:l=K
 . have F:Hid (Hc b):=E.o.2 x;(have hb:(l==K)=true:=by simpa using x);clear E x;refine wp_region_held_drew (S:=fun y=>(y.cell? ⟨X,1,none⟩=some (iZ l)/\y.cell? ⟨I,0,none⟩=some (sO g o L c))) kR (t _ f.o) (fun n=> ?_)
   generalize q.drew=i at f n⊢;refine An 0 ?_;refine An 1 ?_;refine An 2 ?_;refine An 3 ?_;refine An 4 ?_;refine An 5 ?_;refine An 6 ?_;refine An 7 ?_;clear n;go_simp;refine rdH 8 ?_;intro D p;go_simp;refine(T.o i (f.o.1.mono oM) (a6.o i f.o.1)).mono ?_;rintro e v1 ⟨rfl,k⟩;obtain rfl:=k.symm;go_simp;refine p.o _ _ (t _ f.o) (fun n=> ?_);clear p D;refine An 9 ?_;refine An 10 ?_;refine rdH 11 ?_;intro D p;go_simp;refine(Ev 2 _).mono ?_;rintro e v2 ⟨rfl,k⟩;obtain rfl:=k.symm;go_simp;refine p.o _ _ (t _ f.o) (fun n=> ?_);refine wpAnyH_done kR ?_ _;have C:=Ag (r.o.aa f.o.1);obtain⟨c0,c1⟩:=Ij C.o.cC;have z0:=C.o.cC.frozen 0;have z1:=C.o.cC.frozen 1;go_wp2;have A:Hid (Aw ((i.setCell ⟨I,0,none⟩ (sO g o (L-4) c)).setCell ⟨I,1,none⟩ (iZ 4)) I #[sO g o (L-4) c,iZ ((4:Nat):Int)] 82/\Below B w ((i.setCell ⟨I,0,none⟩ (sO g o (L-4) c)).setCell ⟨I,1,none⟩ (iZ 4))/\En (fun j=>j=I) w ((i.setCell ⟨I,0,none⟩ (sO g o (L-4) c)).setCell ⟨I,1,none⟩ (iZ 4))):=by refine⟨?_,((f.o.1.mono oM).setCell G (sO g o (L-4) c)).setCell G (iZ 4),((En.of (R:=fun j=>j=I) f.o.1).setCell (ad:=⟨I,0,none⟩) (.inl rfl) (sO g o (L-4) c)).setCell (ad:=⟨I,1,none⟩) (.inl rfl) (iZ 4)⟩;have:=(C.o.cC.set 0 (sO g o (L-4) c)).set 1 (iZ 4);simpa using this
   generalize (i.setCell ⟨I,0,none⟩ (sO g o (L-4) c)).setCell ⟨I,1,none⟩ (iZ 4)=WF at A⊢;exact ke (v:=.tuple #[]) kR rfl (.inr (.inr ⟨rfl,Y.o,F.o,⟨A.o.1,fun v k=>W.o v (A.o.2.1.trans k),oM,oM,G,a8.o,oM⟩,A.o.2.2⟩))
 have F:Hid (¬Hc b):=fun h=>x (E.o.1 h)
 have hb:(l==K)=false:=by simpa using x
 refine wp_region_held_drew (S:=fun y=>(y.cell? ⟨X,1,none⟩=some (iZ l)/\y.cell? ⟨I,0,none⟩=some (sO g o L c))) kR (t _ f.o) (fun n=> ?_)
 generalize q.drew=i at f n⊢;refine An 0 ?_;refine An 1 ?_;refine An 2 ?_;refine An 3 ?_;refine An 4 ?_;refine An 5 ?_;refine An 6 ?_;refine An 7 ?_;go_simp;refine rdH 8 ?_;intro D p;go_simp;refine(T.o i (f.o.1.mono oM) (a6.o i f.o.1)).mono ?_;rintro e v1 ⟨rfl,k⟩;obtain rfl:=k.symm;go_simp;refine p.o _ _ (t _ f.o) (fun n=> ?_);refine An 9 ?_;refine An 10 ?_;refine rdH 11 ?_;intro D p;go_simp;refine(Eu 2 _).mono ?_;rintro e v2 ⟨rfl,k⟩;obtain rfl:=k.symm;unfold BF;go_wp2;exact⟨rfl,.inr (.inl ⟨rfl,Y.o,F.o,En.of f.o.1⟩)⟩
structure GV where
 fc:Int
 fa:Int
 gb:Nat
 ob:Nat
 cb:Nat
 go:Nat
 oo:Nat
 co:Nat
 vi:Value
 vl:Value
 gi:Nat
 ci:Nat
 gc:Nat
 cc:Nat
def Ll(x:Int):Prop:=0<=x/\x<=4294967295
structure Gr(w u:World)(G n:Nat)(x:GV)(bad:Bool)(I:List Nat)(C:List Int):Prop where
 cC:Aw u G #[iZ x.fc,iZ x.fa,sO x.gb x.ob n x.cb,sO x.go x.oo n x.co,x.vi,x.vl,sG x.gi n x.ci,sG x.gc n x.cc,.bool bad] 240
 lo:w.heap.size<=G
 gQ:u.ownsRow w.heap.size 2 1 (sG x.gi n x.ci) n (nv I)
 cost:u.ownsRow w.heap.size 2 1 (sG x.gc n x.cc) n (C.flatMap Ad)
 ne:x.gi≠x.gc
 aC:Below w.heap.size w u
 il:I.length=n
 ib:∀y∈I,y<n
 cl:C.length=n
 cb:∀y∈C,Ll y
structure GF(w:World)(n:Nat)(x:GV)(E:Nat->List Nat)(O:List Nat):Prop where
 gr:Jx w x.gb x.ob n E
 ord:∀k y:Nat,O[k]?=some y->w.cell? ⟨x.go,x.oo+k,none⟩=some (iZ (y:Int))
 ol:O.length=n
 ob:∀y∈O,y<n
 eb:∀b,b<n->∀y∈E b,y<n
 sz:∀b,(E b).length<=2
theorem Gr.aa{b:World}{x:GV}(h:Gr w u G n x bad I C)(a:Below u.heap.size u b):Gr w b G n x bad I C:={h with cC:=h.cC.aa a,gQ:=Ai h.gQ a lR,cost:=Ai h.cost a lR,aC:=Ac h.aC lR a}
theorem Gr.iP{x:GV}(h:Gr w u G n x bad I C):x.gi≠G/\x.gc≠G:=by
 obtain⟨_,c1,b⟩:=AQ h.gQ;obtain⟨_,c2,c⟩:=AQ h.cost;have a:=h.cC;unfold Aw at a;constructor
 . intro e;rw[e,a]at b;cases b
 intro e;rw[e,a]at c;cases c
theorem Cv{B k:Nat}{e:TypeId}{xs:List Value}(h:u.ownsRow B e k (sG g n c) n xs)(d:g≠b):(u.setCell ⟨b,i,none⟩ z).ownsRow B e k (sG g n c) n xs:=i9 h (a:=⟨b,i,none⟩) (fun e=>d (by simpa[Value.ownBlock]using e)) z
theorem Gr.gX{x:GV}(h:Gr w u G n x bad I C):Gr w (u.setCell ⟨G,8,none⟩ (.bool true)) G n x true I C:={h with cC:=by have:=h.cC.set 8 (.bool true);simpa using this,gQ:=Cv h.gQ h.iP.1,cost:=Cv h.cost h.iP.2,aC:=h.aC.setCell h.lo _}
theorem Gr.other{x:GV}(h:Gr w u G n x bad I C)(c:w.heap.size<=g)(h1:g≠G)(h2:g≠x.gi)(b:g≠x.gc):Gr w (u.setCell ⟨g,i,none⟩ z) G n x bad I C:={h with cC:=h.cC.other (a:=⟨g,i,none⟩) (fun e=>h1 e.symm) _,gQ:=Cv h.gQ h2.symm,cost:=Cv h.cost b.symm,aC:=h.aC.setCell c _}
theorem Gr.cells{x:GV}(h:Gr w u G n x bad I C):u.cell? ⟨G,2,none⟩=some (sO x.gb x.ob n x.cb)/\u.cell? ⟨G,3,none⟩=some (sO x.go x.oo n x.co)/\u.cell? ⟨G,6,none⟩=some (sG x.gi n x.ci)/\u.cell? ⟨G,7,none⟩=some (sG x.gc n x.cc)/\u.cell? ⟨G,8,none⟩=some (.bool bad)/\u.frozen? ⟨G,8,none⟩=false:=⟨by rw[h.cC.cell];rfl,by rw[h.cC.cell];rfl,by rw[h.cC.cell];rfl,by rw[h.cC.cell];rfl,by rw[h.cC.cell];rfl,h.cC.frozen 8⟩
theorem Gr.im{x:GV}(h:Gr w u G n x bad I C)(c:b<n):∃y,I[b]?=some y/\y<n/\u.cell? ⟨x.gi,b,none⟩=some (iZ (y:Int)):=by
 have a:b<I.length:=by rw[h.il];exact c
 have:=kW h.gQ b oM;rw[SS (an a)]at this;exact⟨_,an a,h.ib _ (ku a),this⟩
theorem FN{y:Int}(h:C[b]?=some y):(C.flatMap Ad)[b]?=some (iZ y):=by
 have:C.flatMap Ad=C.map (Value.int .i64):=by
  induction C generalizing b with
  |nil=>rfl
  | cons x r a=>
    have:List.flatMap Ad r=List.map (Value.int .i64) r:=by
     clear a h;induction r with
     |nil=>rfl
     |cons x r a=>rw[kG,a];rfl
    rw[kG,this];rfl
 rw[this,kh,h];rfl
theorem Gr.ie{x:GV}(h:Gr w u G n x bad I C)(c:b<n):∃y,C[b]?=some y/\Ll y/\u.cell? ⟨x.gc,b,none⟩=some (iZ y):=by
 have a:b<C.length:=by rw[h.cl];exact c
 have:=kW h.cost b oM;rw[FN (an a)]at this;exact⟨_,an a,h.cb _ (ku a),this⟩
theorem GF.at_{x:GV}{E:Nat->List Nat}{O:List Nat}(h:GF w n x E O)(a:Below w.heap.size w u):(∀k,k<n->∃y:Nat,y<n/\u.cell? ⟨x.go,x.oo+k,none⟩=some (iZ (y:Int)))/\Jx u x.gb x.ob n E:=⟨fun k b=>⟨O[k]'(by rw[h.ol];exact b),h.ob _ (ku _),Af a (h.ord k _ (an _))⟩,h.gr.aa a⟩
theorem Gj(G:Nat)(a b:Int)(i:Value)(u:World)(f:Ll a)(g:Ll b)(h:u.cell? ⟨G,8,none⟩=some i)(p:u.frozen? ⟨G,8,none⟩=false):
 Calls Tryz.prog 145 #[.pointer (some ⟨G,0,none⟩),iZ a,iZ b] u fun e d=>∃c,e=.returned (iZ c)/\Ll c/\(d=u\/d=u.setCell ⟨G,8,none⟩ (.bool true)):=by
 obtain⟨j,k⟩:=f;obtain⟨l,m⟩:=g;by_cases n:a+b>4294967295
 . go_enter Tryz.func145,Tryz.ntmps145;go_wp2;go_ret;exact⟨0,rfl,⟨oM,oM⟩,.inr rfl⟩
 go_enter Tryz.func145,Tryz.ntmps145;go_wp2;go_ret;exact⟨a+b,rfl,⟨oM,oM⟩,.inl rfl⟩
def Wo:Value->Nat
 |.slice _ n _=>n
 |_=>0
def I8(a:List Int)(n:Nat):List Value:=(List.range n).map fun(i:Nat)=>Value.bool (a.contains (i:Int))
theorem Fe(a:List Int)(n:Nat):(I8 a n).length=n:=by simp[I8]
theorem Gi(a:List Int)(n i:Nat)(h:i<n):(I8 a n)[i]?=some (.bool (a.contains (i:Int))):=by simp[I8,h]
theorem QP(n:Nat):List.replicate n (Value.bool false)=I8 [] n:=by
 apply la;intro j;by_cases a:j<n
 . rw[Gi _ _ _ a];simp[a]
 rw[kK oT,kK (by rw[Fe];omega)]
theorem QQ(b:List Int)(n i:Nat)(h:i<n):(I8 b n).set i (.bool true)=I8 (b++[(i:Int)]) n:=by
 apply la;intro j;by_cases a:j<n
 . rw[Gi _ _ _ a];by_cases e:j=i
   . subst e;rw[lu (by rw[Fe];exact h)];simp
   rw[lj oM,Gi _ _ _ a];have:¬(j:Int)=(i:Int):=oM;simp[this]
 rw[kK (by simp[Fe];omega),kK (by rw[Fe];omega)]
def Kh(b:List Int)(code:List MI)(k:Nat):Bool:=(code.take k).all fun x=> !decide (x.op=28)||b.contains x.a
theorem Lg(a:List MF)(b:List Int)(i:Nat)(f:MF)(c:a[i]?=some f):FG a b i=(!b.contains (i:Int)&&Kh b f.code f.code.length):=by
 unfold FG Kh Km;rw[c,lH lR];congr 1
 simp only[List.all_map,List.all_filter,Function.comp_def]
theorem Mm(b:List Int)(code:List MI)(k:Nat)(x:MI)(d:code[k]?=some x):Kh b code (k+1)=(Kh b code k&&(!decide (x.op=28)||b.contains x.a)):=by obtain⟨c,rfl⟩:=d7.1 d;unfold Kh;rw[kQ c,List.all_append];simp
theorem PE(a:List Int)(code:List MI)(k:Nat)(h:Kh a code k=false):Kh a code code.length=false:=by unfold Kh at*;rw[lH lR];rw[List.all_eq_false]at*;obtain⟨x,b,h2⟩:=h;exact⟨x,lz b,h2⟩
theorem Pu(n:Nat):(madeCells (Value.bool false).cells (n*1)).toList=List.replicate n (.bool false):=by rw[FM (fun b:Bool=>[Value.bool b]) [.bool false] [] n (.bool false) 1 rfl rfl oM];simp[Dd,List.flatten_replicate_singleton]
structure CW(w u:World)(v:VP)(n bd:Nat)(V:Value)(zs:List Int):Prop where
 pb:Ep u w.heap.size v.r v.k v.f v.t
 done:u.ownsRow w.heap.size 4 1 (.slice (some ⟨bd,0,none⟩) n n) n (I8 zs n)
 o:u.ownsRow (w.heap.size+1) 2 1 V zs.length (zs.flatMap Ad)
 aC:Below w.heap.size w u
theorem CW.aa{c:World}{v:VP}{V:Value}{d:List Int}(h:CW w u v n b V d)(a:Below u.heap.size u c):CW w c v n b V d:=⟨h.pb.aa a,Ai h.done a lR,Ai h.o a lR,Ac h.aC lR a⟩
end Go.Proofs.YthjbicggfnnonaaGreatDoor
