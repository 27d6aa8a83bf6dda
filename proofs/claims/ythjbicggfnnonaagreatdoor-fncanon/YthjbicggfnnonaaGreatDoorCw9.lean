import Derived.Test.YthjbicggfnnonaaGreatDoorCw7
import Derived.Laws.StructEq
namespace Go.Proofs.YthjbicggfnnonaaGreatDoor
open Go.ChangeShapes Go.WideShapes Go.ChangeAt Go.RowKit
set_option linter.unusedVariables false
set_option maxHeartbeats 2000000
set_option maxRecDepth 100000
variable {p:MP}{r:Ax}{c n k g X q x base i:Nat}{z h:Int}{α β:Type}{m:MB}{b:Bool}{M A C:List Ax}{t:TypeId}{xs:List MI}{x1 x2 x3 s:Value}{l:List Nat}{w a:World}{P Q:Nat->Bool}{E:Nat->List Nat}{D:Nat->Nat->Bool}{ts:List MT}
structure EY(p:MP)(a b c:Int):Prop where
 low:0<=c
 jB:c<256
 jf:bits .and .i64 c (c+1)=0
 there:¬Ch p a b=0
 one:∀j:Nat,(j:Int)<=c->Ch p a (b+j)=Ch p a b
theorem QL{r c:Int}(b:∀l∈p.aB,l.length<=1048576)(h:¬Ch p r c=0):0<=c/\c<1048576:=by
 unfold Ch at h;split at h
 . exact absurd rfl h
 rename_i g;refine⟨oM,?_⟩;by_cases a:r.toNat<p.aB.length
 . have f:=b _ (ku a);(have e:p.aB.getD r.toNat []=p.aB[r.toNat]:=by rw[kF,an a];rfl);rw[e]at h;by_cases d:c.toNat<p.aB[r.toNat].length
   . omega
   exact absurd (by rw[kF,kK oM];rfl) h
 have e:p.aB.getD r.toNat []=[]:=by rw[kF,kK oM];rfl
 rw[e]at h;exact absurd rfl h
theorem Ah(a:-9223372036854775808<=z:=by omega)(h1:z<=9223372036854775807:=by omega):Cr z:=by simp[Cr,Lit.wf,IntKind.min,IntKind.max,IntKind.signed,IntKind.bits];omega
theorem Gy(h:Cr z):-9223372036854775808<=z/\z<=9223372036854775807:=by simpa[Cr,Lit.wf,IntKind.min,IntKind.max,IntKind.signed,IntKind.bits]using h
theorem Pf(v:VP)(p:MP)(op a b c:Int)(w:World)(U:p.small)(L:p.aB.length=3)(N:Cr a)(O:Cr b)(Q:Cr c)(h:Ft w v p):
 Calls Tryz.prog 74 #[.agg #[v.r,v.k,v.f,v.t],.agg #[iZ op,iZ a,iZ b,iZ c]] w fun e Y=>Au e (EY p a b c)/\Below w.heap.size w Y:=by
 have l:Hid (Below w.heap.size w ((w.alloc (.cells #[v.r,v.k,v.f,v.t] 29)).alloc (.cells #[iZ op,iZ a,iZ b,iZ c] 96))):=Ac (Aa _ _) lR (Aa _ _);have G:Hid (Ep ((w.alloc (.cells #[v.r,v.k,v.f,v.t] 29)).alloc (.cells #[iZ op,iZ a,iZ b,iZ c] 96)) w.heap.size v.r v.k v.f v.t):=(Ep.new w _ _ _ _ _).alloc _;have J:Hid (Ep ((w.alloc (.cells #[v.r,v.k,v.f,v.t] 29)).alloc (.cells #[iZ op,iZ a,iZ b,iZ c] 96)) (w.heap.size+1) (iZ op) (iZ a) (iZ b) (iZ c)):=by have:=Ep.new (w.alloc (.cells #[v.r,v.k,v.f,v.t] 29)) (iZ op) (iZ a) (iZ b) (iZ c) 96;simpa[Hid]using this
 have H:Hid (p.small/\p.aB.length=3/\Cr a/\Cr b/\Ft w v p):=⟨U,L,N,O,h⟩
 obtain⟨c0,c1⟩:=Gy Q;by_cases V:c<0
 . (have d:Hid (¬EY p a b c):=fun e=>absurd e.low oM);go_enter Tryz.func74,Tryz.ntmps74;go_wp2;go_ret;exact⟨.no d.o,l.o⟩
 by_cases W:256<=c
 . (have d:Hid (¬EY p a b c):=fun e=>absurd e.jB oM);go_enter Tryz.func74,Tryz.ntmps74;go_wp2;go_ret;exact⟨.no d.o,l.o⟩
 obtain⟨c,rfl⟩:=i7 (show 0<=c from oM);have a6:c<256:=oM;have V:¬(c:Int)<0:=oM;have W:¬(256:Int)<=(c:Int):=oM;by_cases y:bits .and .i64 (c:Int) ((c:Int)+1)=0
 . have F:Hid (bits .and .i64 (c:Int) ((c:Int)+1)=0):=y;go_enter Tryz.func74,Tryz.ntmps74;go_wp2_with fail;refine(IL v p a b _ H.o.1 H.o.2.1 H.o.2.2.1 H.o.2.2.2.1 (H.o.2.2.2.2.aa l.o lR)).mono ?_;rintro e z ⟨rfl,u⟩;have D:Hid (Below w.heap.size w z/\Ep z w.heap.size v.r v.k v.f v.t/\Ep z (w.heap.size+1) (iZ op) (iZ a) (iZ b) (iZ (c:Int))):=⟨Ac l.o lR u,G.o.aa u,J.o.aa u⟩
   generalize M:Ch p a b=T;have m:=Ag M;go_wp2;go_loopw [6] (fun i wr=>∃k:Nat,k<=c+1/\i=iZ k/\Hid ((0<k->¬T=0)/\∀j:Nat,j<k->Ch p a (b+j)=T)/\Hid (Below w.heap.size w wr/\Ep wr w.heap.size v.r v.k v.f v.t/\Ep wr (w.heap.size+1) (iZ op) (iZ a) (iZ b) (iZ (c:Int)))) (fun i _=>c+1-(intOf i).toNat)
   (case atStart=>exact⟨0,oM,rfl,⟨fun h=>oM,fun j C=>oM⟩,D⟩);obtain⟨k,hk,rfl,s,g⟩:=hrel;obtain⟨p0,p1,p2,p3⟩:=g.o.2.1;obtain⟨i0,i1,i2,i3⟩:=g.o.2.2;by_cases ae:k<c+1
   . have S:(k:Int)<=(c:Int):=oM;by_cases n:T=0
     . (have X:(T==0)=true:=by simpa using n);(have d:Hid (¬EY p a b c):=fun e=>e.there (m.o.trans n));go_wp2;go_ret;exact⟨.no d.o,g.o.1⟩
     (have X:(T==0)=false:=by simpa using n);have P:=QL H.o.1.region (by rw[m.o];exact n);obtain⟨Z,b1⟩:=P;have I:=Ag n;go_wp2_with fail;refine(IL v p a (b+k) _ H.o.1 H.o.2.1 H.o.2.2.1 Ah (H.o.2.2.2.2.aa g.o.1 lR)).mono ?_;rintro e A ⟨rfl,x⟩;have B:Hid (Below w.heap.size w A/\Ep A w.heap.size v.r v.k v.f v.t/\Ep A (w.heap.size+1) (iZ op) (iZ a) (iZ b) (iZ (c:Int))):=⟨Ac g.o.1 lR x,g.o.2.1.aa x,g.o.2.2.aa x⟩
     by_cases q:Ch p a (b+k)=T
     . rw[q];have E:Hid ((0<k+1->¬T=0)/\∀j:Nat,j<k+1->Ch p a (b+j)=T):=⟨fun _=>I.o,fun j C=>by
        by_cases e:j=k
        . rw[e];exact q
        exact s.o.2 j oM⟩
       go_wp2;go_roundw;(case rel=>exact⟨k+1,oM,by go_num,E,B⟩);exact oI
     (have d:Hid (¬EY p a b c):=fun e=>q ((e.one k S).trans m.o));(have aj:(Ch p a (b+k)==T)=false:=by simpa using q);(have am:(Ch p a (b+k) != T)=true:=by simpa using q);go_wp2;go_ret;exact⟨.no d.o,B.o.1⟩
   have R:k=c+1:=oM;subst R;have K:Hid (EY p a b c):=⟨oM,oM,F.o,by rw[m.o];exact s.o.1 oM,fun j C=>by rw[m.o];exact s.o.2 j oM⟩;have a8:¬((c:Int)+1)<=(c:Int):=oM;go_wp2;go_ret;exact⟨.hQ K.o,g.o.1⟩
 have d:Hid (¬EY p a b c):=fun e=>y e.jf
 have ah:(bits .and .i64 (c:Int) ((c:Int)+1)==0)=false:=by simpa using y
 go_enter Tryz.func74,Tryz.ntmps74;go_wp2;go_ret;exact⟨.no d.o,l.o⟩
theorem Gz(s:Value)(a:List Int)(w:World)(A:a.length<=1048576)(h:Rd w 1 s a.length (a.flatMap Ad)):
 Calls Tryz.prog 76 #[s] w fun e C=>e=.returned (.bool (a.all Fk))/\C=w:=by
 have d:=Ag h;obtain⟨D,c1,rfl⟩:=h.bW;generalize t:a.length=n at A d;have f:=Ag t;generalize b:a.all Fk=R;have j:=Ag b;go_enter Tryz.func76,Tryz.ntmps76;go_wp2;go_loopw [7] (fun i wr=>∃k:Nat,k<=n/\i=iZ k/\Hid ((a.take k).all Fk=true)/\wr=w) (fun i _=>n-(intOf i).toNat)
 case atStart=>exact⟨0,oM,rfl,by simp[Hid],rfl⟩
 obtain⟨k,F,rfl,l,rfl⟩:=hrel;by_cases z:k<n
 . obtain⟨x,q⟩:∃x,a[k]?=some x:=⟨_,an (by rw[f.o];exact z)⟩;rcases d.o.2 with⟨E,_⟩|⟨g,o,c,p,v⟩
   . omega
   simp only[ip,kU]at p;obtain⟨rfl,rfl⟩:=p;have B:=Rd.elem Ar v k x q 0 _ rfl;rw[kn,kD]at B;have m:=Ag q;go_wp2_with fail;refine(Ex x wr).mono ?_;rintro e u ⟨rfl,rfl⟩;cases hq:Fk x with
   | false=>(have b:R=false:=by rw[<-j.o];exact PY _ _ _ (d9 m.o) hq);subst b;go_wp2;go_ret;exact⟨rfl,rfl⟩
   | true=>(have r:Hid ((a.take (k+1)).all Fk=true):=by show _=_;rw[Nt _ _ _ _ m.o l.o];exact hq);go_wp2;go_roundw;(case rel=>exact⟨k+1,oM,by go_num,r,by trivial⟩);exact oI
 have y:k=n:=oM;subst y;have b:R=true:=by rw[<-j.o,<-l.o,<-f.o,List.take_length]
 subst b;go_wp2;go_ret;exact⟨rfl,rfl⟩
def Hb(r:List Int):Prop:=r.length<=256/\r.all Fk=true
def AD(rs:List (List Int)):Prop:=rs.length=3/\∀j,j<rs.length->∀r,rs[j]?=some r->Hb r
theorem Kj(s:Value)(a:List (List Int))(w:World)(H:a.length<=1048576)(M:∀f∈a,f.length<=1048576)(h:OR w s a):
 Calls Tryz.prog 43 #[s] w fun e O=>Au e (AD a)/\O=w:=by
 obtain⟨xs,C,B,K⟩:=h;have N:xs.length=a.length:=by rw[<-C];simp
 have g:=Ag (f7 B (f7 C (f7 K (f7 M N))));obtain⟨P,c1,rfl⟩:=B.bW;generalize I:a.length=n at H g;have p:=Ag I;by_cases E:n=3
 . subst E;go_enter Tryz.func43,Tryz.ntmps43;go_wp2;go_loopw [10] (fun i wr=>∃k:Nat,k<=3/\i=iZ k/\Hid (∀j,j<k->∀r,a[j]?=some r->Hb r)/\wr=w) (fun i _=>3-(intOf i).toNat)
   (case atStart=>exact⟨0,oM,rfl,fun j U=>oM,rfl⟩);obtain⟨k,V,rfl,A,rfl⟩:=hrel;by_cases y:k<3
   . obtain⟨⟨f,v⟩,z⟩:∃x,xs[k]?=some x:=⟨_,an (by rw[g.o.2.2.2.2];exact y)⟩;have q:=CK g.o.2.1 z;have t:=g.o.2.2.1 _ (d9 z);have l:=Ag (f7 t (f7 (g.o.2.2.2.1 _ (d9 q)) q));rcases g.o.1.2 with⟨S,_⟩|⟨b,o,c,q,J⟩
     . omega
     simp only[ip,kU]at q;obtain⟨rfl,rfl⟩:=q;have D:=Rd.elem Bc J k _ z 0 _ rfl;rw[kn,kD]at D;simp only[]at D t;obtain⟨Q,R,G⟩:=t.bW;subst G;have W:=l.o.2.1;by_cases X:256<f.length
     . (have d:Hid (¬AD a):=fun e=>absurd (e.2 k (by rw[p.o];exact y) f l.o.2.2).1 oM);generalize f.length=m at*;go_wp2;go_ret;exact⟨.no d.o,rfl⟩
     go_wp2_with fail;refine(Gz _ f _ l.o.2.1 l.o.1).mono ?_;rintro e u ⟨rfl,rfl⟩;cases t1:f.all Fk
     . (have d:Hid (¬AD a):=fun e=>by have:=(e.2 k (by rw[p.o];exact y) f l.o.2.2).2;simp[t1]at this);go_wp2;go_ret;exact⟨.no d.o,rfl⟩
     have d:Hid (Hb f):=⟨oM,t1⟩;go_wp2;go_roundw;(case rel=>exact⟨k+1,oM,by go_num,Dc l.o.2.2 d.o A.o,by trivial⟩);exact oI
   have L:k=3:=oM;subst L;have F:Hid (AD a):=⟨p.o,by rw[p.o];exact A.o⟩;go_wp2;go_ret;exact⟨.hQ F.o,rfl⟩
 have d:Hid (¬AD a):=fun e=>E (by rw[<-p.o];exact e.1)
 have T:¬(n:Int)=3:=oM;go_enter Tryz.func43,Tryz.ntmps43;go_wp2;go_ret;exact⟨.no d.o,rfl⟩
theorem QD(h:Nc z):0<=z/\z<=4294967295:=by simpa[Nc,Lit.wf,IntKind.min,IntKind.max,IntKind.signed,IntKind.bits]using h
theorem Mt(a b a' c:Int)(w:World):(binOp .eql 140 (.agg #[iZ a,.int .u32 b]) (.agg #[iZ a',.int .u32 c])).run Tryz.prog w=.ok (.bool (decide (a=a'/\b=c))) w:=by
 have i:=Tryz.underlying2;have g:=Tryz.isAgg2;have k:=Tryz.sizeOf2;have h:=Tryz.underlying46;have f:=Tryz.isAgg46;have j:=Tryz.sizeOf46;have d:Tryz.prog.underlying 140=some (.struct (Tryz.prog.fieldsOf 140)):=kR;have e:Tryz.prog.stoodInHeld 140=false:=kR;rw[run_eql_struct,show(10000:Nat)=9999+1 from rfl,run_equalIn_agg w 9999 140 _ _ d e];simp only[Program.fieldsOf,Tryz.underlying140];go_simp;by_cases h1:a=a'
 . by_cases h2:b=c<;>simp[*]
 simp[*]
theorem N8(t x:Int)(w:World)(g:0<=x):
 Calls Tryz.prog 77 #[.agg #[iZ t,.int .u32 x]] w fun e k=>Au e (DX ⟨t,x⟩)/\Below w.heap.size w k:=by
 by_cases h1:t=1
 . subst h1;have h:∀w,(binOp .eql 140 (.agg #[iZ 1,.int .u32 x]) (.agg #[iZ 1,.int .u32 0])).run Tryz.prog w=.ok (.bool (decide (1=(1:Int)/\x=0))) w:=Mt 1 x 1 0
   have f:∀w,(binOp .eql 140 (.agg #[iZ 1,.int .u32 x]) (.agg #[iZ 1,.int .u32 1])).run Tryz.prog w=.ok (.bool (decide (1=(1:Int)/\x=1))) w:=Mt 1 x 1 1
   by_cases h2:x=0
   . have a:decide (1=(1:Int)/\x=0)=true:=by simp[h2]
     have d:Hid (DX ⟨1,x⟩):=⟨rfl,fun _=>oS⟩;rw[a]at h;clear h2 a f g;go_enter Tryz.func77,Tryz.ntmps77;go_wp2;go_ret;exact⟨.hQ d.o,Aa _ _⟩
   have a:decide (1=(1:Int)/\x=0)=false:=by simp[h2]
   rw[a]at h;by_cases c:x=1
   . have b:decide (1=(1:Int)/\x=1)=true:=by simp[c]
     have d:Hid (DX ⟨1,x⟩):=⟨rfl,fun _=>oS⟩;rw[b]at f;clear h2 a c b g;go_enter Tryz.func77,Tryz.ntmps77;go_wp2;go_ret;exact⟨.hQ d.o,Aa _ _⟩
   have b:decide (1=(1:Int)/\x=1)=false:=by simp[c]
   (have j:Hid (¬DX ⟨1,x⟩):=fun e=>by have:=e.2 rfl;simp only[]at this;omega);rw[b]at f;clear h2 a c b g;go_enter Tryz.func77,Tryz.ntmps77;go_wp2;go_ret;exact⟨.no j.o,Aa _ _⟩
 have l:(t==1)=false:=by simpa using h1
 have i:Hid (Fk t=true↔DX ⟨t,x⟩):=⟨fun e=>⟨e,fun e=>absurd e h1⟩,fun e=>e.1⟩;go_enter Tryz.func77,Tryz.ntmps77;go_wp2_with fail;refine(Ex t _).mono ?_;rintro e u ⟨rfl,rfl⟩;go_wp2;go_ret;exact⟨.of i.o,Aa _ _⟩
theorem GL{zs:List Int}(c:C7 zs){k':Nat}{bad bad':Bool}{v:Int}(b:n<=7)(h:AZ (Cz zs n) k bad v k' bad')(a:bad'=true->v=0):0<=v/\v<2 ^ (8*n):=by
 rcases h with⟨_,_,h⟩|⟨h,_⟩
 . exact Jl c b h
 rw[a h];exact⟨oM,Int.pow_pos oM⟩
theorem AZ.then{r:FT α}{f:α->FT β}{m:Nat}{d g:Bool}{x:α}{y:β}(h:AZ r k b x m d)(j:AZ (f x) m d y n g):AZ (CD r f) k b y n g:=by
 rcases h with⟨h1,h2,l⟩|⟨h1,h2⟩
 . rcases j with⟨c,a,i⟩|⟨c,a⟩
   . exact .inl ⟨h1,a,by rw[Cp l];exact i⟩
   rcases a with a|a
   . rw[h2]at a;cases a
   exact .inr ⟨c,.inr (by rw[Cp l];exact a)⟩
 rcases j with⟨c,a,i⟩|⟨c,a⟩
 . rw[h1]at c;cases c
 exact .inr ⟨c,h2.imp_right fun e=>AB e⟩
theorem AZ.gM(x:α)(k:Nat)(b:Bool):AZ (Fc x) k b x k b:=by
 cases b
 . exact .inl ⟨rfl,rfl,rfl⟩
 exact .inr ⟨rfl,.inl rfl⟩
theorem AH.ob(X:Nat)(t:TypeId)(k:Nat)(xs:List Value):(AH X t k xs).v.ownBlock=some X:=rfl
structure Bt(w u:World)(Ls:List Ax)(B I L:Nat)(a:Option Addr)(c:Nat)(zs:List Int)(k:Nat)(bad:Bool):Prop where
 sep:CJ u w.heap.size Ls
 dr:Cx w u B I L a c zs k bad
 lt:I<w.heap.size
section
variable {w u v:World} {Ls:List Ax} {B I L:Nat} {a:Option Addr} {c:Nat} {zs:List Int} {k k':Nat} {bad bad':Bool}
theorem Bt.start(h:FH w B I L a c zs k bad):Bt w w [] B I L a c zs k bad:=⟨CJ.nil _ _,Cx.refl h,h.lt⟩
theorem Bt.size(h:Bt w u Ls B I L a c zs k bad):w.heap.size<=u.heap.size:=h.dr.gH.size
theorem Bt.aa(h:Bt w u Ls B I L a c zs k bad)(b:Below u.heap.size u v):Bt w v Ls B I L a c zs k bad:=⟨h.sep.aa b,h.dr.aa b,h.lt⟩
theorem Bt.read(h:Bt w u Ls B I L a c zs k bad)(b:Cx u v B I L a c zs k' bad'):Bt w v Ls B I L a c zs k' bad':=⟨h.sep.gH b.gH (fun j d e=>by have:=h.lt;omega),h.dr.trans b,h.lt⟩
theorem Bt.box(h:Bt w u Ls B I L a c zs k bad)(t:TypeId)(q:Nat)(xs:List Value)(b:xs.length=q):Bt w (u.alloc (.cells xs.toArray t)) (Ls++[AH u.heap.size t q xs]) B I L a c zs k bad:=⟨h.sep.box h.size t q xs b,h.dr.aa (Aa _ _),h.lt⟩
theorem Bt.rows(h:Bt w u Ls B I L a c zs k bad)(b:Cx u v B I L a c zs k' bad')(e:CJ v u.heap.size M):Bt w v (Ls++M) B I L a c zs k' bad':=⟨(h.read b).sep.en e (fun x f g d=>(h.sep.lt x f g d).2) h.size,(h.read b).dr,h.lt⟩
theorem Bt.row(h:Bt w u Ls B I L a c zs k bad)(b:Cx u v B I L a c zs k' bad')(d:r.own v u.heap.size):Bt w v (Ls++[r]) B I L a c zs k' bad':=h.rows b ⟨fun x e=>by rw[kM.1 e];exact d,mo _ _⟩
theorem Bt.set{xs:List Value}(h:Bt w u (A++AH X t q xs::C) B I L a c zs k bad)(i:Nat)(b:i<q)(x:Value):Bt w (u.setCell ⟨X,i,none⟩ x) (A++AH X t q (xs.set i x)::C) B I L a c zs k bad:=⟨h.sep.iK i b x,h.dr.set X i x ((h.sep.lt (AH X t q xs) sP X rfl).1) h.lt,h.lt⟩
theorem Bt.grow(h:Bt w u (A++r::C) B I L a c zs k bad)(b:Ax)(i:b.own v w.heap.size)(d:u.grownBy v r.v.ownBlock)(f:b.v.ownBlock=r.v.ownBlock\/∀g,b.v.ownBlock=some g->u.heap.size<=g):Bt w v (A++b::C) B I L a c zs k bad:=⟨h.sep.grow b i d f,h.dr.grow d (fun g e=>(h.sep.lt r sP g e).1) h.lt,h.lt⟩
theorem Bt.en(h:Bt w u (A++r::C) B I L a c zs k bad)(b:Ax)(i:b.own v w.heap.size)(d:u.grownBy v r.v.ownBlock)(f:b.v.ownBlock=r.v.ownBlock\/b.v.ownBlock=some u.heap.size):Bt w v (A++b::C) B I L a c zs k bad:=h.grow b i d (f.imp_right fun e g d=>by rw[e]at d;cases d;exact Nat.le_refl _)
theorem Bt.sub(h:Bt w u Ls B I L a c zs k bad)(b:M.Sublist Ls):Bt w u M B I L a c zs k bad:=⟨h.sep.sub b,h.dr,h.lt⟩
theorem Bt.perm(h:Bt w u Ls B I L a c zs k bad)(b:Ls.Perm M):Bt w u M B I L a c zs k bad:=⟨h.sep.perm b,h.dr,h.lt⟩
theorem Bt.nil(h:Bt w u Ls B I L a c zs k bad)(e:TypeId)(q:Nat):Bt w u (Ls++[⟨e,q,sN,0,[]⟩]) B I L a c zs k bad:=⟨h.sep.snoc (N:=u.heap.size) (fun x d g b=>(h.sep.lt x d g b).2) (lJ _ _ _ _) h.size,h.dr,h.lt⟩
theorem Bt.cell{xs:List Value}(h:Bt w u Ls B I L a c zs k bad)(d:AH X t q xs∈Ls)(i:Nat)(b:i<q):u.cell? ⟨X,i,none⟩=xs[i]?:=AH.cell (h.sep.own _ d) i b
theorem Bt.frozen{xs:List Value}(h:Bt w u Ls B I L a c zs k bad)(b:AH X t q xs∈Ls)(i:Nat):u.frozen? ⟨X,i,none⟩=false:=kx (show u.ownsRow w.heap.size t q (sG X 1 1) 1 xs from h.sep.own _ b) i
theorem Bt.four{d:Value}(h:Bt w u Ls B I L a c zs k bad)(b:AH X t 4 [d,x1,x2,x3]∈Ls):(u.cell? ⟨X,0,none⟩=some d/\u.cell? ⟨X,1,none⟩=some x1/\u.cell? ⟨X,2,none⟩=some x2/\u.cell? ⟨X,3,none⟩=some x3)/\(u.frozen? ⟨X,0,none⟩=false/\u.frozen? ⟨X,1,none⟩=false/\u.frozen? ⟨X,2,none⟩=false/\u.frozen? ⟨X,3,none⟩=false):=⟨⟨h.cell b 0 oM,h.cell b 1 oM,h.cell b 2 oM,h.cell b 3 oM⟩,h.frozen b 0,h.frozen b 1,h.frozen b 2,h.frozen b 3⟩
theorem Bt.gU{g:Value}(h:Bt w u (AH X t 4 [g,x1,x2,x3]::C) B I L a c zs k bad)(b d e f:Value):Bt w ((((u.setCell ⟨X,0,none⟩ b).setCell ⟨X,1,none⟩ d).setCell ⟨X,2,none⟩ e).setCell ⟨X,3,none⟩ f) (AH X t 4 [b,d,e,f]::C) B I L a c zs k bad:=Bt.set (A:=[]) (Bt.set (A:=[]) (Bt.set (A:=[]) (Bt.set (A:=[]) h 0 oM b) 1 oM d) 2 oM e) 3 oM f
end
theorem LH(r x1 x2 x3:Value)(g:VF)(f:MF)(n:Nat)(z:Int)(w:World)(B:f.small)(h:IG w g f)(i:(f.params++f.locals)[n]?=some z):
 Calls Tryz.prog 111 #[.agg #[r,x1,x2,x3,g.p,iZ f.result,g.l,g.c],iZ (n:Int)] w fun e F=>e=.returned (iZ z)/\Below w.heap.size w F:=by
 obtain⟨s,c1,b⟩:=h.1.bW;obtain⟨t,c2,m⟩:=h.2.1.bW;obtain⟨O,L,E⟩:=g;obtain⟨I,J,K⟩:=B;simp only[]at b m;subst b m;have k:Hid (Below w.heap.size w (w.alloc (.cells #[r,x1,x2,x3,.slice s f.params.length c1,iZ f.result,.slice t f.locals.length c2,E] 143))):=Aa _ _;by_cases q:n<f.params.length
 . rw[lK q]at i;have A:(n:Int)<(f.params.length:Int):=oM;rcases h.1.2 with⟨u,_⟩|⟨gr,x,v,b,j⟩
   . omega
   simp only[ip,kU]at b;obtain⟨rfl,rfl⟩:=b;have a:=Rd.elem Ar j n z i 0 _ rfl;rw[kn,kD]at a;have C:=(k.o.cell (d5 a)).trans a;have D:¬gr=w.heap.size:=kg (d5 a);clear h i j;generalize f.params.length=N at*;generalize f.locals.length=M at*;go_enter Tryz.func111,Tryz.ntmps111;go_wp2;go_ret;exact⟨rfl,k.o⟩
 rw[ky oM]at i;have y:=(d7.1 i).1;obtain⟨d,rfl⟩:∃d,n=f.params.length+d:=⟨n-f.params.length,oM⟩;rw[mO]at i;have A:¬((f.params.length+d:Nat):Int)<(f.params.length:Int):=oM;rcases h.2.1.2 with⟨u,_⟩|⟨gr,x,v,b,j⟩
 . omega
 simp only[ip,kU]at b;obtain⟨rfl,rfl⟩:=b;have a:=Rd.elem Ar j d z i 0 _ rfl;rw[kn,kD]at a;have C:=(k.o.cell (d5 a)).trans a;have D:¬gr=w.heap.size:=kg (d5 a);have G:d<f.locals.length:=oM;clear h i j q y;generalize f.params.length=N at*;generalize f.locals.length=M at*;have H:((N+d:Nat):Int)-(N:Int)=(d:Int):=oM;go_enter Tryz.func111,Tryz.ntmps111;go_wp2;go_ret;exact⟨rfl,k.o⟩
def nv(l:List Nat):List Value:=l.map fun(k:Nat)=>Value.int .i64 (k:Int)
theorem JI(l m:List Nat):nv (l++m)=nv l++nv m:=by simp[nv]
theorem Jm(l:List Nat):nv l=(Fa l).flatMap Ad:=by
 induction l with
 |nil=>rfl
 | cons x r a=>simp only[nv,Fa,mL,kG]at a⊢;rw[a];rfl
theorem SS(h:l[k]?=some x):(nv l)[k]?=some (.int .i64 (x:Int)):=by simp[nv,h]
def LW(w:World)(s:Value)(l:List Nat):Prop:=Rd w 1 s l.length (nv l)
def Kb(w:World)(base:Nat)(s:Value)(l:List Nat):Prop:=w.ownsRow base 2 1 s l.length (nv l)
theorem Kb.rd(h:Kb w base s l):LW w s l:=Rd.cB h
theorem Kb.aa(h:Kb w base s l)(b:Below w.heap.size w a):Kb a base s l:=Ai h b lR
theorem LW.aa(h:LW w s l)(b:Below w.heap.size w a):LW a s l:=Rd.aa h b lR
theorem LW.at_{a:Option Addr}(h:LW w (.slice a n c) l)(d:l[k]?=some x):∃g o,a=some ⟨g,o,none⟩/\n=l.length/\w.cell? ⟨g,o+k,none⟩=some (.int .i64 (x:Int)):=by
 rcases h.2 with⟨f,_⟩|⟨g,o,c',b,e⟩
 . have:=(d7.1 d).1;omega
 simp only[ip]at b;obtain⟨rfl,rfl,rfl⟩:=b;exact⟨g,o,rfl,rfl,e k _ (SS d)⟩
theorem LW.all{a:Option Addr}(h:LW w (.slice a n c) l)(i:0<l.length):∃g o,a=some ⟨g,o,none⟩/\n=l.length/\∀k x:Nat,l[k]?=some x->w.cell? ⟨g,o+k,none⟩=some (.int .i64 (x:Int)):=by
 rcases h.2 with⟨f,_⟩|⟨g,o,c',b,d⟩
 . omega
 simp only[ip]at b;obtain⟨rfl,rfl,rfl⟩:=b;exact⟨g,o,rfl,rfl,fun k x e=>d k _ (SS e)⟩
def bv(P:Nat->Bool)(n:Nat):List Value:=(List.range n).map fun i=>Value.bool (P i)
theorem Hy(P:Nat->Bool)(n:Nat):(bv P n).length=n:=by simp[bv]
theorem KD(P:Nat->Bool)(n i:Nat)(h:i<n):(bv P n)[i]?=some (.bool (P i)):=by simp[bv,h]
theorem NB(h:∀i,i<n->P i=Q i):bv P n=bv Q n:=by unfold bv;apply mW;intro i a;rw[h i (mD.1 a)]
theorem RK(h:∀j,j<n->Q j=if j=i then b else P j):(bv P n).set i (.bool b)=bv Q n:=by
 apply la;intro j;by_cases a:j<n
 . rw[KD _ _ _ a,h j a];by_cases e:j=i
   . subst e;rw[lu (by rw[Hy];exact a),lI rfl]
   rw[lj oM,KD _ _ _ a,lE e]
 rw[kK (by simp[Hy];omega),kK (by rw[Hy];omega)]
theorem Hz(n:Nat):List.replicate n (Value.bool false)=bv (fun _=>false) n:=by
 apply la;intro j;by_cases a:j<n
 . rw[KD _ _ _ a];simp[a]
 rw[kK oT,kK (by rw[Hy];omega)]
def Gv(w:World)(base g n:Nat)(P:Nat->Bool):Prop:=w.ownsRow base 4 1 (.slice (some ⟨g,0,none⟩) n n) n (bv P n)
theorem Gv.aa(h:Gv w base g n P)(b:Below w.heap.size w a):Gv a base g n P:=Ai h b lR
theorem Gv.cell(h:Gv w base g n P)(a:i<n):w.cell? ⟨g,i,none⟩=some (.bool (P i)):=by have:=kW h i oM;rw[KD _ _ _ a]at this;exact this
theorem Gv.frozen(h:Gv w base g n P)(i:Nat):w.frozen? ⟨g,i,none⟩=false:=kx h i
theorem Gv.set(h:Gv w base g n P)(i:Nat)(b:Bool)(a:∀j,j<n->Q j=if j=i then b else P j):Gv (w.setCell ⟨g,i,none⟩ (.bool b)) base g n Q:=by have:=(lm h i (.bool b)).1;rw[RK a]at this;exact this
def Jx(w:World)(g o n:Nat)(E:Nat->List Nat):Prop:=∀b,b<n->∃a c,w.cell? ⟨g,o+b*3+2,none⟩=some (.slice a (E b).length c)/\LW w (.slice a (E b).length c) (E b)
theorem Jx.aa{e:World}{o:Nat}(h:Jx w g o n E)(d:Below w.heap.size w e):Jx e g o n E:=fun b f=>by obtain⟨a,c,h1,h2⟩:=h b f;exact⟨a,c,Af d h1,h2.aa d⟩
theorem Kv.jt{V:Value}(k:BH xs)(h:Kv w V (AM xs)):∃g o c,V=.slice (some ⟨g,o,none⟩) (AM xs).length c/\Jx w g o (AM xs).length (nx (AM xs))/\∀b m,(AM xs)[b]?=some m->w.cell? ⟨g,o+b*3,none⟩=some (.int .i64 m.cK):=by
 obtain⟨y,h1,h2,u⟩:=h;have A:=Ic k;rcases h2.2 with⟨z,_⟩|⟨g,o,c,s,j⟩
 . omega
 have l:∀b m,(AM xs)[b]?=some m->∃v,y[b]?=some (m,v):=fun b m d=>by rw[<-h1,kh]at d;obtain⟨⟨B,v⟩,x,n⟩:=lg.1 d;simp only[]at n;subst n;exact⟨v,x⟩
 refine⟨g,o,c,s,fun b i=> ?_,fun b m d=> ?_⟩
 . obtain⟨v,f⟩:=l b _ (an i);have r:=u _ (d9 f);have e:=TR k (an i);(have p:LW w v (nx (AM xs) b):=by unfold LW;rw[Jm];unfold Tu at r;simp only[e]at r;rw[Dl]at r;exact r);obtain⟨a,q,t⟩:=Rd.bW p;subst t;exact⟨a,q,Rd.elem BT j b _ f 2 _ rfl,p⟩
 obtain⟨v,f⟩:=l b m d;have:=Rd.elem BT j b _ f 0 _ rfl;rw[kD]at this;exact this
theorem NA{L:List Nat}{b:Nat}(l:L.Pairwise (· < ·))(c:∀x∈L,x<n)(h:(build L n)[b]?=some m):∃a e:Nat,m.cK=(a:Int)/\m.last=(e:Int)/\a<=e/\e<n:=by
 unfold build at h;rw[mY]at h;cases h1:L[b]? with
 |none=>rw[h1]at h;simp at h
 | some a=>
   cases h2:(L.tail++[n])[b]? with
   |none=>rw[h1,h2]at h;simp at h
   | some q=>
     rw[h1,h2]at h;simp only[i4]at h;subst h;have j:=c a (d9 h1);have d:a<q/\q<=n:=by
      by_cases k:b<L.tail.length
      . rw[lK k]at h2;have d:=mw (d9 h2);refine⟨?_,mr (c q d)⟩;(have i:L[b+1]?=some q:=by rw[<-h2];cases L<;>simp);obtain⟨p,f⟩:=d7.1 h1;obtain⟨r,g⟩:=d7.1 i;rw[<-f,<-g];exact(mz.1 l) b (b+1) p r oM
      rw[ky oM]at h2;have:=d9 h2;simp only[ka,kr,ly]at this;subst this;exact⟨j,Nat.le_refl _⟩
     exact⟨a,q-1,rfl,oS,oM,oM⟩
theorem J9{b:Nat}(h:(AM xs)[b]?=some m):∃a e:Nat,m.cK=(a:Int)/\m.last=(e:Int)/\a<=e/\e<xs.length:=by unfold AM at h;rw[kh]at h;obtain⟨j,h1,rfl⟩:=lg.1 h;rw[DP]at h1;obtain⟨a,e,d,f,g,i⟩:=NA (GJ _ _) (fun x c=>((Ef _ _ _).1 c).1) h1;exact⟨a,e,d,f,g,i⟩
structure Ww(xs:List MI)(r:JO):Prop where
 len:xs.length<=1024
 nb:r.blocks.length<=1024
 two:∀m∈r.blocks,m.next.length<=2
 nl:r.loops.length<=1024
 cC:∀(i:Nat) (m:MB),r.blocks[i]?=some m->∃a e:Nat,m.cK=(a:Int)/\m.last=(e:Int)/\a<=e/\e<xs.length
 loop:∀l∈r.loops,(∃h:Nat,l.head=(h:Int)/\h<r.blocks.length)/\(∀z∈l.blocks,∃b:Nat,z=(b:Int)/\b<r.blocks.length)/\l.blocks.length<=1024/\l.back.length<=2048
theorem NN(f:α->List β)(l:List α)(h:∀a∈l,(f a).length<=2):(l.flatMap f).length<=2*l.length:=by
 induction l with
 |nil=>simp
 | cons a l d=>have h1:=h a sP;(have h2:=d fun b c=>h b (by simp[c]));rw[kG,f6,kY];omega
theorem QF(h:∀b,(E b).length<=2)(n y:Nat):(BM E D n y).length<=2*n:=by have h1:=NN (fun p=>((E p).filter fun x=>decide (x=y)&&D y p).map fun _=>p) (List.range n) (fun p _=>by rw[kZ];exact jX (mG _ _) (h p));rw[lO]at h1;exact h1
theorem LA(f:α->Option β)(l:List α):(l.filterMap f).length<=l.length:=List.length_filterMap_le f l
theorem Pt{L:Nat->Nat->Bool}{j:Nat}(f:j<=n){l:ML}(h:l∈DN E D L n j):(∃h:Nat,l.head=(h:Int)/\h<n)/\(∀z∈l.blocks,∃b:Nat,z=(b:Int)/\b<n)/\l.blocks.length<=n/\∃g,l.back=Fa (BM E D n g):=by
 unfold DN at h;obtain⟨g,c,e⟩:=List.mem_filterMap.1 h;split at e
 . cases e
 cases e
 refine⟨⟨g,rfl,by have:=mD.1 c;omega⟩,?_,?_,g,rfl⟩
 . intro z d;obtain⟨b,a,rfl⟩:=lL.1 d;exact⟨b,rfl,mD.1 (ms.1 a).1⟩
 simp only[];rw[Dl];exact jX (mG _ _) sP
theorem Cs.gR{r:JO}(h:Cs xs r)(a:r.code=0):Ww xs r:=by
 cases h with
 |none _=>cases a
 |off _ _ _=>cases a
 |lost _ _ _ _ _ _ _ _=>cases a
 |two _ _ _ _ _ _ _ _=>cases a
 | good g x1 o1 v1 s1 d1 b1 i1 l1=>
   refine⟨g.2.1,Gm g,Ii xs,?_,fun i m h=>J9 h,fun l f=> ?_⟩
   . simp only[];unfold DN;exact jX (LA _ _) (by rw[lO];exact Gm g)
   obtain⟨b,c,d,y,e⟩:=Pt lR f;refine⟨b,c,jX d (Gm g),?_⟩;rw[e,Dl];exact jX (QF (K8 _ (Ii xs)) _ _) (by have:=Gm g;omega)
def D4(ts:List MT)(a h:Int):Option MT:=ts.find? fun c=>decide (c.func=a)&&decide (c.head=h)
theorem ND{a:Int}(q:∀(j:Nat) (c:MT),ts[j]?=some c->¬(c.func=a/\c.head=h)):D4 ts a h=none:=by unfold D4;rw[List.find?_eq_none];intro c b;obtain⟨j,d⟩:=lY b;have:=q j c d;simpa using this
theorem NE{a:Int}{c:MT}(e:ts[i]?=some c)(b:c.func=a/\c.head=h)(q:∀(j:Nat) (c:MT),j<i->ts[j]?=some c->¬(c.func=a/\c.head=h)):D4 ts a h=some c:=by
 unfold D4;rw[List.find?_eq_some_iff_getElem];obtain⟨g,d⟩:=d7.1 e;refine⟨by simp[b],i,g,d,fun j f=> ?_⟩;have:=q j _ f (an oM);by_cases h1:ts[j].func=a
 . simp only[h1,kU]at this;simp[this]
 simp[h1]
def ID(b:List MB)(l:List Int)(a:Int):Prop:=∃z∈l,∃m,b[z.toNat]?=some m/\m.cK<=a/\a<=m.last
def OK(xs:List MI)(k a:Int):Prop:=∃x,xs[a.toNat]?=some x/\(x.op=3\/x.op=27)/\x.a=k
def Hg(xs:List MI)(m:MB):Int:=match xs[m.last.toNat]? with|some x=>if x.op=25 then m.last-1 else m.last|none=>m.last
def De(b:List MC)(xs:List MI)(m:MB)(c:MT):Prop:=m.cK<=Hg xs m-1/\∃x y v,xs[(Hg xs m-1).toNat]?=some x/\xs[(Hg xs m).toNat]?=some y/\x.op=1/\y.op=3/\y.a=c.counter/\b[x.a.toNat]?=some v/\v.type=3/\v.word=c.init
def LU(d:List MC)(xs:List MI)(a:List MB)(l:ML)(c:MT):Prop:=∃(b:Nat) (m:MB),a[b]?=some m/\l.head∈m.next/\¬((b:Int)∈l.blocks)/\¬De d xs m c
def Cn (p:MP)(e:Int)(xs:List MI)(b:List MB)(l:ML)(n:Int):Prop:=∃d,b[l.head.toNat]?=some d/\
 ((D4 p.a7 e d.cK=none/\n=1)\/∃c g,D4 p.a7 e d.cK=some c/\xs[d.cK.toNat]?=some g/\
   ((¬ (g.op=27/\g.a=c.counter)/\n=2)\/((g.op=27/\g.a=c.counter)/\
     ((ID b l.blocks g.c/\n=3)\/(¬ID b l.blocks g.c/\
       (((∃a,ID b l.blocks a/\a≠d.cK/\OK xs c.counter a)/\n=4)\/((¬∃a,ID b l.blocks a/\a≠d.cK/\OK xs c.counter a)/\
         (((l.head=0\/LU p.ag xs b l c)/\n=5)\/(¬(l.head=0\/LU p.ag xs b l c)/\n=0)))))))))
theorem Cn.one{j:Int}{e:List MB}{l:ML}{n n':Int}(h:Cn p j xs e l n)(b:Cn p j xs e l n'):n=n':=by
 obtain⟨s,k,h⟩:=h;obtain⟨t,f,b⟩:=b;obtain rfl:s=t:=by rw[k]at f;exact kH f
 rcases h with⟨q,rfl⟩|⟨c,g,q,m,h⟩<;>rcases b with⟨d,rfl⟩|⟨c',r,d,i,b⟩
 . rfl
 . rw[q]at d;cases d
 . rw[q]at d;cases d
 obtain rfl:c=c':=by rw[q]at d;exact kH d
 obtain rfl:g=r:=by rw[m]at i;exact kH i
 rcases h with⟨a,rfl⟩|⟨a,h⟩<;>rcases b with⟨a',rfl⟩|⟨a',b⟩
 . rfl
 . exact absurd a' a
 . exact absurd a a'
 rcases h with⟨a,rfl⟩|⟨a,h⟩<;>rcases b with⟨a',rfl⟩|⟨a',b⟩
 . rfl
 . exact absurd a a'
 . exact absurd a' a
 rcases h with⟨a,rfl⟩|⟨a,h⟩<;>rcases b with⟨a',rfl⟩|⟨a',b⟩
 . rfl
 . exact absurd a a'
 . exact absurd a' a
 rcases h with⟨a,rfl⟩|⟨a,rfl⟩<;>rcases b with⟨a',rfl⟩|⟨a',rfl⟩
 . rfl
 . exact absurd a a'
 . exact absurd a' a
 rfl
theorem KF(s:Value)(a:List MC)(w:World)(K:a.length<=1048576)(hw:∀c∈a,0<=c.word)(h:Rd w 2 s a.length (a.flatMap MC.cells)):
 Calls Tryz.prog 44 #[s] w fun e L=>Au e (Bg a)/\Below w.heap.size w L:=by
 have q:=Ag h;obtain⟨M,c1,rfl⟩:=h.bW;have F:=Ag hw;generalize I:a.length=n at K q;have d:=Ag I;by_cases S:64<n
 . (have l:Hid (¬Bg a):=fun e=>absurd e.1 (by rw[d.o];omega));go_enter Tryz.func44,Tryz.ntmps44;go_wp2;go_ret;exact⟨.no l.o,kV _ _⟩
 go_enter Tryz.func44,Tryz.ntmps44;go_wp2;go_loopw [10] (fun i wr=>∃k:Nat,k<=n/\i=iZ k/\Hid (∀j,j<k->∀c,a[j]?=some c->DX c)/\Hid (Below w.heap.size w wr)) (fun i _=>n-(intOf i).toNat)
 case atStart=>exact⟨0,oM,rfl,fun j O=>oM,kV _ _⟩
 obtain⟨k,P,rfl,r,f⟩:=hrel;by_cases A:k<n
 . obtain⟨x,p⟩:∃x,a[k]?=some x:=⟨_,an (by rw[d.o];exact A)⟩;rcases q.o.2 with⟨N,_⟩|⟨b,o,c,v,z⟩
   . omega
   simp only[ip,kU]at v;obtain⟨rfl,rfl⟩:=v;have g:=Rd.elem MC.aK z k x p 0 _ rfl;have B:=Rd.elem MC.aK z k x p 1 _ rfl;rw[<-f.o.cell (d5 g),kD]at g;rw[<-f.o.cell (d5 B)]at B;have m:=Ag p;have R:¬b=wr.heap.size:=kg (d5 g);have Q:b<wr.heap.size:=d5 g;have D:Hid (Below w.heap.size w (wr.alloc (.cells #[iZ x.type,.int .u32 x.word] 63))):=Ac f.o lR (Aa _ _);go_wp2_with fail;refine(N8 x.type x.word _ (F.o x (d9 m.o))).mono ?_;rintro e u ⟨⟨G,rfl,y⟩,H⟩;have t:=Ag (Ac D.o lR H);cases G
   . (have l:Hid (¬Bg a):=fun e=>absurd (y.2 (e.2 k (by rw[d.o];exact A) x m.o)) mS);go_wp2;go_ret;exact⟨.no l.o,t.o⟩
   have C:Hid (DX x):=y.1 rfl;go_wp2;go_roundw;(case rel=>exact⟨k+1,oM,by go_num,Dc m.o C.o r.o,t⟩);exact oI
 have J:n=k:=oM;subst J;have E:Hid (Bg a):=⟨by rw[d.o];omega,by rw[d.o];exact r.o⟩;go_wp2;go_ret;exact⟨.hQ E.o,f.o⟩
theorem LB(v:VF)(f:MF)(w:World)(A:f.small)(h:IG w v f):
 Calls Tryz.prog 78 #[.agg #[v.p,iZ f.result,v.l,v.c]] w fun e F=>Au e (Dh f)/\Below w.heap.size w F:=by
 have g:=Ag (f7 h A);obtain⟨B,c1,x⟩:=h.1.bW;obtain⟨C,c2,y⟩:=h.2.1.bW;obtain⟨D,c3,z⟩:=h.2.2.bW;obtain⟨U,T,S⟩:=v;obtain⟨O,P,Q⟩:=A;simp only[]at x y z;subst x y z;have b:Hid (Below w.heap.size w (w.alloc (.cells #[.slice B f.params.length c1,iZ f.result,.slice C f.locals.length c2,.slice D f.code.length c3] 68))):=Aa _ _;by_cases G:8<f.params.length
 . (have a:Hid (¬Dh f):=fun e=>absurd e.ij oM);generalize f.params.length=m at*;generalize f.locals.length=n at*;generalize f.code.length=q at*;go_enter Tryz.func78,Tryz.ntmps78;go_wp2;go_ret;exact⟨.no a.o,b.o⟩
 by_cases I:32<f.params.length+f.locals.length
 . (have a:Hid (¬Dh f):=fun e=>absurd e.loc oM);generalize f.params.length=m at*;generalize f.locals.length=n at*;generalize f.code.length=q at*;go_enter Tryz.func78,Tryz.ntmps78;go_wp2;go_ret;exact⟨.no a.o,b.o⟩
 by_cases i:f.code.length=0
 . (have a:Hid (¬Dh f):=fun e=>e.ix i);generalize f.params.length=m at*;generalize f.locals.length=n at*;generalize f.code.length=q at*;subst i;go_enter Tryz.func78,Tryz.ntmps78;go_wp2;go_ret;exact⟨.no a.o,b.o⟩
 by_cases L:1024<f.code.length
 . (have a:Hid (¬Dh f):=fun e=>absurd e.iJ oM);generalize f.params.length=m at*;generalize f.locals.length=n at*;generalize f.code.length=q at*;go_enter Tryz.func78,Tryz.ntmps78;go_wp2;go_ret;exact⟨.no a.o,b.o⟩
 have H:¬(8:Int)<(f.params.length:Int):=oM;have J:¬(32:Int)<(f.params.length:Int)+(f.locals.length:Int):=oM;have K:((f.code.length:Int)==0)=false:=by simpa using i
 have M:¬(1024:Int)<(f.code.length:Int):=oM;have d:Hid (f.params.length<=8/\f.params.length+f.locals.length<=32/\¬f.code.length=0/\f.code.length<=1024):=⟨oM,oM,i,oM⟩
 go_enter Tryz.func78,Tryz.ntmps78;go_wp2_with fail;refine(Gz _ f.params _ g.o.2.1 (g.o.1.1.aa b.o lR)).mono ?_;rintro e u ⟨rfl,rfl⟩;cases t1:f.params.all Fk
 . (have a:Hid (¬Dh f):=fun e=>by have:=e.pt;simp[t1]at this);go_wp2;go_ret;exact⟨.no a.o,b.o⟩
 have s:=Ag t1;go_wp2_with fail;refine(Gz _ f.locals _ g.o.2.2.1 (g.o.1.2.1.aa b.o lR)).mono ?_;rintro e u ⟨rfl,rfl⟩;cases t1:f.locals.all Fk
 . (have a:Hid (¬Dh f):=fun e=>by have:=e.lt;simp[t1]at this);go_wp2;go_ret;exact⟨.no a.o,b.o⟩
 have t:=Ag t1;generalize E:f.result=R at*;have j:=Ag E;by_cases r:R=0
 . subst r;have k:Hid (Dh f):=⟨d.o.1,d.o.2.1,s.o,t.o,.inl j.o,d.o.2.2.1,d.o.2.2.2⟩;go_wp2;go_ret;exact⟨.hQ k.o,b.o⟩
 have N:(R==0)=false:=by simpa using r
 go_wp2_with fail;refine(Ex R _).mono ?_;rintro e u ⟨rfl,rfl⟩;cases t1:Fk R
 . (have a:Hid (¬Dh f):=fun e=>by have:=e.gT;rw[j.o]at this;simp[r,t1]at this);go_wp2;go_ret;exact⟨.no a.o,b.o⟩
 have k:Hid (Dh f):=⟨d.o.1,d.o.2.1,s.o,t.o,.inr (by rw[j.o];exact t1),d.o.2.2.1,d.o.2.2.2⟩;go_wp2;go_ret;exact⟨.hQ k.o,b.o⟩
end Go.Proofs.YthjbicggfnnonaaGreatDoor
