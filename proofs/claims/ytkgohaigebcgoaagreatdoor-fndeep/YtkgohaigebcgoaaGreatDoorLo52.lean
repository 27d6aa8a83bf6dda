import Derived.Test.YtkgohaigebcgoaaGreatDoorLo50
namespace Go.Proofs.YtkgohaigebcgoaaGreatDoor
open Go.ChangeShapes Go.WideShapes Go.ChangeAt Go.RowKit Go.Proofs.Tryz
set_option linter.unusedVariables false
open Option renaming some → K,none → M
open Go.Value renaming slice → Z,int → Ag,agg → An,bool → Ao
open Go renaming Value → J,World → Y,Calls → Ai,TypeId → Aj
open Go.RowKit renaming Hid → Ae,Below → Ah
open Go.IntKind renaming i64 → Af
open Go.Obj renaming cells → Ak
open Go.Ending renaming returned → Am
open Go.Proofs.Tryz renaming prog → Aq
open Go.World renaming ownsRow → Ab,alloc → Ac
open List renaming flatMap → Ad
set_option maxHeartbeats 4000000
set_option maxRecDepth 100000
variable {xs cs:List MI}{ht:Nat->Nat}{q i:Nat}{x:MI}{D:List Int}{c w:Y}{z:Int}
structure DK(xs:List MI):Prop where
 pos:1<=xs.length
 le:xs.length<=1024
 go:∀x∈xs,Bv x=false
 ret:∀(i:Nat) x,xs[i]?=K x->(x.op=29↔i+1= ↑xs)
theorem DK.good(h:DK xs):Bb xs:=⟨h.pos,h.le, λi x b a=>by rw[h.go x (hC b)]at a;cases a⟩
theorem DK.lead(h:DK xs){j:Nat}(d:j< ↑xs):Cu xs xs j=decide (j=0):=by
 unfold Cu;rw[Bool.or_eq_left_iff_imp];intro a;obtain⟨i,c,a⟩:=List.any_eq_true.1 a;split at a
 . rename_i x b;unfold Hy at a;rw[h.go x (hC b)]at a;simp only[Bool.false_and,Bool.false_or,ky,lC]at a;have:=(h.ret i x b).1 a.1;omega
 cases a
theorem DK.lds(h:DK xs):lds xs xs=[0]:=by
 have c:=h.pos;unfold Go.Proofs.YtkgohaigebcgoaaGreatDoor.lds;rw[show List.range xs=0::(List.range (xs.length-1)).map Nat.succ by rw[<-List.range_succ_eq_map];congr 1;omega];rw[mg,jP (IZ _ _)];congr 1
 rw[List.filter_eq_nil_iff];intro j b;obtain⟨i,a,rfl⟩:=kI.1 b;rw[h.lead (by have:=k6.1 a;omega)];simp
theorem DK.last(h:DK xs):∃x,xs[xs.length-1]?=K x/\x.op=29:=by
 have a:=h.pos;refine⟨xs[xs.length-1]'oM,an _,?_⟩
 exact(h.ret _ _ (an oM)).2 oM
def Jv(n:Nat):List MB:=[⟨0,(n:Int)-1,[]⟩]
theorem DK.aC(h:DK xs):AQ xs=Jv xs:=by
 have f:=h.pos;obtain⟨x,a,c⟩:=h.last;have e:((xs:Int)-1).toNat= ↑xs-1:=oM
 unfold AQ;rw[Cl,h.lds];show[MV xs ⟨0,(xs:Int)-1,[]⟩]=_;unfold MV Jv;show[(⟨0,(xs:Int)-1,Mt xs (xs.getD ((xs:Int)-1).toNat ⟨0,0,0,0⟩) ((xs:Int)-1).toNat⟩:MB)]=_;rw[e,jQ,a];have d:Ij x=false:=by unfold Ij;rw[c];rfl
 have b:Bv x=false:=h.go x (hC a);unfold Mt;simp[d,b]
abbrev E1:Nat->List Nat:= λ_=>[]
def D1(d b:Nat):Bool:=decide (d=0)|| !decide (b=0)
theorem qY(d b:Nat):D1 d b=true↔Ed E1 d b:=by
 have f:ES E1 (· ≠d) 0 b↔(0≠d/\b=0):=by
  constructor
  . intro h;induction h with
    |here h=>exact⟨h,rfl⟩
    |step _ e _ _=>cases e
  rintro⟨h,rfl⟩;exact .here h
 unfold Ed D1;rw[f];by_cases a:d=0<;>by_cases c:b=0<;>simp[a,c]
 omega
theorem nN(D:Nat->Nat->Bool)(n h:Nat):AO E1 D n h=[]:=by unfold AO;rw[List.flatMap_eq_nil_iff];intro p _;rfl
def qI(h y:Nat):Bool:=decide (y=h)
theorem in1(h y:Nat):qI h y=true↔AU E1 D1 1 h y:=by unfold qI AU;rw[nN];simp
theorem TU(n:Nat):nx (Jv n)=E1:=by
 funext b
 match b with
 |0=>rfl
 |b+1=>rfl
def Oe(n:Nat):Ee:=⟨0,0,Jv n,[0],[-1],[]⟩
theorem DK.gE(h:DK xs):Bl xs (Oe xs):=by
 obtain⟨x,j,i⟩:=h.last;have d:=h.aC;have a:nx (AQ xs)=E1:=by rw[d,TU]
 have f:(AQ xs).length=1:=by rw[d];rfl
 have g:=Bl.good (xs:=xs) (S:=[0]) (O:=[0]) (D:=D1) (L:=qI) (I:= λ_=> -1) h.good j (by unfold Ij;rw[i];rfl) (by rw[a];exact .new dC (.nil _ _) (.nil _ _)) (by rw[f];intro c k;rw[show c=0 from oM];exact jU.2 rfl) (by rw[a];exact qY) (by rw[a];intro b d t ht;cases ht) (by rw[f];intro b d;exact .inl ⟨oM,rfl⟩) (by rw[a,f];exact in1);rw[a,f,d]at g;have e:BA E1 D1 qI 1 1=[]:=by unfold BA;simp only[nN];rfl
 rw[e]at g;exact g
theorem Oz{p:MP}{f:MF}(D0:Nat):∀(k a:Nat) (T:Nat->List Int),(∀i,a<=i->i<a+k->∃x,f.aU[i]?=K x/\BJ p f x (List.replicate (ht i) 2)=0/\Dr p f x (List.replicate (ht i) 2)=List.replicate (ht (i+1)) 2/\ht (i+1)<=D0)->
 ∀D,D<=D0->∃c b,DV p f k a (List.replicate (ht a) 2) T D=.inr (List.replicate (ht (a+k)) 2,c,b)/\D<=b/\b<=D0/\(∀i,a<=i->i<a+k->c i=List.replicate (ht i) 2/\ht (i+1)<=b)/\(∀i,i<a->c i=T i)
 |0,a,T,_,D,hD=>⟨T,D,rfl,Nat.le_refl _,hD, λi g j=>by omega, λ_ _=>rfl⟩
 | k + 1,a,T,h,D,hD=>by
   obtain⟨x,s,g,j,u⟩:=h a lR oM;obtain⟨c,b,m,t,n,q,d⟩:=Oz D0 k (a+1) (Ec T a (List.replicate (ht a) 2)) (λi l r=>h i oM oM) (max D (ht (a+1))) oM;refine⟨c,b,?_,oM,n, λi l r=> ?_, λi l=> ?_⟩
   . unfold DV;rw[s];simp only[];rw[jP g,j,jT,m,show a+1+k=a+(k+1)from oM]
   . by_cases e:i=a
     . subst e;refine⟨?_,oM⟩;rw[d i oM];unfold Ec;rw[jP rfl]
     exact q i oM oM
   rw[d i oM];unfold Ec;rw[jH oM]
theorem DK.types{p:MP}{f:MF}{D0 i0:Nat}(l:DK f.aU)(s:AX p 0)(u:p.aB[q]?=K f)(r:ht 0=0)(h:∀i,i< ↑f.aU->∃x,f.aU[i]?=K x/\BJ p f x (List.replicate (ht i) 2)=0/\Dr p f x (List.replicate (ht i) 2)=List.replicate (ht (i+1)) 2/\ht (i+1)<=D0)(g:i0< ↑f.aU)(z:ht (i0+1)=D0):
 JX p (q:Int) ⟨0,0,(D0:Int),(List.range f.aU).map λi=>List.replicate (ht i) 2⟩:=by
 have A:=l.pos;obtain⟨b,a,j,v,w,k,y⟩:=Oz (p:=p) (f:=f) (ht:=ht) D0 f.aU 0 (λ_=>[]) (λi _ g=>h i oM) 0 (ku _);obtain rfl:a=D0:=by have:=(k i0 (ku _) oM).2;omega
 refine .inr ⟨s,Int.natCast_nonneg q,f,Oe f.aU,by rw[i9];exact u,l.gE,rfl,?_⟩;have e:((f.aU:Int)-1-0+1).toNat=f.aU.length:=oM;have m:Ib p f (Jv f.aU) [0] NM=.inr ⟨NM.c,b,a⟩:=by
  unfold Ib;show(match RH p f ⟨0,(f.aU:Int)-1,[]⟩ 0 NM with|.inl e=>(Sum.inl e:YW)|.inr s'=>Ib p f (Jv f.aU) [] s')=_;have:RH p f ⟨0,(f.aU:Int)-1,[]⟩ 0 NM=.inr ⟨NM.c,b,a⟩:=by
   unfold RH;rw[show((⟨0,(f.aU:Int)-1,[]⟩:MB).last-(⟨0,(f.aU:Int)-1,[]⟩:MB).cz+1).toNat= ↑f.aU from e]
   rw[r]at j;have n:DV p f f.aU (⟨0,(f.aU:Int)-1,[]⟩:MB).cz.toNat ((NM.c 0).getD []) NM.t NM.d=.inr (List.replicate (ht (0+f.aU.length)) 2,b,a):=j;rw[n];rfl
  rw[this];rfl
 show _=PL f.aU (Ib p f (Jv f.aU) [0] NM);rw[m];show _=(⟨0,0,(a:Int),(List.range f.aU).map b⟩:Qh);congr 1
 exact mG λi g=>((k i (ku _) (by have:=k6.1 g;omega)).1).symm
theorem JG{C:List Int}{a j:Nat}:∀k,CW xs C a (j+k)=CW xs C a j+CW xs C (a+j) k
 |0=>by show CW xs C a j=CW xs C a j+0;omega
 | k+1=>by (have e:∀a k,CW xs C a (k+1)=CW xs C a k+match xs[a+k]? with|some x=>C5 C x|none=>0:= λ_ _=>rfl);rw[show j+(k+1)=j+k+1 from rfl,e,e,JG k,Nat.add_assoc a j k,Int.add_assoc]
theorem Ig{C:List Int}{a:Nat}:∀k,(∀i,i<k->xs[a+i]?=K x)->CW xs C a k=(k:Int)*C5 C x
 |0,_=>by show(0:Int)=((0:Nat):Int)*_;simp
 | k+1,h=>by unfold CW;rw[Ig k (λi b=>h i (by omega)),h k (by omega),show((k+1:Nat):Int)=(k:Int)+1 by omega,Int.add_mul];simp only[];omega
theorem DK.cost{p:MP}{f:MF}{C:List Int}{v:Int}(a:DK f.aU)(z:AX p 0)(A:p.aB[q]?=K f)(u:∀x∈f.aU,M7 C x)(B:CW f.aU C 0 f.aU=v)(e:0<=v)(i:v<=4294967295):Gi p (q:Int) C v:=by
 have E:=a.pos;have c:Cf f.aU C ⟨0,(f.aU:Int)-1,[]⟩=v:=by
  unfold Cf;show CW f.aU C 0 (((f.aU:Int)-1).toNat+1-0)=v;rw[show((f.aU:Int)-1).toNat+1-0= ↑f.aU from oM]
  exact B
 refine .inr ⟨f,Oe f.aU,z,Int.natCast_nonneg q,by rw[i9];exact A,a.gE,rfl,.inr ⟨λl a=>(by cases a), λm w s=> ?_,?_⟩⟩
 . obtain rfl:m=⟨0,(f.aU:Int)-1,[]⟩:=jU.1 w;rcases s with⟨j,x,_,_,k,n⟩|h
   . exact n (u x (hC k))
   rw[c]at h;omega
 obtain⟨O,D,L,g⟩:=(a.gE).gd rfl;have r:nx (Oe f.aU).aC=E1:=TU _;refine⟨O,D,L,[],g,List.Perm.refl _,.nil,?_⟩;rw[r];show PZ E1 1 D L (Ka p (q:Int) (Jv f.aU)) (Ll f.aU (Jv f.aU)) [] (jf (List.range 1)) (cf [Cf f.aU C ⟨0,(f.aU:Int)-1,[]⟩]) v;rw[c];refine .nil (.inr ⟨λ_=>v,⟨⟨⟨rfl, λb x _ d=>(by cases d)⟩, λt ht b c=> ?_⟩, λb _=>i⟩,e, λb _=>Int.le_refl _,.inr ⟨0,⟨dC,?_⟩,rfl⟩⟩)
 . have:=ht.hd;obtain rfl:b=0:=oM;show v<=t 0;rw[this];exact Int.le_refl _
 obtain⟨x,d,y⟩:=a.last;refine⟨⟨0,(f.aU:Int)-1,[]⟩,x,rfl,?_,y⟩;show f.aU[((f.aU:Int)-1).toNat]?=_;rw[show((f.aU:Int)-1).toNat= ↑f.aU-1 from oM]
 exact d
theorem Pe{p:MP}{b:List (List Int)}{a:Int}(h:∀x∈xs,x.op≠28):∀k,EZ p xs b D a k=a
 |0=>rfl
 | k+1=>by
   unfold EZ;rw[Pe h k];cases e:xs[k]? with
   |none=>rfl
   |some x=>simp only[];rw[jH (h x (hC e))]
theorem Cs.more{p:MP}{k j:Nat}{s s1 s2:MS}(d:Cs p k s s1)(e:Cs p j s1 s2):Cs p (k+j) s s2:=by
 induction e with
 |zero=>exact d
 |next _ a b c f=>exact .next (f d) a b c
abbrev iC:MI:=⟨1,0,0,0⟩
abbrev iD:MI:=⟨24,0,0,0⟩
abbrev iE:MI:=⟨29,0,0,0⟩
abbrev iK:MI:=⟨28,1,0,0⟩
def Be(n:Nat)(mid:List MI):List MI:=List.replicate n iC++mid++List.replicate n iD++[iE]
section
variable {n:Nat} {mid:List MI}
theorem Cr:(Be n mid).length=n+ ↑mid+n+1:=by unfold Be;rw[jI,jI,jI,jT,jT];rfl
theorem Lr(h:i<n):(Be n mid)[i]?=K iC:=by unfold Be;rw[kS,kS,kL (by rw[jT];exact h),List.getElem?_replicate,jP h]
theorem Lu(h:i< ↑mid):(Be n mid)[n+i]?=mid[i]?:=by unfold Be;rw[kS,kS,jX (by rw[jT];omega),jT,lO,kL h]
theorem Pu(h:i<n):(Be n mid)[n+ ↑mid+i]?=K iD:=by unfold Be;rw[kS,jX (by rw[jI,jT];omega),jI,jT,lO,kL (by rw[jT];exact h),List.getElem?_replicate,jP h]
theorem Ls:(Be n mid)[n+ ↑mid+n]?=K iE:=by
 unfold Be;have e:(List.replicate n iC++mid++List.replicate n iD).length=n+ ↑mid+n:=by rw[jI,jI,jT,jT]
 rw[jX oM,e,mM];rfl
theorem Jw(h:(Be n mid)[i]?=K x):(i<n/\x=iC)\/(n<=i/\i<n+ ↑mid/\mid[i-n]?=K x)\/(n+ ↑mid<=i/\i<n+ ↑mid+n/\x=iD)\/(i=n+ ↑mid+n/\x=iE):=by
 have d:=(f7.1 h).1;rw[Cr]at d;by_cases a:i<n
 . rw[Lr a]at h;exact .inl ⟨a,(jM h).symm⟩
 by_cases b:i<n+ ↑mid
 . obtain⟨j,rfl⟩:∃j,i=n+j:=⟨i-n,oM⟩;rw[Lu oM]at h;exact .inr (.inl ⟨oM,b,by rw[lO];exact h⟩)
 by_cases c:i<n+ ↑mid+n
 . obtain⟨j,rfl⟩:∃j,i=n+ ↑mid+j:=⟨i-(n+ ↑mid),oM⟩
   rw[Pu oM]at h;exact .inr (.inr (.inl ⟨oM,c,(jM h).symm⟩))
 obtain rfl:i=n+ ↑mid+n:=oM
 rw[Ls]at h;exact .inr (.inr (.inr ⟨rfl,(jM h).symm⟩))
abbrev Hb(mid:List MI):Prop:=mid=[]\/mid=[iK]
theorem Hb.len(h:Hb mid):mid.length<=1:=by rcases h with rfl|rfl<;>decide
theorem Hb.at_(h:Hb mid)(a:mid[i]?=K x):i=0/\x=iK:=by
 rcases h with rfl|rfl
 . cases a
 have b:=(f7.1 a).1;obtain rfl:i=0:=by have:i<1:=b;omega
 exact⟨rfl,(jM a).symm⟩
theorem Gu(h:Hb mid)(c:x∈Be n mid):x=iC\/x=iK/\mid=[iK]\/x=iD\/x=iE:=by
 obtain⟨i,b⟩:=kq c;rcases Jw b with⟨_,rfl⟩|⟨_,_,a⟩|⟨_,_,rfl⟩|⟨_,rfl⟩
 . exact .inl rfl
 . rcases h with rfl|rfl
   . cases a
   exact .inr (.inl ⟨(Hb.at_ (.inr rfl) a).2,rfl⟩)
 . exact .inr (.inr (.inl rfl))
 exact .inr (.inr (.inr rfl))
theorem Pv(g:n<=64)(h:Hb mid):DK (Be n mid):=by
 have f:=h.len;refine⟨by rw[Cr];omega,by rw[Cr];omega, λx b=> ?_, λi x b=> ?_⟩
 . rcases Gu h b with rfl|⟨rfl,_⟩|rfl|rfl<;>rfl
 rw[Cr];rcases Jw b with⟨a,rfl⟩|⟨a,c,d⟩|⟨a,c,rfl⟩|⟨a,rfl⟩
 . exact⟨λe=>absurd e dC, λe=>oM⟩
 . rw[(h.at_ d).2];exact⟨λe=>absurd e dC, λe=>oM⟩
 . exact⟨λe=>absurd e dC, λe=>oM⟩
 exact⟨λ_=>oM, λ_=>rfl⟩
end
def Bd(n:Nat)(mid:List MI):MF:=⟨[],0,[],Be n mid⟩
def AZ(d e:Nat):MP:=⟨[[],[],[]],[⟨2,5⟩],[Bd d [iK],Bd e []],[]⟩
theorem UC:AG 1=1/\AG 24=0/\AG 28=11/\AG 29=0:=by decide+kernel
theorem WV{d e j:Nat}{f:MF}(h:(AZ d e).aB[j]?=K f):∃n mid,f=Bd n mid/\Hb mid/\(j=0/\n=d\/j=1/\n=e):=by
 match j,h with
 |0,h=>cases h;exact⟨d,[iK],rfl,.inr rfl,.inl ⟨rfl,rfl⟩⟩
 |1,h=>cases h;exact⟨e,[],rfl,.inl rfl,.inr ⟨rfl,rfl⟩⟩
 |j+2,h=>cases h
theorem Ek{d e:Nat}(z:d<=64)(A:e<=64):AX (AZ d e) 0:=by
 obtain⟨f1,m,p,q⟩:=UC;have k:∀{j:Nat} {f:MF},(AZ d e).aB[j]?=K f->∃n mid,f=Bd n mid/\Hb mid/\n<=64:= λh=>by obtain⟨n,mid,s,t,y⟩:=WV h;exact⟨n,mid,s,t,oM⟩
 refine .inr (.inr (.inr (.inr (.inr ⟨rfl,⟨rfl, λj b r v=> ?_⟩,⟨by show 1<=64;omega, λj b c u=> ?_⟩,⟨by show¬2=0;omega,by show 2<=32;omega, λj b f a=> ?_, λf a=> ?_⟩, λj b f a i B x w=> ?_,⟨ku _, λj b=>absurd b (Nat.not_lt_zero _)⟩⟩))))
 . (have:r=[]:=by have:=hC v;simpa[AZ]using this);subst this;exact⟨ku _,rfl⟩
 . (have:c=⟨2,5⟩:=by simpa[AZ]using hC u);subst this;exact⟨rfl, λe=>absurd e dC⟩
 . obtain⟨n,mid,rfl,g,l⟩:=k a;have C:=g.len;exact⟨ku _,ku _,rfl,rfl,.inl rfl,by show¬(Be n mid).length=0;rw[Cr];omega,by show(Be n mid).length<=1024;rw[Cr];omega⟩
 . obtain⟨n,mid,rfl,g,l⟩:=k a;exact⟨rfl,rfl⟩
 obtain⟨n,mid,rfl,g,l⟩:=k a;rcases Gu g (hC w)with rfl|⟨rfl,_⟩|rfl|rfl
 . exact⟨dC,dC,.inr (.inl ⟨f1,dC,by show(0:Int)<1;decide,rfl,rfl⟩)⟩
 . exact⟨dC,dC,.inr (.inr (.inr (.inr (.inr (.inr (.inr (.inr (.inr ⟨p,dC,by show(1:Int)<2;decide,rfl,rfl⟩))))))))⟩
 . exact⟨dC,dC,.inl ⟨m,rfl,rfl,rfl⟩⟩
 exact⟨dC,dC,.inl ⟨q,rfl,rfl,rfl⟩⟩
section
variable {p:MP} {f:MF} {h:Nat}
theorem WN(a:p.b8=[⟨2,5⟩])(b:h<64):BJ p f iC (List.replicate h 2)=0/\Dr p f iC (List.replicate h 2)=List.replicate (h+1) 2:=by
 have t:AA p f iC=[]:=rfl;have g:Bh p f iC=[2]:=by show[(C8 p.b8 0).type]=[2];rw[a];rfl
 have o:H8 p f iC (List.replicate h 2)=List.replicate (h+1) 2:=by unfold H8 GX;rw[t,g,List.replicate_succ',jT];show List.take (h-0) _++[2]=_;rw[Nat.sub_zero,kP (by rw[jT];omega)]
 refine⟨?_,o⟩;show EL p f iC (List.replicate h 2)=0;unfold EL;rw[o,t];unfold GX;rw[t,jT,jT];rw[jH (by show¬h<0;omega),jH,jH oM];rintro(q|⟨q,_⟩)
 . rw[mF (by rw[jT];show h<=h-0;omega)]at q;cases q
 exact absurd q dC
theorem Y6(a:h<64):BJ p f iD (List.replicate (h+1) 2)=0/\Dr p f iD (List.replicate (h+1) 2)=List.replicate h 2:=by
 have t:AA p f iD=[0]:=rfl;have g:Bh p f iD=[]:=rfl;have o:H8 p f iD (List.replicate (h+1) 2)=List.replicate h 2:=by unfold H8 GX;rw[t,g,jT];show List.take (h+1-1) _++[]=_;rw[lK,Nat.add_sub_cancel,List.take_replicate,Nat.min_eq_left oM]
 refine⟨?_,o⟩;show EL p f iD (List.replicate (h+1) 2)=0;unfold EL;rw[o,t];unfold GX;rw[t,jT,jT];rw[jH (by show¬h+1<1;omega),jH,jH oM];rintro(q|⟨q,_⟩)
 . (have e:List.drop (h+1-[(0:Int)].length) (List.replicate (h+1) (2:Int))=[2]:=by rw[List.drop_replicate];show List.replicate (h+1-(h+1-1)) 2=[2];rw[show h+1-(h+1-1)=1 from oM];rfl);rw[e]at q;cases q
 . exact absurd q dC
theorem Y5{g:MF}(a:p.aB[1]?=K g)(c:g.aD=[])(d:g.cu=0)(e:h<=64):BJ p f iK (List.replicate h 2)=0/\Dr p f iK (List.replicate h 2)=List.replicate h 2:=by
 have t:AA p f iK=[]:=by show(match p.aB[1]? with|some g=>g.aD|none=>[])=[];rw[a];exact c
 have b:Bh p f iK=[]:=by show(match p.aB[1]? with|some g=>Bj g|none=>[])=[];rw[a];show Bj g=[];unfold Bj;rw[jP d]
 have o:H8 p f iK (List.replicate h 2)=List.replicate h 2:=by unfold H8 GX;rw[t,b,jT];show List.take (h-0) _++[]=_;rw[lK,Nat.sub_zero,kP (by rw[jT];omega)]
 refine⟨?_,o⟩;show EL p f iK (List.replicate h 2)=0;unfold EL;rw[o,t];unfold GX;rw[t,jT];rw[jH (by show¬h<0;omega),jH,jH oM];rintro(q|⟨q,_⟩)
 . rw[mF (by rw[jT];show h<=h-0;omega)]at q;cases q
 exact absurd q dC
end
def JO(n m i:Nat):Nat:=min i (min n (n+m+n-i))
theorem LY{d e n j:Nat}{mid:List MI}(s:d<=64)(t:e<=64)(l:n<=64)(y:1<=n)(k:Hb mid)(v:(AZ d e).aB[j]?=K (Bd n mid)):JX (AZ d e) (j:Int) ⟨0,0,(n:Int),(List.range (Be n mid).length).map λi=>List.replicate (JO n mid i) 2⟩:=by
 have z:=k.len;refine DK.types (f:=Bd n mid) (ht:=JO n mid) (D0:=n) (i0:=n-1) (Pv l k) (Ek s t) v rfl (λi u=> ?_) (by show n-1<(Be n mid).length;rw[Cr];omega) (by unfold JO;omega);obtain⟨x,m⟩:∃x,(Be n mid)[i]?=K x:=⟨_,an u⟩;have c:JO n mid (i+1)<=n:=by unfold JO;omega
 refine⟨x,m,?_⟩;rcases Jw m with⟨b,rfl⟩|⟨b,q,r⟩|⟨b,q,rfl⟩|⟨b,rfl⟩
 . rw[show JO n mid i=i by unfold JO;omega];(have a:JO n mid (i+1)=i+1:=by unfold JO;omega);rw[a]at c⊢;obtain⟨c1,c2⟩:=WN (p:=AZ d e) (f:=Bd n mid) (h:=i) rfl oM;exact⟨c1,c2,c⟩
 . obtain⟨w,rfl⟩:=k.at_ r;(have a:JO n mid (i+1)=n:=by unfold JO;omega);rw[show JO n mid i=n by unfold JO;omega,a];obtain⟨c1,c2⟩:=Y5 (p:=AZ d e) (f:=Bd n mid) (h:=n) (g:=Bd e []) rfl rfl rfl l;exact⟨c1,c2,Nat.le_refl _⟩
 . (have a:JO n mid i=JO n mid (i+1)+1:=by unfold JO;omega);obtain⟨c1,c2⟩:=Y6 (p:=AZ d e) (f:=Bd n mid) (h:=JO n mid (i+1)) (by unfold JO;omega);rw[a];exact⟨c1,c2,c⟩
 have a:JO n mid (i+1)=0:=by unfold JO;omega
 rw[show JO n mid i=0 by unfold JO;omega,a];exact⟨rfl,rfl,ku _⟩
theorem Y7:PB 1=1/\PB 24=1/\PB 28=4/\PB 29=2:=by decide+kernel
theorem QS{n:Nat}{mid:List MI}{C:List Int}(d:Hb mid):CW (Be n mid) C 0 (Be n mid).length=2*(n:Int)+(if mid=[]then 0 else 4+cf C 1)+2:=by
 obtain⟨j,k,l,m⟩:=Y7;have e:C5 C iC=1:=by unfold C5;rw[jH dC];show PB 1+0=1;omega
 have f:C5 C iD=1:=by unfold C5;rw[jH dC];show PB 24+0=1;omega
 have h:C5 C iE=2:=by unfold C5;rw[jH dC];show PB 29+0=2;omega
 have g:C5 C iK=4+cf C 1:=by unfold C5;rw[jP rfl];show PB 28+cf C 1=_;omega
 rw[Cr,JG 1,JG n,JG mid];rw[Ig (x:=iC) n (λi b=>by rw[kT];exact Lr b)];rw[Ig (a:=0+(n+ ↑mid)) (x:=iD) n (λi b=>by rw[kT];exact Pu b)]
 rw[Ig (a:=0+(n+ ↑mid+n)) (x:=iE) 1 (λi b=>by rw[show i=0 from oM,kT,jV];exact Ls)]
 rw[e,f,h];rcases d with rfl|rfl
 . rw[jP rfl];show(n:Int)*1+0+(n:Int)*1+((1:Nat):Int)*2=_;omega
 rw[jH dC];have c:CW (Be n [iK]) C (0+n) [iK].length=((1:Nat):Int)*C5 C iK:=Ig 1 (λi b=>by rw[show i=0 from oM,kT,Lu dC];rfl);rw[c,g];omega
theorem QT{p:MP}{c:List (List Int)}{a:Int}{n:Nat}(f:xs[n]?=K x)(d:x.op=28)(h:∀i y,xs[i]?=K y->y.op=28->i=n):∀k,EZ p xs c D a k=if n<k then max a (Pd p c D n x)else a
 |0=>by rw[jH (by omega)];rfl
 | k +1=>by
   unfold EZ;rw[QT f d h k];by_cases e:k=n
   . subst e;rw[f];simp only[];rw[jP d,jH (by omega),jP (by omega)]
   have b:(if n<k+1 then max a (Pd p c D n x)else a)=if n<k then max a (Pd p c D n x)else a:=by
    by_cases b:n<k
    . rw[jP b,jP oM]
    rw[jH b,jH oM]
   rw[b];cases e2:xs[k]? with
   |none=>rfl
   |some y=>simp only[];rw[jH (λq=>e (h k y e2 q))]
theorem Rq{d e:Nat}:CV (AZ d e).aB=[1,0]:=by
 have c0:DE (Bd d [iK])=[1]:=by unfold DE Bd Be;simp[List.filter_append]
 have c1:DE (Bd e [])=[]:=by unfold DE Bd Be;simp[List.filter_append]
 have c:Gc (AZ d e).aB []=K 1:=Hz (by show _<2;decide) (by unfold Es;show(!([]:List Int).contains ((1:Nat):Int)&&(DE (Bd e [])).all _)=true;rw[c1];rfl) (λj b=>by obtain rfl:j=0:=oM;unfold Es;show(!([]:List Int).contains ((0:Nat):Int)&&(DE (Bd d [iK])).all λa=>([]:List Int).contains a)=false;rw[c0];rfl);have f:Gc (AZ d e).aB [1]=K 0:=Hz (by show _<2;decide) (by unfold Es;show(!([1]:List Int).contains ((0:Nat):Int)&&(DE (Bd d [iK])).all λa=>([1]:List Int).contains a)=true;rw[c0];rfl) (λj b=>oM);unfold CV;show Db (AZ d e).aB 2 []=[1,0];unfold Db;rw[c];show Db (AZ d e).aB 1 [1]=[1,0];unfold Db;rw[f];rfl
def cE(e:Nat):Int:=2*(e:Int)+2
def cD(d e:Nat):Int:=2*(d:Int)+(4+cE e)+2
section
variable {d e:Nat}
theorem QR(h:d<=64)(a:e<=64)(i:1<=e):P6 (AZ d e) 1 [-1,-1] [0,0] 0 0 (cE e) (e:Int):=by
 have k:=QS (n:=e) (mid:=[]) (C:=[-1,-1]) (.inl rfl);have b:=Pv a (.inl (rfl:([]:List MI)=[]));have c:∀x∈Be e [],x.op≠28:= λx g=>by
  rcases Gu (.inl rfl) g with rfl|⟨_,q⟩|rfl|rfl
  . decide
  . cases q
  . decide
  decide
 refine⟨Bd e [],Oe (Be e []).length,rfl,b.gE,.inr ⟨rfl,_,LY (j:=1) h a a i (.inl rfl) rfl,.inr ⟨rfl,.inr ⟨λl b=>(by cases b),.inr ⟨λt ht=>(by cases ht),cE e,?_,.inr ⟨by unfold cE;omega,.inr ⟨?_,rfl,rfl,rfl,?_⟩⟩⟩⟩⟩⟩⟩
 . refine DK.cost (f:=Bd e []) b (Ek h a) rfl (λx g q=>absurd q (c x g)) ?_ (by unfold cE;omega) (by unfold cE;omega);show CW (Be e []) [-1,-1] 0 (Be e []).length=_;rw[k,jP rfl];unfold cE;omega
 . show EZ _ _ _ _ _ _<=64;rw[Pe (xs:=(Bd e []).aU) c];show(e:Int)<=64;omega
 show(e:Int)=EZ _ _ _ _ _ _;rw[Pe (xs:=(Bd e []).aU) c]
theorem Uc(a:0<=z)(b:z<=1000):IntKind.i64.wrap z=z:=lr z oM
theorem WU(j:d<=64)(k:e<=64):Hp (AZ d e) (Bd d [iK]) ⟨0,0,(d:Int),(List.range (Be d [iK]).length).map λi=>List.replicate (JO d [iK].length i) 2⟩ [0,(e:Int)]=(d:Int)+e:=by
 unfold Hp;show EZ (AZ d e) (Be d [iK]) ((List.range (Be d [iK]).length).map λi=>List.replicate (JO d 1 i) 2) [0,(e:Int)] (d:Int) (Be d [iK]).length=_;have f:(Be d [iK])[d]?=K iK:=by have:=Lu (n:=d) (mid:=[iK]) (i:=0) dC;rw[jV]at this;exact this
 rw[QT f rfl (λi y g a=>by
  rcases Jw g with⟨_,rfl⟩|⟨h,c,_⟩|⟨_,_,rfl⟩|⟨_,rfl⟩
  . exact absurd a dC
  . have:i<d+1:=c;omega
  . exact absurd a dC
  exact absurd a dC),Cr,jP (by show d<d+1+d+1;omega)]
 have b:(((List.range (d+[iK].length+d+1)).map λi=>List.replicate (JO d 1 i) (2:Int))[d]?).getD []=List.replicate d 2:=by rw[jY,m8 (by show d<d+1+d+1;omega)];show List.replicate (JO d 1 d) 2=_;rw[show JO d 1 d=d by unfold JO;omega]
 unfold Pd;rw[b,jT];show max (d:Int) (IntKind.i64.wrap (IntKind.i64.wrap ((d:Int)-0)+(e:Int)))=_;rw[Uc (z:=(d:Int)-0) oM oM,Uc oM oM];omega
theorem WX(a:d<=64)(g:e<=64)(i:1<=d):P6 (AZ d e) 0 [-1,cE e] [0,(e:Int)] (if d+e<=64 then 0 else 8) 0 (cD d e) ((d:Int)+e):=by
 have k:=QS (n:=d) (mid:=[iK]) (C:=[-1,cE e]) (.inr rfl);have b:=Pv a (.inr (rfl:[iK]=[iK]));have c:=WU a g;refine⟨Bd d [iK],Oe (Be d [iK]).length,rfl,b.gE,.inr ⟨rfl,_,LY (j:=0) a g a i (.inr rfl) rfl,.inr ⟨rfl,.inr ⟨λl b=>(by cases b),.inr ⟨λt ht=>(by cases ht),cD d e,?_,.inr ⟨by unfold cD cE;omega,?_⟩⟩⟩⟩⟩⟩
 . refine DK.cost (f:=Bd d [iK]) b (Ek a g) rfl (λx m q=> ?_) ?_ (by unfold cD cE;omega) (by unfold cD cE;omega)
   . rcases Gu (.inr rfl) m with rfl|⟨rfl,_⟩|rfl|rfl
     . exact absurd q dC
     . exact⟨by show 1<2;decide,by show 0<=cE e;unfold cE;omega,by show cE e<=_;unfold cE;omega⟩
     . exact absurd q dC
     exact absurd q dC
   show CW (Be d [iK]) [-1,cE e] 0 (Be d [iK]).length=_;rw[k,jH dC];rfl
 by_cases h:d+e<=64
 . rw[jP h];exact .inr ⟨by rw[c];omega,rfl,rfl,rfl,c.symm⟩
 rw[jH h];exact .inl ⟨by rw[c];omega,rfl,rfl⟩
theorem WT(a:d<=64)(b:e<=64)(i:1<=d)(g:1<=e):if d+e<=64 then K3 (AZ d e) 0 0 0 [cD d e,cE e] [(d:Int)+e,(e:Int)]else K3 (AZ d e) 8 0 0 [] []:=by
 have f:=Rq (d:=d) (e:=e);have c:=WX a b i;by_cases h:d+e<=64
 . rw[jP h]at c⊢;refine .inr (.inr ⟨Ek a b,by rw[f];simp,[-1,-1],[0,0],rfl,rfl,?_⟩);rw[f];exact .step (QR a b g) (.step c .nil)
 rw[jH h]at c⊢;refine .inr (.inr ⟨Ek a b,by rw[f];simp,[-1,-1],[0,0],rfl,rfl,?_⟩);rw[f];exact .step (QR a b g) (.bad c dC)
end
abbrev Kf(h:Nat):List MC:=List.replicate h ⟨2,5⟩
abbrev dS(F:List MG)(fn a b:Int)(h:Nat)(C N:Int):MS:=⟨0,false,C,N,[[],[],[]],Kf h,F++[⟨fn,a,b,[]⟩]⟩
theorem L8{l:List MC}(h:Bw (List.drop (↑l-([]:List Int).length) l) []=false):False:=by
 rw[show ↑l-([]:List Int).length= ↑l from Nat.sub_zero _,List.drop_length]at h
 cases h
theorem Ih:B4 1=1/\B4 24=1/\B4 28=4/\B4 29=2:=by decide+kernel
section
variable {d e j:Nat} {n:Nat} {mid:List MI} {F:List MG} {a:Nat} {b h:Nat} {C N:Int}
theorem XZ{F:List MG}{g:MG}{k:MG->MG}:CQ (F++[g]) k=F++[k g]:=by
 unfold CQ;rw[jI,kE,Nat.add_sub_cancel];induction F with
 |nil=>rfl
 |cons x r a=>simpa using a
theorem Xb(i:(AZ d e).aB[j]?=K (Bd n mid))(l:(Be n mid)[a]?=K iC)(m:b<=h)(r:h<64):Bf (AZ d e) (dS F j a b h C N) (dS F j ((a+1:Nat):Int) b (h+1) (C+1) (N+1)):=by
 have k:=Bf.does (p:=AZ d e) (s:=dS F j a b h C N) (g:=⟨j,a,b,[]⟩) (f:=Bd n mid) (x:=iC) sP (by show(AZ d e).aB[((j:Int)).toNat]?=_;rw[i9];exact i) (Int.natCast_nonneg a) (by show(Be n mid)[((a:Int)).toNat]?=_;rw[i9];exact l) (by
  unfold Do;have t:AA (AZ d e) (Bd n mid) iC=[]:=rfl;rw[t,jH dC,jH (by show¬_<0;omega),jH,jH dC,jH (by show¬64<(Kf h).length-0+1;rw[jT];omega)];rintro(q|⟨q,_⟩)
  . exact L8 q
  exact absurd q dC)
 have c:Eb (AZ d e) (Bd n mid) ⟨j,a,b,[]⟩ (dS F j a b h (C+1) (N+1)) iC=dS F j ((a+1:Nat):Int) b (h+1) (C+1) (N+1):=by
  show(⟨0,false,C+1,N+1,[[],[],[]],List.take ((Kf h).length-0) (Kf h)++[⟨2,5⟩],CQ (F++[⟨j,a,b,[]⟩]) λg=>{g with at_:=(a:Int)+1}⟩:MS)=_;rw[XZ,Nat.sub_zero,List.take_length];congr 1
  exact List.replicate_succ'.symm
 rw[<-c,<-Ih.1];exact k
theorem Zc(c:(AZ d e).aB[j]?=K (Bd n mid))(h:(Be n mid)[a]?=K iC)(i:b<=64):Bf (AZ d e) (dS F j a b 64 C N) {dS F j a b 64 C N with trap:=3,steps:=N+1,cost:=C+B4 1}:=by
 refine Bf.trap (p:=AZ d e) (s:=dS F j a b 64 C N) (g:=⟨j,a,b,[]⟩) (f:=Bd n mid) (x:=iC) (n:=3) sP (by show(AZ d e).aB[((j:Int)).toNat]?=_;rw[i9];exact c) (Int.natCast_nonneg a) (by show(Be n mid)[((a:Int)).toNat]?=_;rw[i9];exact h) ?_ dC;unfold Do;have t:AA (AZ d e) (Bd n mid) iC=[]:=rfl;rw[t,jH dC,jH (by show¬_<0;omega),jH,jH dC,jP (by show 64<(Kf 64).length-0+1;rw[jT];omega)];rintro(q|⟨q,_⟩)
 . exact L8 q
 exact absurd q dC
theorem Zb(k:(AZ d e).aB[j]?=K (Bd n mid))(m:(Be n mid)[a]?=K iD)(r:b<=h)(u:h<64):Bf (AZ d e) (dS F j a b (h+1) C N) (dS F j ((a+1:Nat):Int) b h (C+1) (N+1)):=by
 have l:=Bf.does (p:=AZ d e) (s:=dS F j a b (h+1) C N) (g:=⟨j,a,b,[]⟩) (f:=Bd n mid) (x:=iD) sP (by show(AZ d e).aB[((j:Int)).toNat]?=_;rw[i9];exact k) (Int.natCast_nonneg a) (by show(Be n mid)[((a:Int)).toNat]?=_;rw[i9];exact m) (by
  unfold Do;have t:AA (AZ d e) (Bd n mid) iD=[0]:=rfl;have c:List.drop ((b:Int)).toNat (Kf (h+1))=Kf (h+1-b):=by rw[i9,List.drop_replicate]
  show(if iD.op=29 then _ else if(List.drop ((b:Int)).toNat (Kf (h+1))).length<_ then _ else if Bw (List.drop ((List.drop ((b:Int)).toNat (Kf (h+1))).length-_) (List.drop ((b:Int)).toNat (Kf (h+1)))) _=false\/_ then _ else _)=_
  rw[c,t,jH dC,jT,jH (by show¬h+1-b<1;omega),jH,jH dC,jH (by show¬64<(Kf (h+1)).length-1+0;rw[jT];omega)];rintro(q|⟨q,_⟩)
  . rw[List.drop_replicate,show h+1-b-(h+1-b-[(0:Int)].length)=1 by show h+1-b-(h+1-b-1)=1;omega]at q;cases q
  exact absurd q dC)
 have i:Eb (AZ d e) (Bd n mid) ⟨j,a,b,[]⟩ (dS F j a b (h+1) (C+1) (N+1)) iD=dS F j ((a+1:Nat):Int) b h (C+1) (N+1):=by show(⟨0,false,C+1,N+1,[[],[],[]],List.take ((Kf (h+1)).length-1) (Kf (h+1)),CQ (F++[⟨j,a,b,[]⟩]) λg=>{g with at_:=(a:Int)+1}⟩:MS)=_;rw[XZ,jT,Nat.add_sub_cancel,List.take_replicate,Nat.min_eq_left oM];rfl
 rw[<-i,<-Ih.2.1];exact l
theorem TJ(j:(Be n mid)[a]?=K iK)(c:(AZ d e).aB[0]?=K (Bd n mid)):Bf (AZ d e) (dS [] 0 a 0 h C N) (dS [⟨0,((a+1:Nat):Int),0,[]⟩] 1 0 h h (C+4) (N+1)):=by
 have i:=Bf.does (p:=AZ d e) (s:=dS [] 0 a 0 h C N) (g:=⟨0,a,0,[]⟩) (f:=Bd n mid) (x:=iK) sP c (Int.natCast_nonneg a) (by show(Be n mid)[((a:Int)).toNat]?=_;rw[i9];exact j) (by
  unfold Do;have t:AA (AZ d e) (Bd n mid) iK=[]:=rfl;rw[t,jH dC,jH (by show¬_<0;omega),jH,jP rfl,jP (by show 1<32;decide)];rintro(q|⟨q,_⟩)
  . exact L8 q
  exact absurd q dC)
 have b:Eb (AZ d e) (Bd n mid) ⟨0,a,0,[]⟩ (dS [] 0 a 0 h (C+4) (N+1)) iK=dS [⟨0,((a+1:Nat):Int),0,[]⟩] 1 0 h h (C+4) (N+1):=by show(⟨0,false,C+4,N+1,[[],[],[]],List.take ((Kf h).length-0) (Kf h),[⟨0,((a+1:Nat):Int),0,[]⟩]++[⟨1,0,((List.take ((Kf h).length-0) (Kf h)).length:Int),List.drop ((Kf h).length-0) (Kf h)++[]⟩]⟩:MS)=_;rw[Nat.sub_zero,List.take_length,List.drop_length,jT];rfl
 rw[<-b,<-Ih.2.2.1];exact i
theorem Xe(c:(AZ d e).aB[j]?=K (Bd n mid))(k:(Be n mid)[a]?=K iE):Bf (AZ d e) (dS F j a h h C N) ⟨0,decide ((F++[(⟨j,a,h,[]⟩:MG)]).length=1),C+2,N+1,[[],[],[]],Kf h,F⟩:=by
 have i:=Bf.does (p:=AZ d e) (s:=dS F j a h h C N) (g:=⟨j,a,h,[]⟩) (f:=Bd n mid) (x:=iE) sP (by show(AZ d e).aB[((j:Int)).toNat]?=_;rw[i9];exact c) (Int.natCast_nonneg a) (by show(Be n mid)[((a:Int)).toNat]?=_;rw[i9];exact k) (by unfold Do;rw[jP rfl,jP];show List.map MC.type (List.drop ((h:Int)).toNat (Kf h))=[];rw[i9,mF (by rw[jT];exact Nat.le_refl _)];rfl);have b:Eb (AZ d e) (Bd n mid) ⟨j,a,h,[]⟩ (dS F j a h h (C+2) (N+1)) iE=⟨0,decide ((F++[(⟨j,a,h,[]⟩:MG)]).length=1),C+2,N+1,[[],[],[]],Kf h,F⟩:=by show(⟨0,decide ((F++[(⟨j,a,h,[]⟩:MG)]).length=1),C+2,N+1,[[],[],[]],Kf h,(F++[(⟨j,a,h,[]⟩:MG)]).dropLast⟩:MS)=_;rw[List.dropLast_concat]
 rw[<-b,<-Ih.2.2.2];exact i
theorem Gs(a:(AZ d e).aB[j]?=K (Bd n mid)):∀i:Nat,i<=n->b+i<=64->Cs (AZ d e) i (dS F j 0 b b C N) (dS F j i b (b+i) (C+i) (N+i))
 |0,_,_=>by rw[show C+((0:Nat):Int)=C by omega,show N+((0:Nat):Int)=N by omega];exact .zero
 | i+1,h,h2=>by have:=Cs.next (Gs a i oM oM) rfl rfl (Xb a (Lr oM) oM oM);rw[show C+((i+1:Nat):Int)=C+i+1 from oM,show N+((i+1:Nat):Int)=N+i+1 from oM];exact this
theorem LZ(c:(AZ d e).aB[j]?=K (Bd n mid))(f:b+n<=64):∀i:Nat,i<=n->Cs (AZ d e) i (dS F j ((n+ ↑mid:Nat):Int) b (b+n) C N) (dS F j ((n+ ↑mid+i:Nat):Int) b (b+(n-i)) (C+i) (N+i))
 |0,_=>by rw[show C+((0:Nat):Int)=C by omega,show N+((0:Nat):Int)=N by omega];exact .zero
 | i+1,h=>by have a:=LZ c f i oM;rw[show b+(n-i)=b+(n-(i+1))+1 from oM]at a;have:=Cs.next a rfl rfl (Zb c (Pu oM) oM oM);rw[show C+((i+1:Nat):Int)=C+i+1 from oM,show N+((i+1:Nat):Int)=N+i+1 from oM];exact this
end
theorem KJ{d e:Nat}(b:d<=64)(c:e<=64):Gg (AZ d e) ⟨[],[],[]⟩ (dS [] 0 0 0 0 0 0):=.inl ⟨⟨Ek b c,[],[],[],rfl,rfl,⟨rfl, λi a=>absurd a (Nat.not_lt_zero _)⟩,⟨rfl, λi a=>absurd a (Nat.not_lt_zero _)⟩⟩,[],[],[],Bd d [iK],[Bd e []],rfl,rfl,rfl⟩
theorem WW{d:Nat}:(Be d [iK])[d]?=K iK:=by have:=Lu (n:=d) (mid:=[iK]) (i:=0) dC;rw[jV]at this;exact this
theorem UE{d e:Nat}(k:d<=64)(l:e<=64)(f:d+e<=64):∃s:MS,FO (AZ d e) ⟨[],[],[]⟩ 1000 s/\s.done=true/\s.cost=cD d e/\s.steps=2*(d:Int)+2*e+3:=by
 have a:(AZ d e).aB[0]?=K (Bd d [iK]):=rfl;have c:(AZ d e).aB[1]?=K (Bd e []):=rfl;have s1:=Gs (F:=[]) (b:=0) (C:=0) (N:=0) (j:=0) a d lR oM;rw[show 0+d=d from oM]at s1;have s2:=s1.next rfl rfl (TJ WW a);have m:=s2.more (Gs (j:=1) c e lR f);have g:=m.more (LZ (mid:=[]) (j:=1) c f e lR);rw[show d+(e-e)=d from oM]at g;have n:=g.next rfl rfl (Xe (j:=1) c Ls);have i:=LZ (F:=[]) (b:=0) (mid:=[iK]) (j:=0) (C:=0+d+4+e+e+2) (N:=0+d+1+e+e+1) a oM d lR;rw[kT,show 0+(d-d)=0 from oM]at i;have p:=(n.more i).next rfl rfl (Xe (F:=[]) (h:=0) (j:=0) a Ls);refine⟨_,⟨dS [] 0 0 0 0 0 0,KJ k l,_,p,.inr ⟨oM,.inr rfl⟩⟩,rfl,?_,?_⟩
 . show 0+(d:Int)+4+e+e+2+d+2=cD d e;unfold cD cE;omega
 show 0+(d:Int)+1+e+e+1+d+1=_;omega
theorem UF{d e:Nat}(i:d<=63)(g:e<=64)(k:64<d+e):∃s:MS,FO (AZ d e) ⟨[],[],[]⟩ 1000 s/\s.done=false/\s.trap=3/\s.steps=66:=by have a:(AZ d e).aB[0]?=K (Bd d [iK]):=rfl;have c:(AZ d e).aB[1]?=K (Bd e []):=rfl;have s1:=Gs (F:=[]) (b:=0) (C:=0) (N:=0) (j:=0) a d lR oM;rw[show 0+d=d from oM]at s1;have s2:=s1.next rfl rfl (TJ WW a);have f:=s2.more (Gs (j:=1) c (64-d) oM oM);rw[show d+(64-d)=64 from oM]at f;have h:=f.next rfl rfl (Zc (j:=1) (b:=d) c (Lr oM) oM);refine⟨_,⟨dS [] 0 0 0 0 0 0,KJ oM g,_,h,.inr ⟨oM,.inl (by show(3:Int)≠0;decide)⟩⟩,rfl,rfl,?_⟩;show 0+(d:Int)+1+((64-d:Nat):Int)+1=66;omega
structure Wr(d e:Nat):Prop where
 fit:d+e<=64->K3 (AZ d e) 0 0 0 [cD d e,cE e] [(d:Int)+e,(e:Int)]/\∃s:MS,FO (AZ d e) ⟨[],[],[]⟩ 1000 s/\s.done=true/\s.cost=cD d e/\s.steps=2*(d:Int)+2*e+3
 over:64<d+e->K3 (AZ d e) 8 0 0 [] []/\∃s:MS,FO (AZ d e) ⟨[],[],[]⟩ 1000 s/\s.done=false/\s.trap=3/\s.steps=66
theorem oU{d e:Nat}(f:1<=d)(h:d<=63)(g:1<=e)(c:e<=64):Wr d e:=by have a:=WT (d:=d) (e:=e) oM c f g;exact⟨λb=>⟨by rw[jP b]at a;exact a,UE oM c b⟩, λb=>⟨by rw[jH oM]at a;exact a,UF h c b⟩⟩
theorem Rt(u:Y)(e:Aj)(k n:Nat)(cs:List J)(a: ↑cs=n*k)(b:n<=maxLen):Ab (Ac u (Ak cs.toArray e)) u e k (Z u n n) n cs:=⟨a,.inr ⟨u,n,cs.toArray,rfl,Nat.le_refl _,lu _ _,Nat.le_refl _,b,by simpa using a,by rw[<-a];simp⟩⟩
theorem Fk(u:Y)(X:Array J)(t:Aj):∃a,Ac u (Ak X t)=a/\(a:Nat)= ↑u+1/\Ah u u a/\Ay a u X t:=⟨_,rfl,l8 _ _,Al _ _,Ay.new _ _ _⟩
theorem YI:(Tryz.prog.info? 25).map (λi=>(i.zero,i.size,i.bytes))=K (K (An #[Ag Af 0,Ag Af 0,Ag Af 0,Ag Af 0]),4,32):=kR
theorem RC(xs:List MI)(n:Nat)(x:MI):Ad MI.cells (xs++List.replicate n x)++x.cells=Ad MI.cells (xs++List.replicate (n+1) x):=by rw[List.replicate_succ',<-kS,kJ (ys:=[x])];simp
theorem Rn(xs:List MI)(x:MI):Ad MI.cells xs++x.cells=Ad MI.cells (xs++[x]):=by rw[kJ];simp
structure Ws(U wr:Y)(g n cp:Nat)(cs:List MI):Prop where
 own:Ab wr U 25 4 (Z g n cp) n (Ad MI.cells cs)
 cq:Ah U U wr
theorem Ws.av{U wr:Y}{g n a:Nat}(h:Ws U wr g n a cs)(b:Ah wr wr c):Ws U c g n a cs:=⟨AC h.own b lR,Ar h.cq lR b⟩
theorem Ws.grow{U wr b:Y}{g n c f a d:Nat}{cs e:List MI}(h:Ws U wr g n c cs)(j:Ab b U 25 4 (Z f a d) a (Ad MI.cells e))(i:wr.grownBy b (Z g n c).ownBlock):Ws U b f a d e:=⟨j,h.cq.grown i h.cq.size (λq k=>(h.own.lt q k).1)⟩
theorem FN.push{base n:Nat}{v v':J}{fs:List MF}{b:List (MF×VF)}{j:List J}{f:MF}{vv:VF}(k:b.map Prod.fst=fs)(l:∀x∈b,K7 w base x.2 x.1)(m:K7 w base vv f)(e:Ab w base 34 4 v n j)(d:w.grownBy c v.ownBlock)(q:Ab c base 34 4 v' (n+1) (Ad DF b++DF (f,vv)))(p: ↑fs=n):FN c base v' (fs++[f]):=by
 have g:∀{i:VF} {f0:MF},K7 w base i f0->K7 c base i f0:= λh=>⟨Er h.1 d e dC,Er h.2.1 d e dC,Er h.2.2 d e dC⟩
 refine⟨b++[(f,vv)],by rw[k8,k];rfl,?_, λx a=> ?_⟩
 . rw[kJ,jI,p];simpa using q
 rcases jL.1 a with a|a
 . exact g (l x a)
 rw[jU.1 a];exact g m
def pU(d e k:Nat):List MF:=List.take k [Bd d [iK],Bd e []]
def pP(w wr:Y)(d e k g a:Nat):Prop:=FN wr w (Z g k a) (pU d e k)/\Ah w w wr
theorem TM{d e k:Nat}(h:k<=2):(pU d e k).length=k:=by unfold pU;rw[kp];show min k 2=k;omega
structure qH(w V:Y)(d e k g cp:Nat)(XS:List (MF×VF))(g5 n5 c5:Nat)(cs:List MI):Prop where
 fst:XS.map Prod.fst=pU d e k
 own:V.ownsRow w 34 4 (Z g k cp) k (Ad DF XS)
 old:∀x∈XS,K7 V w x.2 x.1
 new:K7 V w ⟨Z M 0 0,Z M 0 0,Z g5 n5 c5⟩ ⟨[],0,[],cs⟩
 cq:Ah w w V
theorem Xd{w U j:Y}{d e k g l b a c5:Nat}(p:k<=2)(h:pP w U d e k g l)(i:Ws U j b a c5 cs)(q: ↑cs=a):∃c,qH w (Ac j (Ak #[Z M 0 0,Ag Af 0,Z M 0 0,Z b a c5] 34)) d e k g l c b a c5 cs:=by
 have f:=Al j (Ak #[Z M 0 0,Ag Af 0,Z M 0 0,Z b a c5] 34);have n:=(h.1.av i.cq lR).av f lR;obtain⟨c,r,m,x3⟩:=n;refine⟨c,r,?_,x3,⟨kH _ _ _ _,kH _ _ _ _,?_⟩,Ar (Ar h.2 lR i.cq) lR f⟩
 . rw[TM p]at m;exact m
 have:=Bt (AC i.own f lR) h.2.size;subst q;exact this
theorem qH.push{w V a:Y}{d e k g c f m c5 i c6 n:Nat}{mid:List MI}{b:List (MF×VF)}(u:k<2)(h:qH w V d e k g c b f m c5 (Be n mid))(r:k=0/\mid=[iK]\/k=1/\mid=[])(l:k=0/\n=d\/k=1/\n=e)(s:Ab a w 34 4 (Z i (k+1) c6) (k+1) (Ad DF b++[Z M 0 0,Ag Af 0,Z M 0 0,Z f m c5]))(j:V.grownBy a (Z g k c).ownBlock):pP w a d e (k+1) i c6:=by
 have:=FN.push h.fst h.old h.new h.own j s (TM oM);refine⟨?_,h.cq.grown j h.cq.size (λq t=>(h.own.lt q t).1)⟩;have p:pU d e (k+1)=pU d e k++[⟨[],0,[],Be n mid⟩]:=by
  rcases r with⟨rfl,rfl⟩|⟨rfl,rfl⟩
  . rcases l with⟨_,rfl⟩|⟨q,_⟩
    . rfl
    cases q
  rcases l with⟨q,_⟩|⟨_,rfl⟩
  . cases q
  rfl
 rw[p];exact this
theorem pK(a:0<=z)(b:z<=100):Fb z:=C9 oM oM
theorem SC{d e:Nat}(c:d<=64)(g:e<=64):(AZ d e).small:=by
 refine⟨by show 3<=_;omega, λr b=> ?_,by show 1<=_;omega,by show 2<=_;omega, λf a=> ?_,by show 0<=_;omega⟩
 . simp only[AZ,jK,jO,kM,or_self]at b;rw[b];decide
 simp only[AZ,jK,jO,kM]at a;rcases a with rfl|rfl
 . exact⟨ku _,ku _,by show(Be d [iK]).length<=_;rw[Cr];show d+1+d+1<=_;omega⟩
 exact⟨ku _,ku _,by show(Be e []).length<=_;rw[Cr];show e+0+e+1<=_;omega⟩
theorem TR{n:Nat}{mid:List MI}(h:Hb mid):∀x∈Be n mid,x.wf:= λx j=>by
 have q:= λ(a b c d:Int) (e:0<=a/\a<=100) (f:0<=b/\b<=100) (g:0<=c/\c<=100) (i:0<=d/\d<=100)=>(show(⟨a,b,c,d⟩:MI).wf from⟨pK e.1 e.2,pK f.1 f.2,pK g.1 g.2,pK i.1 i.2⟩)
 rcases Gu h j with rfl|⟨rfl,_⟩|rfl|rfl<;>exact q _ _ _ _ oM oM oM oM
theorem Y8{d e:Nat}:(AZ d e).wf:=by
 refine⟨λr g z a=> ?_, λx b=> ?_, λf c=> ?_, λx b=>(by cases b)⟩
 . simp only[AZ,jK,jO,kM,or_self]at g;rw[g]at a;cases a
 . rw[jU.1 b];exact⟨pK (z:=2) dC dC,OZ (by show(0:Int)<=5;decide) (by show(5:Int)<=_;decide)⟩
 simp only[AZ,jK,jO,kM]at c;rcases c with rfl|rfl
 . exact⟨λz a=>(by cases a),pK (z:=0) dC dC, λz a=>(by cases a),TR (.inr rfl)⟩
 exact⟨λz a=>(by cases a),pK (z:=0) dC dC, λz a=>(by cases a),TR (.inl rfl)⟩
structure pO(w W:Y)(N g cp d e:Nat):Prop where
 r:Ay W (N+1+1+1) #[Z N 0 0,Z (K ⟨N+1,0,M⟩) 0 0,Z (K ⟨N+1+1,0,M⟩) 0 0] 27
 k:Ay W (N+1+1+1+1) #[Ag Af 2,Ag .u32 5] 31
 p:Ay W (N+1+1+1+1+1) #[Z (K ⟨N+1+1+1,0,M⟩) 3 3,Z (K ⟨N+1+1+1+1,0,M⟩) 1 1,Z g 2 cp,Z M 0 0] 40
 f:FN W w (Z g 2 cp) [Bd d [iK],Bd e []]
 cq:Ah w w W
theorem pO.av{w W b:Y}{N g c d e:Nat}(h:pO w W N g c d e)(a:Ah W W b):pO w b N g c d e:=⟨h.r.av a,h.k.av a,h.p.av a,h.f.av a lR,Ar h.cq lR a⟩
abbrev YS(N g a:Nat):VP:=⟨Z (K ⟨N+1+1+1,0,M⟩) 3 3,Z (K ⟨N+1+1+1+1,0,M⟩) 1 1,Z g 2 a,Z M 0 0⟩
theorem pO.fT{W:Y}{N g a d e:Nat}(h:pO w W N g a d e):ET W (YS N g a) (AZ d e)/\EY W (YS N g a).r (AZ d e).az/\FZ W (YS N g a).f (AZ d e).aB/\Jh W (YS N g a).f (AZ d e).aB:=by
 have b:EY W (YS N g a).r (AZ d e).az:=⟨[([],Z N 0 0),([],Z (K ⟨N+1,0,M⟩) 0 0),([],Z (K ⟨N+1+1,0,M⟩) 0 0)],rfl,G7 (cs:=[Z N 0 0,Z (K ⟨N+1,0,M⟩) 0 0,Z (K ⟨N+1+1,0,M⟩) 0 0]) h.r rfl 3, λx c=>by
  simp only[jK,jO,kM]at c;rcases c with rfl|rfl|rfl
  . exact⟨Hi _ _,_,_,rfl,ku _⟩
  . exact⟨Hi _ _,_,_,rfl,ku _⟩
  exact⟨Hi _ _,_,_,rfl,ku _⟩⟩
 exact⟨⟨b.rd,G7 (cs:=[Ag Af 2,Ag .u32 5]) (n:=1) (k:=2) h.k rfl 1,h.f.rd,Hi _ _⟩,b,h.f.fT,h.f.rdk⟩
theorem oV{u:Y}{g a d e:Nat}(h:pP w u d e 2 g a):∃W,(Ac (Ac (Ac (Ac (Ac (Ac u (Ak #[] 2)) (Ak #[] 2)) (Ak #[] 2)) (Ak #[Z u 0 0,Z (K ⟨(u:Nat)+1,0,M⟩) 0 0,Z (K ⟨(u:Nat)+1+1,0,M⟩) 0 0] 27)) (Ak #[Ag Af 2,Ag .u32 5] 31)) (Ak #[Z (K ⟨(u:Nat)+1+1+1,0,M⟩) 3 3,Z (K ⟨(u:Nat)+1+1+1+1,0,M⟩) 1 1,Z g 2 a,Z M 0 0] 40))=W/\pO w W u g a d e:=by obtain⟨y,l,v,c0,E⟩:=Fk u #[] 2;rw[l];obtain⟨z,m,s1,c1,s⟩:=Fk y #[] 2;rw[m];obtain⟨A,n,s2,c2,t⟩:=Fk z #[] 2;rw[n];obtain⟨B,p,j,c3,c⟩:=Fk A #[Z u 0 0,Z (K ⟨(u:Nat)+1,0,M⟩) 0 0,Z (K ⟨(u:Nat)+1+1,0,M⟩) 0 0] 27;rw[p];obtain⟨C,q,k,c4,f⟩:=Fk B #[Ag Af 2,Ag .u32 5] 31;rw[q];obtain⟨D,r,x,c5,i⟩:=Fk C #[Z (K ⟨(u:Nat)+1+1+1,0,M⟩) 3 3,Z (K ⟨(u:Nat)+1+1+1+1,0,M⟩) 1 1,Z g 2 a,Z M 0 0] 40;rw[r];rw[v]at s1 s;rw[s1]at s2 t;rw[s2]at j c;rw[j]at k f;rw[k]at x i;have b:=Ar (Ar (Ar (Ar (Ar c0 lR c1) lR c2) lR c3) lR c4) lR c5;exact⟨D,rfl,(c.av c4).av c5,f.av c5,i,h.1.av b lR,Ar h.2 lR b⟩
theorem Ur(b a:J)(w:Y):(Instr.field 55 (An #[iZ 0,iZ 0,iZ 0,b,a]) 4).run Aq w=.ok a w:=kR
theorem QZ(a:Option Addr)(len cap:Nat)(w:Y)(hc:CodeAt w w a len)(hg:CC w):
 Ai Aq 4 #[Z a len cap] w λe w'=>e=Am true/\Ah w w w':=by
 obtain⟨iX,aW,aR,aS,aT⟩:=km YI;obtain⟨iY,cI,bY,bZ,ce⟩:=km qr;have HW:=Aw (fd hc hg);clear hc hg;by_cases bH:len<=1048576;case neg=>have cJ:(len:Int)>1048576:=oM;go_enter func4,ntmps4;go_wp2_with fail;go_ret;exact⟨rfl,jZ _ _⟩
 have cJ:¬((len:Int)>1048576):=oM;go_enter func4,ntmps4;go_wp2_with fail;refine(JA a len cap 0 63 w w bH oM oM oM HW.1).mono ?_;rintro e u1 ⟨⟨k1,d9,rfl⟩,l⟩;have B1:=Aw l;have br:Ae (CodeAt u1 w a len):=by
  rcases HW.1 with e0|⟨b,cW,e1,hb,cU⟩
  . exact .inl e0
  exact .inr ⟨b,cW,e1,hb, λi hi=>by obtain⟨v,v0,v1,hv⟩:=cU i hi;exact⟨v,v0,v1,by rw[l.cell hb];exact hv⟩⟩
 clear l;obtain⟨d,hd⟩:∃d:Nat,1+k1=d:=⟨_,rfl⟩;have cj:(1:Int)+(k1:Int)=(d:Int):=oM;go_upto_region 4 with fail
 clear cj;go_wp2_with fail;refine(JA a len cap 1 3 w u1 bH oM oM oM br).mono ?_;rintro e u2 ⟨⟨k2,db,rfl⟩,l⟩;have B2:=Aw (Ar B1 lR l);clear l B1 br;obtain⟨q,s⟩:∃q:Nat,64-d+k2-1=q:=⟨_,rfl⟩;have aX:(64:Int)-(d:Int)+(k2:Int)-1=(q:Int):=oM;go_upto_region 5 with fail
 go_cut [31] (λc wx=>∃t:Bool,c=Ao t/\Ae (t=true↔q=0)/\Ae (Ah w w wx))
 case first=>
  by_cases R:q=0
  . have ax:(q:Int)<1:=oM;(have bT:decide ((q:Int)<1)=true:=by simpa using ax);go_wp2_with fail;go_meet;exact⟨true,rfl,Aw ⟨λ_=>R, λ_=>rfl⟩,B2⟩
  have ax:¬(q:Int)<1:=oM;have bV:¬(q:Int)>64:=oM;have bT:decide ((q:Int)<1)=false:=by simpa using ax
  have cY:decide ((q:Int)>64)=false:=by simpa using bV
  go_wp2_with fail;go_meet;exact⟨false,rfl,Aw ⟨λe=>(by cases e), λe=>absurd e R⟩,B2⟩
 obtain⟨t,rfl,HT,B2⟩:=hcut;go_upto_if 31 with fail
 go_cut [4] (λV wx=>∃e:Nat,V=Ag Af (e:Int)/\Ae (1<=e/\e<=64)/\Ae (Ah w w wx))
 case first=>
  cases t
  . (have R:¬q=0:= λe=>(by have:=HT.2 e;cases this));have HQ:=Aw R;clear R;go_wp2_with fail;go_meet;exact⟨q,rfl,Aw ⟨by have:=HQ.o;omega,oM⟩,B2⟩
  go_wp2_with fail;go_meet;exact⟨1,rfl,Aw ⟨oM,oM⟩,B2⟩
 obtain⟨e,rfl,HE,B3⟩:=hcut;clear B2 aX;have HD:Ae (1<=d/\d<=63):=⟨oM,oM⟩
 clear s hd;go_upto_region 8 with fail
 have E0:Ae (pP w (Ac wc (Ak #[] 34)) d e 0 wc 0):=⟨⟨[],rfl,Bt (Rt wc 34 4 0 [] rfl oX) B3.size, λx hx=>(by cases hx)⟩,Ar B3 lR (Al _ _)⟩;clear B3;generalize Ac wc (Ak #[] 34)=U3 at E0⊢;generalize wc.heap.size=gf at E0⊢;go_wp2_with fail;go_loopw [5,6] (λV i wr=>∃(k g r:Nat),k<=2/\i=Ag Af (k:Int)/\V=Z g k r/\Ae (pP w wr d e k g r)) (λ_ i _=>2-(intOf i).toNat)
 case atStart=>exact⟨0,gf,0,oM,rfl,rfl,E0⟩
 clear E0;obtain⟨k,g,r,hk,rfl,rfl,E1⟩:=hrel;by_cases df:k<2;case pos=>
  have cR:(k:Int)<2:=oM;go_upto_if 39 with fail
  go_cut [7]from 33 to 73 (λV wx=>∃n:Nat,V=Ag Af (n:Int)/\Ae (k=0/\n=d\/k=1/\n=e)/\Ae (pP w wx d e k g r))
  case first=>
   by_cases R:k=1
   . (have ax:((k:Int)==1)=true:=by rw[beq_iff_eq];omega);go_wp2_with fail;go_meet;exact⟨e,rfl,.inr ⟨R,rfl⟩,E1⟩
   (have ax:((k:Int)==1)=false:=by rw[mN];omega);go_wp2_with fail;go_meet;exact⟨d,rfl,.inl ⟨oM,rfl⟩,E1⟩
  obtain⟨n,rfl,HN,y⟩:=hcut;clear E1;obtain⟨U,rfl⟩:∃U,U=wc:=⟨_,rfl⟩;have bu:Ae (1<=n/\n<=64):=by
   rcases HN.o with⟨_,h1⟩|⟨_,h1⟩
   . rw[h1];exact⟨HD.1,jN HD.2 dC⟩
   rw[h1];exact HE
  have dh:n<=64:=bu.2;go_upto_region 15 with fail
  have E3:Ae (Ws U (U.alloc (Ak #[] 25)) U 0 0 ([]++List.replicate 0 iC)):=⟨Rt U 25 4 0 [] rfl oX,Al _ _⟩;generalize U.alloc (Ak #[] 25)=U4 at E3⊢;generalize cH:U.heap.size=gc at E3⊢;clear cH;go_wp2_with fail;go_loopw [8,9] (λV i wr=>∃(j g r:Nat),j<=n/\i=Ag Af (j:Int)/\V=Z g j r/\Ae (Ws U wr g j r ([]++List.replicate j iC))) (λ_ i _=>n-(intOf i).toNat)
  case atStart=>exact⟨0,gc,0,oM,rfl,rfl,E3⟩
  clear E3;obtain⟨j,g1,bf,hj,rfl,rfl,E4⟩:=hrel;by_cases de:j<n;case pos=>have cM:(j:Int)<(n:Int):=oM;have A:=Aw (E4.av (Al wr (Ak #[Ag Af 1,Ag Af 0,Ag Af 0,Ag Af 0] 25)));clear E4;(have HJ:Ae (j<=64):=by have:=bu.o;exact(by omega:j<=64));go_wp2_with (first|(at_builtin;refine wpList_append_lies _ rfl _ _ 26 rfl U 25 iX (An #[Ag Af 0,Ag Af 0,Ag Af 0,Ag Af 0]) 4 32 underlying26 aW aR aS aT rfl dC (Z g1 j bf) j (Ad MI.cells ([]++List.replicate j iC)) rfl A.own wr 1 1 iC.cells rfl rfl (GT wr _ _) (by intro q s;simp only[MI.cells,jK,jO,kM]at s;rcases s with rfl|rfl|rfl|rfl<;>rfl) oM (by have:=HJ.o;unfold maxLen;omega) (by have:=HJ.o;omega) A.cq.size _ rfl ?_;intro g5 ai w5 B aa aA aE;rw[RC]at B;have PI:=Aw (A.grow B aa);clear B aa aA aE)|go_in);go_roundw;(case rel=>exact⟨j+1,g5,ai,oM,by go_num,rfl,PI⟩);exact oI
  case neg=>
   obtain rfl:j=n:=oM;have cM:¬(j:Int)<(j:Int):=oM;(go_upto_if 52 with fail);go_cut [8]from 33 to 73 (λV wx=>∃(m g r:Nat) (mid:List MI), ↑mid=m/\V=Z g (j+m) r/\Ae (k=0/\mid=[iK]\/k=1/\mid=[])/\Ae (Ws U wx g (j+m) r (([]++List.replicate j iC)++mid)))
   case first=>
    by_cases R:k=0
    . (have ax:((k:Int)==0)=true:=by rw[beq_iff_eq];omega);have A:=Aw (E4.av (Al wr (Ak #[Ag Af 28,Ag Af 1,Ag Af 0,Ag Af 0] 25)));have H0:=Aw R;clear E4 R;go_wp2_with (first|(at_builtin;refine wpList_append_lies _ rfl _ _ 26 rfl U 25 iX (An #[Ag Af 0,Ag Af 0,Ag Af 0,Ag Af 0]) 4 32 underlying26 aW aR aS aT rfl dC (Z g1 j bf) (j) (Ad MI.cells ([]++List.replicate j iC)) rfl A.own wr 1 1 iK.cells rfl rfl (GT wr _ _) (by intro q s;simp only[MI.cells,jK,jO,kM]at s;rcases s with rfl|rfl|rfl|rfl<;>rfl) oM oX oM A.cq.size _ rfl ?_;intro g5 ai w5 B aa aA aE;rw[Rn]at B;have PI:=Aw (A.grow B aa);clear B aa aA aE)|go_in);go_meet;exact⟨1,g5,ai,[iK],rfl,rfl,.inl ⟨H0,rfl⟩,PI⟩
    (have ax:((k:Int)==0)=false:=by rw[mN];omega);have H0:=Aw R;clear R;go_wp2_with fail;go_meet;exact⟨0,g1,bf,[],rfl,rfl,.inr ⟨by have:=H0.o;omega,rfl⟩,by rw[lK];exact E4⟩
   obtain⟨m,g2,bS,mid,hm,rfl,HM,E5⟩:=hcut;clear E4;have dg:m<=1:=by
    rcases HM.o with⟨_,h1⟩|⟨_,h1⟩
    . rw[<-hm,h1];decide
    rw[<-hm,h1];decide
   have bP:=Aw hm;clear hm;go_wp2_with fail;go_loopw [8,10] (λV i wr=>∃(h g r:Nat),h<=j/\i=Ag Af (h:Int)/\V=Z g (j+m+h) r/\Ae (Ws U wr g (j+m+h) r ((([]++List.replicate j iC)++mid)++List.replicate h iD))) (λ_ i _=>j-(intOf i).toNat)
   (case atStart=>exact⟨0,g2,bS,oM,rfl,rfl,by rw[show List.replicate 0 iD=[]from rfl,lK];exact E5⟩);clear E5;obtain⟨h,g3,bx,hi,rfl,rfl,f⟩:=hrel;by_cases dd:h<j;case pos=>have cK:(h:Int)<(j:Int):=oM;have A:=Aw (f.av (Al wr (Ak #[Ag Af 24,Ag Af 0,Ag Af 0,Ag Af 0] 25)));clear f;go_wp2_with (first|(at_builtin;refine wpList_append_lies _ rfl _ _ 26 rfl U 25 iX (An #[Ag Af 0,Ag Af 0,Ag Af 0,Ag Af 0]) 4 32 underlying26 aW aR aS aT rfl dC (Z g3 (j+m+h) bx) ((j+m+h)) (Ad MI.cells ((([]++List.replicate j iC)++mid)++List.replicate h iD)) rfl A.own wr 1 1 iD.cells rfl rfl (GT wr _ _) (by intro q s;simp only[MI.cells,jK,jO,kM]at s;rcases s with rfl|rfl|rfl|rfl<;>rfl) oM oX oM A.cq.size _ rfl ?_;intro g5 ai w5 B aa aA aE;rw[RC]at B;have PI:=Aw (A.grow B aa);clear B aa aA aE)|go_in);go_roundw;(case rel=>exact⟨h+1,g5,ai,oM,by go_num,rfl,PI⟩);exact oI
   case neg=>obtain rfl:h=j:=oM;have cK:¬(h:Int)<(h:Int):=oM;have A:=Aw (f.av (Al wr (Ak #[Ag Af 29,Ag Af 0,Ag Af 0,Ag Af 0] 25)));(have HL:Ae ((Be h mid).length=h+m+h+1):=by rw[<-bP];exact Cr);clear f;go_wp2_with (first|(at_builtin;refine wpList_append_lies _ rfl _ _ 26 rfl U 25 iX (An #[Ag Af 0,Ag Af 0,Ag Af 0,Ag Af 0]) 4 32 underlying26 aW aR aS aT rfl dC (Z g3 (h+m+h) bx) ((h+m+h)) (Ad MI.cells ((([]++List.replicate h iC)++mid)++List.replicate h iD)) rfl A.own wr 1 1 iE.cells rfl rfl (GT wr _ _) (by intro q s;simp only[MI.cells,jK,jO,kM]at s;rcases s with rfl|rfl|rfl|rfl<;>rfl) oM oX oM A.cq.size _ rfl ?_;intro g5 ai w5 B aa aA aE;rw[Rn]at B;have PI:=Aw (A.grow B aa);clear B aa aA aE;obtain⟨XS,PR⟩:∃XS,Ae (qH w (Ac w5 (Ak #[Z none 0 0,Ag Af 0,Z none 0 0,Z g5 (h+m+h+1) ai] 34)) d e k g r XS g5 (h+m+h+1) ai (Be h mid)):=Xd oM y PI HL)|(at_builtin;refine wpList_append_lies _ rfl _ _ 35 rfl w 34 iY (An #[Z M 0 0,Ag Af 0,Z M 0 0,Z M 0 0]) 4 80 underlying35 cI bY bZ ce rfl dC (Z g k r) k (XS.flatMap DF) rfl PR.own w5 1 1 [Z M 0 0,Ag Af 0,Z M 0 0,Z g5 (h+m+h+1) ai] rfl rfl (GT w5 _ _) (by intro q s;simp only[jK,jO,kM]at s;rcases s with rfl|rfl|rfl|rfl<;>rfl) oM oX oM PR.cq.size _ rfl ?_;intro g6 bQ w6 bI bG cg cQ;have PO:=Aw (PR.push oM HM HN bI bG);clear bI bG cg cQ)|go_in);go_roundw;(case rel=>exact⟨k+1,g6,bQ,oM,by go_num,rfl,PO⟩);exact oI
 case neg=>
  obtain rfl:k=2:=oM;have cR:¬(((2:Nat):Int)<2):=oM;go_upto_region 26 with fail
  go_upto_region 27 with fail
  obtain⟨W,eW,hL⟩:=oV E1;rw[eW];have y:=Aw hL;have ae:Ae ((AZ d e).small/\(AZ d e).wf):=⟨SC (jN HD.2 dC) HE.2,Y8⟩
  have bt:Ae (∀u,Ah w w u->CC u):= λu hu=>HW.2.av hu
  have aY:Ae (Wr d e):=oU HD.1 HD.2 HE.1 HE.2;clear hL E1;generalize wr.heap.size=N at y⊢;clear eW;have cZ:d<=63:=HD.2;have d8:e<=64:=HE.2;by_cases s:d+e<=64;case pos=>
   have aX:(d:Int)+(e:Int)<=64:=oM;have HQ:=Aw s;clear s;have I:=y.p.cell 0;have L:=y.p.cell 1;have O:=y.p.cell 2;have P:=y.p.cell 3;simp only[i5,f8,i6]at I L O P;go_wp2_with fail;obtain⟨E,G,H,S⟩:=y.fT;refine(Gq (YS N g r) _ W ae.1 ae.2 E G H S (bt.o _ y.cq)).mono ?_;rintro e' u6 ⟨c1,g1,a1,C,D,au,l,bq⟩;obtain⟨aI,s0,aK,aM,aO,aQ⟩:=aY.fit HQ;obtain⟨rfl,-,-,rfl,-⟩:=au.one aI;(rcases bq with⟨_,a0,aZ,a2,a3,n0,n1,n2,n3,b0,b1,b2,b3,rfl⟩|⟨cT,_⟩);(case inr=>exact absurd rfl cT);have T:=Aw (fd aK (fd aM (fd aO aQ)));have E3:=Aw (y.av l);clear l au aI E G H S y I L O P aK aM aO aQ;(go_upto_region 28 with fail);have Q:=Al u6 (Ak #[Ag Af 0,Ag Af 0,Ag Af 0,Ag Af 0,Z a0 n0 b0,Z aZ n1 b1,Z a2 n2 b2,Z a3 n3 b3,(cf [cD d e,cE e] 0)] 42);have E4:=Aw (fd (E3.av Q) (Ay.new u6 #[Ag Af 0,Ag Af 0,Ag Af 0,Ag Af 0,Z a0 n0 b0,Z aZ n1 b1,Z a2 n2 b2,Z a3 n3 b3,(cf [cD d e,cE e] 0)] 42));clear E3 Q;generalize Ac u6 (Ak #[Ag Af 0,Ag Af 0,Ag Af 0,Ag Af 0,Z a0 n0 b0,Z aZ n1 b1,Z a2 n2 b2,Z a3 n3 b3,(cf [cD d e,cE e] 0)] 42)=U7 at E4⊢;generalize u6.heap.size=N8 at E4⊢;have I:=E4.1.p.cell 0;have L:=E4.1.p.cell 1;have O:=E4.1.p.cell 2;have P:=E4.1.p.cell 3;simp only[i5,f8,i6]at I L O P;go_wp2_with fail;obtain⟨E,G,H,S⟩:=E4.1.fT;refine(Hv (YS N g r) _ ⟨Z M 0 0,Z M 0 0,Z M 0 0⟩ ⟨[],[],[]⟩ 1000 1000 U7 dC C9 ae.1 ae.2 E G H ⟨by show 0<=_;omega,by show 0<=_;omega,by show 0<=_;omega⟩ ⟨λz hz=>(by cases hz), λz hz=>(by cases hz), λz hz=>(by cases hz)⟩ ⟨Hi _ _,Hi _ _,Hi _ _⟩).mono ?_;rintro e' u8 ⟨st,sd,sc,sn,X,Cc,K,F,rfl,aq,aJ,_,l⟩;obtain⟨x0,x1,aF⟩:=AF aq.cells;obtain⟨x2,x3,aG⟩:=AF (aq.eT.own (X.k,K) sP)
   obtain⟨x4,x5,aH⟩:=AF aq.dk;obtain⟨Xc,Xk,Xf⟩:=X;simp only[]at aF aG aH;subst aF aG aH;have aj:=aJ.one T.1;(have bg:sd=true:=by rw[<-T.2.1,<-aj];rfl);(have bi:sc=cD d e:=by rw[<-T.2.2.1,<-aj];rfl);(have bj:sn=2*(d:Int)+2*e+3:=by rw[<-T.2.2.2,<-aj];rfl);subst bg bi bj;have E5:=Aw (fd (E4.1.av l) (E4.2.av l));clear aq aJ aj E G H S I L O P E4 l T;(go_upto_region 29 with fail);have Q:=Al u8 (Ak #[st,true,(cD d e),Ag Af (2*(d:Int)+2*e+3),Z x0 Cc x1,Z x2 K x3,Z x4 F x5] 48);have f:=Aw (fd (E5.1.av Q) (fd (E5.2.av Q) (Ay.new u8 #[st,true,(cD d e),Ag Af (2*(d:Int)+2*e+3),Z x0 Cc x1,Z x2 K x3,Z x4 F x5] 48)));clear E5 Q;generalize Ac u8 (Ak #[st,true,(cD d e),Ag Af (2*(d:Int)+2*e+3),Z x0 Cc x1,Z x2 K x3,Z x4 F x5] 48)=U9 at f⊢;generalize u8.heap.size=N9 at f⊢;have r0:=f.2.1.cell 0;have r8:=f.2.1.cell 8;have s1:=f.2.2.cell 1;have s2:=f.2.2.cell 2;have s3:=f.2.2.cell 3;have I:=f.1.p.cell 0;have L:=f.1.p.cell 1;have O:=f.1.p.cell 2;have P:=f.1.p.cell 3;simp only[i5,f8,i6]at r0 r8 s1 s2 s3 I L O P;rw[show cf [cD d e,cE e] 0=cD d e from rfl]at r8;go_wp2_with fail;obtain⟨E,G,H,S⟩:=f.1.fT;refine(IA (YS N g r) _ U9 ae.1 ae.2 E G H S).mono ?_;rintro e' v1 ⟨c1,g1,a1,vC,vD,C1,D1,rfl,au,bC,l⟩;obtain⟨rfl,rfl,rfl,rfl,rfl⟩:=au.one (aY.fit HQ).1;have bJ:=Rd.eS (bC.own (vD,[(d:Int)+e,(e:Int)]) sP);rcases bJ.2 with⟨e0,_⟩|⟨bD,oD,cX,eD,bB⟩
   . cases e0
   simp only[]at eD;subst eD;have d0:=bB 0 (Ag Af ((d:Int)+e)) rfl;have bs:=f.1.cq.size;have EF:=Aw (fd (f.2.1.av l) (fd (f.2.2.av l) (Ar f.1.cq lR l)));clear r0 r8 s1 s2 s3 I L O P E G H S au bC l f bJ bB;have r0:=EF.1.cell 0;have r8:=EF.1.cell 8;have s1:=EF.2.1.cell 1;have s2:=EF.2.1.cell 2;have s3:=EF.2.1.cell 3;simp only[i5,f8,i6]at r0 r8 s1 s2 s3;rw[show cf [cD d e,cE e] 0=cD d e from rfl]at r8;have hf:=Ur;rw[jV]at d0;go_wp2_with fail;go_ret;exact⟨rfl,EF.2.2⟩
  case neg=>
   have aX:¬((d:Int)+(e:Int)<=64):=oM;(have di:decide ((d:Int)+(e:Int)<=64)=false:=by simpa using aX);(have HQ:Ae (64<d+e):=by exact(by omega:64<d+e));clear s;have I:=y.p.cell 0;have L:=y.p.cell 1;have O:=y.p.cell 2;have P:=y.p.cell 3;simp only[i5,f8,i6]at I L O P;go_wp2_with fail;obtain⟨E,G,H,S⟩:=y.fT;refine(Gq (YS N g r) _ W ae.1 ae.2 E G H S (bt.o _ y.cq)).mono ?_;rintro e' u6 ⟨c1,g1,a1,C,D,au,l,bq⟩;obtain⟨aI,s0,aK,aM,aO,aQ⟩:=aY.over HQ;obtain⟨rfl,rfl,rfl,-,-⟩:=au.one aI;(rcases bq with⟨e0,_⟩|⟨_,rfl⟩);(case inl=>exact absurd e0 dC);have T:=Aw (fd aK (fd aM (fd aO aQ)));have E3:=Aw (y.av l);clear l au aI E G H S y I L O P aK aM aO aQ;(go_upto_region 28 with fail);have Q:=Al u6 (Ak #[Ag Af 2,Ag Af 8,Ag Af 0,Ag Af 0,Z M 0 0,Z M 0 0,Z M 0 0,Z M 0 0,Ag Af 0] 42);have E4:=Aw (fd (E3.av Q) (Ay.new u6 #[Ag Af 2,Ag Af 8,Ag Af 0,Ag Af 0,Z M 0 0,Z M 0 0,Z M 0 0,Z M 0 0,Ag Af 0] 42));clear E3 Q;generalize Ac u6 (Ak #[Ag Af 2,Ag Af 8,Ag Af 0,Ag Af 0,Z M 0 0,Z M 0 0,Z M 0 0,Z M 0 0,Ag Af 0] 42)=U7 at E4⊢;generalize u6.heap.size=N8 at E4⊢;have I:=E4.1.p.cell 0;have L:=E4.1.p.cell 1;have O:=E4.1.p.cell 2;have P:=E4.1.p.cell 3;simp only[i5,f8,i6]at I L O P;go_wp2_with fail;obtain⟨E,G,H,S⟩:=E4.1.fT;refine(Hv (YS N g r) _ ⟨Z M 0 0,Z M 0 0,Z M 0 0⟩ ⟨[],[],[]⟩ 1000 1000 U7 dC C9 ae.1 ae.2 E G H ⟨by show 0<=_;omega,by show 0<=_;omega,by show 0<=_;omega⟩ ⟨λz hz=>(by cases hz), λz hz=>(by cases hz), λz hz=>(by cases hz)⟩ ⟨Hi _ _,Hi _ _,Hi _ _⟩).mono ?_;rintro e' u8 ⟨st,sd,sc,sn,X,Cc,K,F,rfl,aq,aJ,_,l⟩;obtain⟨x0,x1,aF⟩:=AF aq.cells;obtain⟨x2,x3,aG⟩:=AF (aq.eT.own (X.k,K) sP)
   obtain⟨x4,x5,aH⟩:=AF aq.dk;obtain⟨Xc,Xk,Xf⟩:=X;simp only[]at aF aG aH;subst aF aG aH;have aj:=aJ.one T.1;(have bg:sd=false:=by rw[<-T.2.1,<-aj];rfl);(have bi:st=3:=by rw[<-T.2.2.1,<-aj];rfl);(have bj:sn=66:=by rw[<-T.2.2.2,<-aj];rfl);subst bg bi bj;have E5:=Aw (fd (E4.1.av l) (E4.2.av l));clear aq aJ aj E G H S I L O P E4 l T;(go_upto_region 29 with fail);have Q:=Al u8 (Ak #[Ag Af 3,false,sc,Ag Af 66,Z x0 Cc x1,Z x2 K x3,Z x4 F x5] 48);have f:=Aw (fd (E5.1.av Q) (fd (E5.2.av Q) (Ay.new u8 #[Ag Af 3,false,sc,Ag Af 66,Z x0 Cc x1,Z x2 K x3,Z x4 F x5] 48)));clear E5 Q;generalize Ac u8 (Ak #[Ag Af 3,false,sc,Ag Af 66,Z x0 Cc x1,Z x2 K x3,Z x4 F x5] 48)=U9 at f⊢;generalize u8.heap.size=N9 at f⊢;have r0:=f.2.1.cell 0;have r1:=f.2.1.cell 1;have r2:=f.2.1.cell 2;have s0:=f.2.2.cell 0;have s1:=f.2.2.cell 1;have s3:=f.2.2.cell 3;simp only[i5,f8,i6]at r0 r1 r2 s0 s1 s3;go_wp2_with fail;go_ret;exact⟨rfl,f.1.cq⟩
end Go.Proofs.YtkgohaigebcgoaaGreatDoor
