import Derived.Test.YtjnglocdoljgkaaGreatSw4
import Derived.Laws.StructEq
namespace Go.Proofs.YtjnglocdoljgkaaGreat
open Go.ChangeShapes Go.WideShapes Go.ChangeAt Go.RowKit
set_option linter.unusedVariables false
open Option renaming some → K,none → M
open Go renaming World → Y,Calls → Ae,Value → J,TypeId → Af
open Go.RowKit renaming Hid → Aa,Below → Ad
open Go.Value renaming int → Ac,slice → Z
open Go.IntKind renaming i64 → Ab
set_option maxHeartbeats 4000000
set_option maxRecDepth 100000
variable {z:Int}{u w wr U:Y}{B f g b k m n n' c a q cap j:Nat}{e:Af}{xs:List MI}{p:List J}{v V:J}{x:MI}{D:List (MB×J)}
theorem RV(h:Ta z):0<=z/\z<=4294967295:=by simpa[Ta,Lit.wf,IntKind.min,IntKind.max,IntKind.signed,IntKind.bits]using h
theorem MV(a b a' e:Int)(w:Y):(binOp .eql 161 (.agg #[iZ a,Ac .u32 b]) (.agg #[iZ a',Ac .u32 e])).run Tryz.prog w=.ok (.bool (decide (a=a'/\b=e))) w:=by
 have k:=Tryz.underlying2;have i:=Tryz.isAgg2;have m:=Tryz.sizeOf2;have j:=Tryz.underlying103;have h:=Tryz.isAgg103;have l:=Tryz.sizeOf103;have f:Tryz.prog.underlying 161=K (.struct (Tryz.prog.fieldsOf 161)):=kR;have g:Tryz.prog.stoodInHeld 161=false:=kR;rw[run_eql_struct,show(10000:Nat)=9999+1 from rfl,run_equalIn_agg w 9999 161 _ _ f g];simp only[Program.fieldsOf,Tryz.underlying161];go_simp;by_cases h1:a=a'
 . by_cases h2:b=e<;>simp[*]
 simp[*]
theorem OH(t x:Int)(w:Y)(i:0<=x):
 Ae Tryz.prog 89 #[.agg #[iZ t,Ac .u32 x]] w λe l=>AC e (CR ⟨t,x⟩)/\Ad w w l:=by
 by_cases h1:t=1
 . subst h1;have e0:∀w,(binOp .eql 161 (.agg #[iZ 1,Ac .u32 x]) (.agg #[iZ 1,Ac .u32 0])).run Tryz.prog w=.ok (.bool (decide (1=(1:Int)/\x=0))) w:=MV 1 x 1 0
   have g:∀w,(binOp .eql 161 (.agg #[iZ 1,Ac .u32 x]) (.agg #[iZ 1,Ac .u32 1])).run Tryz.prog w=.ok (.bool (decide (1=(1:Int)/\x=1))) w:=MV 1 x 1 1
   by_cases h2:x=0
   . have a:decide (1=(1:Int)/\x=0)=true:=by simp[h2]
     have f:Aa (CR ⟨1,x⟩):=⟨rfl, λ_=>oS⟩;rw[a]at e0;clear h2 a g i;go_enter Tryz.func89,Tryz.ntmps89;go_wp2;go_ret;exact⟨.ik f.o,Ag _ _⟩
   have a:decide (1=(1:Int)/\x=0)=false:=by simp[h2]
   rw[a]at e0;by_cases b:x=1
   . have e3:decide (1=(1:Int)/\x=1)=true:=by simp[b]
     have f:Aa (CR ⟨1,x⟩):=⟨rfl, λ_=>oS⟩;rw[e3]at g;clear h2 a b e3 i;go_enter Tryz.func89,Tryz.ntmps89;go_wp2;go_ret;exact⟨.ik f.o,Ag _ _⟩
   have e3:decide (1=(1:Int)/\x=1)=false:=by simp[b]
   (have k:Aa (¬CR ⟨1,x⟩):= λe=>by have:=e.2 rfl;simp only[]at this;omega);rw[e3]at g;clear h2 a b e3 i;go_enter Tryz.func89,Tryz.ntmps89;go_wp2;go_ret;exact⟨.no k.o,Ag _ _⟩
 have p:(t==1)=false:=by simpa using h1
 have j:Aa (DC t=true↔CR ⟨t,x⟩):=⟨λe=>⟨e, λe=>absurd e h1⟩, λe=>e.1⟩;go_enter Tryz.func89,Tryz.ntmps89;go_wp2_with fail;refine(D6 t _).mono ?_;rintro e u ⟨rfl,rfl⟩;go_wp2;go_ret;exact⟨.of j.o,Ag _ _⟩
def XE(b:Bool):List J:=[.bool b]
structure SW(w u:Y)(xs:List MI)(n k q:Nat)(V:J):Prop where
 lead:u.ownsRow w 4 1 (Z (K ⟨(w:Nat)+1,0,M⟩) (n+1) (n+1)) (n+1) (Dd xs n n)
 num:u.ownsRow w 2 1 (sG q n n) n (CJ (Hh xs) [iZ 0] (List.range n) k n)
 o:u.ownsRow w 58 3 V (Bw xs k).length ((Bw xs k).flatMap Ku)
 gG:Ad w w u
theorem NA{c':Nat}{a:Af}{xs:List J}(h:u.ownsRow B e k (sG g n c) n xs)(j:u.ownsRow f a m (sG b n' c') n' p)(l:e≠a):¬g=b:= λi=>by subst i;obtain⟨_,q,h1⟩:=AD h;obtain⟨_,r,h2⟩:=AD j;rw[h1]at h2;simp only[kK,mh]at h2;exact l h2.2.1
theorem BW{b:Af}{s:J}{xs:List J}(h:u.ownsRow B e k s n xs)(j:u.ownsRow f b m (sG g n' c) n' p)(l:e≠b)(i:Nat)(z:J):(u.setCell ⟨g,i,M⟩ z).ownsRow B e k s n xs:=by obtain⟨_,r,h1⟩:=AD j;exact kO h (a:=⟨g,i,M⟩) (λq=>Bu h h1 l _ q rfl) z
theorem SW.fin{e:Nat}{a:List MB}{b:MB}(j:k<n)(h1:u.ownsRow w 4 1 (Z (K ⟨(w:Nat)+1,0,M⟩) (n+1) (n+1)) (n+1) (Dd xs n n))(h2:u.ownsRow w 2 1 (sG q n n) n (CJ (Hh xs) [iZ 0] (List.range n) k n))(i:u.ownsRow w 58 3 (sG e (a.length+1) cap) (a.length+1) ((a++[b]).flatMap Ku))(p:Ad w w u)(t:Bw xs (k+1)=a++[(⟨b.gK,(k:Int),b.next⟩:MB)])(s:A9 xs k=(a:Int)):
 SW w ((u.setCell ⟨q,k,M⟩ (iZ a)).setCell ⟨e,a.length*3+1,M⟩ (iZ k)) xs n (k+1) q (sG e (a.length+1) cap):=by
 have v: ↑w<=q:=(AD h2).1
 have r: ↑w<=e:=(AD i).1
 have m:=BW h1 h2 dC k (iZ a);have f:=BW i h2 dC k (iZ a);have g:=(h2.stored k (iZ a)).1;have l:(CJ (Hh xs) [iZ 0] (List.range n) k n).set k (iZ a)=CJ (Hh xs) [iZ 0] (List.range n) (k+1) n:=by rw[Gv _ _ _ _ _ j,W6 _ _ _ _ k (by rw[Au (Hh xs) 1 (DB xs),lj,mS];omega),Oq (Hh xs) _ _ k n k (by simp[j])];simp[Hh,Ah,s]
 rw[l]at g;refine⟨BW m f dC _ _,BW g f dC _ _,?_,(p.setCell v _).setCell r _⟩;have h:=(f.stored (a.length*3+1) (iZ k)).1;rw[UU]at h;rw[t,kJ,kQ];exact h
theorem XF{f:Y}(h:SW w wr xs k j q v)(A:Bw xs (j+1)=Bw xs j++[(⟨(j:Int),(j:Int),[]⟩:MB)])(z:A9 xs j=((Bw xs j).length:Int))(t:j<k)(l:f.ownsRow w 58 3 (sG a ((Bw xs j).length+1) cap) ((Bw xs j).length+1) ((Bw xs j).flatMap Ku++[iZ j,iZ 0,sN]))(n:(wr.alloc (.cells #[iZ j,iZ 0,sN] 58)).grownBy f v.ownBlock):
 Aa (SW w ((f.setCell ⟨q,j,M⟩ (iZ (Bw xs j).length)).setCell ⟨a,(Bw xs j).length*3+1,M⟩ (iZ j)) xs k (j+1) q (sG a ((Bw xs j).length+1) cap))/\¬a=q/\¬q=a/\f.cell? ⟨q,j,M⟩=K (iZ 0)/\f.frozen? ⟨q,j,M⟩=false/\f.cell? ⟨a,(Bw xs j).length*3+1,M⟩=K (iZ 0)/\f.frozen? ⟨a,(Bw xs j).length*3+1,M⟩=false:=by
 have g:=Ag wr (.cells #[iZ j,iZ 0,sN] 58);have s:=Am h.o g lR;have B:=BU (Am h.lead g lR) n s dC;have m:=BU (Am h.num g lR) n s dC;have bel:=(Ai h.gG lR g).grown n (kT h.gG.size g.size) (λi y=>(s.lt i y).1);have u:=NA l m dC;have p:=m.cellAt j oM;have r:=l.cellAt ((Bw xs j).length*3+1) oM;rw[Gv _ _ _ _ _ t,lN (by rw[Au (Hh xs) 1 (DB xs),lj,mS];omega),show j-(List.flatMap (Hh xs) (List.take j (List.range k))).length=0 by rw[Au (Hh xs) 1 (DB xs),lj,mS];omega]at p;simp only[lF,jt]at p;rw[lN (by rw[Au Ku 3 Fh];omega),show(Bw xs j).length*3+1-(List.flatMap Ku (Bw xs j)).length=1 by rw[Au Ku 3 Fh];omega]at r;simp only[kI,jt]at r;refine⟨SW.fin (b:=⟨(j:Int),0,[]⟩) t B m (by rw[lJ];exact l) bel A z,u, λe=>u e.symm,p,m.frozenAt j,r,l.frozenAt _⟩
theorem Dz(n:Nat):(madeCells (Value.bool false).cells (n*1)).toList=List.replicate n (.bool false):=by rw[Ej XE [.bool false] [] n (.bool false) 1 rfl rfl oM];simp[CJ,List.flatten_replicate_singleton]
theorem Jg(n:Nat)(f:Nat->List J)(a:List Nat):(madeCells (Ac Ab 0).cells (n*1)).toList=CJ f [iZ 0] a 0 n:=by rw[Ej f [iZ 0] a n (iZ 0) 1 rfl rfl oM]
structure SV(w u:Y)(xs:List MI)(n k:Nat):Prop where
 lead:u.ownsRow w 4 1 (Z (K ⟨(w:Nat)+1,0,M⟩) (n+1) (n+1)) (n+1) (Dd xs k n)
 o:Ar u w #[] 58
 gG:Ad w w u
theorem SV.set(h:SV w u xs n k)(j:Nat)(b:(Dd xs k n).set j (.bool true)=Dd xs a n):SV w (u.setCell ⟨(w:Nat)+1,j,M⟩ (.bool true)) xs n a:=by refine⟨?_,h.o.other oS _,h.gG.setCell oS _⟩;have:=(h.lead.stored j (.bool true)).1;rw[b]at this;exact this
theorem SV.k9(h:SV w u xs n k)(j a:Nat)(e:((Dd xs k n).set j (.bool true)).set a (.bool true)=Dd xs b n):SV w ((u.setCell ⟨(w:Nat)+1,j,M⟩ (.bool true)).setCell ⟨(w:Nat)+1,a,M⟩ (.bool true)) xs n b:=by refine⟨?_,(h.o.other oS _).other oS _,(h.gG.setCell oS _).setCell oS _⟩;have:=((h.lead.stored j (.bool true)).1.stored a (.bool true)).1;rw[e]at this;exact this
theorem Im(t x1 x2 x3:J)(g:VF)(f:MF)(n:Nat)(z:Int)(w:Y)(F:f.small)(h:Dt w g f)(i:(f.d5++f.en)[n]?=K z):
 Ae Tryz.prog 129 #[.agg #[t,x1,x2,x3,g.p,iZ f.gz,g.l,g.c],iZ (n:Int)] w λe L=>e=.returned (iZ z)/\Ad w w L:=by
 obtain⟨y,c1,b⟩:=h.1.fu;obtain⟨a2,c2,s⟩:=h.2.1.fu;obtain⟨vp,W,I⟩:=g;obtain⟨R,S,T⟩:=F;simp only[]at b s;subst b s;have k:Aa (Ad w w (w.alloc (.cells #[t,x1,x2,x3,Z y f.d5 c1,iZ f.gz,Z a2 f.en c2,I] 53))):=Ag _ _;by_cases q:n< ↑f.d5
 . rw[ld q]at i;have D:(n:Int)<(f.d5:Int):=oM;rcases h.1.2 with⟨e0,_⟩|⟨gr,B,A,b,j⟩
   . omega
   simp only[jc,lO]at b;obtain⟨rfl,rfl⟩:=b;have a:=Rd.elem Ao j n z i 0 _ rfl;rw[lr,kZ]at a;have G:=(k.o.cell (jC a)).trans a;have H:¬gr=w.heap.size:=mE (jC a);clear h i j;generalize f.d5.length=N at*;generalize f.en.length=M at*;go_enter Tryz.func129,Tryz.ntmps129;go_wp2;go_ret;exact⟨rfl,k.o⟩
 rw[lN oM]at i;have C:=(iV.1 i).1;obtain⟨d,rfl⟩:∃d,n= ↑f.d5+d:=⟨n-↑f.d5,oM⟩
 rw[nI]at i;have D:¬((↑f.d5+d:Nat):Int)<(f.d5:Int):=oM
 rcases h.2.1.2 with⟨e0,_⟩|⟨gr,B,A,b,j⟩
 . omega
 simp only[jc,lO]at b;obtain⟨rfl,rfl⟩:=b;have a:=Rd.elem Ao j d z i 0 _ rfl;rw[lr,kZ]at a;have G:=(k.o.cell (jC a)).trans a;have H:¬gr=w.heap.size:=mE (jC a);have O:d<f.en.length:=oM;clear h i j q C;generalize f.d5.length=N at*;generalize f.en.length=M at*;have Q:((N+d:Nat):Int)-(N:Int)=(d:Int):=oM;go_enter Tryz.func129,Tryz.ntmps129;go_wp2;go_ret;exact⟨rfl,k.o⟩
theorem Kz(s:J)(cs:List MC)(w:Y)(T:cs.length<=1048576)(W:∀c∈cs,0<=c.word)(h:Rd w 2 s cs (cs.flatMap MC.cells)):
 Ae Tryz.prog 54 #[s] w λe w'=>AC e (Bg cs)/\Ad w w w':=by
 have y:=Ap h;obtain⟨a1,c1,rfl⟩:=h.fu;have N:=Ap W;generalize R:cs.length=n at T y;have a:=Ap R;by_cases q0:64<n
 . (have l:Aa (¬Bg cs):= λe=>absurd e.1 (by rw[a.o];omega));go_enter Tryz.func54,Tryz.ntmps54;go_wp2;go_ret;exact⟨.no l.o,lQ _ _⟩
 go_enter Tryz.func54,Tryz.ntmps54;go_wp2;go_loopw [10] (λi wr=>∃k:Nat,k<=n/\i=iZ k/\Aa (∀j,j<k->∀c,cs[j]?=K c->CR c)/\Aa (Ad w w wr)) (λi _=>n-(intOf i).toNat)
 case atStart=>exact⟨0,oM,rfl, λj hj=>oM,lQ _ _⟩
 obtain⟨k,hk,rfl,z,f⟩:=hrel;by_cases F:k<n
 . obtain⟨x,t⟩:∃x,cs[k]?=K x:=⟨_,an (by rw[a.o];exact F)⟩;rcases y.o.2 with⟨e0,_⟩|⟨b,o,c,B,D⟩
   . omega
   simp only[jc,lO]at B;obtain⟨rfl,rfl⟩:=B;have g:=Rd.elem MC.gH D k x t 0 _ rfl;have G:=Rd.elem MC.gH D k x t 1 _ rfl;rw[<-f.o.cell (jC g),kZ]at g;rw[<-f.o.cell (jC G)]at G;have p:=Ap t;have nb:¬b=wr.heap.size:=mE (jC g);have mb:b<wr.heap.size:=jC g;have I:Aa (Ad w w (wr.alloc (.cells #[iZ x.type,Ac .u32 x.word] 105))):=Ai f.o lR (Ag _ _);go_wp2_with fail;refine(OH x.type x.word _ (N.o x (i8 p.o))).mono ?_;rintro e u ⟨⟨O,rfl,C⟩,Q⟩;have A:=Ap (Ai I.o lR Q);cases O
   . (have l:Aa (¬Bg cs):= λe=>absurd (C.2 (e.2 k (by rw[a.o];exact F) x p.o)) ms);go_wp2;go_ret;exact⟨.no l.o,A.o⟩
   have H:Aa (CR x):=C.1 rfl;go_wp2;go_roundw;(case rel=>exact⟨k+1,oM,by go_num,C4 p.o H.o z.o,A⟩);exact oI
 have S:n=k:=oM;subst S;have L:Aa (Bg cs):=⟨by rw[a.o];omega,by rw[a.o];exact z.o⟩;go_wp2;go_ret;exact⟨.ik L.o,f.o⟩
theorem JN{q:Prop}(h:q:=by generalize f.d5.length=n1 at*;generalize f.en.length=n2 at*;generalize f.ch.length=n3 at*;go_enter Tryz.func90,Tryz.ntmps90;go_wp2;go_ret;exact⟨.no HN.o,HB.o⟩):q:=h
theorem LR(v:VF)(f:MF)(w:Y)(A:f.small)(h:Dt w v f):
 Ae Tryz.prog 90 #[.agg #[v.p,iZ f.gz,v.l,v.c]] w λe F=>AC e (Cd f)/\Ad w w F:=by
 have b:=Ap (ji h A);obtain⟨B,c1,y⟩:=h.1.fu;obtain⟨a2,c2,z⟩:=h.2.1.fu;obtain⟨C,c3,e3⟩:=h.2.2.fu;obtain⟨vp,vl,vc⟩:=v;obtain⟨T,W,s3⟩:=A;simp only[]at y z e3;subst y z e3;have HB:Aa (Ad w w (w.alloc (.cells #[Z B f.d5 c1,iZ f.gz,Z a2 f.en c2,Z C f.ch c3] 51))):=Ag _ _;by_cases G:8<f.d5.length
 . (have HN:Aa (¬Cd f):= λe=>absurd e.iA oM);exact JN
 by_cases I:32<f.d5.length+ ↑f.en
 . (have HN:Aa (¬Cd f):= λe=>absurd e.loc oM);exact JN
 by_cases g:f.ch.length=0
 . (have HN:Aa (¬Cd f):= λe=>e.iG g);generalize f.d5.length=n1 at*;generalize f.en.length=n2 at*;generalize f.ch.length=n3 at*;subst g;go_enter Tryz.func90,Tryz.ntmps90;go_wp2;go_ret;exact⟨.no HN.o,HB.o⟩
 by_cases O:1024<f.ch.length
 . (have HN:Aa (¬Cd f):= λe=>absurd e.js oM);exact JN
 have H:¬(8:Int)<(f.d5:Int):=oM;have L:¬(32:Int)<(f.d5:Int)+(f.en:Int):=oM;have N:((f.ch:Int)==0)=false:=by simpa using g
 have Q:¬(1024:Int)<(f.ch:Int):=oM;have a:Aa (f.d5.length<=8/\f.d5.length+ ↑f.en<=32/\¬f.ch.length=0/\f.ch.length<=1024):=⟨oM,oM,g,oM⟩
 go_enter Tryz.func90,Tryz.ntmps90;go_wp2_with fail;refine(Ex _ f.d5 _ b.o.2.1 (b.o.1.1.bM HB.o lR)).mono ?_;rintro e u ⟨rfl,rfl⟩;cases t1:f.d5.all DC
 . (have HN:Aa (¬Cd f):= λe=>by have:=e.pt;simp[t1]at this);go_wp2;go_ret;exact⟨.no HN.o,HB.o⟩
 have s:=Ap t1;go_wp2_with fail;refine(Ex _ f.en _ b.o.2.2.1 (b.o.1.2.1.bM HB.o lR)).mono ?_;rintro e u ⟨rfl,rfl⟩;cases t1:f.en.all DC
 . (have HN:Aa (¬Cd f):= λe=>by have:=e.lt;simp[t1]at this);go_wp2;go_ret;exact⟨.no HN.o,HB.o⟩
 have t:=Ap t1;generalize D:f.gz=R at*;have i:=Ap D;by_cases k:R=0
 . subst k;have j:Aa (Cd f):=⟨a.o.1,a.o.2.1,s.o,t.o,.inl i.o,a.o.2.2.1,a.o.2.2.2⟩;go_wp2;go_ret;exact⟨.ik j.o,HB.o⟩
 have S:(R==0)=false:=by simpa using k
 go_wp2_with fail;refine(D6 R _).mono ?_;rintro e u ⟨rfl,rfl⟩;cases t1:DC R
 . (have HN:Aa (¬Cd f):= λe=>by have:=e.im;rw[i.o]at this;simp[k,t1]at this);go_wp2;go_ret;exact⟨.no HN.o,HB.o⟩
 have j:Aa (Cd f):=⟨a.o.1,a.o.2.1,s.o,t.o,.inr (by rw[i.o];exact t1),a.o.2.2.1,a.o.2.2.2⟩;go_wp2;go_ret;exact⟨.ik j.o,HB.o⟩
def Fc(p:MP)(c:MT):Prop:=∃f,p.cC[c.func.toNat]?=K f/\0<=c.func/\0<=c.head/\c.head<f.ch.length/\Ay f c.gQ=3
def Ih(d c:MT):Prop:=d.func<c.func\/d.func=c.func/\d.head<c.head
def Fb(p:MP)(cs:List MT)(j:Nat):Prop:=∀c,cs[j]?=K c->Fc p c/\∀i d,i+1=j->cs[i]?=K d->Ih d c
def BD(p:MP):Prop:=p.dr.length<=64/\∀j,j< ↑p.dr->Fb p p.dr j
theorem Gu{p:MP}{cs:List MT}(a:Fb p cs k)(h:∀j,j<k->Fb p cs j):∀j,j<k+1->Fb p cs j:=by
 intro j b;by_cases e:j=k
 . subst e;exact a
 exact h j oM
theorem M1{q:Prop}(h:q:=by
 go_wp2;go_quiet (fail);go_wp2;go_roundw;case rel=>exact⟨i+1+1,by omega,by go_num,Gu HA.o HT.o,⟨HW3.o.1.trans (As _ _ _),HW3.o.2.1.bM (As _ _ _)⟩⟩
 simp[intOf];omega):q:=h
theorem M2{q:Prop}(h:q:=by
 rw[HX.o]at hc;obtain rfl:=kN hc;refine⟨HOK.o, λi' d' hi hd'=> ?_⟩;obtain rfl:i'=i:=by omega
 rw[HD.o]at hd';obtain rfl:=kN hd';unfold Ih;dsimp only;omega):q:=h
theorem M4{q:Prop}(h:q:=by have:=(e.2 (i+1) (by rw[HL.o.1];exact hlt) _ HX.o).2 i _ rfl HD.o;simp only[Ih]at this;omega):q:=h
theorem ON(v:VP)(p:MP)(w:Y)(hs:p.small)(hw:p.wf)(h:Cz w v p):
 Ae Tryz.prog 35 #[.agg #[v.r,v.k,v.f,v.t]] w λe w'=>AC e (BD p)/\Ad w w w':=by
 obtain⟨T,vk,vf,vt⟩:=v;have H1:=Ap h.dr;obtain⟨xs,am,ah,aw⟩:=h.cC;simp only[]at ah;have aE:xs.length=p.cC.length:=by rw[<-am];simp
 have L:=Ap (ji ah (ji am (ji aw (ji hs.func aE))));have hn:=hs.dr;have hm:=hs.cC;obtain⟨W,c1,A⟩:∃a c,vt=Z a p.dr c:=h.dr.fu;obtain⟨a2,c2,e2⟩:=ah.fu;subst A e2;have HV:Aa p.wf:=hw;have l:Aa (Ad w w (w.alloc (.cells #[T,vk,Z a2 p.cC c2,Z W p.dr c1] 28))/\DU (w.alloc (.cells #[T,vk,Z a2 p.cC c2,Z W p.dr c1] 28)) w T vk (Z a2 p.cC c2) (Z W p.dr c1)):=⟨Ag _ _,DU.new _ _ _ _ _ _⟩
 generalize au:p.dr.length=n at*;generalize aA:p.cC.length=m at*;have HL:=Ap (ji au aA);go_enter Tryz.func35,Tryz.ntmps35;go_wp2;go_loopw [3] (λi wr=>∃k:Nat,k<=n/\i=Ac Ab k/\Aa (∀j,j<k->Fb p p.dr j)/\Aa (Ad w w wr/\DU wr w T vk (Z a2 m c2) (Z W n c1))) (λi _=>n-(intOf i).toNat)
 case atStart=>exact⟨0,oM,rfl, λj hj=>oM,l⟩
 obtain⟨k,hk,rfl,HT,l⟩:=hrel;obtain⟨p0,p1,p2,p3⟩:=l.o.2;by_cases hlt:k<n
 . obtain ⟨x,F⟩:∃x,p.dr[k]?=K x:=⟨_,an (by rw[HL.o.1];exact hlt)⟩;have aj:=HV.o.dr x (i8 F);rcases H1.o.2 with⟨e0,_⟩|⟨b,o,c,A,Q⟩
   . omega
   simp only[jc,lO]at A;obtain⟨rfl,rfl⟩:=A;have R:=Rd.elem MT.gH Q k x F 0 _ rfl;have i1:=Rd.elem MT.gH Q k x F 1 _ rfl;have i2:=Rd.elem MT.gH Q k x F 2 _ rfl;have i3:=Rd.elem MT.gH Q k x F 3 _ rfl;rw[<-l.o.1.cell (jC R),kZ]at R;rw[<-l.o.1.cell (jC i1)]at i1;rw[<-l.o.1.cell (jC i2)]at i2;rw[<-l.o.1.cell (jC i3)]at i3;have HX:=Ap F;have HC:=Ap Q;obtain⟨D,C,z,H⟩:=x;simp only[]at R i1 i2 i3;obtain⟨x0,x1⟩:=Gs aj.1;obtain⟨x2,x3⟩:=Gs aj.2.1;have ao:=Ap aj.2.2.1;have nb:¬b=wr.heap.size:=mE (jC R);have mb:b<wr.heap.size:=jC R;have np:¬(w:Nat)=wr.heap.size:=mE l.o.2.lt;have mp:(w:Nat)<wr.heap.size:=l.o.2.lt;have N:Aa (Ad w w (wr.alloc (.cells #[Ac Ab D,Ac Ab C,Ac Ab z,Ac .u32 H] 121))/\DU (wr.alloc (.cells #[Ac Ab D,Ac Ab C,Ac Ab z,Ac .u32 H] 121)) w T vk (Z a2 m c2) (Z (K ⟨b,o,M⟩) n c1)/\DU (wr.alloc (.cells #[Ac Ab D,Ac Ab C,Ac Ab z,Ac .u32 H] 121)) wr (Ac Ab D) (Ac Ab C) (Ac Ab z) (Ac .u32 H)):=⟨Ai l.o.1 lR (Ag _ _),l.o.2.alloc _,DU.new _ _ _ _ _ _⟩
   by_cases q0:D<0
   . (have s:Aa (¬BD p):= λe=>by obtain⟨⟨f,h1,h2,_⟩,_⟩:=e.2 k (by rw[HL.o.1];exact hlt) _ HX.o;simp only[]at h2;omega);go_wp2;go_ret;exact⟨.no s.o,N.o.1⟩
   obtain⟨fn,rfl⟩:=kU (show 0<=D from oM);by_cases q1:m<=fn
   . (have s:Aa (¬BD p):= λe=>by obtain⟨⟨f,h1,h2,_⟩,_⟩:=e.2 k (by rw[HL.o.1];exact hlt) _ HX.o;have:=(iV.1 h1).1;simp only[]at this;rw[HL.o.2]at this;omega);have aF:¬(fn:Int)<(m:Int):=oM;have aR:(m:Int)<=(fn:Int):=oM;go_wp2;go_ret;exact⟨.no s.o,N.o.1⟩
   have aF:¬(m:Int)<=(fn:Int):=oM;obtain⟨⟨f,v⟩,G⟩:∃y,xs[fn]?=K y:=⟨_,an (by rw[L.o.2.2.2.2];omega)⟩;have A:=CT L.o.2.1 G;have B:Aa (Dt wr v f/\f.small/\p.cC[fn]?=K f):=⟨(L.o.2.2.1 _ (i8 G)).bM l.o.1 lR,L.o.2.2.2.1 _ (i8 A),A⟩
   rcases L.o.1.2 with⟨e0,_⟩|⟨b',o',c',A,a8⟩
   . omega
   simp only[jc,lO]at A;obtain⟨rfl,rfl⟩:=A;have I:=Rd.elem Aq a8 fn _ G 0 _ rfl;have j1:=Rd.elem Aq a8 fn _ G 1 _ rfl;have j2:=Rd.elem Aq a8 fn _ G 2 _ rfl;have j3:=Rd.elem Aq a8 fn _ G 3 _ rfl;rw[<-l.o.1.cell (jC I),kZ]at I;rw[<-l.o.1.cell (jC j1)]at j1;rw[<-l.o.1.cell (jC j2)]at j2;rw[<-l.o.1.cell (jC j3)]at j3;simp only[]at I j1 j2 j3;obtain⟨ap,cp,ep⟩:=B.o.1.1.fu;obtain⟨al,cl,el⟩:=B.o.1.2.1.fu;obtain⟨ac,cc,ec⟩:=B.o.1.2.2.fu;obtain⟨vp,vl,vc⟩:=v;simp only[]at ep el ec I j1 j2 j3;subst ep el ec;have aQ:¬b'=wr.heap.size:=mE (jC I);have aP:b'<wr.heap.size:=jC I;have aI:=B.o.2.1.2.2;have ae:Aa (Ad w w ((wr.alloc (.cells #[Ac Ab (fn:Int),Ac Ab C,Ac Ab z,Ac .u32 H] 121)).alloc (.cells #[Z ap f.d5 cp,Ac Ab f.gz,Z al f.en cl,Z ac f.ch cc] 51))):=Ai N.o.1 lR (Ag _ _);by_cases q2:C<0
   . (have s:Aa (¬BD p):= λe=>by obtain⟨⟨f,h1,h2,h3,_⟩,_⟩:=e.2 k (by rw[HL.o.1];exact hlt) _ HX.o;simp only[]at h3;omega);go_wp2;go_ret;exact⟨.no s.o,ae.o⟩
   by_cases q3:(f.ch:Int)<=C
   . (have s:Aa (¬BD p):= λe=>by obtain⟨⟨g,h1,h2,h3,h4,_⟩,_⟩:=e.2 k (by rw[HL.o.1];exact hlt) _ HX.o;simp only[kM]at h1 h4;rw[B.o.2.2]at h1;obtain rfl:=kN h1;omega);go_wp2;go_ret;exact⟨.no s.o,ae.o⟩
   go_wp2_with fail;refine(Ek ⟨Z ap f.d5 cp,Z al f.en cl,Z ac f.ch cc⟩ f z _ B.o.2.1 ao.o (B.o.1.bM (Ai (Ag _ _) lR (Ag _ _)) lR)).mono ?_;rintro e u ⟨rfl,bl⟩;have HW3:=Ap (ji (Ai ae.o lR bl) (ji ((N.o.2.1.alloc _).bM bl) ((N.o.2.2.alloc _).bM bl)));by_cases S:Ay f z=3
   . rw [S];have HOK:Aa (Fc p ⟨(fn:Int),C,z,H⟩):=⟨f,by simp only[kM];exact B.o.2.2,oS,oS,oS,S⟩;by_cases q5:k=0
     . subst q5;(have HA:Aa (Fb p p.dr 0):= λc hc=>by rw[HX.o]at hc;obtain rfl:=kN hc;exact⟨HOK.o, λi d hi=>oM⟩);go_wp2;go_quiet (fail);go_wp2;go_roundw;(case rel=>exact⟨1,oM,by go_num,Gu HA.o HT.o,⟨HW3.o.1.trans (As _ _ _),HW3.o.2.1.bM (As _ _ _)⟩⟩);exact oI
     obtain⟨i,rfl⟩:∃i,k=i+1:=⟨k-1,oM⟩;obtain⟨d,hd'⟩:∃d,p.dr[i]?=K d:=⟨_,an (by rw[HL.o.1];omega)⟩;have y0:=Rd.elem MT.gH HC.o i d hd' 0 _ rfl;have y1:=Rd.elem MT.gH HC.o i d hd' 1 _ rfl;rw[<-HW3.o.1.cell (jC y0),kZ]at y0;rw[<-HW3.o.1.cell (jC y1)]at y1;obtain⟨p0,p1,p2,p3⟩:=HW3.o.2.1;obtain⟨r0,r1,r2,r3⟩:=HW3.o.2.2;obtain⟨O,aq,aG,aH⟩:=d;simp only[]at y0 y1;have HD:=Ap hd';clear hd';have aJ:((i+1:Nat):Int)-1=(i:Int):=oM;have aM:(0:Int)<((i+1:Nat):Int):=oM;by_cases q6:(fn:Int)<O
     . (have s:Aa (¬BD p):= λe=>by exact M4);go_wp2;go_quiet (fail);go_wp2;go_ret;exact⟨.no s.o,HW3.o.1.trans (As _ _ _)⟩
     by_cases q7:O=(fn:Int)
     . subst q7;by_cases q8:C<=aq
       . (have s:Aa (¬BD p):= λe=>by exact M4);go_wp2;go_quiet (fail);go_wp2;go_ret;exact⟨.no s.o,HW3.o.1.trans (As _ _ _)⟩
       . (have HA:Aa (Fb p p.dr (i+1)):= λc hc=>by exact M2);exact M1
     (have aW:(O==(fn:Int))=false:=by simpa using q7);(have aU:decide ((fn:Int)<O)=false:=by simpa using q6);have q9:O<(fn:Int):=oM;(have HA:Aa (Fb p p.dr (i+1)):= λc hc=>by exact M2);exact M1
   (have s:Aa (¬BD p):= λe=>by obtain⟨⟨g,h1,h2,h3,h4,h5⟩,_⟩:=e.2 k (by rw[HL.o.1];exact hlt) _ HX.o;simp only[kM]at h1 h5;rw[B.o.2.2]at h1;obtain rfl:=kN h1;exact S h5);(have aS:(Ay f z==3)=false:=by simpa using S);(have aT:(Ay f z != 3)=true:=by simpa using S);go_wp2;go_ret;exact⟨.no s.o,HW3.o.1⟩
 have aD:n=k:=oM;subst aD;have HY:Aa (decide ((n:Int)<=64)=true↔BD p):=by show _↔_;rw[mi];exact⟨λe=>⟨by rw[HL.o.1];omega,by rw[HL.o.1];exact HT.o⟩, λe=>by have:=e.1;rw[HL.o.1]at this;omega⟩
 go_wp2;go_ret;exact⟨.of HY.o,l.o.1⟩
theorem Ba{base:Nat}{xs:List J}(h:w.ownsRow base e k v n xs)(i:b<=base):w.ownsRow b e k v n xs:=⟨h.1,h.2.imp id λ⟨g,cap,a,f,j,r⟩=>⟨g,cap,a,f,kT i j,r⟩⟩
theorem A3{Q:Exit->Act->Y->Prop}{a:Act}(P:Y->Prop)(h:P U)(k:∀u,P u->Q .normal a u):Q .normal a U:=k U h
theorem Ak{W:Y}(b:Ad W W u){a:Addr}{x:J}(h:W.cell? a=K x):u.cell? a=K x:=by rw[b.cell (jC h)];exact h
def DY(xs:List MI)(m:MB):MB:=⟨m.gK,m.last,DA xs (xs.getD m.last.toNat ⟨0,0,0,0⟩) m.last.toNat⟩
def At(xs:List MI):List MB:=(Bw xs xs).map (DY xs)
structure TW(w u:Y)(xs:List MI)(n q:Nat)(V:J)(D:List (MB×J)):Prop where
 num:u.ownsRow w 2 1 (sG q n n) n ((List.range n).flatMap (Hh xs))
 o:u.ownsRow w 58 3 V (Bw xs n).length (D.flatMap Ct++((Bw xs n).drop D).flatMap Ku)
 rows:∀x∈D,u.ownsRow w 2 1 x.2 x.1.next (x.1.next.flatMap Ah)
 done:D.map Prod.fst=((Bw xs n).take D).map (DY xs)
 gG:Ad w w u
theorem TW.of(h:SW w u xs n n q V):TW w u xs n q V []:=by refine⟨?_,by simpa using h.o, λx a=>(by cases a),sP,h.gG⟩;have:=h.num;rw[Qg _ _ _ _ sP]at this;exact this
structure NW(wr U:Y)(x:MI)(V:J)(ns:List Int):Prop where
 gG:Ad wr wr U
 xb:Ar U wr #[iZ x.op,iZ x.a,iZ x.b,iZ x.c] 60
 row:U.ownsRow wr 2 1 V ns (ns.flatMap Ah)
theorem NW.of(wr:Y)(x:MI):NW wr ((wr.alloc (.cells #[iZ x.op,iZ x.a,iZ x.b,iZ x.c] 60)).alloc (.cells #[] 2)) x (Z (K ⟨(wr:Nat)+1,0,M⟩) 0 0) []:=by
 have f:=Ag wr (.cells #[iZ x.op,iZ x.a,iZ x.b,iZ x.c] 60);have h:=Ar.new wr #[iZ x.op,iZ x.a,iZ x.b,iZ x.c] 60;have j:(wr.alloc (.cells #[iZ x.op,iZ x.a,iZ x.b,iZ x.c] 60)).heap.size= ↑wr+1:=sP
 generalize wr.alloc (.cells #[iZ x.op,iZ x.a,iZ x.b,iZ x.c] 60)=e at f h j⊢;have g:=Ag e (.cells #[] 2);have i:=Ar.new e #[] 2;rw[j]at i;exact⟨Ai f lR g,h.bM g,⟨rfl,.inr ⟨(wr:Nat)+1,0,#[],rfl,Nat.le_succ _,i,Nat.le_refl _,mu _,rfl,rfl⟩⟩⟩
theorem NW.drew{a:List Int}(h:NW wr U x V a)(k:Nat):NW wr (U.drewN k) x V a:=⟨⟨h.gG.os,h.gG.tape,h.gG.output,h.gG.size,h.gG.block⟩,h.xb,⟨h.row.1,h.row.2⟩⟩
theorem NW.gX{e:Y}{V':J}{b:List Int}(h:NW wr U x V b)(k:e.ownsRow wr 2 1 V' m (b.flatMap Ah++[iZ z]))(j:m= ↑b+1)(f:(U.alloc (.cells #[iZ z] 2)).grownBy e V.ownBlock):NW wr e x V' (b++[z]):=by have a:=Ag U (.cells #[iZ z] 2);refine⟨(Ai h.gG lR a).grown f (kT h.gG.size a.size) (λi g=>(h.row.lt i g).1),(h.xb.bM a).grown f (Am h.row a lR) dC,?_⟩;rw[kJ,kQ,<-j,lJ];exact k
theorem BP(U:Y)(z:Int):∀j u,[(iZ z:J)][j]?=K u->(U.alloc (.cells #[iZ z] 2)).cell? ((⟨U,0,M⟩:Addr).add j)=K u:= λj u a=>by rw[Da,lY,(Ar.new U #[iZ z] 2).cell j];simpa using a
theorem NW.al{a:List Int}(h:NW wr U x V a)(o:Obj):(U.alloc o).ownsRow wr 2 1 V a (a.flatMap Ah)/\ ↑wr<=(U.alloc o).heap.size:=⟨Am h.row (Ag _ _) lR,kT h.gG.size (Ag _ _).size⟩
theorem TW.next{len:Nat}{m:MB}{e:Nat}{a:J}{k:List Int}(h:TW w wr xs n q (sG j len cap) D)(z:len=(Bw xs n).length)(A:(Bw xs n)[D.length]?=K m)(v:m.last=(e:Int))(E:xs[e]?=K x)(s:NW wr U x a k)(C:k=DA xs x e):TW w (U.setCell ⟨j,D.length*3+2,M⟩ a) xs n q (sG j len cap) (D++[(DY xs m,a)]):=by
 subst z;have i:Ad wr wr U:=s.gG;have g:=Am h.o i lR;obtain⟨p,r⟩:=iV.1 A;have l:DY xs m=⟨m.gK,m.last,k⟩:=by unfold DY;rw[v,C,kM,lD,E];rfl
 have B:=Ba s.row (b:=w) h.gG.size;refine⟨BW (Am h.num i lR) g dC _ _,?_,?_,?_,(Ai h.gG lR i).setCell (AD g).1 _⟩
 . have t:=(g.stored (D.length*3+2) a).1;(have u:(D.flatMap Ct++((Bw xs n).drop D).flatMap Ku).set (D.length*3+2) a=(D++[(DY xs m,a)]).flatMap Ct++((Bw xs n).drop (D++[(DY xs m,a)]).length).flatMap Ku:=by rw[mv p,r,kX,nG _ _ (by rw[Au Ct 3 Bh];omega),Au Ct 3 Bh,l];simp[Ku,Ct,List.length_append]);rw[u]at t;exact t
 . intro y f;rcases kS.1 f with f|f
   . exact BW (Am (h.rows y f) i lR) g dC _ _
   simp only[lA,lW,mZ]at f;subst f;simp only[l];exact BW B g dC _ _
 rw[mL,h.done,kJ,kQ,lH p,r];simp
theorem TW.rd(h:TW w u xs n q V D)(b: ↑xs=n)(a: ↑D=(Bw xs n).length):Ic u V (At xs):=by
 have e:D.map Prod.fst=At xs:=by rw[h.done,a,lu lR];unfold At;rw[b]
 have f:(At xs).length=(Bw xs n).length:=by unfold At;rw[kW,b]
 refine⟨D,e,?_, λx g=>Rd.gM (h.rows x g)⟩;have:=Rd.gM h.o;rw[a,nU lR]at this;rw[f];simpa using this
end Go.Proofs.YtjnglocdoljgkaaGreat
