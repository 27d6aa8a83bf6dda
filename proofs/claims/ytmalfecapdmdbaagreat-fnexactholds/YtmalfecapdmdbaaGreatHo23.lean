import Derived.Test.YtmalfecapdmdbaaGreatHo22
namespace Go.Proofs.YtmalfecapdmdbaaGreat
open Go.ChangeShapes Go.WideShapes Go.ChangeAt Go.RowKit Go.Proofs.Tryz
set_option linter.unusedVariables false
open Go renaming Value → J,World → Y,Calls → Ai,TypeId → Aj
open Go.RowKit renaming Hid → Ae,Below → Ah
open Go.Ending renaming returned → Al
open Go.Value renaming agg → Am,slice → Z
open Go.Proofs.Tryz renaming prog → Ap
open Go.World renaming ownsRow → Ab,alloc → Ac
open Option renaming some → K,none → M
open Go.IntKind renaming i64 → Af
open Go.Obj renaming cells → Ak
open List renaming flatMap → Ad
set_option maxHeartbeats 8000000
set_option maxRecDepth 100000
variable {p:MP}{w d u g:Y}{base k n c b a f r:Nat}{e:Aj}{s V:J}{xs:List J}{fs:List MF}{D W:DataW Unit}{R:J->Option (DataW Unit×List MemPlace)}{zs l:List Int}{q:Int}{left:Lit->Bool}
def MZ(n:Int):J:=if n=0 then .nilIface else .iface 149 n
def C4(e:Ending)(p:MP):Prop:=∃n,e=Al (MZ n)/\A4 p n
theorem C4.f1(h:¬AU p.bO):C4 (Al (.iface 149 (iZ 1))) p:=⟨1,rfl,.inl ⟨rfl,h⟩⟩
theorem C4.f2(a:AU p.bO)(h:¬Be p.ej):C4 (Al (.iface 149 (iZ 2))) p:=⟨2,rfl,.inr (.inl ⟨rfl,a,h⟩)⟩
theorem C4.f3(a:AU p.bO/\Be p.ej)(h:¬Bj p.bW):C4 (Al (.iface 149 (iZ 3))) p:=⟨3,rfl,.inr (.inr (.inl ⟨rfl,a.1,a.2,h⟩))⟩
theorem C4.f4(a:AU p.bO/\Be p.ej)(b:Bj p.bW)(h:¬CD p):C4 (Al (.iface 149 (iZ 4))) p:=⟨4,rfl,.inr (.inr (.inr (.inl ⟨rfl,a.1,a.2,b,h⟩)))⟩
theorem C4.f5(a:AU p.bO/\Be p.ej)(b:Bj p.bW)(c:CD p)(h:¬Bi p):C4 (Al (.iface 149 (iZ 5))) p:=⟨5,rfl,.inr (.inr (.inr (.inr (.inl ⟨rfl,a.1,a.2,b,c,h⟩))))⟩
theorem C4.f0(a:AU p.bO/\Be p.ej)(b:Bj p.bW)(c:CD p)(h:Bi p):C4 (Al .nilIface) p:=⟨0,rfl,.inr (.inr (.inr (.inr (.inr ⟨rfl,a.1,a.2,b,c,h⟩))))⟩
theorem FZ(v:VP)(p:MP)(w:Y)(O:p.small)(hw:p.wf)(h:Da w v p)(L:EP w v.r p.bO)(N:Mh w v.f p.bW):
 Ai Ap 44 #[Am #[v.r,v.k,v.f,v.t]] w λe W=>C4 e p/\Ah w w W:=by
 have H:=Av (d5 O (d5 hw (d5 h (d5 L N))));clear O hw h L N;have q:Ae _:=Mc.of w v.r v.k v.f v.t 36;go_enter func44,ntmps44;go_wp2_with fail;refine(Kz v.r p.bO _ H.1.bO H.1.region (H.2.2.1.bO.a7 q.e8 lR)).mono ?_;rintro e X ⟨⟨Q,rfl,u⟩,rfl⟩;cases Q
 . (have a:Ae (¬AU p.bO):= λe=>by simp[e]at u);clear u;go_wp2;go_ret;exact⟨.f1 a,q.e8⟩
 have D:=Av (u.1 rfl);clear u;go_wp2_with fail;refine(K3 v.k p.ej _ H.1.ej (λc V=>(SO (H.2.1.ej c V).2).1) (H.2.2.1.ej.a7 q.e8 lR)).mono ?_;rintro e u2 ⟨⟨R,rfl,x⟩,E⟩;have s:=Av (q.a7 E);clear E;cases R
 . (have a:Ae (¬Be p.ej):= λe=>by simp[e]at x);clear x;go_wp2;go_ret;exact⟨.f2 D a,s.e8⟩
 have g:=Av (d5 D.o (x.1 rfl));clear x;obtain⟨i,j,l,m⟩:=s.prog;go_wp2_with fail;refine(Mv v.f p.bW _ H.1.bW H.1.func (H.2.2.1.bW.a7 s.e8 lR)).mono ?_;rintro e u3 ⟨⟨S,rfl,y⟩,F⟩;have b:=Av (s.a7 F);clear F i j l m;cases S
 . (have a:Ae (¬Bj p.bW):= λe=>by simp[e]at y);clear y;go_wp2;go_ret;exact⟨.f3 g a,b.e8⟩
 have n:=Av (y.1 rfl);clear y;obtain⟨i,j,l,m⟩:=b.prog;go_wp2_with fail;refine(Mq v p _ H.1 H.2.1 g.1 n (H.2.2.1.a7 b.e8 lR) (H.2.2.2.1.a7 b.e8 lR)).mono ?_;rintro e u4 ⟨⟨T,rfl,z⟩,G⟩;have d:=Av (b.a7 G);clear G i j l m;cases T
 . (have a:Ae (¬CD p):= λe=>by simp[e]at z);clear z;go_wp2;go_ret;exact⟨.f4 g n a,d.e8⟩
 have B:=Av (z.1 rfl);clear z;obtain⟨i,j,l,m⟩:=d.prog;go_wp2_with fail;refine(Mp v p _ H.1 (H.2.2.1.a7 d.e8 lR) (H.2.2.2.2.a7 d.e8 lR)).mono ?_;rintro e u5 ⟨⟨U,rfl,A⟩,I⟩;have C:=Av (Ar d.e8 lR I);clear I i j l m;cases U
 . (have a:Ae (¬Bi p):= λe=>by simp[e]at A);clear A;go_wp2;go_ret;exact⟨.f5 g n B a,C⟩
 have P:Ae (Bi p):=A.1 rfl;clear A;go_wp2;go_ret;exact⟨.f0 g n B P,C⟩
theorem PM(h:Ab w base e k s n xs):∃a c,s=Z a n c/\n<=c:=by
 rcases h.2 with⟨rfl,rfl⟩|⟨g,cap,d,rfl,_,_,b,_⟩
 . exact⟨_,_,rfl,Nat.le_refl _⟩
 exact⟨_,_,rfl,b⟩
theorem LC(h:Ab w base e k s n xs):GW s:=by
 rcases h.2 with⟨rfl,rfl⟩|⟨g,cap,a,rfl,_⟩
 . exact .inl rfl
 exact .inr ⟨_,_,_,rfl⟩
theorem Fk.rdc{rs:List (List Int)}(h:Fk w base s rs):EP w s rs:=by obtain⟨xs,c,d,a⟩:=h;exact⟨xs,c,Rd.gM d, λx b=>⟨Rd.gM (a x b),PM (a x b)⟩⟩
theorem DQ.rdp(h:DQ w base s fs):Mh w s fs:=by obtain⟨xs,c,d,a⟩:=h;exact⟨xs,c,Rd.gM d, λx b=>⟨(a x b).rd,LC (a x b).1,LC (a x b).2.1⟩⟩
theorem AW.iq{c:Y}{row:Option Nat}(h:AW w b a D)(d:w.grownBy c row)(e:K b≠row):AW c b a D:=World.ownsMap.kept h d e
theorem GE{d:Nat}{v:J}(h:Ab w base e k v n xs)(i:w.ownsMap Ap 2 R b d D):K b≠v.ownBlock:=by
 obtain⟨m,j,f,_⟩:=i;intro a;rcases h.2 with⟨rfl,_⟩|⟨g,cap,l,rfl,_,c,_⟩
 . cases a
 simp only[Value.ownBlock,kI]at a;subst a;rw[f]at c;cases c
theorem Ds.to{c:Nat->Nat}(h:Ds u b a k c zs W)(e:d.ownsMap Ap 2 Cq b a W):Ds d b a k c zs W:=⟨e,h.has,h.at_,h.size⟩
structure OX(w u:Y)(fs:List MF)(mb cnt:Nat)(Bk:Nat->Nat)(zm:List Int)(W:DataW Unit)(live:Nat->Bool)(dn:Nat->List Int)(zo:List Int)(V:J):Prop where
 map:Ds u mb cnt fs Bk zm W
 gZ:Dc u fs w mb fs Bk live dn
 o:Ab u w 2 1 V zo (Ad As zo)
 e8:Ah w w u
 jg: ↑w<=mb
def OW(w u:Y)(fs:List MF)(c b:Nat)(a:Nat->Nat)(zs:List Int)(W:DataW Unit)(V:J):Prop:=OX w u fs c b a zs W (λi=> !zs.contains (i:Int)) (λ_=>zs) zs V
theorem OX.a7{b:Nat->Nat}{j k:List Int}{e:Nat->Bool}{d:Nat->List Int}(h:OX w u fs f c b j W e d k V)(a:Ah u u g):OX w g fs f c b j W e d k V:=⟨h.map.to (h.map.own.kept (DN a) sP),h.gZ.kept (λi m l D q=>q.a7 a),Aw h.o a lR,Ar h.e8 lR a,h.jg⟩
theorem OX.gX{c:Y}{e:Nat}{d:Nat->Nat}{a:List Int}{g:Nat->Bool}{f:Nat->List Int}{V':J}(h:OX w u fs k e d l W g f a V)(b:u.grownBy c V.ownBlock)(n:Ab c w 2 1 V' (a.length+1) (Ad As a++[iZ q])):OX w c fs k e d l W g f (a++[q]) V':=⟨h.map.to (h.map.own.kept b (GE h.o h.map.own)),h.gZ.kept (λi r p D q=>q.iq b (GE h.o q)),by rw[kE,kK,lL];exact n,h.e8.grown b h.e8.size (λj m=>(h.o.lt j m).1),h.jg⟩
theorem OX.del{q:Nat}{f:Nat->Nat}(h:OX w u fs a b f zs W (λi=> !zs.contains (i:Int)) (λ_=>zs) (zs++[(q:Int)]) V)(t:q< ↑fs)(v:zs.contains (q:Int)=false)(s:d.ownsMap Ap 2 Cq a b (W.del (.int Af (q:Int))))(c:u.grownBy d (K a)):OX w d fs a b f (zs++[(q:Int)]) (W.del (.int Af (q:Int))) (λi=> !(zs++[(q:Int)]).contains (i:Int)) (λ_=>zs) (zs++[(q:Int)]) V:=by refine⟨h.map.del t v s,⟨λi g k=> ?_,h.gZ.inj,h.gZ.ne⟩,h.o.kept c (Or.inr (GE h.o h.map.own).symm),h.e8.grown c h.e8.size (λj r=>by cases r;exact h.jg),h.jg⟩;rw[ET,Bool.not_or,mR]at k;obtain⟨l,D,m,n,p⟩:=h.gZ.set i g k.1;exact⟨l,D,m,n.iq c (λe=>(h.gZ.ne i g).2 (kH e)),p⟩
theorem Hd{g:Nat}{d:DataW Unit}(h:w.ranges Ap 2 R b r n D left g)(j:AW w c f d):K c≠K r:=by
 obtain⟨m,k,s,q,c0,_,_,_,_,a,_⟩:=h;obtain⟨p,l,i,_⟩:=j;intro e;cases e
 rw[i]at a;cases a
def Kr(zs:List Int)(q:Int)(left:Lit->Bool)(i:Nat):List Int:=if left (.int Af (i:Int))=true then zs else zs++[q]
theorem OX.step{p:Nat}{e:Nat->Nat}{m:List Int}{k:Nat->Bool}{f:Nat->List Int}{x:Lit->Bool}{c':Nat}(h:OX w u fs a b e l W k f m V)(g:u.ranges Ap 2 Cq a r n W left p)(v:d.ranges Ap 2 Cq a r b W x c')(c:u.grownBy d (K r))(s: ↑w<=r):OX w d fs a b e l W k f m V:=⟨h.map.to v.owns,h.gZ.kept (λi z y D q=>q.iq c (Hd g q)),h.o.kept c (Or.inr (Go.row_ne_iter h.o g).symm),h.e8.grown c h.e8.size (λj t=>by cases t;exact s),h.jg⟩
theorem OX.start{d:Nat}{a:Nat->Nat}(h:OX w u fs d b a (zs++[q]) W (λi=> !(zs++[q]).contains (i:Int)) (λ_=>zs) (zs++[q]) V):OX w u fs d b a (zs++[q]) W (λi=> !(zs++[q]).contains (i:Int)) (Kr zs q (Go.Maps.has W)) (zs++[q]) V:=by
 refine⟨h.map,⟨λi f c=> ?_,h.gZ.inj,h.gZ.ne⟩,h.o,h.e8,h.jg⟩;have:Go.Maps.has W (.int Af (i:Int))=true:=by
  rw[h.map.has,c];have e:(0<=(i:Int)/\(i:Int)<(fs:Int)):=oM
  simp only[e,and_self,decide_true,Bool.and_true]
 unfold Kr;rw[kZ this];exact h.gZ.set i f c
theorem OX.done{a:Nat->Nat}(h:OX w u fs c b a (zs++[q]) W (λi=> !(zs++[q]).contains (i:Int)) (Kr zs q left) (zs++[q]) V)(e:∀g,left g=false):OW w u fs c b a (zs++[q]) W V:=by refine⟨h.map,⟨λi d f=> ?_,h.gZ.inj,h.gZ.ne⟩,h.o,h.e8,h.jg⟩;have:=h.gZ.set i d f;unfold Kr at this;rw[e]at this;exact this
theorem OX.meets{m:Nat}{a:Nat->Nat}{x:Int}(h:OX w u fs m k a (zs++[q]) W (λi=> !(zs++[q]).contains (i:Int)) (Kr zs q left) (zs++[q]) V)(l:left (.int Af x)=true)(j:∀n,W.atKey (.int Af x) n=.lit (.int Af (c:Int))):∃i:Nat,x=(i:Int)/\i< ↑fs/\c=a i/\∃f D,f<=1048576/\AW u c f D/\∀z,Go.Maps.has D (.int Af z)=Ed fs zs i z:=by
 have b:=Go.Maps.has_true_of_atKey j;rw[h.map.has]at b;simp only[mR,mB]at b;obtain⟨⟨p,r⟩,g⟩:=b;obtain⟨i,rfl⟩:∃i:Nat,x=(i:Int):=⟨x.toNat,oM⟩;have d:i<fs.length:=oM;have e:=(j (.agg [])).symm.trans (h.map.at_ i d (by simpa using g) (.agg []));obtain rfl:c=a i:=by
  injection e with e
  injection e with _ e
  omega
 have:=h.gZ.set i d g;unfold Kr at this;rw[kZ l]at this;exact⟨i,rfl,d,rfl,this⟩
theorem OX.told{l i:Nat}{a:Nat->Nat}(h:OX w u fs l k a (zs++[q]) W (λi=> !(zs++[q]).contains (i:Int)) (Kr zs q left) (zs++[q]) V)(f:i< ↑fs)(x:b<=1048576)(v:∀z,Go.Maps.has D (.int Af z)=Ed fs zs i z)(A:AW u (a i) b D)(y:AW g (a i) b (D.del (.int Af q)))(c:u.grownBy g (K (a i))):OX w g fs l k a (zs++[q]) W (λi=> !(zs++[q]).contains (i:Int)) (Kr zs q (λz=>left z&& !z.sameKey (.int Af (i:Int)))) (zs++[q]) V:=by
 refine⟨h.map.to (h.map.own.kept c (λe=>(h.gZ.ne i f).2 (kH e).symm)),⟨λj d B=> ?_,h.gZ.inj,h.gZ.ne⟩,h.o.kept c (Or.inr (GE h.o A).symm),h.e8.grown c h.e8.size (λj d=>by cases d;exact(h.gZ.ne i f).1),h.jg⟩;by_cases e:j=i
 . subst e;refine⟨b,_,x,y, λz=> ?_⟩;unfold Kr;rw[kP (by simp[DA]),Pq,v,UK]
 obtain⟨n,m,r,s,t⟩:=h.gZ.set j d B;refine⟨n,m,r,s.iq c (λp=>e (h.gZ.inj j i d f (kH p))), λz=> ?_⟩;rw[t];have:¬(j:Int)=(i:Int):=oM;unfold Kr;simp[DA,this]
theorem My(v:VP)(p:MP)(w:Y)(hs:p.small)(hw:p.wf)(h:Da w v p)(bo:EP w v.r p.bO)(bq:Mh w v.f p.bW):
 Ai Ap 45 #[.agg #[v.r,v.k,v.f,v.t]] w λe w'=>∃V zs,e=Al V/\Ab w' w.heap.size 2 1 V zs.length (zs.flatMap As)/\NR p zs/\Ah w.heap.size w w':=by
 obtain⟨k0,hk,cW,cX,cY⟩:=lS Bp;have H:=Av (d5 hs (d5 hw (d5 h (d5 bo bq))));clear hs hw h bo bq;have de:= @run_makeMap Ap;have C:Ae (CX (Ac w (Ak #[v.r,v.k,v.f,v.t] 36)) w v.r v.k v.f v.t/\Ah w w (Ac w (Ak #[v.r,v.k,v.f,v.t] 36))):=⟨CX.new w _ _ _ _ _,Aq _ _⟩
 go_enter func45,ntmps45;obtain⟨X,q1,q2,q3⟩:=C.o.1;go_wp2_with fail;refine(FZ v p _ H.o.1 H.o.2.1 (H.o.2.2.1.a7 C.o.2 lR) (H.o.2.2.2.1.a7 C.o.2 lR) (H.o.2.2.2.2.a7 C.o.2 lR)).mono ?_;rintro e s ⟨⟨nf,rfl,au⟩,b1⟩;have E:=Av (d5 (C.o.1.a7 b1) (Ar C.o.2 lR b1));clear b1 C X q1 q2 q3;by_cases X:nf=0
 . subst X;have HF:=Av au;clear au;rw[show MZ 0=.nilIface from rfl];obtain⟨ys,bS,aQ,bp⟩:=H.o.2.2.1.bW;obtain⟨vr,vk,vf,vt⟩:=v;obtain⟨af,cf,ef⟩:∃a c,vf=Z a p.bW c:=aQ.dk;subst ef;have cM:=(G9 HF.o).1.2.1;have bB:=(G9 HF.o).1.1;have P:=Av (d5 bS (d5 aQ bp));clear bS aQ bp;generalize bj:p.bW.length=n at cM bB P E;have F:=Av bj;clear bj;obtain⟨gf,of,rfl,ah⟩:∃gf of,af=K ⟨gf,of,M⟩/\Ae (∀j u,(Ad Ch ys)[j]?=K u->w.cell? ⟨gf,of+j,M⟩=K u):=by
    rcases P.o.2.1.2 with⟨e0,_⟩|⟨gf,of,c',e1,cj⟩
    . exact absurd e0 bB
    simp only[i8,lB]at e1;exact⟨gf,of,e1.1,cj⟩
   obtain⟨p0,p1,p2,p3⟩:=E.o.1.alloc (.map #[] 0);obtain⟨r0,r1,r2,r3⟩:=E.o.1;have am:Ae (Ds (Ac s (.map #[] 0)) s 0 0 (λ_=>0) [] (.map [])/\Ah w w (Ac s (.map #[] 0))/\(w:Nat)<= ↑s):=⟨Ds.start (World.ownsMap_made _ _ _ _),Ar E.o.2 lR (Aq _ _),E.o.2.size⟩
   go_wp2;clear p0 p1 p2 p3 r0 r1 r2 r3;have aA:=Av am.o.2.2;have aH:Ae (∃b W,Ds (Ac s (.map #[] 0)) s 0 0 b [] W/\Dc (Ac s (.map #[] 0)) p.bW w s 0 b (λ_=>true) (λ_=>[])/\Ah w w (Ac s (.map #[] 0))):=⟨_,_,am.o.1,Dc.start,am.o.2.1⟩
   clear am E;generalize s.heap.size=d at aH aA⊢;go_loopw [18] (λi wr=>∃k:Nat,k<=n/\i=iZ k/\Ae (∃b W,Ds wr d k k b [] W/\Dc wr p.bW w d k b (λ_=>true) (λ_=>[])/\Ah w w wr)) (λi _=>n-(intOf i).toNat)
   (case atStart=>exact⟨0,oM,rfl,aH⟩);clear aH;obtain⟨k,db,rfl,aY⟩:=hrel;obtain⟨b,W,hM,hS,hB⟩:=aY.o;have m:=Av (d5 hM (d5 hS hB));clear hM hS hB aY;by_cases cH:k<n
   . have d9:(k:Int)<(n:Int):=oM;obtain⟨⟨f,z⟩,L⟩:∃y,ys[k]?=K y:=⟨_,an (by have:=congrArg List.length P.o.1;rw[lC,F.o]at this;omega)⟩;have ao:=Bo P.o.1 L;have N:=P.o.2.2 _ (i7 L);simp only[]at N;obtain⟨zp,zl,zc⟩:=z;obtain⟨ap,cp,ep⟩:∃a c,zp=Z a f.gw c:=N.1.dk;obtain⟨al,cl,el⟩:∃a c,zl=Z a f.gG c:=N.2.1.dk;obtain⟨ac,cc,ec⟩:∃a c,zc=Z a f.eC c:=N.2.2.dk;subst ep el ec;have S:=Av (d5 N (d5 (H.o.1.func f (i7 ao)) (d5 ao ((H.o.2.1.bW f (i7 ao)).eC))));have i0:=Ek m.o.2.2 (Rd.elem Ay ah.o k _ L 0 _ rfl);have i1:=Ek m.o.2.2 (Rd.elem Ay ah.o k _ L 1 _ rfl);have i2:=Ek m.o.2.2 (Rd.elem Ay ah.o k _ L 2 _ rfl);have i3:=Ek m.o.2.2 (Rd.elem Ay ah.o k _ L 3 _ rfl);rw[kJ]at i0;clear L ao N;(go_upto_region 7 with fail);refine Ax (λu=>Ae (Ds u d k k b [] W/\Dc u p.bW w d k b (λ_=>true) (λ_=>[])/\Ah w w u/\AC u wr #[Z ap f.gw cp,iZ f.gy,Z al f.gG cl,Z ac f.eC cc] 70)) ⟨m.o.1.to (m.o.1.own.alloc _),m.o.2.1.kept (λi B A D q=>q.a7 (Aq _ _)),Ar m.o.2.2 lR (Aq _ _),AC.new _ _ _⟩ ?_
     intro U1 g;clear i0 i1 i2 i3;obtain⟨a0,a1,a2,a3⟩:=Ws g.o.2.2.2;go_wp2_with fail;refine(Mo _ f.eC U1 S.o.2.1.2.2 S.o.2.2.2 (S.o.1.2.2.a7 g.o.2.2.1 lR)).mono ?_;rintro e u4 ⟨rfl,⟨cs,DS,aJ,bJ,bP⟩,b4⟩;have G:=Av (d5 bJ (d5 bP (d5 ((by have:=S.o.2.1.2.2;omega):cs<=1048576) b4)));have I:=g.o.1.own.kept (DN b4) sP;clear bJ bP aJ b4 a0 a1 a2 a3;have HR:Ae (∃b W,Ds u4 d k k b [] W/\Dc u4 p.bW w d k b (λ_=>true) (λ_=>[])):=⟨b,W,g.o.1.to I,g.o.2.1.kept (λi B A D q=>q.a7 G.o.2.2.2)⟩
     have cU:Dg (k:Int):=IX oM oM;go_wp2_with (at_mapUpdate;refine wpList_mapUpdate_own _ rfl _ _ _ 152 rfl 2 154 EL underlying152 Cq d k W rfl I oX _ _ _ rfl rfl (nC underlying2 cU) (.lit (.int Af (U1:Int))) [] rfl ?_;intro w5 bG aq);have HN:Ae (∃b W,Ds w5 d (k+1) (k+1) b [] W/\Dc w5 p.bW w d (k+1) b (λ_=>true) (λ_=>[])/\Ah w w w5):=by
      have dd:=m7 g.o.1.own;(have cA:∀i,i<k->∀A D,AW U1 (b i) A D->AW w5 (b i) A D:= λi B A D q=>(q.a7 G.o.2.2.2).iq aq (λe=>(g.o.2.1.ne i B).2 (kH e)));refine⟨_,_,g.o.1.put bG,g.o.2.1.put cA (λi B e=> ?_) ⟨g.o.2.2.1.size,oM⟩ ⟨cs,DS,G.o.2.2.1,G.o.1.iq aq (λe=>by have:=kH e;omega), λz=> ?_⟩,?_⟩
      . obtain⟨A,D,_,q,_⟩:=g.o.2.1.set i B rfl;have:=m7 q;omega
      . rw[G.o.2.1 z,k8 lR];unfold Ed;rw[S.o.2.2.1];simp
      exact(Ar g.o.2.2.1 lR G.o.2.2.2).grown aq (Ar g.o.2.2.1 lR G.o.2.2.2).size (λj hj=>by cases hj;exact aA.o)
     clear bG aq I;go_wp2;go_roundw;(case rel=>exact⟨k+1,oM,by go_num,HN⟩);exact oI
   obtain rfl:k=n:=oM;have aZ:Ae (OW w wr p.bW d k b [] W sN):=⟨by rw[F.o];exact m.o.1,by rw[F.o];exact m.o.2.1,⟨rfl,.inl ⟨rfl,rfl⟩⟩,m.o.2.2,aA.o⟩;have bf:=Av (d5 aZ.o ((by unfold BT;rw[F.o];rfl):Cx p.bW (k-([]:List Int).length) []=BT p.bW));clear m aZ;obtain⟨W0,bZ⟩:∃W0,W0=W:=⟨_,rfl⟩;subst bZ;go_wp2;go_loopw [6] (λV wr=>∃(zs:List Int) (W:DataW Unit), ↑zs<=k/\(∃a c,V=Z a zs c)/\Ae (OW w wr p.bW d k b zs W V/\Cx p.bW (k-↑zs) zs=BT p.bW)) (λV _=>k-Wd V)
   (case atStart=>exact⟨[],_,sP,⟨_,_,rfl⟩,bf⟩);clear bf;obtain⟨zs,W,di,⟨aV,cV,rfl⟩,l⟩:=hrel;have aP:=l.o.1.map.own;have cT:=l.o.1.map.size;rw[F.o]at cT;by_cases cH: ↑zs<k
   . have df:(0:Int)<((Go.Maps.size W:Nat):Int):=oM;go_wp2_with (first
      |(at_len;refine wpList_len_own _ rfl _ 152 rfl 2 154 underlying152 _ d k _ rfl aP ?_)
      |fail)
     refine(PT d k W (IR p.bW zs) _ oM l.o.1.map.own (RS l.o.1.gZ l.o.1.map)).mono ?_;rintro e u9 ⟨g9,d6,rs,rfl,aX,bL,bx,b9⟩;have aw:=Av (d5 (l.o.1.a7 b9) b9);have cu:=PU (by rw[F.o];omega) l.o.1.map.has bL bx;clear aP b9 bL bx;rcases cu with⟨rfl,bC⟩|⟨q,r,rfl,hq,bI,bu⟩
     . have Q:Ae (BT p.bW=[]):=by
        show _=_;rw[<-l.o.2,show k-↑zs=(k-↑zs-1)+1 from oM]
        simp only[Cx];rw[bC]
       clear bC aX;go_wp2;go_ret;exact⟨_,[],rfl,⟨rfl,.inl ⟨rfl,rfl⟩⟩,.inl ⟨HF.o,Q.o.symm⟩,aw.o.1.e8⟩
     . have Q:Ae (Cx p.bW (k-(zs++[(q:Int)]).length) (zs++[(q:Int)])=BT p.bW):=by
        show _=_;rw[<-l.o.2,show k-↑zs=(k-↑zs-1)+1 from oM]
        simp only[Cx];rw[bu,kE,kK,Nat.sub_add_eq]
       have c9:=aX.cellAt 0 sP;rw[show((Ad As ((q:Int)::r))[0]?=K (iZ (q:Int)))from rfl]at c9;have HQ:=Av (d5 hq bI);clear hq bI bu aX;have bR:Dg (q:Int):=IX oM (by have:=HQ.o.1;have:=F.o;omega);have ae:Ae (OW w (Ac u9 (Ak #[iZ (q:Int)] 2)) p.bW d k b zs W (Z aV zs cV)):=aw.o.1.a7 (Aq _ _);have dg:(r:Int)+1>0:=oM;go_wp2_with (first
        |(at_builtin;refine wpList_append_lies _ rfl _ _ 46 rfl w 2 k0 (iZ 0) 1 8 underlying46 hk cW cX cY rfl dC _ zs (zs.flatMap As) rfl ae.o.o u9 1 1 [iZ (q:Int)] rfl rfl (Nk u9 (q:Int)) (λu hu=>by simp at hu;subst hu;rfl) oM oX oM ae.o.e8.size _ rfl ?_;intro U T w3 bF bt cg cJ;have aE:Ae (OX w w3 p.bW d k b zs W (λi=> !zs.contains (i:Int)) (λ_=>zs) (zs++[(q:Int)]) (sG U (zs.length+1) T)):=ae.o.gX bt bF;have bT:=aE.o.map.own;clear bF bt cg cJ)
        |(at_delete;refine wpList_delete_own _ rfl _ _ 152 2 rfl 154 EL underlying152 _ d k W rfl bT _ _ rfl (nC underlying2 bR) ?_;intro w4 I bQ;have aF:Ae (OX w w4 p.bW d k b (zs++[(q:Int)]) (W.del (.int Af (q:Int))) (λi=> !(zs++[(q:Int)]).contains (i:Int)) (λ_=>zs) (zs++[(q:Int)]) (Z U (zs.length+1) T)):=aE.o.del HQ.o.1 HQ.o.2 I bQ.grown;clear bQ bT)
        |(at_range;refine wpList_range_own _ rfl _ 152 rfl 2 154 EL underlying152 _ d k _ rfl I ?_;intro w5 aS br cR)
        |go_in)
       go_frame;have aj:=Av (d5 ((aF.o.a7 ((kS _ _).grown br lR (λj hj=>by cases hj))).start) aF.o.e8.size);have bg:=Av aj.o.2;clear br cR I c9 aF aE ae aw;generalize w4.heap.size=it at aS bg aj⊢;go_loopw [10] (λ_ wr=>∃(left:Lit->Bool) (A:Nat),wr.ranges Ap 2 Cq d it k (W.del (.int Af (q:Int))) left A/\Ae (OX w wr p.bW d k b (zs++[(q:Int)]) (W.del (.int Af (q:Int))) (λi=> !(zs++[(q:Int)]).contains (i:Int)) (Kr zs (q:Int) left) (zs++[(q:Int)]) (Z U (zs.length+1) T))) (λ_ wr=>wr.rangeLeft d it)
       (case atStart=>exact⟨_,_,aS,aj.o.1⟩);clear aj aS;obtain⟨left,A,O,R⟩:=hrel;go_wp2_with (first
        |(at_next;refine wpList_next_ranges _ rfl _ rfl 2 EL Cq (Value.int Af) (λ(c:Nat)=>Value.map (K c)) (λdj kl hk=>by obtain⟨x,hx,_⟩:=Go.Maps.keyOf_int_inv underlying2 hk;exact⟨x,hx⟩) (λv y hv=>by obtain⟨c,rfl,_⟩:=FG hv;exact⟨c,rfl⟩) d it k _ _ _ rfl O ?_ ?_)
        |go_in)
       . intro d7 cE;have HD:=Av (R.o.done cE);clear O R;go_wp2;go_roundw;(case rel=>exact⟨zs++[(q:Int)],_,by simp only[kE,kK];omega,⟨K U,T,by rw[kE,kK]⟩,⟨HD.o,Q.o⟩⟩);simp only[Wd];omega
       intro x c kl y ps w2 bi cw cG hv ce aR cI aM cQ d8;obtain⟨x',ex,rfl,dh⟩:=Go.Maps.keyOf_int_inv underlying2 cw;(obtain rfl:x=x':=by cases ex;rfl);obtain⟨c',ec,ey⟩:=FG hv;obtain⟨rfl,rfl⟩:=Prod.mk.inj ey;clear ey;(obtain rfl:c=c':=by cases ec;rfl);obtain⟨i,rfl,B,rfl,cs,DS,aJ,aT,bY⟩:=R.o.meets cG ce;have aU:AW w2 (b i) cs DS:=aT.iq aM (Hd O aT);have aI:=Av (d5 (R.o.step O aR aM bg.o) O.left_eq);have bK:=aU;unfold AW at bK;clear cQ R O aM aT;go_wp2_with (first
        |(at_delete;refine wpList_delete_own _ rfl _ _ 154 2 rfl 207 EL underlying154 _ (b i) cs DS rfl bK _ _ rfl (nC underlying2 bR) ?_;intro w6 bH aW;have aG:Ae (OX w w6 p.bW d k b (zs++[(q:Int)]) (W.del (.int Af (q:Int))) (λi=> !(zs++[(q:Int)]).contains (i:Int)) (Kr zs (q:Int) (λz=>left z&& !z.sameKey (.int Af (i:Int)))) (zs++[(q:Int)]) (Z U (zs.length+1) T)/\w6.ranges Ap 2 Cq d it k (W.del (.int Af (q:Int))) (λz=>left z&& !z.sameKey (.int Af (i:Int))) bi):=⟨aI.o.1.told B aJ bY aU bH aW.grown,aR.kept aW.grown (λe=>(aI.o.1.gZ.ne i B).2 (kH e).symm) (Hd aR aU).symm⟩;clear bH aW)
        |go_in)
       go_frame;go_roundw;(case rel=>exact⟨_,bi,aG.o.2,aG.o.1⟩);rw[aG.o.2.left_eq,aI.o.2];exact cI
   have hz: ↑zs=k:=oM
   have cZ:Go.Maps.size W=0:=oM;(have Q:Ae (zs=BT p.bW):=by have:=l.o.2;rw[hz,mU]at this;exact this);have b7:=Av (d5 l.o.1.o l.o.1.e8);go_wp2_with (first
    |(at_len;refine wpList_len_own _ rfl _ 152 rfl 2 154 underlying152 _ d k _ rfl aP ?_;rw[cZ])
    |go_in)
   go_ret;refine⟨Z aV zs cV,zs,?_,b7.o.1,.inl ⟨HF.o,Q.o⟩,b7.o.2⟩;rw[hz];rfl
 have HN:Ae (¬A4 p 0):= λe=>X (A4.one au e)
 have bV:=Av E.o.2;rw[show MZ nf=.iface 149 (iZ nf)from kP X];clear au;go_wp2;go_ret;exact⟨_,[],rfl,⟨rfl,.inl ⟨rfl,rfl⟩⟩,.inr ⟨HN.o,rfl⟩,bV.o⟩
end Go.Proofs.YtmalfecapdmdbaaGreat
