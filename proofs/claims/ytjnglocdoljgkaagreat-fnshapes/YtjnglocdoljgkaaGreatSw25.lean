import Derived.Test.YtjnglocdoljgkaaGreatSw23
namespace Go.Proofs.YtjnglocdoljgkaaGreat
open Go.ChangeShapes Go.WideShapes Go.ChangeAt Go.RowKit
set_option linter.unusedVariables false
open Go.Value renaming slice → Z,int → Ac
open Option renaming some → K,none → M
open Go renaming Value → J,World → Y,Calls → Ae
open Go.IntKind renaming i64 → Ab
open Go.RowKit renaming Below → Ad,Hid → Aa
set_option maxHeartbeats 8000000
set_option maxRecDepth 100000
variable {g n a b i q t e:Nat}{O:List Nat}{x:MI}{f:MF}{code xs:List MI}{m:MB}{deep:Int}
theorem TZ(l:List Nat):nv l=(ints l).map (Ac Ab):=by simp[nv,ints]
theorem TD(l:List Nat):ints l.reverse=(ints l).reverse:=by simp[ints]
theorem Pi(g c base:Nat)(O:List Nat)(w:Y)(y:O.length<=1048576)(h:Gj w base (sG g O c) O):
 Ae Tryz.prog 98 #[sG g O c] w λe a=>e=.returned (.tuple #[])/\Gj a base (sG g O c) O.reverse/\w.grownBy a (K g):=by
 rcases h.2 with⟨b,_⟩|⟨v,t,u,b,r,j,k,l,m,p⟩
 . cases b
 cases b
 have q:Go.Sort.Holds (Ac Ab) w g 0 (ints O).toArray:=holds_of_blockI j (by rw[AU,<-TZ];simpa using p);have i:=Ph g c (ints O) w q (by rw[AU];omega);rw[AU]at i;refine i.mono ?_;rintro e a ⟨rfl,n,s⟩;have f:a=Go.Sort.grow (Go.Sort.putRow (Ac Ab) (Go.Sort.ahead w n) g 0 (ints O).reverse.toArray) #[]:=by rw[Go.Sort.grow_empty];exact s
 refine⟨rfl,?_,?_⟩
 . have:=ownsRow_sortedI (w:=w) (base:=base) (g:=g) (cap:=c) (n:=n) (os:=#[]) (ss:=ints O) (ts:=(ints O).reverse) sP r j (by rw[AU];exact k) l m;rw[<-f,AU,<-TD,<-TZ]at this;unfold Gj;rw[mF];exact this
 rw[f];exact grownBy_sortedI _
theorem Um(g c base:Nat)(zs:List Int)(w:Y)(t:zs.length<=1048576)(h:w.ownsRow base 2 1 (sG g zs c) zs (zs.flatMap Ah)):
 Ae Tryz.prog 103 #[sG g zs c] w λe f=>e=.returned (.tuple #[])/\f.ownsRow base 2 1 (sG g zs c) zs ((zs.mergeSort λx y=>decide (x<=y)).flatMap Ah)/\w.grownBy f (K g):=by
 rcases h.2 with⟨a,_⟩|⟨s,q,r,a,p,b,i,j,k,l⟩
 . cases a
 cases a
 have m:Go.Sort.Holds (Ac Ab) w g 0 zs.toArray:=holds_of_blockI b (by rw[<-Dy];simpa using l);refine(Pn g c zs w m (lC.1 b).1 oM).mono ?_;rintro e f ⟨rfl,n,os,rfl⟩;refine⟨rfl,?_,grownBy_sortedI _⟩;rw[Dy];exact ownsRow_sortedI (nm zs _).length_eq p b i j k
theorem FR.jV{w u:Y}{E:Nat->List Nat}{X:List Nat}(h:FR w g 0 n E)(s:∀k,k< ↑w->k∉X->u.heap[k]?=w.heap[k]?)(t:g∉X)(z:∀b a m c,b<n->w.cell? ⟨g,b,M⟩=K (Z (K a) m c)->0<m->a.block∉X):FR u g 0 n E:= λb i=>by
 have l:∀{a:Addr} {x:J},w.cell? a=K x->a.block∉X->u.cell? a=K x:= λ{a x} q y=>by have:=s a.block (jC q) y;unfold World.cell? at*;rw[this];exact q
 obtain⟨a,c,h1,h2⟩:=h b i;rw[lY]at h1;refine⟨a,c,by rw[lY];exact l h1 t,h2.1,h2.2.imp id ?_⟩;rintro⟨f,r,c',e,q⟩;refine⟨f,r,c',e, λj v p=>l (q j v p) ?_⟩;simp only[jc,lO]at e;exact z b ⟨f,r,M⟩ _ c i (by rw[h1,e.1]) (by have:=(iV.1 p).1;rw[Sy]at this;omega)
structure GM(w u:Y)(n G gN cN gF gO cO gP:Nat)(E:Nat->List Nat)(S O:List Nat):Prop where
 ge: ↑w<=G
 gR:Ar u G #[sG gN n cN,sG gF n n,sG gO O cO,sG gP n n,sN] 134
 nx:FR u gN 0 n E
 fr:FR u gF 0 n (BF E n)
 vs:Vs E [] [] [0] S O
 ord:Gj u w (sG gO O cO) O.reverse
 pl:∀x,x∈O->u.cell? ⟨gP,x,M⟩=K (iZ (DF O x:Int))
 gG:Ad w w u
 ne:gN≠G/\gF≠G/\gO≠G/\gP≠G
 nn:∀b a m c,b<n->u.cell? ⟨gN,b,M⟩=K (Z (K a) m c)->0<m->a.block≠G
 nf:∀b a m c,b<n->u.cell? ⟨gF,b,M⟩=K (Z (K a) m c)->a.block≠G
theorem TX{w z u:Y}{n G j k cN g:Nat}{E:Nat->List Nat}{s:List J}{p:List (J×List Nat)}(h:NG w z u n G j (sG g n n) (sG k n cN) s p)(I: ↑s=n)(W: ↑p=n)(D:∀x,x<n->∃V,p[x]?=K (V,BF E n x))(F:∀x,x<n->∃a c,s[x]?=K (Z a (E x).length c)/\Iu w (Z a (E x).length c) (E x))(L:z.ownsRow w 2 1 (sG g n n) n (iv (λ_=>0) n))(O:g≠G)(N:g≠j):FR u k 0 n E/\FR u j 0 n (BF E n)/\(k≠G/\j≠G/\g≠G/\k≠g/\j≠g)/\(∀b a m c,b<n->u.cell? ⟨k,b,M⟩=K (Z (K a) m c)->0<m->a.block≠G/\a.block≠g)/\(∀b a m c,b<n->u.cell? ⟨j,b,M⟩=K (Z (K a) m c)->a.block≠G/\a.block≠g):=by
 have ae: ↑w<=g/\g<z.heap.size:=by obtain⟨h1,S,h2⟩:=AD L;exact⟨h1,(lC.1 h2).1⟩
 have hG:=h.lt;have y:=h.ie;rw[I]at y;have a8:=(AD y).1;have B:∀b,b<n->u.cell? ⟨k,b,M⟩=s[b]?:= λb f=>by have:=y.cellAt b oM;exact this
 have A:∀b,b<n->u.cell? ⟨j,b,M⟩=(p.map Prod.fst)[b]?:= λb f=>h.iy.cellAt b oM
 have H:j≠G:= λe=>FK h.gR h.iy dC (by rw[e];rfl)
 refine⟨λb f=> ?_, λb f=> ?_,⟨oM,H,O,oM,Ne.symm N⟩, λb a m c f i Q=> ?_, λb a m c f i=> ?_⟩
 . obtain⟨a,c,h1,h2⟩:=F b f;exact⟨a,c,by rw[lY,B b f];exact h1,Rd.bM h2 h.gG lR⟩
 . obtain⟨V,l⟩:=D b f;have t:=h.gW.own (V,ints (BF E n b)) (lK.2 ⟨(V,_),i8 l,rfl⟩);obtain⟨a,c,e⟩:=Az t;simp only[AU]at e;subst e;refine⟨a,c,by rw[lY,A b f,lG,l];rfl,?_⟩;have:=Rd.gM t;simp only[AU]at this;rw[<-Dk]at this;exact this
 . rw[B b f]at i;obtain⟨a',c',h1,h2⟩:=F b f;rw[h1]at i;simp only[kK,jc]at i;obtain⟨rfl,rfl,rfl⟩:=i;rcases h2.2 with⟨e0,_⟩|⟨T,o',c',C,q⟩
   . omega
   simp only[jc,kK,lO]at C;obtain⟨rfl,rfl⟩:=C;obtain⟨x,R⟩:∃x,(E b)[0]?=K x:=⟨_,an Q⟩;have:=jC (q 0 _ (Rr R));simp only[]at this⊢;omega
 rw[A b f]at i;obtain⟨V,l⟩:=D b f;rw[lG,l]at i;simp only[nW,kK]at i;subst i;have t:=h.gW.own _ (lK.2 ⟨(_,_),i8 l,rfl⟩);have:=(t.lt a.block rfl).1;omega
structure Wq(w u3 u:Y)(n G gN cN gF gO cO gP:Nat)(R:List Nat):Prop where
 gR:Ar u G #[sG gN n cN,sG gF n n,sG gO R cO,sG gP n n,sN] 134
 ord:Gj u u3 (sG gO R cO) R
 gY:u.ownsRow w 2 1 (sG gP n n) n (iv (λ_=>0) n)
 fx:∀k,k< ↑u3->k≠G->k≠gP->u.heap[k]?=u3.heap[k]?
 size:(u3:Nat)<= ↑u
 gG:Ad w w u
theorem Wq.rev{w a u l:Y}{n G p cN m b g i:Nat}(h:Wq w a u n G p cN m b g i O)(A: ↑a<=b)(y:G< ↑a)(z:i< ↑a)(B:(w:Nat)<= ↑a)(t:Gj l a (sG b O g) O.reverse)(f:u.grownBy l (K b)):Wq w a l n G p cN m b g i O.reverse:=by
 refine⟨?_,by rw[mF];exact t,BG h.gY f (λq v e=>by simp only[Value.ownBlock,kK]at v;have:=kN e;omega), λk r h1 h2=> ?_,kT h.size f.size,h.gG.grown f h.gG.size (λj s=>by cases s;omega)⟩
 . rw[mF];exact h.gR.gb f (λe=>by have:=kN e;omega)
 rw[f.block k (lm r h.size) (λe=>by have:=kN e;omega)];exact h.fx k r h1 h2
structure VU(w u7 u:Y)(n gP:Nat)(O:List Nat)(k:Nat):Prop where
 row:u.ownsRow w 2 1 (sG gP n n) n (iv (K8 O k) n)
 fx:∀k,k< ↑u7->k≠gP->u.heap[k]?=u7.heap[k]?
 gG:Ad w w u
theorem VU.set{w e u:Y}{n a k x:Nat}(h:VU w e u n a O k)(f:O.Nodup)(i:O.reverse[k]?=K x):VU w e (u.setCell ⟨a,x,M⟩ (iZ (k:Int))) n a O (k+1):=by refine⟨?_, λk g b=>by rw[lZ u _ k _ b];exact h.fx k g b,h.gG.setCell (AD h.row).1 _⟩;have:=(h.row.stored x (iZ (k:Int))).1;rw[TF (MH f i n)]at this;exact this
theorem VU.cell{w f u:Y}{n b k:Nat}(h:VU w f u n b O k){a:Addr}{x:J}(e:f.cell? a=K x)(g:a.block≠b):u.cell? a=K x:=by have:=h.fx a.block (jC e) g;unfold World.cell? at*;rw[this];exact e
theorem WF{w e Q u:Y}{n G j cN i y v f:Nat}{E:Nat->List Nat}{S:List Nat}(r:Wq w e Q n G j cN i y v f O.reverse)(t:VU w Q u n f O O)(X:Vs E [] [] [0] S O)(D:∀x∈O,x<n)(R: ↑w<=G)(ae:G< ↑e)(ah:f< ↑e)(a8:(w:Nat)<= ↑e)(B:FR e j 0 n E)(C:FR e i 0 n (BF E n))(ne:j≠G/\i≠G/\f≠G/\j≠f/\i≠f)(N:∀b a m c,b<n->e.cell? ⟨j,b,M⟩=K (Z (K a) m c)->0<m->a.block≠G/\a.block≠f)(P:∀b a m c,b<n->e.cell? ⟨i,b,M⟩=K (Z (K a) m c)->a.block≠G/\a.block≠f):GM w u n G j cN i y v f E S O:=by
 have aj:=(AD r.ord).1;have fx:∀k,k< ↑e->k∉[G,f]->u.heap[k]?=e.heap[k]?:= λk H s=>by simp only[lA,lW,mZ,not_or]at s;rw[t.fx k (lm H r.size) s.2];exact r.fx k H s.1 s.2
 have F:∀(g b:Nat),g∉[G,f]->g< ↑e->u.cell? ⟨g,b,M⟩=e.cell? ⟨g,b,M⟩:= λg b s W=>by unfold World.cell?;rw[fx g W s]
 have V:j< ↑e\/n=0:=by
  by_cases q:n=0
  . exact .inr q
  obtain⟨a,c,h1,_⟩:=B 0 oM;exact .inl (jC h1)
 have U:i< ↑e\/n=0:=by
  by_cases q:n=0
  . exact .inr q
  obtain⟨a,c,h1,_⟩:=C 0 oM;exact .inl (jC h1)
 have I:j∉[G,f]:=by simp[ne]
 have L:i∉[G,f]:=by simp[ne]
 have kb:Ar u G #[sG j n cN,sG i n n,sG y O v,sG f n n,sN] 134:=by have h:=r.gR;rw[mF]at h;unfold Ar at*;rw[t.fx G r.gR.lt (Ne.symm ne.2.2.1)];exact h
 refine⟨R,kb,B.jV fx I (λb a m c p l z=>by have:=N b a m c p l z;simp[this]),C.jV fx L (λb a m c p l _=>by have:=P b a m c p l;simp[this]),X,?_, λx A=> ?_,t.gG,⟨ne.1,ne.2.1,oM,ne.2.2.1⟩, λb a m c p l z=> ?_, λb a m c p l=> ?_⟩
 . have h:=r.ord;have h2:Gj u e (sG y O.reverse v) O.reverse:=h.fx t.fx (λg T=>by simp only[Value.ownBlock,kK]at T;omega);rw[mF]at h2;exact Ba h2 a8
 . have:=t.row.cellAt x (by have:=D x A;omega);rw[Ms _ _ _ (D x A),O9 O x A]at this;exact this
 . rw[F j b I (V.resolve_right oM)]at l;exact(N b a m c p l z).1
 rw[F i b L (U.resolve_right oM)]at l;exact(P b a m c p l).1
structure UH(F:List (List Int×J))(nc n:Nat)(f:MF):Prop where
 l0:0<f.ch.length
 l1:f.ch.length<=1024
 wf:∀x∈f.ch,Tt x
theorem UH.mono{F:List (List Int×J)}(h:UH F a n f)(e:a<=b):UH F b n f:=⟨h.l0,h.l1,h.wf⟩
structure GQ(F:List (List Int×J))(nc n i:Nat)(G:List (MF×VF)):Prop where
 len: ↑G=n
 fn:∀y∈G,SZ y.1
 m0:∀y,G[0]?=K y->Js y.1
 cd:∀j y,j<i->G[j]?=K y->UH F nc n y.1
def Xj(i:Nat)(G:List (MF×VF))(c:MT):Prop:=c.wf/\(0<=c.func/\0<=c.head)/\c.func<i/\∃y,G[c.func.toNat]?=K y/\c.head<y.1.ch.length/\Ay y.1 c.gQ=3
structure KQ(i:Nat)(G:List (MF×VF))(cs:List MC)(ts:List MT):Prop where
 cl:cs.length<=64
 cw:∀x∈cs,x.wf/\CR x
 bk:∀t,Ty t->∃x∈cs,x.type=t
 tl:ts.length<=64
 tw:∀x∈ts,Xj i G x
 ri:ts.Pairwise Ih
def FF(F:List (List Int×J)):Prop:=F.length=3/\(∀x∈F,x.1.length<=100)/\∀x∈F,∀z∈x.1,Ty z
section
variable {w u:Y} {s:Ci} {p:Int} {v:VP} {F:List (List Int×J)} {cs:List MC} {G:List (MF×VF)} {ts:List MT} {P:Nat} {E:List AB}
theorem GS.new{L0:Int}(h:Bs w u s p (Al v F cs G ts (gb P v::E)))(e:FF F)(g:GQ F cs n i G)(b:KQ i G cs ts)(r:i<n)(y:n<=4)(m:0<=L0/\L0<=300):GS w (u.alloc (.cells #[.pointer (K ⟨s.S,0,M⟩),.pointer P,iZ (i:Int),sN,iZ L0,iZ 0,iZ 0] 109)) s ⟨F,G,P,u,i,L0,cs,[]⟩ p L0 0 64 E:=by
 have h1:=(h.nil 60 4).box 109 7 [.pointer (K ⟨s.S,0,M⟩),.pointer P,Ac Ab (i:Int),sN,Ac Ab L0,Ac Ab 0,Ac Ab 0] rfl
 have t:=g.len
 refine⟨⟨e.1,e.2.1,e.2.2,by show i< ↑G;omega,by show G.length<=32;omega,g.fn,m⟩,v,sN,⟨[],cs,ts⟩,⟨h1.perm ?_⟩,⟨sP,b.cl,Nat.le_refl _,b.tl,(λx f=>by cases f),b.cw,b.bk, λx f=> ?_,b.ri, λj q=>by cases q⟩⟩
 . classical
   rw[oW]
   intro a
   simp only[Al,BI,S5,li,lp,mJ,mM,mD]
   omega
 obtain⟨h1,h2,k,l⟩:=b.tw x f
 exact⟨h1,h2,.inl ⟨k,l⟩⟩
end
section
variable {w u:Y} {s:Ci} {k:GK} {p left lv:Int} {nt:Nat} {D:List AB}
theorem GS.fnr(h:GS w u s k p left lv nt D):∃(gf cf:Nat) (r:Int),u.cell? ⟨k.P,2,M⟩=K (sG gf k.G cf)/\u.cell? ⟨gf,k.fi*4+1,M⟩=K (iZ r)/\0<=r/\r<=3:=by obtain⟨v,z,g,h1,h2⟩:=h.ex;obtain⟨y,b⟩:∃y,k.G[k.fi]?=K y:=⟨_,an h.ok.fi⟩;obtain⟨gf,cf,i,l,al,cl,f,j,e,m,⟨f0,f1,f2,f3⟩,n,q,t⟩:=h1.bl.fn b;have a:=h1.ia.2.2.1;rw[e]at a;exact⟨gf,cf,_,a,f1,(h.ok.fn y (i8 b)).rs⟩
theorem Ul{G:List (MF×VF)}{b a c0:J}(g:G[i]?=K (f,(⟨b,a,c0⟩:VF))):G=G.take i++(f,(⟨b,a,c0⟩:VF))::G.drop (i+1)/\(G.take i).length=i:=by obtain⟨h,e⟩:=iV.1 g;exact⟨by rw[<-e,List.getElem_cons_drop,mx],by rw[lj];omega⟩
theorem NC{G:List (MF×VF)}{j:Nat}{y:MF×VF}(b:i< ↑G):(G.take i++y::G.drop (i+1))[j]?=if j=i then K y else G[j]?:=by
 have a:(G.take i).length=i:=by rw[lj];omega
 by_cases h:j=i
 . rw[lS h,h,lN oM,a];simp
 rw[lE h];by_cases h2:j<i
 . rw[ld oM,List.getElem?_take,lS h2]
 rw[lN oM,a,show j-i=(j-i-1)+1 from oM,kI,ny];congr 1
 omega
theorem GQ.set{F:List (List Int×J)}{m l n i k q:Nat}{G:List (MF×VF)}{p:VF}{v u z:J}(h:GQ F m n i G)(t:m<=l)(g:G[q]?=K (f,p))(r:UH F l n ⟨f.d5,f.gz,f.en,code⟩)(A:k<=i\/q=i/\k=i+1):GQ F l n k (G.take q++((⟨f.d5,f.gz,f.en,code⟩:MF),(⟨v,u,z⟩:VF))::G.drop (q+1)):=by
 have s:=(iV.1 g).1;have C:=h.len;refine⟨by rw[kJ,lh,lj,mO];omega, λy a=> ?_, λy a=> ?_, λj y B a=> ?_⟩
 . rcases kS.1 a with e|e
   . exact h.fn y (m6 e)
   rcases lA.1 e with e|e
   . rw[e];have b:=h.fn _ (i8 g);exact⟨b.pl,b.pt,b.rs,b.lc⟩
   exact h.fn y (ou e)
 all_goals
  rw[NC s]at a;split at a
 . (cases a);have:=h.m0 (f,p) (by rw[show 0=q by assumption];exact g);exact this
 . exact h.m0 y a
 . (cases a);exact r
 exact(h.cd j y oM a).mono t
theorem Xj.set{G:List (MF×VF)}{m:VF}{k j l:J}{c:MT}(h:Xj i G c)(g:G[q]?=K (f,m))(r:¬c.func=q)(p:i<=a):Xj a (G.take q++((⟨f.d5,f.gz,f.en,code⟩:MF),(⟨k,j,l⟩:VF))::G.drop (q+1)) c:=by obtain⟨h1,h2,n,y,b,e⟩:=h;exact⟨h1,h2,oM,y,by rw[NC (iV.1 g).1,lE oM];exact b,e⟩
theorem RN.done(h:RN w u s k p left lv 64 D ⟨29,0,0,0⟩)(T:GQ k.F k.nc n k.fi k.G)(hl:-700<=left):∃(gf cf d:Nat) (c0:J) (a:Option Addr) (c:Nat),(u.cell? ⟨k.P,2,none⟩=K (sG gf k.G.length cf)/\u.cell? ⟨k.Gb,3,none⟩=K (Z a d c)/\u.cell? ⟨gf,k.fi*4+3,none⟩=K c0/\u.frozen? ⟨gf,k.fi*4+3,none⟩=false)/\∃v cs G ts,Bs w (u.setCell ⟨gf,k.fi*4+3,none⟩ (Z a d c)) s p (Al v k.F cs G ts (gb k.P v::D))/\GQ k.F cs.length n (k.fi+1) G/\KQ (k.fi+1) G cs ts:=by
 obtain⟨A,v,vc,g,h1,h2⟩:=h;obtain⟨⟨f,V,U,c0⟩,b⟩:∃y,k.G[k.fi]?=K y:=⟨_,an A.fi⟩;obtain⟨gf,cf,ap,cp,al,cl,X,cc,r,e2,⟨f0,f1,f2,f3⟩,o1,o2,o3⟩:=h1.bl.fn b;obtain⟨⟨a,c,Q⟩,_⟩:=h1.bl.ie;obtain⟨C,R⟩:=Ul b;have ae:=h2.len;have a8:=A.l0;have B:=h1.ia.2.2.1;have t:=h1.cells.2.2.2.1;rw[r]at B;have z:=h1.bl;rw[C]at z;obtain⟨j,m,q⟩:=z.jr (by rw[r,<-C]);rw[R]at j m q;rw[Q]at j t;have O:=j.perm (M:=Al v k.F g.aC (k.G.take k.fi++((⟨f.d5,f.gz,f.en,g.ch++[⟨29,0,0,0⟩]⟩:MF),(⟨V,U,Z a (g.ch++[(⟨29,0,0,0⟩:MI)]).length c⟩:VF))::k.G.drop (k.fi+1)) g.dr (gb k.P v::D)++[S5 s k (Z a (g.ch++[(⟨29,0,0,0⟩:MI)]).length c) (left-1) lv]) (by
  classical
  rw[oW];intro x;simp only[Al,li,lp,mJ];omega)
 have S:UH k.F g.aC n ⟨f.d5,f.gz,f.en,g.ch++[⟨29,0,0,0⟩]⟩:=by
  refine⟨sP,oT, λx l=> ?_⟩;rcases kS.1 l with e|e
  . exact h2.wc x e
  rw[lT.1 e];exact SX oM oM oM oM
 refine⟨gf,cf,_,c0,a,c,⟨B,t,m,q⟩,v,_,_,_,O.sub (nB _ _),T.set h2.lc b S (.inr ⟨rfl,rfl⟩),⟨h2.nc,h2.wk,h2.bk,h2.nt, λx l=> ?_,h2.ri⟩⟩;obtain⟨E,H,⟨I,L⟩|⟨I,L,y,N,W⟩⟩:=h2.wt x l
 . exact Xj.set (i:=k.fi) ⟨E,H,I,L⟩ b oM oM
 rw[b]at N;cases N
 refine⟨E,H,oM,_,(NC (iV.1 b).1).trans (lS oM),?_,W⟩;simp only[kJ,kQ];omega
end
def VS(n A P:Int):Prop:=∀ ⦃w u:Y⦄ ⦃s:Ci⦄ ⦃k:GK⦄ ⦃p left a:Int⦄ ⦃b:Nat⦄ ⦃D:List AB⦄ ⦃t deep:Int⦄,Aa (GS w u s k p left a b D)->deep<=n-> -1000000<=deep->p+A+300<=1000000000000-> -600000+10*P<=left->1<=t/\t<=3->Ae Tryz.prog 47 #[.pointer (K ⟨k.Gb,0,M⟩),iZ t,iZ deep] u (NU w s k p left a b D A P)
theorem NN{n A P:Int}(H:Aa (VS n A P)){w u:Y}{s:Ci}{k:GK}{p left a:Int}{D:List AB}{t:Int}(E:Aa (GS w u s k p left a b D))(g:1<=t/\t<=3:=by omega)(h1:deep<=n:=by omega)(h2:-1000000<=deep:=by omega)(e:p+A+300<=1000000000000:=by omega)(f:-600000+10*P<=left:=by omega):Ae Tryz.prog 47 #[.pointer (K ⟨k.Gb,0,M⟩),iZ t,iZ deep] u (NU w s k p left a b D A P):=H.o E h1 h2 e f g
theorem VY{n A P:Int}(H:Aa (VS n A P)){w u:Y}{s:Ci}{k:GK}{p left r:Int}{D:List AB}{f:Nat}(E:Aa (GS w u s k p left r t D))(g:f< ↑k.G)(hA:8<=A/\A<=100000:=by omega)(hP:1<=P/\P<=100:=by omega)(hd:deep<=n+1:=by omega)(aj:-900000<=deep:=by omega)(hn:n<=1000:=by omega)(hp:p+3*A+300<=1000000000000:=by omega)(hl:-600000+10*(3*P+1)<=left:=by omega):
 Ae Tryz.prog 83 #[.pointer (K ⟨k.Gb,0,M⟩),iZ (f:Int),iZ deep] u (NU w s k p left r t D (3*A) (3*P+1)):=by
 have am:(f:Int)<(k.G:Int):=oM;have aw:=E.o.le;have R:=E.o.ok.gl;obtain⟨ah,ae,xs,a0,c0,C,_,_,_,_,aD,F⟩:=E.o.fn g;have z:=Ap (ji C F);have aA:IntKind.i64.wrap (deep-1)=deep-1:=mY _ ⟨oM,oM⟩;clear C F;go_enter Tryz.func83,Tryz.ntmps83;go_wp2_with fail;go_loopw [6] (λi wr=>∃(j:Nat) (y q:Int),j<= ↑xs/\i=iZ j/\(p<=y/\y<=p+j*A/\left-j*P<=q/\q<=left-j)/\Aa (GS w wr s k y q r t D)) (λi _=> ↑xs-(intOf i).toNat)
 case atStart=>exact⟨0,p,left,oM,rfl,oM,E⟩
 obtain⟨j,p1,aE,hj,rfl,g1,E⟩:=hrel;obtain⟨gf,cf,a8,a,c,m,d0,d1,d2,h,_,_⟩:=E.o.fn g;rw[z.o.1]at m;obtain rfl:xs=a8:=by simpa using m
 clear m;have ao:(j:Int)*A<=3*A:=nZ oM oM;have aq:(j:Int)*P<=3*P:=nZ oM oM;by_cases B:j< ↑xs
 case pos=>
  have au:(j:Int)<(xs:Int):=oM;have S:((j:Int)+1)*A<=3*A:=nZ oM oM;have T:((j:Int)+1)*P<=3*P:=nZ oM oM;have b:∀X:Int,((j:Int)+1)*X=j*X+X:= λX=>by rw[Int.add_mul,Int.one_mul]
  rw[b]at S T;obtain⟨x,l⟩:∃x,xs[j]?=K x:=⟨_,an B⟩;have I:=z.o.2 x (i8 l);obtain⟨ga,oa,rfl,kz⟩:=QS h B l;clear l h;have Q:=Ap (NN H E I (deep:=deep-1) oM oM oM oM);clear I;generalize N:(j:Int)*A=U at*;generalize O:(j:Int)*P=V at*;go_wp2_with fail;refine Q.o.mono ?_;rintro e u2 ⟨rfl,p2,W,f1,L⟩;go_wp2_with fail;go_roundw;case rel=>exact⟨j+1,p2,W,oM,by go_num,by rw[Int.natCast_add,Int.natCast_one,b,b,N,O];omega,L⟩
  exact oI
 generalize (j:Int)*A=U at*;generalize (j:Int)*P=V at*;clear h;go_wp2_with fail;refine(FO E (YM g R)).mono ?_;rintro e u ⟨n,rfl,_,E⟩;exact gE
theorem YK(r:Int)(h:0<=r/\r<5):∃v:Int,(#[iZ 17,iZ 18,iZ 13,iZ 14,iZ 15]:Array J)[r.toNat]?=K (iZ v)/\(v=17\/v=18\/v=13\/v=14\/v=15):=by
 obtain rfl|rfl|rfl|rfl|rfl:r=0\/r=1\/r=2\/r=3\/r=4:=oM
 all_goals exact⟨_,rfl,oM⟩
theorem YJ(r:Int)(h:0<=r/\r<3):∃v:Int,(#[iZ 1,iZ 2,iZ 3]:Array J)[r.toNat]?=K (iZ v)/\1<=v/\v<=3:=by
 obtain rfl|rfl|rfl:r=0\/r=1\/r=2:=oM
 all_goals exact⟨_,rfl,oM⟩
theorem XU{w u:Y}{s:Ci}{k:GK}{p left f:Int}{D:List AB}(E:Aa (GS w u s k p left f g D))(xs:Array J){n:Int}(m:p+1<=1000000000000:=by omega)(j:1<=n:=by omega)(l:n<=1000000:=by omega):Ae Tryz.prog 26 #[.pointer (K ⟨s.S,0,M⟩),Ac Ab n] (u.alloc (.cells xs 2)) λe a=>∃r:Int,e=.returned (iZ r)/\(0<=r/\r<n)/\Aa (GS w a s k (p+1) left f g D)/\a.cell? ⟨u,r.toNat,M⟩=xs[r.toNat]?:=
 have t:=E.o.src.lt
 (AA (E.o.bM (Ag _ _)).src m j l).mono λe a ⟨r,i,h1,h,q,b⟩=>⟨r,h,⟨i,h1⟩,(E.o.bM (Ag _ _)).draw q b,by rw[b.cell sP (by show ↑u≠s.S;omega),nO _ _ _ _ _ _ (nJ _ _)]⟩
theorem opG{n A P:Int}(H:Aa (VS n A P)){w u:Y}{s:Ci}{k:GK}{p left z t deep:Int}{B:Nat}{D:List AB}(E:Aa (GS w u s k p left z B D))(ht:1<=t/\t<=3:=by omega)(hA:8<=A/\A<=100000:=by omega)(hP:1<=P/\P<=100:=by omega)(hd:deep<=n:=by omega)(a8:-900000<=deep:=by omega)(hn:n<=1000:=by omega)(hp:p+2*A+310<=1000000000000:=by omega)(hl:-600000+10*(3*P+1)<=left:=by omega):
 Ae Tryz.prog 85 #[.pointer (K ⟨k.Gb,0,M⟩),iZ t,iZ deep] u (NU w s k p left z B D (2*A+8) (2*P+1)):=by
 obtain⟨_,_,q0,_⟩:=E.o.cells;have ae:=E.o.le;go_enter Tryz.func85,Tryz.ntmps85;obtain rfl|U:t=1\/t=2\/t=3:=oM
 case inl=>
  go_wp2_with fail;refine(QF E).mono ?_;rintro e u ⟨r,rfl,a,E⟩;clear q0;rcases(show r=0\/r=1\/r=2\/r=3 from oM)with rfl|rfl|rfl|rfl
  focus
   go_wp2_with fail;refine(QF E).mono ?_;rintro e u ⟨r,rfl,a,E⟩;iterate 2
    go_wp2_with fail;refine(NN H E).mono ?_;rintro e u ⟨rfl,_,_,_,E⟩
   go_wp2_with fail;refine(FO E okE).mono ?_;rintro e u ⟨n,rfl,_,E⟩;exact gE
  focus
   go_wp2_with fail;refine(QF E).mono ?_;rintro e u ⟨r,rfl,a,E⟩;iterate 2
    go_wp2_with fail;refine(NN H E).mono ?_;rintro e u ⟨rfl,_,_,_,E⟩
   go_wp2_with fail;refine(FO E ok5).mono ?_;rintro e u ⟨n,rfl,_,E⟩;exact gE
  focus
   go_wp2_with fail;refine(NN H E).mono ?_;rintro e u ⟨rfl,_,_,_,E⟩;go_wp2_with fail;refine(FO E Yl).mono ?_;rintro e u ⟨n,rfl,_,E⟩;exact gE
  iterate 2
   go_wp2_with fail;refine(NN H E).mono ?_;rintro e u ⟨rfl,_,_,_,E⟩
  go_wp2_with fail;refine(QF E).mono ?_;rintro e u ⟨r,rfl,a,E⟩;go_wp2_with fail;refine(FO E (okB a)).mono ?_;rintro e u ⟨n,rfl,_,E⟩;exact gE
 rcases U with rfl|rfl
 iterate 2
  go_wp2_with fail;refine(XM E).mono ?_;rintro e u ⟨b,rfl,E⟩;cases b
  rotate_left;go_wp2_with fail;refine(NN H E).mono ?_;rintro e u ⟨rfl,_,_,_,E⟩;go_wp2_with fail;first
   | refine(XM E).mono ?_
     rintro e u ⟨b,rfl,E⟩;(cases b);rotate_left;go_wp2_with fail;refine(FO E Yl).mono ?_
   |refine(FO E XX).mono ?_
  rintro e u ⟨n,rfl,_,E⟩;exact gE
 iterate 2
  focus
   go_wp2_with fail;refine(NN H E).mono ?_;rintro e u ⟨rfl,_,_,_,E⟩;go_wp2_with fail;refine(XM E).mono ?_;rintro e u ⟨b,rfl,E⟩;(cases b);(case' false=>go_wp2_with fail;refine(NN H E).mono ?_;rintro e u ⟨rfl,_,_,_,E⟩);(case' true=>go_wp2_with fail;refine(FO E XX).mono ?_;rintro e u ⟨n,rfl,_,E⟩);all_goals
    go_wp2_with fail;refine(QF E).mono ?_;rintro e u ⟨r,rfl,a,E⟩;go_wp2_with fail;refine(FO E (okA a)).mono ?_;rintro e u ⟨n,rfl,_,E⟩;exact gE
 go_wp2_with fail;refine(NN H E).mono ?_;rintro e u ⟨rfl,p4,l4,_,E⟩;go_wp2_with fail;refine(XU E _).mono ?_;rintro e u5 ⟨r,rfl,a,E,m⟩;obtain⟨vl,X,V⟩:=YK r a;rw[X]at m;go_wp2_with fail;refine(X4 E).mono ?_;rintro e i ⟨n',rfl,E⟩;obtain⟨g,l,f,R,c3,C,F,G,y⟩:=RN.at (t:=3) E.o oM;have j:Aa (∀W,Ad i i W->W.cell? ⟨k.Gb,3,M⟩=K (sG g (f+1) l)):= λW N=>Ak N c3
 obtain⟨d,q⟩:∃d:Nat,d=f+1:=⟨_,rfl⟩;rw[<-q]at j;have T:IntKind.i64.wrap ((d:Int)-1)=(f:Int):=by rw[mY _ ⟨oM,oM⟩];omega
 have Q:(f:Int)<(d:Int):=oM;have O:(0:Int)<=(f:Int):=oM;have I:=Ap y;clear y c3 q R m;go_upto_region 28 with fail
 refine wp_region_held_drew (S:= λW=>W.cell? ⟨k.Gb,3,M⟩=K (sG g d l)) kR (by exact j.o _ (Aj _)) (λL=> ?_);refine AE 0 ?_;refine AE 1 ?_;refine AE 2 ?_;refine AE 3 ?_;refine AE 4 ?_;refine AE 5 ?_;refine AE 6 ?_;refine AE 7 ?_;refine AE 8 ?_;refine AE 9 ?_;refine AE 10 ?_;refine AE 11 ?_;refine wpAnyH_done kR ?_ _;clear L T Q O;go_simp;have ah:i.drew.cell? ⟨g,f*4,M⟩=K (iZ vl):=C;have aj:i.drew.cell? ⟨g,f*4+1,M⟩=K (iZ 0):=F;have am:i.drew.frozen? ⟨g,f*4+1,M⟩=false:=G;clear C F G j;rcases V with rfl|rfl|rfl|rfl|rfl
 iterate 2
  have E:=Ap ((E.o.gs XX).bM (Aj _));exact gE
 all_goals
  have E:=Ap ((I.o Yl).bM (Aj _));exact gE
structure PB(n:Nat)(m:MP):Prop where
 fl:1<=m.cC.length/\m.cC.length<=32
 rl:m.a7.length<=3
 rg:∀r∈m.a7, ↑r<=n
 cl: ↑m.aC<=n
 tl: ↑m.dr<=n
 fs:∀f∈m.cC, ↑f.d5<=n/\ ↑f.en<=n/\ ↑f.ch<=n
 wf:m.wf
theorem PB.small{m:MP}(h:PB n m)(a:n<=1048576):m.small:=⟨by have:=h.rl;omega, λr e=>kT (h.rg r e) a,kT h.cl a,by have:=h.fl;omega, λf b=>⟨kT (h.fs f b).1 a,kT (h.fs f b).2.1 a,kT (h.fs f b).2.2 a⟩,kT h.tl a⟩
def JU(s:Ci)(p m:Int)(n:Nat)(u:Y)(e:Ending)(a:Y):Prop:=∃(v:VP) (x:MP),e=.returned (.agg #[v.r,v.k,v.f,v.t])/\Cb u a a v x/\PB n x/\Dr s p m u a
def Xv(s:Ci)(p m:Int)(n:Nat)(u:Y)(e:Ending)(a:Y):Prop:=∃(v:VP) (x:MP),e=.returned (.agg #[v.r,v.k,v.f,v.t])/\Cb u a a v x/\PB n x/\x.a7.length=3/\Dr s p m u a
def UR(s:Ci)(u:Y)(v:VP)(m:MP):Prop:=∃F G,F.map Prod.fst=m.a7/\G.map Prod.fst=m.cC/\∀a,AM s.S u a->S4 a v m F G
theorem UR.rd{s:Ci}{u:Y}{v:VP}{m:MP}(h:UR s u v m):∀a,AM s.S u a->Cz a v m:= λa e=>by obtain⟨F,G,h1,h2,b⟩:=h;have q:=b a e;exact⟨⟨F,h1,q.r,q.rr⟩,q.k,⟨G,h2,q.f,q.ff⟩,q.t⟩
def Q5:Prop:=∀(u:Y) (s:Ci) (p:Int) (v:VP) (m:MP) (n:Nat),DE u s.S s.a s.len s.cap p->p+100<=1000000000000->UR s u v m->PB n m->m.a7.length=3->n<=200000->Ae Tryz.prog 25 #[.pointer (K ⟨s.S,0,M⟩),.agg #[v.r,v.k,v.f,v.t]] u (JU s p 100 (n+1) u)
theorem PB.mono{n':Nat}{x:MP}(h:PB n x)(a:n<=n'):PB n' x:=⟨h.fl,h.rl, λr e=>kT (h.rg r e) a,kT h.cl a,kT h.tl a, λf b=>⟨kT (h.fs f b).1 a,kT (h.fs f b).2.1 a,kT (h.fs f b).2.2 a⟩,h.wf⟩
theorem Cz.jn{w:Y}{v:VP}{x:MP}(h:Cz w v x):∃a c1 a2 c2 b c3 a4 c4,v=⟨Z a x.a7 c1,Z a2 x.aC c2,Z b x.cC c3,Z a4 x.dr c4⟩:=by obtain⟨v1,v2,v3,j⟩:=v;obtain⟨xs,_,h1,_⟩:=h.a7;obtain⟨k,_,i,_⟩:=h.cC;obtain⟨a,c1,f⟩:=h1.fu;obtain⟨a2,c2,g⟩:=h.aC.fu;obtain⟨b,c3,e3⟩:=i.fu;obtain⟨a4,c4,e4⟩:=h.dr.fu;simp only[]at f g e3 e4;subst f g e3 e4;exact⟨a,c1,a2,c2,b,c3,a4,c4,rfl⟩
theorem TP(l:List MC):∀u∈l.flatMap MC.cells,u.oneCell'=true:= λu b=>by obtain⟨x,_,a⟩:=mN.1 b;simp only[MC.cells,lA,lW,mZ]at a;rcases a with rfl|rfl<;>rfl
structure WI where
 c:Nat->Bool
 r:Nat->List Int
 d:Nat
def Fk(a:List MB)(b:Nat):Nat:=match a[b]? with|some m=>m.gK.toNat|none=>0
def IF(C:Nat->Bool)(t:Nat):Nat->Bool:= λj=>if j=t then true else C j
def Ev(a:List MB):List Nat->List Int->(Nat->Bool)->(Nat->List Int)->Option ((Nat->Bool)×(Nat->List Int))
 |[],_,C,R=>K (C,R)
 |t::r,sh,C,R=>if C t=true then(if R (Fk a t)=sh then Ev a r sh C R else M)else Ev a r sh (IF C t) (CE R (Fk a t) sh)
abbrev Nc:=Sum (Int×Nat) WI
def Gc(p:MP)(f:MF)(a:List MB)(m:MB)(s:WI):Nc:=match Cv p f (m.last-m.gK+1).toNat m.gK.toNat (s.r m.gK.toNat) s.r s.d with
 |.inl e=>.inl e
 | .inr (sh,R,D)=>match Ev a (m.next.map Int.toNat) sh s.c R with
   |none=>.inl (4,m.last.toNat)
   |some (C,R')=>.inr ⟨C,R',D⟩
def Gd(p:MP)(f:MF)(a:List MB):List Nat->WI->Nc
 |[],s=>.inr s
 | b ::r,s=>match a[b]? with
   |none=>.inr s
   | some m=>match Gc p f a m s with
     |.inl e=>.inl e
     |.inr s'=>Gd p f a r s'
def RG:WI:=⟨λb=>decide (b=0), λ_=>[],0⟩
def We(n:Nat):Nc->RQ
 |.inl (c,a)=>⟨c,(a:Int),0,[]⟩
 |.inr s=>⟨0,0,(s.d:Int),(List.range n).map s.r⟩
theorem Ug(p:MP)(f:MF)(c:Nat):∀(a:Nat) (sh:List Int) (T g:Nat->List Int) (D:Nat),a+c<= ↑f.ch->(∀e,Cv p f c a sh T D=.inl e->Cv p f c a sh g D=.inl e)/\∀k b i,Cv p f c a sh T D=.inr (k,b,i)->∃l,Cv p f c a sh g D=.inr (k,l,i)/\(∀j,j<a\/a+c<=j->b j=T j/\l j=g j)/\(∀j,a<=j->j<a+c->b j=l j)/\(0<c->b a=sh):=by
 induction c with
 | zero=>intro a sh T g D r;refine⟨λe h=>by simp[Cv]at h, λk b i h=> ?_⟩;simp only[Cv,Sum.inr.injEq,Prod.mk.injEq]at h;obtain⟨rfl,rfl,rfl⟩:=h;exact⟨g,rfl, λj _=>⟨rfl,rfl⟩, λj h1 h2=>oM, λh=>oM⟩
 | succ c v=>
   intro a sh T g D r;obtain⟨x,s⟩:∃x,f.ch[a]?=K x:=⟨_,an oM⟩;simp only[Cv,s];by_cases n:A6 p f x sh=0
   . rw[lS n,lS n];obtain⟨t,u⟩:=v (a+1) (Bv p f x sh) (CE T a sh) (CE g a sh) (max D (Bv p f x sh).length) oM;refine⟨t, λk b i h=> ?_⟩;obtain⟨l,h1,h2,q,y⟩:=u k b i h;have m:=h2 a (.inl oM);simp only[CE,if_true]at m;refine⟨l,h1, λj z=> ?_, λj A B=> ?_, λ_=>m.1⟩
     . have:=h2 j oM;simp only[CE]at this;rw[lE oM,lE oM]at this;exact this
     by_cases e:j=a
     . subst e;rw[m.1,m.2]
     exact q j oM oM
   rw[lE n,lE n];exact⟨λe h=>h, λk b i h=>by cases h⟩
structure Nb(bs:List MB)(done:List Nat)(s:WS)(s':WI):Prop where
 c:∀b,s'.c b=(s.c b).isSome
 d:s'.d=s.d
 dn:∀b∈done,b< ↑bs/\s.c b=K (s.t (Fk bs b))
 wt:∀b,b< ↑bs->b∉done->∀sh,s.c b=K sh->s'.r (Fk bs b)=sh
 eq:∀j,(∀b,b< ↑bs->b∉done->Fk bs b=j->s.c b=M)->s'.r j=s.t j
theorem TQ{f:List MB}{done:List Nat}(I:∀a b,a< ↑f->b< ↑f->Fk f a=Fk f b->a=b){T:Nat->List Int}{D:Nat}(sh:List Int)(nx:List Nat):∀(C:Nat->Option (List Int)) (l:Nat->Bool) (R:Nat->List Int),(∀t∈nx,t< ↑f)->Nb f done ⟨C,T,D⟩ ⟨l,R,D⟩->(DX nx sh C=M/\Ev f nx sh l R=M)\/∃m p r,DX nx sh C=K m/\Ev f nx sh l R=K (p,r)/\Nb f done ⟨m,T,D⟩ ⟨p,r,D⟩/\(∀t∈nx,(m t).isSome=true)/\(∀t,(C t).isSome=true->(m t).isSome=true):=by
 induction nx with
 | nil=>intro C l R _ h;exact .inr ⟨C,l,R,rfl,rfl,h, λt H=>(by cases H), λt H=>H⟩
 | cons t nx Q=>
   intro C l R N h;have B:=N t sP;(have O:∀t∈nx,t<f.length:= λq i=>N q (by simp[i]));have n:=h.c t;simp only[]at n;cases e:C t with
   | some y=>
     have S:R (Fk f t)=y:=by
      by_cases v:t∈done
      . have h1:=h.eq (Fk f t) (λb k u z=>absurd (by rw[I b t k B z];exact v) u);have h2:=(h.dn t v).2;simp only[]at h1 h2;rw[h1];rw[e]at h2;exact(kN h2).symm
      exact h.wt t B v y e
     rw[e]at n;simp only[Option.isSome_some]at n;simp only[DX,Ev,e,n,S,if_true];by_cases A:y=sh
     . rw[lS A,lS A];rcases Q C l R O h with⟨h1,h2⟩|⟨m,p,r,h1,h2,E,F,s⟩
       . exact .inl ⟨h1,h2⟩
       refine .inr ⟨m,p,r,h1,h2,E, λq i=> ?_,s⟩;rcases lA.1 i with rfl|i
       . exact s q (by rw[e];rfl)
       exact F q i
     rw[lE A,lE A];exact .inl ⟨rfl,rfl⟩
   | none =>
     rw[e]at n;simp only[Option.isSome_none]at n;(have P:t∉done:= λv=>by have:=(h.dn t v).2;simp only[]at this;rw[e]at this;cases this);have hrel:Nb f done ⟨Fv C t sh,T,D⟩ ⟨IF l t,CE R (Fk f t) sh,D⟩:=by
      refine⟨λb=> ?_,rfl, λb k=> ?_, λb k u y h1=> ?_, λj L=> ?_⟩
      . simp only[Fv,IF];by_cases g:b=t
        . rw[lS g,lS g];rfl
        rw[lE g,lE g];exact h.c b
      . have:=h.dn b k;refine⟨this.1,?_⟩;simp only[Fv];rw[lE (λq:b=t=>P (q▸k))];exact this.2
      . simp only[Fv]at h1;simp only[CE];by_cases g:b=t
        . subst g;rw[lS rfl]at h1;rw[lS rfl];exact kN h1
        rw[lE g]at h1;rw[lE (λq=>g (I b t k B q))];exact h.wt b k u y h1
      simp only[CE];by_cases G:j=Fk f t
      . have:=L t B P G.symm;simp only[Fv,if_true]at this;cases this
      rw[lE G];(refine h.eq j λb k u z=> ?_);have:=L b k u z;simp only[Fv]at this;by_cases g:b=t
      . subst g;exact absurd z.symm G
      rw[lE g]at this;exact this
     simp only[DX,Ev,e,n];rw[lE sP];rcases Q _ _ _ O hrel with⟨h1,h2⟩|⟨m,p,r,h1,h2,E,F,s⟩
     . exact .inl ⟨h1,h2⟩
     refine .inr ⟨m,p,r,h1,h2,E, λq i=> ?_, λq i=>s q ?_⟩
     . rcases lA.1 i with rfl|i
       . exact s q (by simp[Fv])
       exact F q i
     simp only[Fv];split
     . rfl
     exact i
structure Mc(xs:List MI)(bs:List MB):Prop where
 inj:∀a b,a< ↑bs->b< ↑bs->Fk bs a=Fk bs b->a=b
 part:∀(b:Nat) (m:MB),bs[b]?=K m->∃a e:Nat,m.gK=(a:Int)/\m.last=(e:Int)/\a<=e/\e< ↑xs
 apart:∀(b t:Nat) (m:MB),bs[b]?=K m->t< ↑bs->b≠t->¬(m.gK<=(Fk bs t:Int)/\(Fk bs t:Int)<=m.last)
 next:∀(b:Nat) (m:MB),bs[b]?=K m->∀t∈m.next.map Int.toNat,t< ↑bs
theorem I9{e:List MB}(h:e[b]?=K m)(f:m.gK=(a:Int)):Fk e b=a:=by unfold Fk;rw[h];simp only[f,kM]
theorem N5(n:AH xs):Mc xs (At xs):=by
 refine⟨λa b g e h=> ?_, λb m h=>BL h, λb t m h f i=> ?_, λb m h t f=> ?_⟩
 . apply ly;intro i;obtain⟨u,v,p,y,z,A⟩:=BL (an g);obtain⟨k,l,j,q,r,s⟩:=BL (an e);have h1:=I9 (an g) p;have h2:=I9 (an e) j;exact Mi (an g) (an e) i oM
 . obtain⟨k,l,j,q,r,s⟩:=BL (an f);have h2:=I9 (an f) j;have:=Mi h (an f) i;omega
 have e:=(iV.1 h).1;exact Io n b e t (by rw[K6 h];exact f)
theorem Uc{p:MP}{a:List MB}(n:Mc f.ch a){done:List Nat}(k:a[b]?=K m)(L:b∉done){s:WS}{l:WI}(T:(s.c b).isSome=true)(h:Nb a done s l):(∃e,Lg p f m b s=.inl e/\Gc p f a m l=.inl e)\/∃y R,Lg p f m b s=.inr y/\Gc p f a m l=.inr R/\Nb a (b::done) y R/\(∀t∈m.next.map Int.toNat,(y.c t).isSome=true)/\(∀t,(s.c t).isSome=true->(y.c t).isSome=true):=by
 obtain⟨C,B⟩:=Option.isSome_iff_exists.1 T;obtain⟨i,me,h1,h2,h3,h4⟩:=n.part b m k;have H:=(iV.1 k).1;have N:=I9 k h1;have Q:=h.wt b H L C B;rw[N]at Q;unfold Lg Gc;have S:(m.last-m.gK+1).toNat=me+1-i:=oM;rw[S,h1,h2,kM,kM,B,Q,nT,h.d];obtain⟨W,X⟩:=Ug p f (me+1-i) i C s.t l.r s.d oM;cases hk:Cv p f (me+1-i) i C s.t s.d with
 |inl e=>exact .inl ⟨e,rfl,by rw[W e hk]⟩
 | inr q=>
   obtain⟨sh,G,z⟩:=q;obtain⟨F,q1,v,q3,q4⟩:=X sh G z hk;have qa:=q4 oM;rw[q1];have hrel:Nb a (b::done) ⟨s.c,G,z⟩ ⟨l.c,F,z⟩:=by
    refine⟨h.c,rfl, λt g=> ?_, λt g u a8 V=> ?_, λj O=> ?_⟩
    . rcases lA.1 g with rfl|g
      . exact⟨H,by simp only[];rw[N,qa];exact B⟩
      have q:=h.dn t g;(have A:b≠t:= λq=>L (q▸g));have:=n.apart b t m k q.1 A;refine⟨q.1,?_⟩;simp only[];rw[(v (Fk a t) oM).1];exact q.2
    . (have A:b≠t:= λq=>u (by simp[q]));have:=n.apart b t m k g A;simp only[];rw[(v (Fk a t) oM).2];exact h.wt t g (λq=>u (by simp[q])) a8 V
    simp only[]at O⊢;by_cases P:i<=j/\j<i+(me+1-i)
    . exact(q3 j P.1 P.2).symm
    rw[(v j oM).1,(v j oM).2];(refine h.eq j λt g u U=> ?_);by_cases I:t=b
    . subst I;omega
    exact O t g (by simp[I,u]) U
   rcases TQ n.inj sh (m.next.map Int.toNat) s.c l.c F (n.next b m k) hrel with⟨D,E⟩|⟨C2,ae,R3,D,E,z3,z4,z5⟩
   . simp only[];rw[D,E];exact .inl ⟨_,rfl,rfl⟩
   simp only[];rw[D,E];exact .inr ⟨_,_,rfl,rfl,z3,z4,z5⟩
theorem Uk{p:MP}{a:List MB}(E:Mc f.ch a)(ord:List Nat):∀(done:List Nat) (s:WS) (j:WI),(∀b∈ord,b< ↑a)->ord.Nodup->(∀b∈ord,b∉done)->(∀(A B:List Nat) (b:Nat),ord=A++b::B->(s.c b).isSome=true\/∃q∈A,b∈nx a q)->Nb a done s j->(∃e,Ds p f a ord s=.inl e/\Gd p f a ord j=.inl e)\/∃k l,Ds p f a ord s=.inr k/\Gd p f a ord j=.inr l/\Nb a (ord.reverse++done) k l:=by
 induction ord with
 | nil=>intro done s j _ _ _ _ h;exact .inr ⟨s,j,rfl,rfl,h⟩
 | cons b ord L=>
   intro done s j v G u y h;obtain⟨m,r⟩:∃m,a[b]?=K m:=⟨_,an (v b sP)⟩;have F:(s.c b).isSome=true:=by
    rcases y [] ord b rfl with q|⟨_,q,_⟩
    . exact q
    cases q
   obtain⟨H,I⟩:=List.nodup_cons.1 G;simp only[Ds,Gd,r];rcases Uc (p:=p) E r (u b sP) F h with⟨e,h1,h2⟩|⟨k,l,h1,h2,z,C,D⟩
   . rw[h1,h2];exact .inl ⟨e,rfl,rfl⟩
   rw[h1,h2];simp only[];have:=L (b::done) k l (λq i=>v q (by simp[i])) I (λq i t=>by
    rcases lA.1 t with rfl|t
    . exact H i
    exact u q (by simp[i]) t) (λA B q i=> ?_) z
   . simpa[List.reverse_cons,List.append_assoc]using this
   rcases y (b::A) B q (by rw[i];rfl)with g|⟨g,n,hgq⟩
   . exact .inl (D q g)
   rcases lA.1 n with rfl|n
   . rw[K6 r]at hgq;exact .inl (C q hgq)
   exact .inr ⟨g,n,hgq⟩
theorem My{l:List Nat}(h:l.Nodup):l.reverse.Nodup:=by unfold List.Nodup at*;rw[List.pairwise_reverse];exact h.imp λh=> λe=>h e.symm
theorem Xd{p:MP}{r:Fy}(h:Bc f.ch r)(k:r.ch=0):Lv f.ch (Ds p f r.ej (r.gJ.map Int.toNat) Jo)=We f.ch (Gd p f r.ej (r.gJ.map Int.toNat) RG):=by
 cases h with
 |none _=>cases k
 |off _ _ _=>cases k
 |lost _ _ _ _ _ _ _ _=>cases k
 |two _ _ _ _ _ _ _ _=>cases k
 | @good x S O D L I g x1 o1 v1 s1 d1 b1 i1 l1=>
   obtain⟨z,u,T,m,R⟩:=Cx (Dj g) (Io g) v1 s1;simp only[];(have e:(ints O.reverse).map Int.toNat=O.reverse:=by unfold ints;rw[ni];(conv=>rhs;rw[<-List.map_id O.reverse]);apply nF;intro a _;simp);rw[e];have hrel:Nb (At f.ch) [] Jo RG:=by
    refine⟨λb=> ?_,rfl, λb i=>(by cases i), λb _ _ sh l=> ?_, λj _=>rfl⟩
    . simp only[Jo,RG];by_cases i:b=0
      . simp[i]
      simp[i]
    simp only[Jo]at l;split at l
    . exact kN l
    cases l
   (have t:∀b∈O.reverse,b<(At f.ch).length:= λb i=>(m b).1 (mT.1 i));have H:∀(A B:List Nat) (b:Nat),O.reverse=A++b::B->(Jo.c b).isSome=true\/∃q∈A,b∈nx (At f.ch) q:= λA B b i=>by
    by_cases s:b=0
    . subst s;exact .inl rfl
    (have F:b∈O.reverse:=by rw[i];simp);obtain⟨q,N,P,V⟩:=z.iA b (t b F) s;refine .inr ⟨q,?_,P⟩;have Q:q∈O.reverse:=mT.2 ((m q).2 N);(have U:DF O b=A.length:=by unfold DF;(have C:b∉A:= λy=>by (have G:(A++b::B).Nodup:=by rw[<-i];exact My u);exact(nQ.1 G).2.2 b y b sP rfl);rw[i,List.idxOf_append];simp[C]);have v:(O.reverse)[DF O q]?=K q:=JH (mT.1 Q);rw[i,ld oM]at v;exact i8 v
   rcases Uk (p:=p) (N5 g) O.reverse [] Jo RG t (My u) (λb _ i=>by cases i) H hrel with⟨q,h1,h2⟩|⟨W,X,h1,h2,n⟩
   . rw[h1,h2];rfl
   rw[h1,h2];simp only[Lv,We,n.d];(congr 1);apply nF;intro j _;refine(n.eq j λb i E _=>absurd ?_ E).symm;rw[nA,mT,mT];exact(m b).2 i
theorem Jm(q:AH xs):∃S:Nat->Nat,S 0=0/\S (At xs).length= ↑xs/\∀(b:Nat) (m:MB),(At xs)[b]?=K m->m.gK=(S b:Int)/\m.last=(S (b+1):Int)-1/\S b<S (b+1)/\S (b+1)<=xs.length:=by
 have t:=IA xs xs q.1;have u:=CC xs xs;have s:∀x∈Cs xs xs,x<xs.length:= λx g=>((Cf _ _ _).1 g).1
 have G:0∈Cs xs xs:=(Cf _ _ _).2 ⟨q.1,Gz _ _⟩;have A:(At xs).length=(Cs xs xs).length:=by unfold At;rw[kW,BH]
 have D:∀(b:Nat) (m:MB),(At xs)[b]?=K m->∃f:MB,(build (Cs xs xs) xs)[b]?=K f/\m.gK=f.gK/\m.last=f.last:= λb m h=>by unfold At at h;rw[lG,Cp]at h;obtain⟨f,h1,rfl⟩:=mK.1 h;exact⟨f,h1,rfl,rfl⟩
 generalize Cs xs xs=L at*;refine⟨λb=>((L++[xs.length])[b]?).getD 0,?_,?_, λb m h=> ?_⟩
 . cases L with
   |nil=>exact absurd rfl t
   | cons a r=>
     simp only[lF,jt,nT];rcases lA.1 G with e|e
     . exact e.symm
     have:=(mH.1 u).1 0 e;omega
 . rw[A];simp
 obtain⟨f,h1,i,j⟩:=D b m h;have z:b<L.length:=by rw[<-I4 L xs];exact(iV.1 h1).1
 have C:(L++[xs.length]).Pairwise (· < ·):=mP.2 ⟨u,oq _ _, λx g y F=>by rw[lT.1 F];exact s x g⟩;have H:(L++[xs.length]).length= ↑L+1:=sP
 have E:(L.tail++[xs.length])[b]?=(L++[xs.length])[b+1]?:=by
  cases L with
  |nil=>exact absurd rfl t
  |cons a r=>simp
 have k:(L++[xs.length])[b]?=K ((L++[xs.length])[b]'oM):=an _
 have p:(L++[xs.length])[b+1]?=K ((L++[xs.length])[b+1]'oM):=an _
 have v:L[b]?=K ((L++[xs.length])[b]'oM):=by rw[<-k,ld z]
 have B:=(nN.1 C) b (b+1) oM oM oM;unfold build at h1;rw[my,E,v,p]at h1;simp only[kK]at h1;rw[<-h1]at i j;simp only[k,p,nT];refine⟨i,j,B,?_⟩;rcases kS.1 (mW (l:=L++[xs.length]) (n:=b+1) oM)with h|h
 . exact nM (s _ h)
 rw[lT.1 h];exact Nat.le_refl _
theorem Po(h:(At xs)[b]?=K m):∃a,(Cs xs xs)[b]?=K a/\m.gK=(a:Int):=by
 obtain⟨i,e0,f,g⟩:=Gf h;unfold build at e0;rw[my]at e0;cases e1:(Cs xs xs)[b]? with
 |none=>rw[e1]at e0;simp at e0
 | some a=>
   cases e2:((Cs xs xs).tail++[xs.length])[b]? with
   |none=>rw[e1,e2]at e0;simp at e0
   | some q=>rw[e1,e2]at e0;simp only[kK]at e0;subst e0;exact⟨a,rfl,f⟩
theorem Lr(h:q∈Cs xs xs):∃m,(At xs)[(Cs xs xs).idxOf q]?=K m/\m.gK=(q:Int):=by
 have b:(Cs xs xs).idxOf q<(Cs xs xs).length:=List.idxOf_lt_length_of_mem h;have g:(At xs).length=(Cs xs xs).length:=by unfold At;rw[kW,BH]
 obtain⟨m,e⟩:∃m,(At xs)[(Cs xs xs).idxOf q]?=K m:=⟨_,an oM⟩;obtain⟨a,h1,h2⟩:=Po e;refine⟨m,e,?_⟩;have f:(Cs xs xs)[(Cs xs xs).idxOf q]?=K q:=by rw[an b,List.getElem_idxOf b]
 rw[f]at h1;rw[h2,<-kN h1]
theorem JF(k:AH xs)(h:(At xs)[b]?=K m)(j:m.last=(e:Int))(g:xs[e]?=K x):nx (At xs) b=(AO xs x e).map λp=>(Cs xs xs).idxOf p.toNat:=by
 rw[K6 h];unfold At at h;rw[lG]at h;obtain⟨a,h1,rfl⟩:=mK.1 h;have f:a.last=(e:Int):=j;have i:(DY xs a).next=DA xs x e:=by unfold DY;rw[f,kM,lD,g];rfl
 rw[i,JE xs b e x a k h1 f g,ni];apply nF;intro p _;simp
theorem ID{z:Int}:z∈AO xs x e↔(DQ x=true/\e+1< ↑xs/\z=((e+1:Nat):Int))\/(AR x=true/\z=x.c/\¬(DQ x=true/\e+1< ↑xs/\x.c=((e+1:Nat):Int))):=by
 unfold AO;rw[kS];constructor
 . rintro(h|h)
   . split at h
     . rename_i q;exact .inl ⟨q.1,q.2,by simpa using h⟩
     cases h
   split at h
   . rename_i q;exact .inr ⟨q.1,by simpa using h,q.2⟩
   cases h
 rintro(⟨h1,h2,a⟩|⟨h1,h2,a⟩)
 . exact .inl (by rw[lS ⟨h1,h2⟩,a];simp)
 exact .inr (by rw[lS ⟨h1,a⟩,h2];simp)
theorem JL(h:(At xs)[b]?=K m):∃a,(Bw xs xs)[b]?=K a/\a.last=m.last:=by unfold At at h;rw[lG]at h;obtain⟨a,h1,rfl⟩:=mK.1 h;exact⟨a,h1,rfl⟩
theorem Re(g:AH xs)(h:(At xs)[b]?=K m)(f:m.last=(e:Int))(k:xs[e]?=K x)(s:DQ x=true)(p:e+1< ↑xs):∃t a,t∈nx (At xs) b/\(At xs)[t]?=K a/\a.gK=((e+1:Nat):Int):=by obtain⟨y,l,e0⟩:=JL h;have j:((e+1:Nat):Int)∈AO xs x e:=ID.2 (.inl ⟨s,p,rfl⟩);have i:=EJ g l (e0.trans f) k j;rw[kM]at i;obtain⟨a,h1,h2⟩:=Lr i;refine⟨_,a,?_,h1,h2⟩;rw[JF g h f k];exact lK.2 ⟨_,j,by rw[kM]⟩
theorem Sa(f:AH xs)(h:(At xs)[b]?=K m)(j:m.last=(e:Int))(g:xs[e]?=K x)(k:AR x=true):∃t i,t∈nx (At xs) b/\(At xs)[t]?=K i/\i.gK=x.c:=by
 by_cases a:DQ x=true/\e+1< ↑xs/\x.c=((e+1:Nat):Int)
 . rw[a.2.2];exact Re f h j g a.1 a.2.1
 obtain⟨y,p,e0⟩:=JL h;have l:x.c∈AO xs x e:=ID.2 (.inr ⟨k,rfl,a⟩);have s:=EJ f p (e0.trans j) g l;obtain⟨i,h1,h2⟩:=Lr s;refine⟨_,i,?_,h1,by rw[h2];exact nE (f.2.2 e x g k).1⟩;rw[JF f h j g];exact lK.2 ⟨_,l,rfl⟩
theorem To(g:AH xs)(h:(At xs)[b]?=K m)(j:m.last=(e:Int))(i:xs[e]?=K x)(k:t∈nx (At xs) b):∃a,(At xs)[t]?=K a/\((DQ x=true/\a.gK=((e+1:Nat):Int))\/(AR x=true/\a.gK=x.c)):=by
 rw[JF g h j i]at k;obtain⟨z,l,rfl⟩:=lK.1 k;obtain⟨B,y,e0⟩:=JL h;have A:=EJ g y (e0.trans j) i l;obtain⟨a,h1,h2⟩:=Lr A;refine⟨a,h1,?_⟩;rcases ID.1 l with⟨f,p,s⟩|⟨f,p,s⟩
 . exact .inl ⟨f,by rw[h2,s];simp⟩
 exact .inr ⟨f,by rw[h2,p];exact nE (g.2.2 e x i f).1⟩
theorem Ox(j:AH xs)(s:i< ↑xs):∃(b:Nat) (m:MB) (a e:Nat),b<(At xs).length/\(At xs)[b]?=K m/\m.gK=(a:Int)/\m.last=(e:Int)/\a<=i/\i<=e/\e<xs.length:=by
 obtain⟨S,r,u,g⟩:=Jm j;have p:∀k,k<=(At xs).length->i<S k->∃(b:Nat) (m:MB) (a e:Nat),b<(At xs).length/\(At xs)[b]?=K m/\m.gK=(a:Int)/\m.last=(e:Int)/\a<=i/\i<=e/\e<xs.length:=by
  intro k;induction k with
  |zero=>intro _ h;omega
  | succ k n=>
    intro t h;by_cases l:i<S k
    . exact n oM l
    obtain⟨m,f⟩:∃m,(At xs)[k]?=K m:=⟨_,an oM⟩;obtain⟨q,v,y,z⟩:=g k m f;exact⟨k,m,S k,S (k+1)-1,oM,f,q,oM,oM,oM,oM⟩
 exact p _ lR oM
theorem Mw(h:(At xs)[b]?=K m)(f:xs[i]?=K x)(h1:m.gK<=(i:Int))(h2:(i:Int)<m.last):AR x=false/\x.op≠29:=by
 refine⟨?_,Pf h f h1 h2⟩;obtain⟨l,e0,j,k⟩:=Gf h;obtain⟨a,e,p,s,t,y⟩:=BL h;cases hgo:AR x with
 |false=>rfl
 | true=>(exfalso);have g:i+1<xs.length:=oM;refine Jv (CC _ _) (λx f=>((Cf _ _ _).1 f).1) e0 (i:=i+1) oM oM ?_;rw[Cf];exact⟨g,Hb xs xs i (i+1) x oM f (by simp[Fq,hgo])⟩
end Go.Proofs.YtjnglocdoljgkaaGreat
