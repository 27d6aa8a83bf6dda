import Derived.Test.YthjbicggfnnonaaGreatDoorCw24
namespace Go.Proofs.YthjbicggfnnonaaGreatDoor
open Go.ChangeShapes Go.WideShapes Go.ChangeAt Go.RowKit
set_option linter.unusedVariables false
set_option maxHeartbeats 8000000
set_option maxRecDepth 100000
variable {a x V:Value}{c n b g base k B m q:Nat}{d:List Int}{w u:World}{e:TypeId}{xs:List Value}{s:CP}{v:VP}
def Tt(p:MP)(a:List Int):Prop:=(Bj p 0/\a=IR p.funcs)\/(¬Bj p 0/\a=[])
theorem KI{p:MP}(h:Bj p 0):Bk p.funcs/\CI p:=by
 rcases h with h|h|h|h|h|h
 . exact absurd h.1 dC
 . exact absurd h.1 dC
 . exact absurd h.1 dC
 . exact absurd h.1 dC
 . exact absurd h.1 dC
 exact⟨h.2.2.2.1,h.2.2.2.2.1⟩
def Iq(a:List MF)(b:List Int)(n j:Nat)(c:Int):Prop:=(c=-1/\∀k,j<=k->k<n->FG a b k=false)\/∃q:Nat,c=(q:Int)/\j<=q/\q<n/\FG a b q=true/\∀k,j<=k->k<q->FG a b k=false
theorem Iq.hQ{a:List MF}{c:List Int}{f:Int}(h:Iq a c n (b+1) f)(d:b<n)(e:FG a c b=true):Iq a c n b (b:Int):=.inr ⟨b,rfl,Nat.le_refl _,d,e,fun k h1 h2=>oM⟩
theorem Iq.no{a:List MF}{g:Int}(h:Iq a d n (b+1) g)(f:FG a d b=false):Iq a d n b g:=by
 rcases h with⟨h1,h2⟩|⟨q,h1,h2,i,j,l⟩
 . refine .inl ⟨h1,fun k m c=> ?_⟩;by_cases e:k=b
   . subst e;exact f
   exact h2 k oM c
 refine .inr ⟨q,h1,oM,i,j,fun k m c=> ?_⟩;by_cases e:k=b
 . subst e;exact f
 exact l k oM c
theorem Ny(b:Below w.heap.size w u){a:Addr}(h:w.cell? a=some x):u.cell? a=some x:=by rw[b.cell (d5 h)];exact h
structure Ns(w u:World)(v:VP)(n bd:Nat)(V:Value)(zs:List Int)(q:Nat):Prop where
 pb:Ep u w.heap.size v.r v.k v.f v.t
 done:u.ownsRow w.heap.size 4 1 (.slice (some ⟨bd,0,none⟩) n n) n (I8 (zs++[(q:Int)]) n)
 o:u.ownsRow (w.heap.size+1) 2 1 V zs.length (zs.flatMap Ad)
 aC:Below w.heap.size w u
 far:w.heap.size<bd
theorem SX(h:w.ownsRow base e k (.slice (some ⟨g,0,none⟩) n c) n xs):base<=g/\∃a,w.heap[g]?=some (Obj.cells a e (0,0)):=by
 rcases h.2 with⟨b,_⟩|⟨j,i,a,b,d,f,_⟩
 . cases b
 cases b
 exact⟨d,a,f⟩
theorem PJ{f n':Nat}{d:TypeId}{s:Value}{p:List Value}(h:u.ownsRow B e k s n xs)(j:u.ownsRow f d m (.slice (some ⟨g,0,none⟩) n' c) n' p)(l:e≠d)(i:Nat)(z:Value):(u.setCell ⟨g,i,none⟩ z).ownsRow B e k s n xs:=by
 obtain⟨_,t,h1⟩:=SX j;refine i9 h (a:=⟨g,i,none⟩) (fun q=> ?_) z;rcases h.2 with⟨rfl,_⟩|⟨w,r,v,rfl,_,b,_⟩
 . cases q
 simp only[Value.ownBlock,i4]at q;subst q;rw[h1]at b;simp only[i4,lZ]at b;exact l b.2.1.symm
theorem PH{f:World}{d:TypeId}{s v:Value}{x:Nat}{i:List Value}(h:w.ownsRow base e k s n xs)(q:w.grownBy f v.ownBlock)(t:w.ownsRow B d x v m i)(r:e≠d):f.ownsRow base e k s n xs:=by
 refine⟨h.1,?_⟩;rcases h.2 with h|⟨g,cap,j,l,p,b,u⟩
 . exact .inl h
 refine .inr ⟨g,cap,j,l,p,?_,u⟩;rw[q.block g (kN.1 b).1 ?_]
 . exact b
 intro c;rcases t.2 with⟨rfl,_⟩|⟨A,y,z,rfl,_,a,_⟩
 . cases c
 simp only[Value.ownBlock,i4]at c;subst c;rw[b]at a;simp only[i4,lZ]at a;exact r a.2.1
theorem Q2(U:World)(z:Int):∀j u,[(.int .i64 z:Value)][j]?=some u->(U.alloc (.cells #[.int .i64 z] 2)).cell? ((⟨U.heap.size,0,none⟩:Addr).add j)=some u:=fun j u a=>by rw[DF,ki,(Aw.new U #[.int .i64 z] 2).cell j];simpa using a
theorem Ep.iB{i:Nat}{y z t:Value}(h:Ep u b x y z t)(d:b≠g):Ep (u.setCell ⟨g,i,none⟩ V) b x y z t:=by
 have k:∀(j:Nat) (a:Value),u.cell? ⟨b,j,none⟩=some a->(u.setCell ⟨g,i,none⟩ V).cell? ⟨b,j,none⟩=some a:=fun j a c=>by have:=km u ⟨g,i,none⟩ b V d;unfold World.cell? at*;rw[this];exact c
 exact⟨k 0 _ h.c0,k 1 _ h.c1,k 2 _ h.c2,k 3 _ h.c3⟩
theorem Ns.of{a:Nat}{b:List Int}(h:CW w u v n a V b)(d:q<n)(c:w.heap.size<a):Ns w (u.setCell ⟨a,q,none⟩ (.bool true)) v n a V b q:=by refine⟨h.pb.iB oM,?_,PJ h.o h.done dC q _,h.aC.setCell oS _,c⟩;have:=(h.done.stored q (.bool true)).1;rw[QQ b n q d]at this;exact this
theorem Ns.al{a:List Int}(h:Ns w u v n b V a q)(o:Obj):(u.alloc o).ownsRow (w.heap.size+1) 2 1 V a.length (a.flatMap Ad)/\w.heap.size+1<=(u.alloc o).heap.size:=⟨Ai h.o (Aa _ _) lR,jX h.pb.lt (Aa _ _).size⟩
theorem Ns.next{c:World}{V':Value}(h:Ns w u v n g V d q)(p:c.ownsRow (w.heap.size+1) 2 1 V' (d.length+1) (d.flatMap Ad++[.int .i64 (q:Int)]))(f:(u.alloc (.cells #[.int .i64 (q:Int)] 2)).grownBy c V.ownBlock):CW w c v n g V' (d++[(q:Int)]):=by
 have b:=Aa u (.cells #[.int .i64 (q:Int)] 2);have r:=Ai h.o b lR;refine⟨?_,PH (Ai h.done b lR) f r dC,?_,(Ac h.aC lR b).grown f (jX h.aC.size b.size) (fun i m=>by have:=(h.o.lt i m).1;omega)⟩
 . (have k:∀(j:Nat) (a:Value),u.cell? ⟨w.heap.size,j,none⟩=some a->c.cell? ⟨w.heap.size,j,none⟩=some a:=fun j a l=>by have h1:=Af b l;have h2:=f.block w.heap.size (lA h.pb.lt b.size) (fun e=>by have:=(h.o.lt _ e.symm).1;omega);unfold World.cell? at*;rw[h2];exact h1);exact⟨k 0 _ h.pb.c0,k 1 _ h.pb.c1,k 2 _ h.pb.c2,k 3 _ h.pb.c3⟩
 . rw[f6,jY,kO];exact p
theorem LQ (v :VP)(p:MP)(w:World)(hs:p.small)(hw:p.wf)(h:Ft w v p):
 Calls Tryz.prog 118 #[.agg #[v.r,v.k,v.f,v.t]] w fun e w'=>∃V d,e=.returned V/\Rd w' 1 V d.length (d.flatMap Ad)/\Tt p d/\Below w.heap.size w w':=by
 obtain⟨j0,Q,bB,bF,bH⟩:=kS D8;obtain⟨k0,hk,bw,bx,bz⟩:=kS Co;have H:=Ag (f7 hs (f7 hw h));have T:Hid (Ep ((w.alloc (.cells #[v.r,v.k,v.f,v.t] 29)).alloc (.cells #[] 2)) w.heap.size v.r v.k v.f v.t/\Aw ((w.alloc (.cells #[v.r,v.k,v.f,v.t] 29)).alloc (.cells #[] 2)) (w.heap.size+1) #[] 2/\Below w.heap.size w ((w.alloc (.cells #[v.r,v.k,v.f,v.t] 29)).alloc (.cells #[] 2))):=by refine⟨(Ep.new w _ _ _ _ _).alloc _,?_,Ac (Aa _ _) lR (Aa _ _)⟩;have:=Aw.new (w.alloc (.cells #[v.r,v.k,v.f,v.t] 29)) #[] 2;simpa using this
 go_enter Tryz.func118,Tryz.ntmps118;go_wp2_with fail;refine(CO v p _ H.o.1 H.o.2.1 (H.o.2.2.aa T.o.2.2 lR)).mono ?_;rintro e u1 ⟨⟨nf,rfl,aL⟩,b1⟩;have s:=Ag (f7 (T.o.1.aa b1) (f7 (T.o.2.1.aa b1) (Ac T.o.2.2 lR b1)));by_cases q0:nf=0
 . subst q0;have K:=Ag aL;obtain⟨ys,bI,aM,aX⟩:=H.o.2.2.funcs;obtain⟨D,vk,vf,E⟩:=v;obtain⟨af,cf,ef⟩:∃a c,vf=.slice a p.funcs.length c:=aM.bW;subst ef;have aY:=(KI K.o).1.2.1;have aJ:=(KI K.o).1.1;have L:=Ag (f7 bI (f7 aM aX));generalize aT:p.funcs.length=n at aY aJ L s;have M:=Ag aT;obtain⟨gf,of,rfl,aP⟩:∃gf of,af=some ⟨gf,of,none⟩/\Hid (∀j u,(ys.flatMap AJ)[j]?=some u->w.cell? ⟨gf,of+j,none⟩=some u):=by
    rcases L.o.2.1.2 with⟨e0,_⟩|⟨gf,of,c',P,J⟩
    . exact absurd e0 aJ
    simp only[ip,kU]at P;exact⟨gf,of,P.1,J⟩
   obtain⟨p0,p1,p2,p3⟩:=s.o.1;go_wp2_with (at_make;refine lQ _ rfl _ _ 206 rfl w.heap.size 4 j0 (.bool false) 1 Tryz.underlying206 Q bB bF .i64 .i64 _ _ n rfl rfl rfl rfl (by rw[bH];omega) oX s.o.2.2.size ?_;intro w3 R Z;rw[Pu,QP]at R);(have aE:Hid (CW w w3 ⟨D,vk,.slice (some ⟨gf,of,none⟩) n cf,E⟩ n u1.heap.size (.slice (some ⟨w.heap.size+1,0,none⟩) 0 0) []):=by have am:Below u1.heap.size u1 w3:=(kV _ _).grown Z lR (fun k hk=>by cases hk);exact⟨s.o.1.aa am,R,⟨rfl,.inr ⟨w.heap.size+1,0,#[],rfl,Nat.le_refl _,s.o.2.1.aa am,Nat.le_refl _,lr _,rfl,rfl⟩⟩,Ac s.o.2.2 lR am⟩);have aN:=Ag s.o.1.lt;have aD:=Ag aN.o;generalize u1.heap.size=I at aE aD⊢;go_wp2;go_loopw [3] (fun V wr=>∃d:List Int,d.length<=n/\(∃a c,V=.slice a d.length c)/\Hid (CW w wr ⟨D,vk,.slice (some ⟨gf,of,none⟩) n cf,E⟩ n I V d/\GM p.funcs (n-d.length) d=IR p.funcs)) (fun V _=>n-Wo V)
   (case atStart=>exact⟨[],sP,⟨_,_,rfl⟩,⟨aE.o,by unfold IR;rw[M.o];rfl⟩⟩);obtain⟨d,bX,⟨U,cV,rfl⟩,F⟩:=hrel;by_cases bR:d.length<n
   . have bS :(d.length:Int)<(n:Int):=oM;go_wp2;go_loopw [6,7] (fun nx i wr=>∃(j:Nat) (C:Int),j<=n/\nx=.int .i64 C/\i=.int .i64 ((j:Int)-1)/\Hid (Iq p.funcs d n j C/\CW w wr ⟨D,vk,.slice (some ⟨gf,of,none⟩) n cf,E⟩ n I (.slice U d.length cV) d)) (fun _ i _=>(intOf i+1).toNat)
     (case atStart=>exact⟨n,-1,Nat.le_refl _,rfl,rfl,⟨.inl ⟨rfl,fun k h1 h2=>oM⟩,F.o.1⟩⟩);obtain⟨j,C,bO,rfl,rfl,l⟩:=hrel;cases j with
     | succ b =>
       rw[show(((b+1:Nat):Int)-1)=(b:Int)from oM];obtain⟨⟨f,z⟩,hy⟩:∃y,ys[b]?=some y:=⟨_,an (by have:=congrArg List.length L.o.1;rw[kZ,M.o]at this;omega)⟩;have aH:=CK L.o.1 hy;have aA:=L.o.2.2 _ (d9 hy);simp only[]at aA;obtain⟨zp,zl,zc⟩:=z;obtain⟨ac,cc,ec⟩:∃a c,zc=.slice a f.code.length c:=aA.2.2.bW;subst ec;have G:=Ag (f7 aA (f7 (H.o.1.func f (d9 aH)) aH));have bL:f.code.length<=1048576:=G.o.2.1.2.2;have i3:=Rd.elem Aj aP.o b _ hy 3 _ rfl;have aQ:=Ag i3;have O:=l.o.2.done.cellAt b oM;rw[Gi _ _ _ oM]at O;obtain⟨cb,aq⟩:∃cb,cb=d.contains (b:Int):=⟨_,rfl⟩;rw[<-aq]at O;have a8:=Ag aq;clear aq;have bJ:(b:Int)<(n:Int):=oM;go_wp2;go_loopw [8,9] (fun r i wr=>∃(k:Nat) (rb:Bool),k<=f.code.length/\r=.bool rb/\i=.int .i64 k/\Hid (rb=(!cb&&Kh d f.code k)/\CW w wr ⟨D,vk,.slice (some ⟨gf,of,none⟩) n cf,E⟩ n I (.slice U d.length cV) d)) (fun _ i _=>f.code.length-(intOf i).toNat)
       (case atStart=>exact⟨0,!cb,oM,rfl,rfl,⟨by simp[Kh],l.o.2⟩⟩);obtain⟨k,rb,bP,rfl,rfl,g⟩:=hrel;obtain⟨p0,p1,p2,p3⟩:=g.o.2.pb;have i3:=Ny g.o.2.aC aQ.o;by_cases au:k<f.code.length
       . have bQ:(k:Int)<(f.code.length:Int):=oM;cases rb
         . have ae:Hid (Iq p.funcs d n b C):=l.o.1.no (by
            rw[Lg p.funcs d b f G.o.2.2,<-a8.o];have:=g.o.1;cases B:cb
            . rw[B]at this;rw[PE d f.code k (by simpa using this.symm)];rfl
            rfl)
           go_wp2;go_roundw;(case rel=>exact⟨b,C,oM,rfl,by go_num,⟨ae.o,g.o.2⟩⟩);simp[intOf]
         . obtain⟨x,S⟩:∃x,f.code[k]?=some x:=⟨_,an au⟩;have aj:=Ag S;have aW:=G.o.1.2.2.aa g.o.2.aC lR;rcases aW.2 with⟨e0,_⟩|⟨gc,oc,c',P,J⟩
           . omega
           simp only[ip,kU]at P;obtain⟨rfl,rfl⟩:=P;have x0:=Rd.elem MI.aK J k _ S 0 _ rfl;have x1:=Rd.elem MI.aK J k _ S 1 _ rfl;have x2:=Rd.elem MI.aK J k _ S 2 _ rfl;have x3:=Rd.elem MI.aK J k _ S 3 _ rfl;rw[kD]at x0;obtain⟨wo,bu⟩:∃W,W=wr:=⟨_,rfl⟩;subst bu;(go_upto_region 16 with fail);refine Ao (fun u=>Hid (CW w u ⟨D,vk,.slice (some ⟨gf,of,none⟩) n cf,E⟩ n I (.slice U d.length cV) d/\Aw u wo.heap.size #[.int .i64 x.op,.int .i64 x.a,.int .i64 x.b,.int .i64 x.c] 96)) ⟨g.o.2.aa (Aa _ _),Aw.new _ _ _⟩ ?_
           intro U1 m;have a0:=m.o.2.cell 0;have a1:=m.o.2.cell 1;simp only[jZ,i5,i8]at a0 a1;by_cases B:x.op=28
           . rw[B]at a0;have aI:=RM (KI K.o).2 G.o.2.2 (a:=x.a) (lL.2 ⟨x,ms.2 ⟨d9 aj.o,by simpa using B⟩,rfl⟩);rw[M.o]at aI;obtain⟨X,aG⟩:∃X:Nat,x.a=(X:Int):=⟨x.a.toNat,oM⟩;rw[aG]at a1 aI;have hd:=m.o.1.done.cellAt X oM;rw[Gi _ _ _ oM]at hd;obtain⟨Y,ao⟩:∃Y,Y=d.contains (X:Int):=⟨_,rfl⟩;rw[<-ao]at hd;(have A:Hid (Y=(!cb&&Kh d f.code (k+1))):=by show _=_;rw[Mm d f.code k x aj.o,aG,<-ao,<-Bool.and_assoc,<-g.o.1];simp[B]);clear ao;go_wp2;go_roundw;(case rel=>exact⟨k+1,Y,oM,rfl,by go_num,⟨A.o,m.o.1⟩⟩);exact oI
           (have bK:(x.op != 28)=true:=by simpa using B);(have A:Hid (true=(!cb&&Kh d f.code (k+1))):=by show _=_;rw[Mm d f.code k x aj.o,<-Bool.and_assoc,<-g.o.1];simp[B]);go_wp2;go_roundw;(case rel=>exact⟨k+1,true,oM,rfl,by go_num,⟨A.o,m.o.1⟩⟩);exact oI
       obtain rfl:k=f.code.length:=oM;cases rb
       . have ae:Hid (Iq p.funcs d n b C):=l.o.1.no (by rw[Lg p.funcs d b f G.o.2.2,<-a8.o,<-g.o.1]);go_wp2;go_roundw;(case rel=>exact⟨b,C,oM,rfl,by go_num,⟨ae.o,g.o.2⟩⟩);simp[intOf]
       have aS:Hid (Iq p.funcs d n b (b:Int)):=l.o.1.hQ oM (by rw[Lg p.funcs d b f G.o.2.2,<-a8.o,<-g.o.1]);go_wp2;go_roundw;(case rel=>exact⟨b,(b:Int),oM,rfl,by go_num,⟨aS.o,g.o.2⟩⟩);simp[intOf]
     | zero=>
       rw[show(((0:Nat):Int)-1)=-1 from rfl];rcases l.o.1 with⟨rfl,aZ⟩|⟨q,rfl,_,aw,bt,bp⟩
       . (have N:Hid (IR p.funcs=[]):=by show _=_;rw[<-F.o.2,show n-d.length=(n-d.length-1)+1 from oM];simp only[GM];rw[Ok (fun j Q=>aZ j (lr _) (by rw[<-M.o];exact Q))]);have a6:=Ag l.o.2.aC;go_wp2;go_ret;exact⟨_,[],rfl,⟨rfl,.inl ⟨rfl,_,_,rfl⟩⟩,.inl ⟨K.o,N.o.symm⟩,Ac a6.o lR (Aa _ _)⟩
       . (have N:Hid (GM p.funcs (n-(d++[(q:Int)]).length) (d++[(q:Int)])=IR p.funcs):=by show _=_;rw[<-F.o.2,show n-d.length=(n-d.length-1)+1 from oM];simp only[GM];rw[Ol (by rw[M.o];exact aw) bt (fun j Q=>bp j (lr _) Q),f6,jY,Nat.sub_add_eq]);have O:=l.o.2.done.cellAt q oM;rw[Gi _ _ _ aw]at O;generalize d.contains (q:Int)=cq at O;have d1:=l.o.2.done.frozenAt q;have aR:=Ag (Ns.of l.o.2 aw aD.o);have bV:(q:Int)<(n:Int):=oM;have bT:¬(q:Int)<0:=oM;(go_upto_region 22 with fail);refine Ao (fun u=>Hid (Ns w u ⟨D,vk,.slice (some ⟨gf,of,none⟩) n cf,E⟩ n I (.slice U d.length cV) d q)) aR ?_;intro U1 m;go_wp2_with (at_builtin;refine wpList_append_lies _ rfl _ _ 58 rfl (w.heap.size+1) 2 k0 (.int .i64 0) 1 8 Tryz.underlying58 hk bw bx bz rfl dC _ d.length (d.flatMap Ad) rfl (m.o.al (.cells #[.int .i64 (q:Int)] 2)).1 ⟨U1.heap.size,0,none⟩ 1 1 [.int .i64 (q:Int)] rfl rfl (Q2 U1 (q:Int)) (fun u hu=>by simp at hu;subst hu;rfl) oM oX oM (m.o.al (.cells #[.int .i64 (q:Int)] 2)).2 _ rfl ?_;intro g3 aF w3 R Z aU au;have A:Hid (CW w w3 ⟨D,vk,.slice (some ⟨gf,of,none⟩) n cf,E⟩ n I (.slice (some ⟨g3,0,none⟩) (d.length+1) aF) (d++[(q:Int)])):=m.o.next R Z;clear R Z aU au);go_wp2;go_roundw;(case rel=>exact⟨d++[(q:Int)],by simp only[f6,jY];omega,⟨some ⟨g3,0,none⟩,aF,by rw[f6,jY]⟩,⟨A.o,N.o⟩⟩);simp only[Wo];omega
   have hz:d.length=n:=oM;(have N:Hid (d=IR p.funcs):=by have:=F.o.2;rw[hz,nP]at this;exact this);have ah:=Ag (f7 (Rd.cB F.o.1.o) F.o.1.aC);rw[hz]at ah⊢;go_wp2;go_ret;refine⟨_,d,rfl,?_,.inl ⟨K.o,N.o⟩,ah.o.2⟩;rw[hz];exact ah.o.1
 have A:Hid (¬Bj p 0):=fun e=>q0 (Bj.one aL e)
 have bY:(nf != 0)=true:=by simpa using q0
 have a6:=Ag s.o.2.2;go_wp2;go_ret;exact⟨_,[],rfl,⟨rfl,.inl ⟨rfl,_,_,rfl⟩⟩,.inr ⟨A.o,rfl⟩,a6.o⟩
theorem Dz(z:Int):∀u∈[Value.int .i64 z],u.oneCell'=true:=fun u a=>by simp at a;subst a;rfl
theorem Ja(a:List Int)(z:Int):a.flatMap Ad++[.int .i64 z]=(a++[z]).flatMap Ad:=by rw[kO];rfl
def Dr(s:CP)(p m:Int)(u c:World):Prop:=∃b,p<=b/\b<=p+m/\Dy c s.S s.a s.len s.cap b/\AG s.S u c
def PW(s:CP)(p:Int)(n:Nat)(u:World)(e:Ending)(a:World):Prop:=∃r:Int,e=.returned (.int .i64 r)∧-1<=r/\r<n/\Dr s p 1 u a
theorem Dn(u:World)(s:CP)(p t:Int)(lv:Value)(xs:List Int)(hs:Dy u s.S s.a s.len s.cap p)(Z:p+1<=1000000000000)(hr:Rd u 1 lv xs.length (xs.flatMap Ad))(hl:xs.length<=1048576):
 Calls Tryz.prog 123 #[.pointer (some ⟨s.S,0,none⟩),lv,.int .i64 t,.int .i64 256] u (PW s p xs.length u):=by
 obtain⟨au,hi,am,ao,aq⟩:=kS Co;obtain⟨a,c,rfl⟩:=Rd.bW hr;have H:=Ag (f7 hs hr);have O:Hid (s.S<u.heap.size):=H.o.1.lt;generalize hn:xs.length=n at H hl⊢;have HN:Hid (xs.length=n):=hn;go_enter Tryz.func123,Tryz.ntmps123;go_wp2_with fail;have L:Hid ((u.alloc (.cells #[] 2)).ownsRow u.heap.size 2 1 (.slice (some ⟨u.heap.size,0,none⟩) 0 0) 0 []/\Below u.heap.size u (u.alloc (.cells #[] 2))):=⟨⟨rfl,.inr ⟨u.heap.size,0,#[],rfl,Nat.le_refl _,lq _ _,Nat.le_refl _,lr _,rfl,sP⟩⟩,Aa _ _⟩
 go_loopw [9,10] (fun V i wr=>∃(j:Nat) (g:Option Addr) (d:List Int) (cV:Nat),j<=n/\j<=256/\V=.slice g d.length cV/\i=.int .i64 j/\d.length<=j/\Hid (wr.ownsRow u.heap.size 2 1 (.slice g d.length cV) d.length (d.flatMap Ad)/\Below u.heap.size u wr/\∀z∈d,0<=z/\z<n)) (fun _ i _=>n-(intOf i).toNat)
 case atStart=>exact⟨0,_,[],_,oM,oM,rfl,rfl,sP,L.o.1,L.o.2,fun z k=>by cases k⟩
 obtain⟨j,g,d,cV,hj,aA,rfl,rfl,a6,f⟩:=hrel;by_cases ah:j<n/\j<256
 case pos=>
  obtain⟨h1,h2⟩:=ah;have E:(j:Int)<(n:Int):=oM;have T:(j:Int)<256:=oM;obtain⟨x,hx⟩:∃x,xs[j]?=some x:=⟨_,an (by rw[HN.o];exact h1)⟩;obtain⟨G,K,ea,kz⟩:∃G K,a=some ⟨G,K,none⟩/\wr.cell? ⟨G,K+j,none⟩=some (.int .i64 x):=by
   have:=Rd.aa H.o.2 f.o.2.1 lR;rcases this.2 with⟨e0,_⟩|⟨g1,o1,aw,Q,hc⟩
   . omega
   simp only[ip,kU]at Q;exact⟨g1,o1,Q.1,hc j _ (FN hx)⟩
  subst ea;cases hxt:(x==t)
  case false=>go_wp2_with fail;go_roundw;(case rel=>exact⟨j+1,g,d,cV,oM,oM,rfl,by go_num,oM,f⟩);exact oI
  case true=>
   have HZ:Hid (∀z∈d,0<=z/\z<n):=f.o.2.2
   have w:Hid ((wr.alloc (.cells #[.int .i64 (j:Int)] 2)).ownsRow u.heap.size 2 1 (.slice g d.length cV) d.length (d.flatMap Ad)/\Below u.heap.size u (wr.alloc (.cells #[.int .i64 (j:Int)] 2))):=⟨Ai f.o.1 (Aa _ _) lR,Ac f.o.2.1 lR (Aa _ _)⟩
   generalize hm:d.length=m at a6 w⊢;have HM:Hid (d.length=m):=hm;go_wp2_with (first|(at_builtin;refine wpList_append_lies _ rfl _ _ 58 rfl u.heap.size 2 au (.int .i64 0) 1 8 Tryz.underlying58 hi am ao aq rfl dC (.slice g m cV) m (d.flatMap Ad) rfl w.o.1 ⟨wr.heap.size,0,none⟩ 1 1 [.int .i64 (j:Int)] rfl rfl (Ci wr _ _) (Dz _) oM oX oM w.o.2.size _ rfl ?_;intro R P w5 Y U ae aj;have M:Hid (w5.ownsRow u.heap.size 2 1 (.slice (some ⟨R,0,none⟩) (m+1) P) (m+1) ((d++[(j:Int)]).flatMap Ad)/\Below u.heap.size u w5):=⟨by rw[<-Ja];exact Y,w.o.2.grown U w.o.2.size (fun q hq=>(w.o.1.lt q hq).1)⟩;clear Y U ae aj)|go_in)
   (have X:(d++[(j:Int)]).length=m+1:=by rw[f6,HM.o];rfl);go_roundw;case rel=>exact⟨j+1,some ⟨R,0,none⟩,d++[(j:Int)],P,oM,oM,by rw[X],by go_num,oM,by rw[X];exact M.o.1,M.o.2,fun z k=>by
    rcases kB.1 k with e|e
    . exact HZ.o z e
    rw[kM.1 e];omega⟩
   case measure=>exact oI
 case neg=>
  have hd:decide (j<n)=false\/decide ((j:Int)<256)=false:=by
   by_cases h1:j<n
   . exact .inr oT
   exact .inl (by simpa using h1)
  by_cases W:d.length=0
  . have v:Hid (Dr s p 1 u wr):=⟨p,oM,oM,H.o.1.below f.o.2.1,.gz f.o.2.1⟩;generalize d.length=m at W a6⊢;subst W;by_cases h1:j<n
    . have E:(j:Int)<(n:Int):=oM;have T:¬(j:Int)<256:=oM;go_wp2_with fail;go_ret;exact⟨-1,rfl,oM,oM,v.o⟩
    have E:¬(j:Int)<(n:Int):=oM;go_wp2_with fail;go_ret;exact⟨-1,rfl,oM,oM,v.o⟩
  have aD:((d.length:Int)==0)=false:=by rw[mV];omega
  have N:Hid (Dy wr s.S s.a s.len s.cap p):=H.o.1.below f.o.2.1;by_cases h1:j<n
  . have E:(j:Int)<(n:Int):=oM;have T:¬(j:Int)<256:=oM;go_wp2_with fail;refine(Al N.o Z (n:=(d.length:Int)) oM oM).mono ?_;rintro e D ⟨r,y,a8,rfl,J,B⟩;obtain⟨l,rfl⟩:=i7 y;have C:l<d.length:=oM;have A:D.ownsRow u.heap.size 2 1 (.slice g d.length cV) d.length (d.flatMap Ad):=BJ f.o.1 B.grow (fun b I e=>by have:=(f.o.1.lt b I).1;have:=O.o;simp only[i4]at e;omega);obtain⟨h,F⟩:∃h,g=some ⟨h,0,none⟩:=by
     rcases B9 A with⟨e,y⟩|⟨h,c,e⟩
     . omega
     simp only[ip]at e;exact⟨h,e.1⟩
    subst F;have c0:=kW A l oM;rw[FN (an C)]at c0;have k:=f.o.2.2 _ (ku C);have v:Hid (Dr s p 1 u D):=⟨p+1,oM,oM,J,(AG.gz f.o.2.1).trans B⟩;generalize d[l]=z at c0 k;go_wp2_with fail;go_ret;exact⟨z,rfl,oM,oM,v.o⟩
  have E:¬(j:Int)<(n:Int):=oM;go_wp2_with fail;refine(Al N.o Z (n:=(d.length:Int)) oM oM).mono ?_;rintro e D ⟨r,y,a8,rfl,J,B⟩;obtain⟨l,rfl⟩:=i7 y;have C:l<d.length:=oM;have A:D.ownsRow u.heap.size 2 1 (.slice g d.length cV) d.length (d.flatMap Ad):=BJ f.o.1 B.grow (fun b I e=>by have:=(f.o.1.lt b I).1;have:=O.o;simp only[i4]at e;omega);obtain⟨h,F⟩:∃h,g=some ⟨h,0,none⟩:=by
   rcases B9 A with⟨e,y⟩|⟨h,c,e⟩
   . omega
   simp only[ip]at e;exact⟨h,e.1⟩
  subst F;have c0:=kW A l oM;rw[FN (an C)]at c0;have k:=f.o.2.2 _ (ku C);have v:Hid (Dr s p 1 u D):=⟨p+1,oM,oM,J,(AG.gz f.o.2.1).trans B⟩;generalize d[l]=z at c0 k;go_wp2_with fail;go_ret;exact⟨z,rfl,oM,oM,v.o⟩
def Tk(s:CP)(u:World)(b:Value)(xs:List Int):Prop:=∀a,AG s.S u a->Rd a 1 b xs.length (xs.flatMap Ad)
theorem Tk.rd{xs:List Int}(h:Tk s u a xs):Rd u 1 a xs.length (xs.flatMap Ad):=h u (AG.refl _ _)
theorem Tk.draw{b:World}{xs:List Int}(h:Tk s u a xs)(c:AG s.S u b):Tk s b a xs:=fun d h2=>h d (c.trans h2)
theorem Tk.own{xs:List Int}(h:u.ownsRow B 2 1 a xs.length (xs.flatMap Ad))(f:s.S<B):Tk s u a xs:=fun g d=>Rd.cB (BJ h d.grow (fun b c e=>by have:=(h.lt b c).1;simp only[i4]at e;omega))
def Ts(s:CP)(p:Int)(n:Nat)(u:World)(e:Ending)(a:World):Prop:=∃r m:Int,e=.returned (.tuple #[.int .i64 r,.int .i64 m])∧-1<=r/\r<n/\0<=m/\m<=n/\Dr s p (n+2) u a
theorem IA(u:World)(s:CP)(p t:Int)(F:Value)(xs:List Int)(E:Dy u s.S s.a s.len s.cap p)(T:p+(xs.length+2)<=1000000000000)(D:Tk s u F xs)(C:xs.length<=1048576):
 Calls Tryz.prog 116 #[.pointer (some ⟨s.S,0,none⟩),F,.int .i64 t] u (Ts s p xs.length u):=by
 have ah:=E.low;obtain⟨a,c,rfl⟩:=Rd.bW D.rd;have H:=Ag (f7 E D);generalize R:xs.length=n at H C T⊢;have l:Hid (xs.length=n):=R;go_enter Tryz.func116,Tryz.ntmps116;go_wp2_with fail;refine(Dn u s p t (.slice a n c) xs H.o.1 oM H.o.2.rd (by rw[l.o];exact C)).mono ?_;rintro e G ⟨r,rfl,ao,W,h,aj,am,X,M⟩;rw[l.o]at W;have k:=Ag (f7 X M);by_cases aq:r<0;case pos=>go_wp2_with fail;refine i6 (v:=.tuple #[.int .i64 (-1),.int .i64 0]) (by simp[results,Tryz.results116,go_sem]) rfl ?_;exact⟨-1,0,rfl,oM,oM,oM,oM,h,oM,oM,k.o⟩
 obtain⟨q,rfl⟩:=i7 (show 0<=r from oM);have I:Hid (Rd G 1 (.slice a n c) n (xs.flatMap Ad)):=by have:=H.o.2.draw k.o.2|>.rd;rw[l.o]at this;exact this
 go_wp2_with fail;go_loopw [9] (fun i wr=>∃m:Nat,q+m<=n/\i=.int .i64 m/\wr=G) (fun i _=>n-(intOf i).toNat)
 case atStart=>exact⟨0,oM,rfl,rfl⟩
 obtain⟨m,hm,rfl,rfl⟩:=hrel;by_cases O:q+m<n;case pos=>
  have a8:((q+m:Nat):Int)<(n:Int):=oM;have P:(q:Int)+(m:Int)<(n:Int):=oM;obtain⟨x,Y⟩:∃x,xs[q+m]?=some x:=⟨_,an (by rw[l.o];exact O)⟩;obtain⟨w,A,J,kz⟩:∃w A,a=some ⟨w,A,none⟩/\wr.cell? ⟨w,A+(q+m),none⟩=some (.int .i64 x):=by
   rcases I.o.2 with⟨e0,_⟩|⟨K,Z,a6,B,L⟩
   . omega
   simp only[ip,kU]at B;exact⟨K,Z,B.1,L _ _ (FN Y)⟩
  subst J;have ae:((q:Int)+(m:Int)).toNat=q+m:=oM;cases hxt:(x==t)
  case true=>go_wp2_with fail;go_roundw;(case rel=>exact⟨m+1,oM,by go_num,trivial⟩);exact oI
  case false=>
   go_wp2_with fail;go_loopw [10] (fun i wr=>∃(d:Nat) (f:Int),d<=m/\i=.int .i64 d/\h<=f/\f<=h+d/\Hid (Dy wr s.S s.a s.len s.cap f/\AG s.S u wr)) (fun i _=>m-(intOf i).toNat)
   (case atStart=>exact⟨0,h,oM,rfl,oM,oM,k⟩);obtain⟨d,f,Q,rfl,U,V,g⟩:=hrel;by_cases N:(d:Int)*2+2<=(m:Int);(case neg=>go_wp2_with fail;refine i6 (v:=.tuple #[.int .i64 (q:Int),.int .i64 (d:Int)]) (by simp[results,Tryz.results116,go_sem]) rfl ?_;exact⟨_,_,rfl,oM,oM,oM,oM,f,oM,oM,g.o⟩);go_wp2_with fail;refine(BO g.o.1).mono ?_;rintro e u3 ⟨b,rfl,z,y⟩;have j:=Ag (f7 z (g.o.2.trans y));cases b
   . go_wp2_with fail;refine i6 (v:=.tuple #[.int .i64 (q:Int),.int .i64 (d:Int)]) (by simp[results,Tryz.results116,go_sem]) rfl ?_;exact⟨_,_,rfl,oM,oM,oM,oM,f+1,oM,oM,j.o⟩
   go_wp2_with fail;go_roundw;(case rel=>exact⟨d*2+1,f+1,oM,by go_num,oM,oM,j⟩);exact oI
 case neg=>
  have P:¬(q:Int)+(m:Int)<(n:Int):=oM;go_wp2_with fail;go_loopw [10] (fun i wr=>∃(d:Nat) (f:Int),d<=m/\i=.int .i64 d/\h<=f/\f<=h+d/\Hid (Dy wr s.S s.a s.len s.cap f/\AG s.S u wr)) (fun i _=>m-(intOf i).toNat)
  case atStart=>exact⟨0,h,oM,rfl,oM,oM,k⟩
  obtain⟨d,f,Q,rfl,U,V,g⟩:=hrel;by_cases N:(d:Int)*2+2<=(m:Int);case neg=>go_wp2_with fail;refine i6 (v:=.tuple #[.int .i64 (q:Int),.int .i64 (d:Int)]) (by simp[results,Tryz.results116,go_sem]) rfl ?_;exact⟨_,_,rfl,oM,oM,oM,oM,f,oM,oM,g.o⟩
  go_wp2_with fail;refine(BO g.o.1).mono ?_;rintro e u3 ⟨b,rfl,z,y⟩;have j:=Ag (f7 z (g.o.2.trans y));cases b
  . go_wp2_with fail;refine i6 (v:=.tuple #[.int .i64 (q:Int),.int .i64 (d:Int)]) (by simp[results,Tryz.results116,go_sem]) rfl ?_;exact⟨_,_,rfl,oM,oM,oM,oM,f+1,oM,oM,j.o⟩
  go_wp2_with fail;go_roundw;case rel=>exact⟨d*2+1,f+1,oM,by go_num,oM,oM,j⟩
  exact oI
end Go.Proofs.YthjbicggfnnonaaGreatDoor
