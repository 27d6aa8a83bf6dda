import Derived.Test.YthjbicggfnnonaaGreatDoorCw29
namespace Go.Proofs.YthjbicggfnnonaaGreatDoor
open Go.ChangeShapes Go.WideShapes Go.ChangeAt Go.RowKit
set_option linter.unusedVariables false
set_option maxHeartbeats 4000000
set_option maxRecDepth 100000
variable {p:MP}
theorem Lv(v:VP)(p:MP)(w:World)(hs:p.small)(h:Ft w v p)(ah:OQ w v.f p.funcs):
 Calls Tryz.prog 47 #[.agg #[v.r,v.k,v.f,v.t]] w fun e w'=>Au e (BG p)/\Below w.heap.size w w':=by
 obtain⟨D,vk,C,vt⟩:=v;have z:=Ag (f7 h.a7 (f7 hs (f7 h ah)));have hn:=hs.a7;obtain⟨a1,c1,V⟩:∃a c,vt=.slice a p.a7.length c:=h.a7.bW;subst V;clear h hs ah;have B:Hid _:=Lq.of w D vk C (.slice a1 p.a7.length c1) 29;generalize ae:p.a7.length=n at*;have H:=Ag ae;clear ae;by_cases q0:64<n
 . (have L:Hid (¬BG p):=fun e=>absurd e.1 (by rw[H.o];omega));have aj:(64:Int)<(n:Int):=oM;clear z;go_enter Tryz.func47,Tryz.ntmps47;go_wp2;go_ret;exact⟨.no L.o,B.o.aC⟩
 have aj:¬(64:Int)<(n:Int):=oM;go_enter Tryz.func47,Tryz.ntmps47;go_wp2;go_loopw [12] (fun i wr=>∃k:Nat,k<=n/\i=iZ k/\Hid (∀j,j<k->Fm p p.a7 j)/\Hid (Lq w wr D vk C (.slice a1 n c1))) (fun i _=>n-(intOf i).toNat)
 case atStart=>exact⟨0,oM,rfl,fun j hj=>oM,B⟩
 clear B;obtain⟨k,hk,rfl,HT,B⟩:=hrel;by_cases a8:k<n
 . obtain⟨x,J⟩:∃x,p.a7[k]?=some x:=⟨_,an (by rw[H.o];exact a8)⟩;rcases z.o.1.2 with⟨e0,_⟩|⟨b,o,c,V,I⟩
   . omega
   simp only[ip,kU]at V;obtain⟨rfl,rfl⟩:=V;have K:=Rd.elem MT.aK I k x J 0 _ rfl;have X:=Rd.elem MT.aK I k x J 1 _ rfl;have Y:=Rd.elem MT.aK I k x J 2 _ rfl;have Z:=Rd.elem MT.aK I k x J 3 _ rfl;rw[<-B.o.aC.cell (d5 K),kD]at K;rw[<-B.o.aC.cell (d5 X)]at X;rw[<-B.o.aC.cell (d5 Y)]at Y;rw[<-B.o.aC.cell (d5 Z)]at Z;have U:=Ag J;have S:=Ag I;clear I J;obtain⟨m,q,l,s⟩:=x;simp only[]at K X Y Z;have nb:¬b=wr.heap.size:=kg (d5 K);have mb:b<wr.heap.size:=d5 K;have a6:Hid (Below w.heap.size w (wr.alloc (.cells #[iZ m,iZ q,iZ l,.int .u32 s] 72))/\Ep (wr.alloc (.cells #[iZ m,iZ q,iZ l,.int .u32 s] 72)) w.heap.size D vk C (sO b o n c1)/\Ep (wr.alloc (.cells #[iZ m,iZ q,iZ l,.int .u32 s] 72)) wr.heap.size (iZ m) (iZ q) (iZ l) (.int .u32 s)):=⟨Ac B.o.aC lR (Aa _ _),B.o.prog.alloc _,Ep.new _ _ _ _ _ _⟩
   go_wp2_with fail;generalize wr.alloc (.cells #[iZ m,iZ q,iZ l,.int .u32 s] 72)=A at a6⊢;have g:=Ag a6;clear a6 K X Y Z nb mb B aj;obtain⟨p0,p1,p2,p3⟩:=g.o.2.1;obtain⟨r0,r1,r2,r3⟩:=g.o.2.2;have inst:=At.some A;(have P0:=fun n:At A=>At.cell p0 n);(have P1:=fun n:At A=>At.cell p1 n);(have P2:=fun n:At A=>At.cell p2 n);(have P3:=fun n:At A=>At.cell p3 n);(have R0:=fun n:At A=>At.cell r0 n);(have R1:=fun n:At A=>At.cell r1 n);(have R2:=fun n:At A=>At.cell r2 n);(have R3:=fun n:At A=>At.cell r3 n);by_cases W:Fo p ⟨m,q,l,s⟩
   . have F:Hid (Fo p ⟨m,q,l,s⟩):=W;clear W;by_cases q5:k=0
     . subst q5;(have HA:Hid (Fm p p.a7 0):=fun c Q=>by rw[U.o]at Q;obtain rfl:=kH Q;exact⟨F.o,fun i d hi=>oM⟩);refine AF kR kR ?_;(repeat(go_big_quiet_step ((first|(go_at_call 80;rename_i n';exact(EP ⟨D,vk,C,sO b o n c1⟩ p m q l s n'.u z.o.2.1 (z.o.2.2.1.aa (Ac g.o.1 lR n'.h) lR) (z.o.2.2.2.aa (Ac g.o.1 lR n'.h) lR)).mono fun e y h=>⟨h.1.true F.o,⟨⟨y,Ac n'.h lR h.2⟩,rfl⟩⟩)))));refine wpQuiet_nil ?_;rintro y ⟨n',rfl⟩;have G:Hid (Lq w n'.u D vk C (sO b o n c1)):=⟨Ac g.o.1 lR n'.h,g.o.2.1.aa n'.h⟩;go_wp2;go_roundw;(case rel=>exact⟨1,oM,by go_num,FC HA.o HT.o,G⟩);exact oI
     obtain⟨i,rfl⟩:∃i,k=i+1:=⟨k-1,oM⟩;obtain⟨d,E⟩:∃d,p.a7[i]?=some d:=⟨_,an (by rw[H.o];omega)⟩;have y0:=Rd.elem MT.aK S.o i d E 0 _ rfl;have y1:=Rd.elem MT.aK S.o i d E 1 _ rfl;have y2:=Rd.elem MT.aK S.o i d E 2 _ rfl;have y3:=Rd.elem MT.aK S.o i d E 3 _ rfl;rw[<-g.o.1.cell (d5 y0),kD]at y0;rw[<-g.o.1.cell (d5 y1)]at y1;rw[<-g.o.1.cell (d5 y2)]at y2;rw[<-g.o.1.cell (d5 y3)]at y3;obtain⟨N,O,M,P⟩:=d;simp only[]at y0 y1 y2 y3;have HD:=Ag E;clear E;(have Y0:=fun n:At A=>At.cell y0 n);(have Y1:=fun n:At A=>At.cell y1 n);(have Y2:=fun n:At A=>At.cell y2 n);(have Y3:=fun n:At A=>At.cell y3 n);have ao:((i+1:Nat):Int)-1=(i:Int):=oM;have aq:(0:Int)<((i+1:Nat):Int):=oM;by_cases R:It ⟨N,O,M,P⟩ ⟨m,q,l,s⟩
     . have T:Hid (It ⟨N,O,M,P⟩ ⟨m,q,l,s⟩):=R;(have HA:Hid (Fm p p.a7 (i+1)):=fun c Q=>by rw[U.o]at Q;obtain rfl:=kH Q;refine⟨F.o,fun i' d' hi E=> ?_⟩;obtain rfl:i'=i:=oM;rw[HD.o]at E;obtain rfl:=kH E;exact R);clear R;refine AF kR kR ?_;(repeat(go_big_quiet_step ((first|(go_at_call 80;rename_i n';exact(EP ⟨D,vk,C,sO b o n c1⟩ p m q l s n'.u z.o.2.1 (z.o.2.2.1.aa (Ac g.o.1 lR n'.h) lR) (z.o.2.2.2.aa (Ac g.o.1 lR n'.h) lR)).mono fun e y h=>⟨h.1.true F.o,⟨⟨y,Ac n'.h lR h.2⟩,rfl⟩⟩)|(go_at_call 81;rename_i n';exact(Mp ⟨N,O,M,P⟩ ⟨m,q,l,s⟩ n'.u).mono fun e y h=>⟨h.1.true T.o,⟨⟨y,Ac n'.h lR h.2⟩,rfl⟩⟩)))));refine wpQuiet_nil ?_;rintro y ⟨n',rfl⟩;have G:Hid (Lq w n'.u D vk C (sO b o n c1)):=⟨Ac g.o.1 lR n'.h,g.o.2.1.aa n'.h⟩;go_wp2;go_roundw;(case rel=>exact⟨i+1+1,oM,by go_num,FC HA.o HT.o,G⟩);exact oI
     have T:Hid (¬It ⟨N,O,M,P⟩ ⟨m,q,l,s⟩):=R;clear R;(have L:Hid (¬BG p):=fun e=>by exact T.o ((e.2 (i+1) (by rw[H.o];exact a8) _ U.o).2 i _ rfl HD.o));refine AF kR kR ?_;(repeat(go_big_quiet_step ((first|(go_at_call 80;rename_i n';exact(EP ⟨D,vk,C,sO b o n c1⟩ p m q l s n'.u z.o.2.1 (z.o.2.2.1.aa (Ac g.o.1 lR n'.h) lR) (z.o.2.2.2.aa (Ac g.o.1 lR n'.h) lR)).mono fun e y h=>⟨h.1.true F.o,⟨⟨y,Ac n'.h lR h.2⟩,rfl⟩⟩)|(go_at_call 81;rename_i n';exact(Mp ⟨N,O,M,P⟩ ⟨m,q,l,s⟩ n'.u).mono fun e y h=>⟨h.1.false T.o,⟨⟨y,Ac n'.h lR h.2⟩,rfl⟩⟩)))));refine wpQuiet_nil ?_;rintro y ⟨n',rfl⟩;have G:Hid (Lq w n'.u D vk C (sO b o n c1)):=⟨Ac g.o.1 lR n'.h,g.o.2.1.aa n'.h⟩;go_wp2;go_ret;exact⟨.no L.o,G.o.aC⟩
   have F:Hid (¬Fo p ⟨m,q,l,s⟩):=W;clear W;(have L:Hid (¬BG p):=fun e=>by exact F.o (e.2 k (by rw[H.o];exact a8) _ U.o).1);refine AF kR kR ?_;(repeat(go_big_quiet_step ((first|(go_at_call 80;rename_i n';exact(EP ⟨D,vk,C,sO b o n c1⟩ p m q l s n'.u z.o.2.1 (z.o.2.2.1.aa (Ac g.o.1 lR n'.h) lR) (z.o.2.2.2.aa (Ac g.o.1 lR n'.h) lR)).mono fun e y h=>⟨h.1.false F.o,⟨⟨y,Ac n'.h lR h.2⟩,rfl⟩⟩)))));refine wpQuiet_nil ?_;rintro y ⟨n',rfl⟩;have G:Hid (Lq w n'.u D vk C (sO b o n c1)):=⟨Ac g.o.1 lR n'.h,g.o.2.1.aa n'.h⟩;go_wp2;go_ret;exact⟨.no L.o,G.o.aC⟩
 have am:n=k:=oM;subst am;have HY:Hid (BG p):=⟨by rw[H.o];omega,by rw[H.o];exact HT.o⟩;go_wp2;go_ret;exact⟨.hQ HY.o,B.o.aC⟩
def GX(n:Int):Value:=if n=0 then .nilIface else .iface 80 (iZ n)
def Dx(e:Ending)(p:MP):Prop:=∃n,e=.returned (GX n)/\Bj p n
theorem Dx.f1(h:¬AD p.aB):Dx (.returned (.iface 80 (iZ 1))) p:=⟨1,rfl,.inl ⟨rfl,h⟩⟩
theorem Dx.f2(h1:AD p.aB)(h:¬Bg p.ag):Dx (.returned (.iface 80 (iZ 2))) p:=⟨2,rfl,.inr (.inl ⟨rfl,h1,h⟩)⟩
theorem Dx.f3(h1:AD p.aB/\Bg p.ag)(h:¬Bk p.funcs):Dx (.returned (.iface 80 (iZ 3))) p:=⟨3,rfl,.inr (.inr (.inl ⟨rfl,h1.1,h1.2,h⟩))⟩
theorem Dx.f4(h1:AD p.aB/\Bg p.ag)(h2:Bk p.funcs)(h:¬CI p):Dx (.returned (.iface 80 (iZ 4))) p:=⟨4,rfl,.inr (.inr (.inr (.inl ⟨rfl,h1.1,h1.2,h2,h⟩)))⟩
theorem Dx.f5(h1:AD p.aB/\Bg p.ag)(h2:Bk p.funcs)(a:CI p)(h:¬BG p):Dx (.returned (.iface 80 (iZ 5))) p:=⟨5,rfl,.inr (.inr (.inr (.inr (.inl ⟨rfl,h1.1,h1.2,h2,a,h⟩))))⟩
theorem Dx.f0(h1:AD p.aB/\Bg p.ag)(h2:Bk p.funcs)(a:CI p)(h:BG p):Dx (.returned .nilIface) p:=⟨0,rfl,.inr (.inr (.inr (.inr (.inr ⟨rfl,h1.1,h1.2,h2,a,h⟩))))⟩
theorem Gh(v:VP)(p:MP)(w:World)(L:p.small)(hw:p.wf)(h:Ft w v p)(J:Mw w v.r p.aB)(K:OQ w v.f p.funcs):
 Calls Tryz.prog 16 #[.agg #[v.r,v.k,v.f,v.t]] w fun e T=>Dx e p/\Below w.heap.size w T:=by
 have H:=Ag (f7 L (f7 hw (f7 h (f7 J K))));clear L hw h J K;have q:Hid _:=Lq.of w v.r v.k v.f v.t 29;go_enter Tryz.func16,Tryz.ntmps16;go_wp2_with fail;refine(Kj v.r p.aB _ H.o.1.aB H.o.1.region (H.o.2.2.1.aB.aa q.o.aC lR)).mono ?_;rintro e U ⟨⟨N,rfl,u⟩,rfl⟩;cases N
 . (have a:Hid (¬AD p.aB):=fun e=>by simp[e]at u);clear u;go_wp2;go_ret;exact⟨.f1 a.o,q.o.aC⟩
 have D:=Ag (u.1 rfl);clear u;go_wp2_with fail;refine(KF v.k p.ag _ H.o.1.ag (fun c S=>(QD (H.o.2.1.ag c S).2).1) (H.o.2.2.1.ag.aa q.o.aC lR)).mono ?_;rintro e V ⟨⟨O,rfl,x⟩,E⟩;have s:=Ag (q.o.aa E);clear E;cases O
 . (have a:Hid (¬Bg p.ag):=fun e=>by simp[e]at x);clear x;go_wp2;go_ret;exact⟨.f2 D.o a.o,s.o.aC⟩
 have g:=Ag (f7 D.o (x.1 rfl));clear x;obtain⟨i,j,l,m⟩:=s.o.prog;go_wp2_with fail;refine(LC v.f p.funcs _ H.o.1.funcs H.o.1.func (H.o.2.2.1.funcs.aa s.o.aC lR)).mono ?_;rintro e W ⟨⟨P,rfl,y⟩,F⟩;have b:=Ag (s.o.aa F);clear F i j l m;cases P
 . (have a:Hid (¬Bk p.funcs):=fun e=>by simp[e]at y);clear y;go_wp2;go_ret;exact⟨.f3 g.o a.o,b.o.aC⟩
 have n:=Ag (y.1 rfl);clear y;obtain⟨i,j,l,m⟩:=b.o.prog;go_wp2_with fail;refine(Lx v p _ H.o.1 H.o.2.1 g.o.1 n.o (H.o.2.2.1.aa b.o.aC lR) (H.o.2.2.2.1.aa b.o.aC lR)).mono ?_;rintro e X ⟨⟨Q,rfl,z⟩,G⟩;have d:=Ag (b.o.aa G);clear G i j l m;cases Q
 . (have a:Hid (¬CI p):=fun e=>by simp[e]at z);clear z;go_wp2;go_ret;exact⟨.f4 g.o n.o a.o,d.o.aC⟩
 have B:=Ag (z.1 rfl);clear z;obtain⟨i,j,l,m⟩:=d.o.prog;go_wp2_with fail;refine(Lv v p _ H.o.1 (H.o.2.2.1.aa d.o.aC lR) (H.o.2.2.2.2.aa d.o.aC lR)).mono ?_;rintro e Y ⟨⟨R,rfl,A⟩,I⟩;have C:=Ag (Ac d.o.aC lR I);clear I i j l m;cases R
 . (have a:Hid (¬BG p):=fun e=>by simp[e]at A);clear A;go_wp2;go_ret;exact⟨.f5 g.o n.o B.o a.o,C.o⟩
 have M:Hid (BG p):=A.1 rfl;clear A;go_wp2;go_ret;exact⟨.f0 g.o n.o B.o M.o,C.o⟩
end Go.Proofs.YthjbicggfnnonaaGreatDoor
