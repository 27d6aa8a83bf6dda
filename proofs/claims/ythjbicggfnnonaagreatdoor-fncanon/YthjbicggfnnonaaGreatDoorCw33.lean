import Derived.Test.YthjbicggfnnonaaGreatDoorCw32
import Derived.Test.YthjbicggfnnonaaGreatDoorCw18
namespace Go.Proofs.YthjbicggfnnonaaGreatDoor
open Go.ChangeShapes Go.WideShapes Go.ChangeAt Go.RowKit
set_option linter.unusedVariables false
set_option maxHeartbeats 8000000
set_option maxRecDepth 100000
variable {a z n e P A:Int}{p:MP}{w u:World}{b k i:Nat}{l:ML}{f:MF}{r:JO}{xs:List MI}{g:MI}{m:MB}
theorem TI{α:Type}(f:α->List Value)(b:Nat)(a:List α)(h:∀y∈a,(f y).length<=b):(a.flatMap f).length<=a.length*b:=by
 induction a with
 |nil=>simp
 | cons y r d=>rw[kG,f6,kY,mq];have:=h y sP;have:=d (fun z c=>h z (by simp[c]));omega
theorem NS{a:List MF}(h:Bk a):(a.flatMap BC).length<=265000:=by have:=TI BC 8240 a (fun f d=>by obtain⟨j,c,rfl⟩:=List.getElem_of_mem d;have b:=h.2.2.1 j c _ (an c);rw[Hf];have:=b.ij;have:=b.loc;have:=b.iJ;omega);have:=h.2.1;have:a.length*8240<=32*8240:=Nat.mul_le_mul_right _ h.2.1;omega
theorem L3(h:Bj p 0):AD p.aB/\Bg p.ag/\Bk p.funcs/\CI p/\BG p:=by
 rcases h with h|h|h|h|h|h
 . exact absurd h.1 dC
 . exact absurd h.1 dC
 . exact absurd h.1 dC
 . exact absurd h.1 dC
 . exact absurd h.1 dC
 exact h.2
theorem Rw(h:Nc z):0<=z/\z<=4294967295:=by simpa[Nc,Lit.wf,IntKind.min,IntKind.max,IntKind.signed,IntKind.bits]using h
theorem KL(v:VP)(p:MP)(base:Nat)(w:World)(hs:p.small)(hw:p.wf)(h:EZ w base v p)(hb:base<=w.heap.size)(ht:D3 w):
 Calls Tryz.prog 7 #[.agg #[v.r,v.k,v.f,v.t]] w fun e w'=>∃r,e=.returned r/\Below w.heap.size w w'/\∃Z,Vx p Z/\w'.ownsRow w.heap.size 5 1 r Z.length Z:=by
 have H:=Ag (f7 hs (f7 hw (f7 h ht)));have A0:Aw (w.alloc (.cells #[v.r,v.k,v.f,v.t] 29)) w.heap.size #[v.r,v.k,v.f,v.t] 29:=Aw.new _ _ _;have B0:=Aa w (.cells #[v.r,v.k,v.f,v.t] 29);have Q:=H.o.2.2.1.aa B0 lR;go_enter Tryz.func7,Tryz.ntmps7;go_wp2_with fail;refine(Gh v p _ H.o.1 H.o.2.1 Q.rd Q.aB.rdc Q.funcs.rdp).mono ?_;rintro e a ⟨⟨n,rfl,hn⟩,Y⟩;have K:=Ag (f7 (A0.aa Y) (f7 (Q.aa Y lR) (Ac B0 lR Y)));by_cases q0:n=0
 . subst q0;have U:=Ag hn;rw[show GX 0=.nilIface from rfl];have aY:=Lib.run_convert_bytes_const (P:=Tryz.prog) a 22 5 #[.int .u8 80,.int .u8 76,.int .u8 67,.int .u8 49] 4 4 Tryz.underlying22 Tryz.underlying5;go_wp2_with fail;have X:Below a.heap.size a ((a.alloc (.cells #[.int .u8 80,.int .u8 76,.int .u8 67,.int .u8 49] 5 (4,5))).alloc (.cells #[sG a.heap.size 4 4] 56)):=Ac (Aa _ _) lR (Aa _ _);have m:Hid (Aw ((a.alloc (.cells #[.int .u8 80,.int .u8 76,.int .u8 67,.int .u8 49] 5 (4,5))).alloc (.cells #[sG a.heap.size 4 4] 56)) (a.heap.size+1) #[sG a.heap.size 4 4] 56/\(∀j T,B8[j]?=some T->((a.alloc (.cells #[.int .u8 80,.int .u8 76,.int .u8 67,.int .u8 49] 5 (4,5))).alloc (.cells #[sG a.heap.size 4 4] 56)).cell? ((⟨a.heap.size,0,none⟩:Addr).add j)=some T)/\Aw ((a.alloc (.cells #[.int .u8 80,.int .u8 76,.int .u8 67,.int .u8 49] 5 (4,5))).alloc (.cells #[sG a.heap.size 4 4] 56)) w.heap.size #[v.r,v.k,v.f,v.t] 29/\EZ ((a.alloc (.cells #[.int .u8 80,.int .u8 76,.int .u8 67,.int .u8 49] 5 (4,5))).alloc (.cells #[sG a.heap.size 4 4] 56)) base v p/\Below w.heap.size w ((a.alloc (.cells #[.int .u8 80,.int .u8 76,.int .u8 67,.int .u8 49] 5 (4,5))).alloc (.cells #[sG a.heap.size 4 4] 56))):=by
    refine⟨?_,fun j T hj=> ?_,K.o.1.aa X,K.o.2.1.aa X lR,Ac K.o.2.2 lR X⟩
    . have:=Aw.new (a.alloc (.cells #[.int .u8 80,.int .u8 76,.int .u8 67,.int .u8 49] 5 (4,5))) #[sG a.heap.size 4 4] 56;simpa using this
    have hc:=JY a (4,5) j T hj;rw[(Aa _ _).cell (d5 hc)];exact hc
   have A:w.heap.size<=a.heap.size+1:=jX K.o.2.2.size (Nat.le_succ _);generalize ((a.alloc (.cells #[.int .u8 80,.int .u8 76,.int .u8 67,.int .u8 49] 5 (4,5))).alloc (.cells #[sG a.heap.size 4 4] 56))=F at m⊢;generalize a.heap.size+1=wb at m A⊢;generalize a.heap.size=mb at m⊢;have G:w.heap.size<=F.heap.size:=m.o.2.2.2.2.size;refine(LS w.heap.size wb mb F G A m.o.1 m.o.2.1).mono ?_;rintro e u2 ⟨rfl,d,b⟩;have O:=Ag (f7 d b);have PB:Hid (∀{u:World},Wg w.heap.size F u->Aw u w.heap.size #[v.r,v.k,v.f,v.t] 29/\EZ u base v p/\Below w.heap.size w u):=fun hg=>⟨hg.block m.o.2.2.1 dC dC,hg.ik m.o.2.2.2.1,m.o.2.2.2.2.trans hg.aC⟩
   obtain⟨c0,c1,c2,c3⟩:=Gg (PB.o O.o.2).1;obtain⟨vr,vk,vf,vt⟩:=v;simp only[]at PB c0 c1 c2 c3;obtain⟨xs,a8,N,aj⟩:=(PB.o O.o.2).2.1.aB;obtain⟨ar,cr,er⟩:=(Rd.cB N).bW;simp only[]at er;subst er;have L:=Ag ((L3 U.o).1.1);have am:=L.o;rw[am]at PB c0;have E:=Ag (L3 U.o);rw[am];go_wp2_with fail;go_loopw [18] (fun i wr=>∃k:Nat,k<=3/\i=iZ k/\Hid (EM w.heap.size wr wb (B8++Az 1 2++(p.aB.take k).flatMap Cb)/\Wg w.heap.size F wr)) (fun i _=>3-(intOf i).toNat)
   (case atStart=>exact⟨0,oM,rfl,⟨by simpa using O.o.1,O.o.2⟩⟩);obtain⟨k,hk,rfl,D⟩:=hrel;by_cases aQ:k<3
   . obtain⟨xs,a8,N,aj⟩:=(PB.o D.o.2).2.1.aB;(have bz:xs.length=3:=by rw[<-L.o,<-a8];simp);obtain⟨⟨r,y⟩,l⟩:∃x,xs[k]?=some x:=⟨_,an oM⟩;have R:=CK a8 l;have ao:=aj _ (d9 l);simp only[]at ao R N;rw[L.o]at N;rcases(Rd.cB N).2 with⟨e0,_⟩|⟨g,o,c,e2,aI⟩
     . omega
     simp only[ip,kU]at e2;obtain⟨rfl,rfl⟩:=e2;have i0:=Rd.elem Bc aI k _ l 0 _ rfl;rw[kn,kD]at i0;simp only[]at i0;have aS:r.length<=1048576:=H.o.1.region _ (d9 R);(have bt:(B8++Az 1 2++(p.aB.take k).flatMap Cb).length<=6+k*258:=by have:=Ht p.aB E.o.1 k;simp only[f6,Ak,B8,kY,kp];omega);have bw:r.length<=256:=(E.o.1.2 k (by rw[L.o];exact aQ) r R).1;have HX:=Ag (f7 R ao);go_wp2_with fail;refine(Hr w.heap.size wb _ 2 y r base _ oM oM aS (by rw[Av GZ 1 (fun y=>Ak y 1)];omega) (jX G D.o.2.size) A D.o.1 HX.o.2).mono ?_;rintro e u3 ⟨rfl,d,b⟩;have HN:Hid (EM w.heap.size u3 wb (B8++Az 1 2++(p.aB.take (k+1)).flatMap Cb)/\Wg w.heap.size F u3):=by refine⟨?_,D.o.2.trans b⟩;rw[Rg Cb HX.o.1,<-kT];exact d
     go_wp2;go_roundw;(case rel=>exact⟨k+1,oM,by go_num,HN⟩);exact oI
   obtain rfl:k=3:=oM;have I:Hid (EM w.heap.size wr wb (B8++Az 1 2++p.aB.flatMap Cb)/\Wg w.heap.size F wr):=by refine⟨?_,D.o.2⟩;have:=D.o.1;rw[lH (by rw[L.o];omega)]at this;exact this
   (have aL:(B8++Az 1 2++p.aB.flatMap Cb).length<=780:=by have:=Nu p.aB E.o.1;simp only[f6,Ak,B8,kY,kp];omega);obtain⟨c0,c1,c2,c3⟩:=Gg (PB.o I.o.2).1;have aW:=E.o.2.1.1;(have bp:(p.ag.flatMap Bz).length<=320:=by rw[Av Bz 5 Kd];omega);go_wp2_with fail;refine(LJ w.heap.size wb _ 2 vk p.ag base _ oM oM H.o.1.ag oM (jX G I.o.2.size) A (fun x l=>Rw (H.o.2.1.ag x l).2) I.o.1 (PB.o I.o.2).2.1.ag).mono ?_;rintro e u4 ⟨rfl,d,b⟩;have J:=Ag (f7 d (I.o.2.trans b));(have aM:(B8++Az 1 2++p.aB.flatMap Cb++(Az p.ag.length 2++p.ag.flatMap Bz)).length<=1200:=by rw[f6];simp only[f6,Ak]at aL⊢;omega);obtain⟨c0,c1,c2,c3⟩:=Gg (PB.o J.o.2).1;obtain⟨q,ah,a6,aJ⟩:=(PB.o J.o.2).2.1.funcs;(have ae:q.length=p.funcs.length:=by rw[<-ah];simp);(have aT:q.flatMap (fun x:MF×VF=>BC x.1)=p.funcs.flatMap BC:=by rw[<-ah,List.flatMap_map]);have aZ:=NS E.o.2.2.1;simp only[]at a6;rw[<-ae]at a6;(have aU:q.length<=1048576:=by rw[ae];exact H.o.1.funcs);have M:Hid ((∀x∈q,Fs u4 base x.2 x.1/\x.1.small)/\u4.ownsRow base 68 4 vf q.length (q.flatMap AJ)/\q.flatMap (fun x:MF×VF=>BC x.1)=p.funcs.flatMap BC/\q.length=p.funcs.length):=⟨fun x l=>⟨aJ x l,H.o.1.func _ (by rw[<-ah];exact List.mem_map_of_mem l)⟩,a6,aT,ae⟩
   go_wp2_with fail;refine(MX w.heap.size wb _ 2 vf q base _ oM oM aU (by rw[M.o.2.2.1];omega) (jX G J.o.2.size) A M.o.1 J.o.1 M.o.2.1).mono ?_;rw[M.o.2.2.1,M.o.2.2.2];rintro e u5 ⟨rfl,d,b⟩;have B:=Ag (f7 d (J.o.2.trans b));(have aN:(B8++Az 1 2++p.aB.flatMap Cb++(Az p.ag.length 2++p.ag.flatMap Bz)++(Az p.funcs.length 2++p.funcs.flatMap BC)).length<=266300:=by rw[f6];simp only[f6,Ak]at aM⊢;omega);obtain⟨c0,c1,c2,c3⟩:=Gg (PB.o B.o.2).1;have aX:=E.o.2.2.2.2.1;(have bu:(p.a7.flatMap Cf).length<=576:=by rw[Av Cf 9 KH];omega);go_wp2_with fail;refine(MW w.heap.size wb _ 2 vt p.a7 base _ oM oM H.o.1.a7 oM (jX G B.o.2.size) A (fun x l=>Rw (H.o.2.1.a7 x l).2.2.2) B.o.1 (PB.o B.o.2).2.1.a7).mono ?_;rintro e u6 ⟨rfl,d,b⟩;(have S:B8++Az 1 2++p.aB.flatMap Cb++(Az p.ag.length 2++p.ag.flatMap Bz)++(Az p.funcs.length 2++p.funcs.flatMap BC)++(Az p.a7.length 2++p.a7.flatMap Cf)=CY p:=by unfold CY;simp only[kT]);(have aP:(CY p).length<=300000:=by rw[<-S,f6];simp only[f6,Ak]at aN⊢;omega);have aD:=(PB.o (B.o.2.trans b)).2.2;rw[S]at d;obtain⟨V,aF,aG⟩:=d;have s:=Ag (f7 aF (f7 aG (f7 (B.o.2.trans b) aD)));have W:=Ag (Di (Lz p));have d0:u6.cell? ⟨wb,0,none⟩=some V:=s.o.1.cell 0;(have aA:Hid (D3 u6):=fun j hj=>by have h0:0<w.heap.size:=d5 (H.o.2.2.2 0 dC);rw[s.o.2.2.2.cell (p:=⟨0,j,none⟩) h0];exact H.o.2.2.2 j hj);generalize S:CY p=z at s aP W;have au:=Ag S;go_wp2_with fail;refine(PT V z.length (BN z) u6 oM (by rw[W.o.1];exact Cj.cB s.o.2.1) W.o.2 aA.o).mono ?_;rintro e u7 ⟨rfl,rfl⟩;obtain⟨t0,t1⟩:=Hu (~~~(BU (BN z) z.length))
   generalize aE:DO (~~~(BU (BN z) z.length))=C at t0 t1⊢
   have aq:=Ag aE;(have bx:wrap64 C=C:=by unfold wrap64;omega);go_wp2_with fail;refine(Bu w.heap.size wb z C 4 _ oM oM oM (jX G s.o.2.2.1.size) A ⟨V,s.o.1,s.o.2.1⟩).mono ?_;rintro e u8 ⟨rfl,⟨V8,aH,aR⟩,b⟩;have E8:=Ag (f7 (s.o.2.2.2.trans b.aC) aR);have d8:u8.cell? ⟨wb,0,none⟩=some V8:=aH.cell 0;go_wp2;go_ret;exact⟨_,rfl,E8.o.1,z++Az C 4,.inl ⟨U.o,by rw[ME,au.o,aq.o]⟩,E8.o.2⟩
 have aw:Hid (¬Bj p 0):=fun e=>q0 (hn.one e)
 rw[show GX n=.iface 80 (iZ n)from lE q0];go_wp2;go_ret;exact⟨_,rfl,K.o.2.2,[],.inr ⟨aw.o,rfl⟩,lJ _ _ _ _⟩
theorem Ux:(Tryz.prog.info? 58).map (fun i=>(i.zero,i.size,i.bytes))=some (some sN,1,24):=kR
theorem Mi(n:Nat):(madeCells (Value.slice none 0 0).cells (n*1)).toList=List.replicate n sN:=by rw[FM (fun b:Bool=>[Value.bool b]) [sN] [] n sN 1 rfl rfl oM];simp[Dd,List.flatten_replicate_singleton]
theorem II{a:World}(b:w.grownBy a none):Below w.heap.size w a:=(kV _ _).grown b lR (fun k c=>by cases c)
def Ro(xs:List MI):Prop:=∃r,Cs xs r/\r.code=0
theorem Ce{t:TypeId}{a c d e:Value}(h:Aw w b #[a,c,d,e] t):w.cell? ⟨b,0,none⟩=some a/\w.cell? ⟨b,1,none⟩=some c/\w.cell? ⟨b,2,none⟩=some d/\w.cell? ⟨b,3,none⟩=some e:=⟨h.cell 0,h.cell 1,h.cell 2,h.cell 3⟩
theorem FV{t:TypeId}{a c d e f g:Value}(h:Aw w b #[a,c,d,e,f,g] t):w.cell? ⟨b,0,none⟩=some a/\w.cell? ⟨b,1,none⟩=some c/\w.cell? ⟨b,2,none⟩=some d/\w.cell? ⟨b,3,none⟩=some e/\w.cell? ⟨b,4,none⟩=some f/\w.cell? ⟨b,5,none⟩=some g:=⟨h.cell 0,h.cell 1,h.cell 2,h.cell 3,h.cell 4,h.cell 5⟩
def Ng(p:MP)(a:Int):Prop:=Bj p 0/\0<=a/\∃f,p.funcs[a.toNat]?=some f/\Ro f.code
def FJ(p:MP)(a:Int)(l:ML):Prop:=Bj p 0/\0<=a/\∃f r,p.funcs[a.toNat]?=some f/\Cs f.code r/\r.code=0/\l∈r.loops
def Ku(p:MP)(a:Int)(l:ML)(f:MF)(r:JO):Prop:=Bj p 0/\0<=a/\p.funcs[a.toNat]?=some f/\Cs f.code r/\r.code=0/\l∈r.loops
def Tq(p:MP)(a:Int)(l:ML)(n:Int):Prop:=(¬FJ p a l/\n=7)\/∃f r,Ku p a l f r/\Cn p a f.code r.blocks l n
theorem Ku.own(h:Ku p a l f r):FJ p a l:=⟨h.1,h.2.1,f,r,h.2.2⟩
theorem Ku.one{f':MF}{r c:JO}(h:Ku p a l f r)(b:Ku p a l f' c):f=f'/\r=c:=by have e:=h.2.2.1;rw[b.2.2.1]at e;have e:=(kH e).symm;subst e;exact⟨rfl,h.2.2.2.1.one b.2.2.2.1⟩
theorem Tq.one{c:Int}{n':Int}(h:Tq p c l n)(b:Tq p c l n'):n=n':=by
 rcases h with⟨a,rfl⟩|⟨f,r,a,h⟩<;>rcases b with⟨a',rfl⟩|⟨f',d,a',b⟩
 . rfl
 . exact absurd a'.own a
 . exact absurd a.own a'
 obtain⟨rfl,rfl⟩:=a.one a';exact h.one b
theorem GG(h:Cs xs r):r.loops.length<=1024/\∀m∈r.loops,m.back.length<=1048576/\m.blocks.length<=1048576:=by
 by_cases b:r.code=0
 . have q:=h.gR b;exact⟨q.nl,fun m a=>⟨by have:=(q.loop m a).2.2.2;omega,by have:=(q.loop m a).2.2.1;omega⟩⟩
 cases h with
 |none _=>exact⟨by simp[Im],fun m a=>by cases a⟩
 |off _ _ _=>exact⟨by simp[Im],fun m a=>by cases a⟩
 |lost _ _ _ _ _ _ _ _=>exact⟨by simp[Im],fun m a=>by cases a⟩
 |two _ _ _ _ _ _ _ _=>exact⟨by simp[Im],fun m a=>by cases a⟩
 |good _ _ _ _ _ _ _ _ _=>exact absurd rfl b
theorem Cn.c1{c:Int}{b:List MB}{a:MB}(h:b[l.head.toNat]?=some a)(h1:D4 p.a7 c a.cK=none):Cn p c xs b l 1:=⟨a,h,.inl ⟨h1,rfl⟩⟩
structure QA(p:MP)(fi:Int)(xs:List MI)(bs:List MB)(l:ML)(hb:MB)(c:MT)(g:MI):Prop where
 gQ:bs[l.head.toNat]?=some hb
 hY:D4 p.a7 fi hb.cK=some c
 at_:xs[hb.cK.toNat]?=some g
theorem Cn.c2{d:Int}{b:List MB}{e:MB}{c:MT}(h:QA p d xs b l e c g)(h2:¬(g.op=27/\g.a=c.counter)):Cn p d xs b l 2:=⟨e,h.gQ,.inr ⟨c,g,h.hY,h.at_,.inl ⟨h2,rfl⟩⟩⟩
theorem Cn.c3{d:Int}{b:List MB}{e:MB}{c:MT}(h:QA p d xs b l e c g)(h2:g.op=27/\g.a=c.counter)(f:ID b l.blocks g.c):Cn p d xs b l 3:=⟨e,h.gQ,.inr ⟨c,g,h.hY,h.at_,.inr ⟨h2,.inl ⟨f,rfl⟩⟩⟩⟩
theorem Cn.c4{b:List MB}{d:MB}{c:MT}(h:QA p e xs b l d c g)(h2:g.op=27/\g.a=c.counter)(f:¬ID b l.blocks g.c)(i:∃a,ID b l.blocks a/\a≠d.cK/\OK xs c.counter a):Cn p e xs b l 4:=⟨d,h.gQ,.inr ⟨c,g,h.hY,h.at_,.inr ⟨h2,.inr ⟨f,.inl ⟨i,rfl⟩⟩⟩⟩⟩
theorem Cn.c5{b:List MB}{d:MB}{c:MT}(h:QA p e xs b l d c g)(h2:g.op=27/\g.a=c.counter)(f:¬ID b l.blocks g.c)(i:¬∃a,ID b l.blocks a/\a≠d.cK/\OK xs c.counter a)(j:l.head=0\/LU p.ag xs b l c):Cn p e xs b l 5:=⟨d,h.gQ,.inr ⟨c,g,h.hY,h.at_,.inr ⟨h2,.inr ⟨f,.inr ⟨i,.inl ⟨j,rfl⟩⟩⟩⟩⟩⟩
theorem Cn.c0{b:List MB}{d:MB}{c:MT}(h:QA p e xs b l d c g)(h2:g.op=27/\g.a=c.counter)(f:¬ID b l.blocks g.c)(i:¬∃a,ID b l.blocks a/\a≠d.cK/\OK xs c.counter a)(j:¬(l.head=0\/LU p.ag xs b l c)):Cn p e xs b l 0:=⟨d,h.gQ,.inr ⟨c,g,h.hY,h.at_,.inr ⟨h2,.inr ⟨f,.inr ⟨i,.inr ⟨j,rfl⟩⟩⟩⟩⟩⟩
theorem Qf{a:Option Addr}{n c:Nat}{t:List ML}(h:Nr u (.slice a n c) t){m:ML}(p:t[k]?=some m):∃g o b f d i,a=some ⟨g,o,none⟩/\u.cell? ⟨g,o+k*3,none⟩=some (.int .i64 m.head)/\u.cell? ⟨g,o+k*3+1,none⟩=some (.slice b m.back.length f)/\u.cell? ⟨g,o+k*3+2,none⟩=some (.slice d m.blocks.length i)/\Tw u (m,.slice b m.back.length f,.slice d m.blocks.length i):=by
 obtain⟨xs,h1,h2,z⟩:=h;have E:=(d7.1 p).1;obtain⟨⟨F,G,H⟩,j,r⟩:∃x,xs[k]?=some x/\x.1=m:=by rw[<-h1,kh]at p;exact lg.1 p
 simp only[]at r;subst r;have q:=z _ (d9 j);obtain⟨b,f,v⟩:=Rd.bW q.1;obtain⟨d,i,w⟩:=Rd.bW q.2;simp only[]at v w;subst v w;rcases h2.2 with⟨e,_⟩|⟨y,C,D,e,l⟩
 . omega
 simp only[ip]at e;have s:=Rd.elem CN l k _ j 0 _ rfl;have A:=Rd.elem CN l k _ j 1 _ rfl;have B:=Rd.elem CN l k _ j 2 _ rfl;rw[kD]at s;exact⟨y,C,b,f,d,i,e.1,s,A,B,q⟩
theorem Hd{a:Option Addr}{n c:Nat}{l:List MB}(h:Kv u (.slice a n c) l)(j:l[k]?=some m):∃g o b d,a=some ⟨g,o,none⟩/\u.cell? ⟨g,o+k*3,none⟩=some (.int .i64 m.cK)/\u.cell? ⟨g,o+k*3+1,none⟩=some (.int .i64 m.last)/\u.cell? ⟨g,o+k*3+2,none⟩=some (.slice b m.next.length d)/\Tu u (.slice b m.next.length d) m:=by
 obtain⟨xs,h1,h2,v⟩:=h;have B:=(d7.1 j).1;obtain⟨⟨C,D⟩,f,q⟩:∃x,xs[k]?=some x/\x.1=m:=by rw[<-h1,kh]at j;exact lg.1 j
 simp only[]at q;subst q;have p:=v _ (d9 f);obtain⟨b,d,s⟩:=Rd.bW p;simp only[]at s;subst s;rcases h2.2 with⟨e,_⟩|⟨t,z,A,e,i⟩
 . omega
 simp only[ip]at e;have r:=Rd.elem BT i k _ f 0 _ rfl;have w:=Rd.elem BT i k _ f 1 _ rfl;have y:=Rd.elem BT i k _ f 2 _ rfl;rw[kD]at r;exact⟨t,z,b,d,e.1,r,w,y,p⟩
theorem Gx.hT{g:World}{c f d e:Value}(h:Gx w c f d e r){B:Nat}(b:Below B w g)(a:w.heap.size<=B):Gx g c f d e r:=⟨h.blocks.aa b a,h.order.aa b a,h.ej.aa b a,h.loops.aa b a⟩
theorem Ld{d g f e:Value}(h:Gx w d g f e r):∃v1 c1 v2 c2 v3 c3 b c4,d=.slice v1 r.blocks.length c1/\g=.slice v2 r.order.length c2/\f=.slice v3 r.ej.length c3/\e=.slice b r.loops.length c4:=by
 obtain⟨v1,c1,i⟩:∃a c,d=.slice a r.blocks.length c:=by obtain⟨_,_,h2,_⟩:=h.blocks;exact h2.bW
 obtain⟨v2,c2,j⟩:=h.order.bW;obtain⟨v3,c3,k⟩:=h.ej.bW;obtain⟨b,c4,l⟩:∃a c,e=.slice a r.loops.length c:=by obtain⟨_,_,h2,_⟩:=h.loops;exact h2.bW
 exact⟨v1,c1,v2,c2,v3,c3,b,c4,i,j,k,l⟩
structure OM(w u:World)(v:VP)(lv:VL)(l:ML)(FB:Nat)(r:JO)(z1 z2 z3 z4:Value):Prop where
 pb:Aw u w.heap.size #[v.r,v.k,v.f,v.t] 29
 lb:Aw u (w.heap.size+1) #[.int .i64 l.head,lv.b,lv.k] 218
 fb:Aw u FB #[.int .i64 r.code,.int .i64 r.at_,z1,z2,z3,z4] 210
 rf:Gx u z1 z2 z3 z4 r
 aC:Below w.heap.size w u
theorem OM.aa{w u d:World}{v:VP}{c:VL}{e f g i:Value}(h:OM w u v c l b r e f g i)(a:Below u.heap.size u d):OM w d v c l b r e f g i:=⟨h.pb.aa a,h.lb.aa a,h.fb.aa a,h.rf.hT a lR,Ac h.aC lR a⟩
theorem T8{c:List MB}{d:List Int}{j:Nat}(g:d[j]?=some z)(e:z=(b:Int))(f:c[b]?=some m)(h1:m.cK<=a)(h2:a<=m.last):ID c d a:=⟨z,d9 g,m,by rw[e,kJ];exact f,h1,h2⟩
theorem Mk{b:List MB}{c:List Int}{P:Int->Prop}(h:∀(j:Nat) (z:Int) (m:MB),c[j]?=some z->b[z.toNat]?=some m->∀a,m.cK<=a->a<=m.last->¬P a):¬∃a,ID b c a/\P a:=by rintro⟨a,⟨z,g,m,e,h1,h2⟩,f⟩;obtain⟨j,d⟩:=lY g;exact h j z m d e a h1 h2 f
def Iw(p:MP)(f:MF)(x:MI)(sh:List Int):Int:=if x.op=29 then(if sh=Cm f then 0 else 5)else Dj p f x sh
def Ot(p:MP)(f:MF)(x:MI)(sh:List Int):List Int:=if x.op=29 then[]else IU p f x sh
structure WS where
 c:Nat->Option (List Int)
 t:Nat->List Int
 d:Nat
def Jr(T:Nat->List Int)(a:Nat)(sh:List Int):Nat->List Int:=fun j=>if j=a then sh else T j
def Kk(C:Nat->Option (List Int))(b:Nat)(sh:List Int):Nat->Option (List Int):=fun j=>if j=b then some sh else C j
abbrev Wz:=Sum (Int×Nat) (List Int×(Nat->List Int)×Nat)
def G4(p:MP)(f:MF):Nat->Nat->List Int->(Nat->List Int)->Nat->Wz
 |0,_,sh,T,D=>.inr (sh,T,D)
 | c+1,a,sh,T,D=>match f.code[a]? with
   |none=>.inr (sh,T,D)
   |some x=>if Iw p f x sh=0 then G4 p f c (a+1) (Ot p f x sh) (Jr T a sh) (max D (Ot p f x sh).length)else .inl (Iw p f x sh,a)
def Ji:List Nat->List Int->(Nat->Option (List Int))->Option (Nat->Option (List Int))
 |[],_,C=>some C
 | t::r,sh,C=>match C t with
   |none=>Ji r sh (Kk C t sh)
   |some s=>if s=sh then Ji r sh C else none
abbrev Kx:=Sum (Int×Nat) WS
def Tb(p:MP)(f:MF)(m:MB)(b:Nat)(s:WS):Kx:=match G4 p f (m.last-m.cK+1).toNat m.cK.toNat ((s.c b).getD []) s.t s.d with
 |.inl e=>.inl e
 | .inr (sh,T,D)=>match Ji (m.next.map Int.toNat) sh s.c with
   |none=>.inl (4,m.last.toNat)
   |some C=>.inr ⟨C,T,D⟩
def Io(p:MP)(f:MF)(a:List MB):List Nat->WS->Kx
 |[],s=>.inr s
 | b ::r,s=>match a[b]? with
   |none=>.inr s
   | some m=>match Tb p f m b s with
     |.inl e=>.inl e
     |.inr s'=>Io p f a r s'
def Qy:WS:=⟨fun b=>if b=0 then some []else none,fun _=>[],0⟩
structure Vu where
 code:Int
 at_:Int
 depth:Int
 gG:List (List Int)
def Vp(n:Nat):Kx->Vu
 |.inl (c,a)=>⟨c,(a:Int),0,[]⟩
 |.inr s=>⟨0,0,(s.d:Int),(List.range n).map s.t⟩
def OS(p:MP)(a:Int)(y:Vu):Prop:=(¬Ng p a/\y=⟨6,0,0,[]⟩)\/(Bj p 0/\0<=a/\∃f r,p.funcs[a.toNat]?=some f/\Cs f.code r/\r.code=0/\y=Vp f.code.length (Io p f r.blocks (r.order.map Int.toNat) Qy))
theorem OS.one{c:Int}{y y':Vu}(h:OS p c y)(g:OS p c y'):y=y':=by
 rcases h with⟨a,rfl⟩|⟨k,m,f,r,h1,h2,i,rfl⟩<;>rcases g with⟨a',rfl⟩|⟨l,n,f',q,b,d,j,rfl⟩
 . rfl
 . exact absurd ⟨l,n,f',b,q,d,j⟩ a
 . exact absurd ⟨k,m,f,h1,r,h2,i⟩ a'
 rw[h1]at b;have e:=kH b;subst e;have e:=h2.one d;subst e;rfl
theorem QJ{L:List Nat}{n:Nat}(l:L.Pairwise (· < ·))(v:∀x∈L,x<n)(h:(build L n)[b]?=some m)(h1:m.cK<(i:Int))(h2:(i:Int)<=m.last):i∉L:=by
 unfold build at h;rw[mY]at h;cases e1:L[b]? with
 |none=>rw[e1]at h;simp at h
 | some a=>
   cases e2:(L.tail++[n])[b]? with
   |none=>rw[e1,e2]at h;simp at h
   | some q=>
     rw[e1,e2]at h;simp only[i4]at h;subst h;simp only[]at h1 h2;intro g;obtain⟨j,k⟩:=lY g;obtain⟨ib,s⟩:=d7.1 e1;obtain⟨d,t⟩:=d7.1 k;have c:=mz.1 l;have u:b<j:=by
      apply mZ;intro w;by_cases e:j=b
      . subst e;omega
      have:=c j b d ib oM;omega
     (have f:L[b+1]?=some q:=by rw[<-e2,lK oT];cases L<;>simp);obtain⟨p,r⟩:=d7.1 f;by_cases e:j=b+1
     . subst e;omega
     have:=c (b+1) j p d oM;omega
theorem Rc(h:(AM xs)[b]?=some m):∃a,(build (IW xs xs.length) xs.length)[b]?=some a/\m.cK=a.cK/\m.last=a.last:=by unfold AM at h;rw[kh]at h;obtain⟨a,h1,rfl⟩:=lg.1 h;rw[DP]at h1;exact⟨a,h1,rfl,rfl⟩
theorem S8(h:(AM xs)[b]?=some m){x:MI}(c:xs[i]?=some x)(h1:m.cK<=(i:Int))(h2:(i:Int)<m.last):x.op≠29:=by obtain⟨l,d,j,k⟩:=Rc h;obtain⟨a,e,n,p,q,r⟩:=J9 h;intro g;have f:i+1<xs.length:=oM;refine QJ (GJ _ _) (fun x c=>((Ef _ _ _).1 c).1) d (i:=i+1) oM oM ?_;rw[Ef];exact⟨f,K1 xs xs.length i (i+1) x oM c (by simp[Jf,g])⟩
def Rn(n A P:Int):Prop:=∀(w u:World) (s:CP) (k:GK) (p left b:Int) (D:List Ax) (t a:Int),DH k->GS w u s k p left b 0 D->a<=n-> -1000000<=a->p+A<=1000000000000-> -600000+10*P<=left->Cr t->Calls Tryz.prog 88 #[.pointer (some ⟨k.Gb,0,none⟩),iZ t,iZ a] u (PV w s k p left b D A P)
theorem GS.fn{s:CP}{k:GK}{p left m:Int}{sl:Nat}{D:List Ax}(h:GS w u s k p left m sl D)(j:DH k){q:Nat}(l:q<k.G.length):∃(gf cf:Nat) (xs:List Int) (a:Option Addr) (c:Nat),k.G[q]?.map (fun y=>y.1.params)=some xs/\u.cell? ⟨k.Gb,1,none⟩=some (.pointer (some ⟨k.P,0,none⟩))/\u.cell? ⟨k.P,2,none⟩=some (sG gf k.G.length cf)/\u.cell? ⟨gf,q*4,none⟩=some (.slice a xs.length c)/\Rd u 1 (.slice a xs.length c) xs.length (xs.flatMap Ad)/\xs.length<=8:=by obtain⟨v,B,g,h1,h2⟩:=h.ex;obtain⟨y,b⟩:∃y,k.G[q]?=some y:=⟨_,an l⟩;obtain⟨gf,cf,e,f,al,cl,r,t,i,x,⟨f0,f1,f2,f3⟩,n,z,A⟩:=h1.bl.fn b;have d:=h1.gI.2.2.1;rw[i]at d;exact⟨gf,cf,y.1.params,e,f,by rw[b];rfl,h1.cells.2.1,d,f0,Rd.cB n,j.pr y (d9 b)⟩
theorem JR(hA:8<=A/\A<=10000000000)(hP:1<=P/\P<=1000)(ih:Rn n A P)(w u:World)(s:CP)(k:GK)(p left m:Int)(D:List Ax)(f:Nat)(b:Int)(d:DH k)(h:GS w u s k p left m 0 D)(I:f<k.G.length)(hd:b<=n+1)(am:-900000<=b)(hn:n<=1000)(hp:p+8*A<=1000000000000)(hl:-600000+10*(8*P+1)<=left):
 Calls Tryz.prog 115 #[.pointer (some ⟨k.Gb,0,none⟩),iZ (f:Int),iZ b] u (PV w s k p left m D (8*A) (8*P+1)):=by
 have l:Hid (DH k/\Rn n A P):=⟨d,ih⟩
 have aE:=h.le d;have ao:(f:Int)<(k.G.length:Int):=oM;have aG:=h.src.low;have aq:=d.gl;have N:=Ag h;obtain⟨aj,ah,xs,a0,c0,g,_,_,_,_,aI⟩:=h.fn d I;have E:Hid (k.G[f]?.map (fun y=>y.1.params)=some xs/\∀z∈xs,Cr z):=⟨g,fun z hz=>by
  cases hy:k.G[f]? with
  |none=>rw[hy]at g;cases g
  | some y=>rw[hy]at g;(have:y.1.params=xs:=by simpa using g);exact(d.wf y (d9 hy)).params z (this▸hz)⟩
 go_enter Tryz.func115,Tryz.ntmps115;go_wp2_with fail;go_loopw [6] (fun i wr=>∃(j:Nat) (C t:Int),j<=xs.length/\i=iZ j/\p<=C/\C<=p+j*A/\left-j*P<=t/\t<=left-j/\Hid (GS w wr s k C t m 0 D)) (fun i _=>xs.length-(intOf i).toNat)
 case atStart=>exact⟨0,p,left,oM,rfl,oM,oM,oM,oM,N⟩
 obtain⟨j,M,L,hj,rfl,H,g2,g3,g4,q⟩:=hrel;obtain⟨gf,cf,a8,a,c,K,d0,d1,d2,Y,aJ⟩:=q.o.fn l.o.1 I;rw[E.o.1]at K;obtain rfl:xs=a8:=by simpa using K
 have au:(j:Int)*A<=8*A:=mT oM oM;have aA:(j:Int)*P<=8*P:=mT oM oM;by_cases X:j<xs.length;case pos=>
  have aF:(j:Int)<(xs.length:Int):=oM;have aw:((j:Int)+1)*A<=8*A:=mT oM oM;have V:((j:Int)+1)*A=j*A+A:=by rw[Int.add_mul,Int.one_mul]
  have W:((j:Int)+1)*P=j*P+P:=by rw[Int.add_mul,Int.one_mul]
  have aD:((j:Int)+1)*P<=8*P:=mT oM oM;obtain⟨x,J⟩:∃x,xs[j]?=some x:=⟨_,an X⟩;have Z:=E.o.2 x (d9 J);obtain⟨r,B,R,kz⟩:∃r B,a=some ⟨r,B,none⟩/\wr.cell? ⟨r,B+j,none⟩=some (iZ x):=by
   rcases Y.2 with⟨e0,_⟩|⟨H,o1,ae,F,T⟩
   . omega
   simp only[ip,kU]at F;exact⟨H,o1,F.1,T j _ (FN J)⟩
  subst R;have aH:IntKind.i64.wrap (b-1)=b-1:=lU _ ⟨oM,oM⟩;have U:=Ag (l.o.2 w wr s k M L m D x (b-1) l.o.1 q.o oM oM oM oM Z);generalize (j:Int)*A=jA at*;generalize (j:Int)*P=jP at*;go_wp2_with fail;refine U.o.mono ?_;rintro e u2 ⟨rfl,p2,a6,f1,f2,f3,f4,h2⟩;have O:=Ag h2;go_wp2_with fail;go_roundw;case rel=>exact⟨j+1,p2,a6,oM,by go_num,oM,by rw[Int.natCast_add,Int.natCast_one,V];omega,by rw[Int.natCast_add,Int.natCast_one,W];omega,oM,O⟩
  exact oI
 case neg=>generalize (j:Int)*A=jA at*;generalize (j:Int)*P=jP at*;go_wp2_with fail;refine(AA l.o.1 q.o oM Ah Ah Ah Ah).mono ?_;rintro e u3 ⟨n3,rfl,_,S⟩;have Q:=Ag S;go_wp2_with fail;refine ke (v:=.tuple #[]) kR rfl ?_;exact⟨rfl,M,L-1,oM,oM,oM,oM,Q.o⟩
theorem WD(r:Int)(a:0<=r)(h1:r<5):∃v:Int,(#[Value.int .i64 17,iZ 18,iZ 13,iZ 14,iZ 15]:Array Value)[r.toNat]?=some (iZ v)/\0<=v/\v<=20:=by
 have h:r=0\/r=1\/r=2\/r=3\/r=4:=oM
 rcases h with rfl|rfl|rfl|rfl|rfl<;>exact⟨_,rfl,oM,oM⟩
theorem WC(r:Int)(a:0<=r)(h1:r<3):∃v:Int,(#[Value.int .i64 1,iZ 2,iZ 3]:Array Value)[r.toNat]?=some (iZ v)/\0<=v/\v<=20:=by
 have h:r=0\/r=1\/r=2:=oM
 rcases h with rfl|rfl|rfl<;>exact⟨_,rfl,oM,oM⟩
theorem JE(hA:8<=A/\A<=10000000000)(hP:1<=P/\P<=1000)(ih:Rn n A P)(w u:World)(s:CP)(k:GK)(p left m:Int)(D:List Ax)(t aA:Int)(hk:DH k)(h:GS w u s k p left m 0 D)(hd:aA<=n)(bJ:-900000<=aA)(hn:n<=1000)(hp:p+(2*A+8)<=1000000000000)(hl:-600000+10*(8*P+1)<=left)(ht:Cr t):
 Calls Tryz.prog 117 #[.pointer (some ⟨k.Gb,0,none⟩),iZ t,iZ aA] u (PV w s k p left m D (2*A+8) (2*P+1)):=by
 have a:Hid (DH k/\Rn n A P/\Cr t):=⟨hk,ih,ht⟩
 have bK:=h.le hk;have bH:=hk.l0;have bQ:=h.src.low;have K:=Ag h;obtain⟨_,_,q0,_⟩:=h.cells;go_enter Tryz.func117,Tryz.ntmps117;have B0:p<=p/\left<=left:=⟨Int.le_refl _,Int.le_refl _⟩
 cases ht1:(t==1)
 case true=>
  go_wp2_with fail;refine(Al K.o.src).mono ?_;rintro e u1 ⟨r1,bz,bB,rfl,f,c⟩;have r:=Ag (K.o.draw f c);cases e0:(r1==0)
  case true=>go_wp2_with fail;refine(Al r.o.src).mono ?_;rintro e J ⟨r2,aR,aS,rfl,f,c⟩;have l:=Ag (r.o.draw f c);go_wp2_with fail;refine(a.o.2.1 w _ s k (p+1+1) (left) m D _ _ a.o.1 l.o oM oM oM oM Ah).mono ?_;rintro e I ⟨rfl,M,L,ao,aq,au,aw,b⟩;have i:=Ag b;go_wp2_with fail;refine(a.o.2.1 w _ s k (M) (L) m D _ _ a.o.1 i.o oM oM oM oM Ah).mono ?_;rintro e E ⟨rfl,C,x,a8,ae,ah,aj,b⟩;have g:=Ag b;go_wp2_with fail;refine(AA a.o.1 g.o oM Ah Ah Ah Ah).mono ?_;rintro e H ⟨n5,rfl,am,b⟩;have q:=Ag b;go_wp2_with fail;refine i6 (v:=.tuple #[]) kR rfl ?_;exact⟨rfl,C,x-1,oM,oM,oM,oM,q.o⟩
  case false=>(cases e1:(r1==1));(case true=>go_wp2_with fail;refine(Al r.o.src).mono ?_;rintro e J ⟨r2,aR,aS,rfl,f,c⟩;have l:=Ag (r.o.draw f c);go_wp2_with fail;refine(a.o.2.1 w _ s k (p+1+1) (left) m D _ _ a.o.1 l.o oM oM oM oM Ah).mono ?_;rintro e I ⟨rfl,M,L,ao,aq,au,aw,b⟩;have i:=Ag b;go_wp2_with fail;refine(a.o.2.1 w _ s k (M) (L) m D _ _ a.o.1 i.o oM oM oM oM Ah).mono ?_;rintro e E ⟨rfl,C,x,a8,ae,ah,aj,b⟩;have g:=Ag b;go_wp2_with fail;refine(AA a.o.1 g.o oM Ah Ah Ah Ah).mono ?_;rintro e H ⟨n5,rfl,am,b⟩;have q:=Ag b;go_wp2_with fail;refine i6 (v:=.tuple #[]) kR rfl ?_;exact⟨rfl,C,x-1,oM,oM,oM,oM,q.o⟩);case false=>(cases e2:(r1==2));(case true=>go_wp2_with fail;refine(a.o.2.1 w _ s k (p+1) (left) m D _ _ a.o.1 r.o oM oM oM oM a.o.2.2).mono ?_;rintro e J ⟨rfl,B,z,Q,R,T,U,b⟩;have l:=Ag b;go_wp2_with fail;refine(AA a.o.1 l.o oM Ah a.o.2.2 Ah Ah).mono ?_;rintro e I ⟨n3,rfl,aM,b⟩;have i:=Ag b;go_wp2_with fail;refine i6 (v:=.tuple #[]) kR rfl ?_;exact⟨rfl,B,z-1,oM,oM,oM,oM,i.o⟩);case false=>go_wp2_with fail;refine(a.o.2.1 w _ s k (p+1) (left) m D _ _ a.o.1 r.o oM oM oM oM a.o.2.2).mono ?_;rintro e J ⟨rfl,B,z,Q,R,T,U,b⟩;have l:=Ag b;go_wp2_with fail;refine(a.o.2.1 w _ s k (B) (z) m D _ _ a.o.1 l.o oM oM oM oM a.o.2.2).mono ?_;rintro e I ⟨rfl,M,L,ao,aq,au,aw,b⟩;have i:=Ag b;go_wp2_with fail;refine(Al i.o.src).mono ?_;rintro e E ⟨r4,aH,aI,rfl,f,c⟩;have g:=Ag (i.o.draw f c);go_wp2_with fail;refine(AA a.o.1 g.o oM Ah a.o.2.2 Ah Ah).mono ?_;rintro e H ⟨n5,rfl,am,b⟩;have q:=Ag b;go_wp2_with fail;refine i6 (v:=.tuple #[]) kR rfl ?_;exact⟨rfl,M+1,L-1,oM,oM,oM,oM,q.o⟩
 case false=>
  cases ht2:(t==2)
  case true=>
   go_wp2_with fail;refine(BO K.o.src).mono ?_;rintro e u1 ⟨b1,rfl,f,c⟩;have r:=Ag (K.o.draw f c);(cases b1);case true=>go_wp2_with fail;refine(a.o.2.1 w _ s k (p+1) (left) m D _ _ a.o.1 r.o oM oM oM oM a.o.2.2).mono ?_;rintro e J ⟨rfl,B,z,Q,R,T,U,b⟩;have l:=Ag b;go_wp2_with fail;refine(AA a.o.1 l.o oM Ah Ah Ah Ah).mono ?_;rintro e I ⟨n3,rfl,aM,b⟩;have i:=Ag b;go_wp2_with fail;refine i6 (v:=.tuple #[]) kR rfl ?_;exact⟨rfl,B,z-1,oM,oM,oM,oM,i.o⟩
   case false=>(have aT:(t==3)=false:=by (have:t=2:=by simpa using ht2);subst this;rfl);go_wp2_with fail;refine(a.o.2.1 w _ s k (p+1) (left) m D _ _ a.o.1 r.o oM oM oM oM a.o.2.2).mono ?_;rintro e J ⟨rfl,B,z,Q,R,T,U,b⟩;have l:=Ag b;go_wp2_with fail;refine(BO l.o.src).mono ?_;rintro e I ⟨V,rfl,f,c⟩;have i:=Ag (l.o.draw f c);(cases V);(case true=>go_wp2_with fail;refine(AA a.o.1 i.o oM Ah Ah Ah Ah).mono ?_;rintro e E ⟨n4,rfl,aN,b⟩;have g:=Ag b;go_wp2_with fail;refine(Al g.o.src).mono ?_;rintro e H ⟨O,X,Y,rfl,f,c⟩;have q:=Ag (g.o.draw f c);go_wp2_with fail;refine(AA a.o.1 q.o oM Ah a.o.2.2 Ah Ah).mono ?_;rintro e F ⟨y,rfl,Z,b⟩;have G:=Ag b;go_wp2_with fail;refine ke (v:=.tuple #[]) kR rfl ?_;exact⟨rfl,B+1+1,z-1-1,oM,oM,oM,oM,G.o⟩);case false=>go_wp2_with fail;refine(a.o.2.1 w _ s k (B+1) (z) m D _ _ a.o.1 i.o oM oM oM oM a.o.2.2).mono ?_;rintro e E ⟨rfl,C,x,a8,ae,ah,aj,b⟩;have g:=Ag b;go_wp2_with fail;refine(Al g.o.src).mono ?_;rintro e H ⟨O,X,Y,rfl,f,c⟩;have q:=Ag (g.o.draw f c);go_wp2_with fail;refine(AA a.o.1 q.o oM Ah a.o.2.2 Ah Ah).mono ?_;rintro e F ⟨y,rfl,Z,b⟩;have G:=Ag b;go_wp2_with fail;refine ke (v:=.tuple #[]) kR rfl ?_;exact⟨rfl,C+1,x-1,oM,oM,oM,oM,G.o⟩
  case false=>
   (cases aT:(t==3));(case false=>go_wp2_with fail;refine(a.o.2.1 w _ s k (p) (left) m D _ _ a.o.1 K.o oM oM oM oM a.o.2.2).mono ?_;rintro e u1 ⟨rfl,p1,l1,aZ,bp,bt,bu,b⟩;have r:=Ag b;go_wp2_with fail;refine(BO r.o.src).mono ?_;rintro e J ⟨b2,rfl,f,c⟩;have l:=Ag (r.o.draw f c);(cases b2);(case true=>go_wp2_with fail;refine(AA a.o.1 l.o oM Ah Ah Ah Ah).mono ?_;rintro e I ⟨n3,rfl,aM,b⟩;have i:=Ag b;go_wp2_with fail;refine(Al i.o.src).mono ?_;rintro e E ⟨r4,aH,aI,rfl,f,c⟩;have g:=Ag (i.o.draw f c);go_wp2_with fail;refine(AA a.o.1 g.o oM Ah a.o.2.2 Ah Ah).mono ?_;rintro e H ⟨n5,rfl,am,b⟩;have q:=Ag b;go_wp2_with fail;refine ke (v:=.tuple #[]) kR rfl ?_;exact⟨rfl,p1+1+1,l1-1-1,oM,oM,oM,oM,q.o⟩);case false=>go_wp2_with fail;refine(a.o.2.1 w _ s k (p1+1) (l1) m D _ _ a.o.1 l.o oM oM oM oM a.o.2.2).mono ?_;rintro e I ⟨rfl,M,L,ao,aq,au,aw,b⟩;have i:=Ag b;go_wp2_with fail;refine(Al i.o.src).mono ?_;rintro e E ⟨r4,aH,aI,rfl,f,c⟩;have g:=Ag (i.o.draw f c);go_wp2_with fail;refine(AA a.o.1 g.o oM Ah a.o.2.2 Ah Ah).mono ?_;rintro e H ⟨n5,rfl,am,b⟩;have q:=Ag b;go_wp2_with fail;refine ke (v:=.tuple #[]) kR rfl ?_;exact⟨rfl,M+1,L-1,oM,oM,oM,oM,q.o⟩);case true=>
    go_wp2_with fail;refine(BO K.o.src).mono ?_;rintro e u1 ⟨b1,rfl,f,c⟩;have r:=Ag (K.o.draw f c);(cases b1);(case false=>go_wp2_with fail;refine(a.o.2.1 w _ s k (p+1) (left) m D _ _ a.o.1 r.o oM oM oM oM a.o.2.2).mono ?_;rintro e J ⟨rfl,B,z,Q,R,T,U,b⟩;have l:=Ag b;go_wp2_with fail;refine(BO l.o.src).mono ?_;rintro e I ⟨V,rfl,f,c⟩;have i:=Ag (l.o.draw f c);(cases V);(case true=>go_wp2_with fail;refine(AA a.o.1 i.o oM Ah Ah Ah Ah).mono ?_;rintro e E ⟨n4,rfl,aN,b⟩;have g:=Ag b;go_wp2_with fail;refine(Al g.o.src).mono ?_;rintro e H ⟨O,X,Y,rfl,f,c⟩;have q:=Ag (g.o.draw f c);go_wp2_with fail;refine(AA a.o.1 q.o oM Ah a.o.2.2 Ah Ah).mono ?_;rintro e F ⟨y,rfl,Z,b⟩;have G:=Ag b;go_wp2_with fail;refine ke (v:=.tuple #[]) kR rfl ?_;exact⟨rfl,B+1+1,z-1-1,oM,oM,oM,oM,G.o⟩);case false=>go_wp2_with fail;refine(a.o.2.1 w _ s k (B+1) (z) m D _ _ a.o.1 i.o oM oM oM oM a.o.2.2).mono ?_;rintro e E ⟨rfl,C,x,a8,ae,ah,aj,b⟩;have g:=Ag b;go_wp2_with fail;refine(Al g.o.src).mono ?_;rintro e H ⟨O,X,Y,rfl,f,c⟩;have q:=Ag (g.o.draw f c);go_wp2_with fail;refine(AA a.o.1 q.o oM Ah a.o.2.2 Ah Ah).mono ?_;rintro e F ⟨y,rfl,Z,b⟩;have G:=Ag b;go_wp2_with fail;refine ke (v:=.tuple #[]) kR rfl ?_;exact⟨rfl,C+1,x-1,oM,oM,oM,oM,G.o⟩);case true=>
     go_wp2_with fail;refine(a.o.2.1 w _ s k (p+1) (left) m D _ _ a.o.1 r.o oM oM oM oM a.o.2.2).mono ?_;rintro e J ⟨rfl,B,z,Q,R,T,U,b⟩;have l:=Ag b;go_wp2_with fail;refine(BO l.o.src).mono ?_;rintro e I ⟨V,rfl,f,c⟩;have i:=Ag (l.o.draw f c);(cases V);(case true=>go_wp2_with fail;refine(AA a.o.1 i.o oM Ah a.o.2.2 Ah Ah).mono ?_;rintro e E ⟨n4,rfl,aN,b⟩;have g:=Ag b;go_wp2_with fail;refine i6 (v:=.tuple #[]) kR rfl ?_;exact⟨rfl,B+1,z-1,oM,oM,oM,oM,g.o⟩);case false=>
      go_wp2_with fail;refine(a.o.2.1 w _ s k (B+1) (z) m D _ _ a.o.1 i.o oM oM oM oM a.o.2.2).mono ?_;rintro e E ⟨rfl,C,x,a8,ae,ah,aj,b⟩;have g:=Ag b;have EA:Hid (GS w (E.alloc (.cells #[iZ 17,iZ 18,iZ 13,iZ 14,iZ 15] 2)) s k (C) (x) m 0 D):=g.o.aa (Aa _ _);go_wp2_with fail;refine(Al EA.o.src).mono ?_;rintro e H ⟨O,X,Y,rfl,f,c⟩;obtain⟨vl,aU,bS,bT⟩:=WD O X Y;(have bI:H.cell? ⟨E.heap.size,O.toNat,none⟩=some (iZ vl):=by have bL:=g.o.src.lt;rw[c.cell sP (by show E.heap.size≠s.S;omega),mJ _ _ _ _ _ _ (lq _ _)];exact aU);have q:=Ag (EA.o.draw f c);go_wp2_with fail;refine(AA a.o.1 q.o oM Ah Ah Ah Ah).mono ?_;rintro e F ⟨y,rfl,Z,b⟩;have G:=Ag b;obtain⟨N,cc,c3,aD⟩:=G.o.code (j:=y) oM;have aL:(k.L0-(x-1)).toNat=y+1:=oM;rw[aL]at c3;obtain⟨⟨a6,o0⟩,_,_⟩:=aD 0 oM;obtain⟨⟨a0,o1⟩,z1,aP⟩:=aD 1 oM;rw[kD]at o0;have aQ:Hid _:=aP t a.o.2.2;(have aE:Hid (∀W,Below F.heap.size F W->W.cell? ⟨k.Gb,3,none⟩=some (sG N (y+1) cc)):=fun W hW=>Af hW c3);obtain⟨d,aJ⟩:∃d:Nat,d=y+1:=⟨_,rfl⟩;rw[<-aJ]at aE;(have bR:IntKind.i64.wrap ((d:Int)-1)=(y:Int):=by rw[lU _ ⟨oM,oM⟩];omega);have bP:(y:Int)<(d:Int):=oM;have bO:(0:Int)<=(y:Int):=oM;clear aP aD aL c3 aJ Z;(go_upto_region 28 with fail);refine wp_region_held_drew (S:=fun W=>W.cell? ⟨k.Gb,3,none⟩=some (sG N d cc)) kR (by exact aE.o _ (Ae _)) (fun bF=> ?_);refine An 0 ?_;refine An 1 ?_;refine An 2 ?_;refine An 3 ?_;refine An 4 ?_;refine An 5 ?_;refine An 6 ?_;refine An 7 ?_;refine An 8 ?_;refine An 9 ?_;refine An 10 ?_;refine An 11 ?_;refine wpAnyH_done kR ?_ _;go_simp;have aW:F.drew.cell? ⟨N,y*4,none⟩=some (iZ a6):=o0
      have aX:F.drew.cell? ⟨N,y*4+1,none⟩=some (iZ a0):=o1;have aY:F.drew.frozen? ⟨N,y*4+1,none⟩=false:=z1;have ES:Hid (GS w (F.drew.setCell ⟨N,y*4+1,none⟩ (iZ t)) s k (C+1) (x-1) m 0 D):=aQ.o.aa (Ae _);have EN:Hid (GS w F.drew s k (C+1) (x-1) m 0 D):=G.o.aa (Ae _);generalize F.drew=UD at aW aX aY ES EN⊢;by_cases aF:a6=17;(case pos=>subst aF;go_wp2_with fail;refine i6 (v:=.tuple #[]) kR rfl ?_;exact⟨rfl,C+1,x-1,oM,oM,oM,oM,EN.o⟩);case neg=>by_cases aG:a6=18;(case pos=>subst aG;go_wp2_with fail;refine i6 (v:=.tuple #[]) kR rfl ?_;exact⟨rfl,C+1,x-1,oM,oM,oM,oM,EN.o⟩);case neg=>(have bw:(a6 != 17)=true:=by simpa using aF);(have bx:(a6 != 18)=true:=by simpa using aG);go_wp2_with fail;refine i6 (v:=.tuple #[]) kR rfl ?_;exact⟨rfl,C+1,x-1,oM,oM,oM,oM,ES.o⟩
end Go.Proofs.YthjbicggfnnonaaGreatDoor
