import Derived.Test.YtkgohaigebcgoaaGreatDoorLo50
namespace Go.Proofs.YtkgohaigebcgoaaGreatDoor
open Go.ChangeShapes Go.WideShapes Go.ChangeAt Go.RowKit Go.Proofs.Tryz
set_option linter.unusedVariables false
open Go.Value renaming slice → Z
open Option renaming some → K,none → M
open Go renaming Value → J,World → Y,Calls → Ai,TypeId → Aj
open Go.RowKit renaming Hid → Ae,Below → Ah
open Go.IntKind renaming i64 → Af
open Go.Obj renaming cells → Ak
open Go.Ending renaming returned → Am
open Go.Proofs.Tryz renaming prog → Aq
open Go.World renaming setCell → Aa,ownsRow → Ab,alloc → Ac
open List renaming flatMap → Ad
set_option maxHeartbeats 4000000
set_option maxRecDepth 100000
variable {cs:List MI}{b cc:Nat}{w:Y}{a z:Int}{p:MP}
def EM(n j:Nat):List MI:=[⟨1,0,0,0⟩,⟨3,0,0,0⟩,⟨27,0,0,(n:Int)+4⟩]++List.replicate j ⟨0,0,0,0⟩
def AR(n:Nat):List MI:=EM n n++[⟨25,0,0,2⟩,⟨29,0,0,0⟩]
theorem Fl(n j:Nat):(EM n j).length=3+j:=by unfold EM;rw[jI,jT];rfl
theorem S3(n j:Nat):Ad MI.cells (EM n j)++[.int Af 0,.int Af 0,.int Af 0,.int Af 0]=Ad MI.cells (EM n (j+1)):=by unfold EM;rw[List.replicate_succ',<-kS,kJ (ys:=[_])];rfl
theorem Rc(n:Nat):Ad MI.cells (EM n n)++[.int Af 25,.int Af 0,.int Af 0,.int Af 2,.int Af 29,.int Af 0,.int Af 0,.int Af 0]=Ad MI.cells (AR n):=by unfold AR;rw[kJ (ys:=[_,_])];rfl
theorem Yb(u:Y)(e:Aj)(k n:Nat)(cs:List J)(a: ↑cs=n*k)(b:n<=maxLen):Ab (Ac u (Ak cs.toArray e)) u e k (Z u n n) n cs:=⟨a,.inr ⟨u,n,cs.toArray,rfl,Nat.le_refl _,lu _ _,Nat.le_refl _,b,by simpa using a,by rw[<-a];simp⟩⟩
theorem D8(u:Y)(X:Array J)(t:Aj):∃a,Ac u (Ak X t)=a/\(a:Nat)= ↑u+1/\Ah u u a/\Ay a u X t:=⟨_,rfl,l8 _ _,Al _ _,Ay.new _ _ _⟩
theorem ZL(u:Y){b:Option Addr}(k c:Int)(h:Rd u 4 (Z b cs cc) cs (Ad MI.cells cs))(B: ↑cs<=cc):∃W,(Ac (Ac (Ac (Ac (Ac (Ac (Ac (Ac (Ac u (Ak #[] 2)) (Ak #[] 2)) (Ak #[] 2)) (Ak #[Z u 0 0,Z (K ⟨(u:Nat)+1,0,M⟩) 0 0,Z (K ⟨(u:Nat)+1+1,0,M⟩) 0 0] 27)) (Ak #[.int Af 3,.int .u32 k] 31)) (Ak #[.int Af 3] 2)) (Ak #[Z M 0 0,.int Af 0,Z (K ⟨(u:Nat)+1+1+1+1+1,0,M⟩) 1 1,Z b cs cc] 34)) (Ak #[.int Af 0,c,.int Af 0,.int .u32 k] 37)) (Ak #[Z (K ⟨(u:Nat)+1+1+1,0,M⟩) 3 3,Z (K ⟨(u:Nat)+1+1+1+1,0,M⟩) 1 1,Z (K ⟨(u:Nat)+1+1+1+1+1+1,0,M⟩) 1 1,Z (K ⟨(u:Nat)+1+1+1+1+1+1+1,0,M⟩) 1 1] 40))=W/\JT W ((u:Nat)+1+1+1) ((u:Nat)+1+1+1+1) ((u:Nat)+1+1+1+1+1+1) ((u:Nat)+1+1+1+1+1) u (K ⟨(u:Nat)+1,0,M⟩) (K ⟨(u:Nat)+1+1,0,M⟩) 0 0 0 [3] cs k b cc/\Ay W ((u:Nat)+1+1+1+1+1+1+1) #[.int Af 0,c,.int Af 0,.int .u32 k] 37/\Ay W ((u:Nat)+1+1+1+1+1+1+1+1) #[Z (K ⟨(u:Nat)+1+1+1,0,M⟩) 3 3,Z (K ⟨(u:Nat)+1+1+1+1,0,M⟩) 1 1,Z (K ⟨(u:Nat)+1+1+1+1+1+1,0,M⟩) 1 1,Z (K ⟨(u:Nat)+1+1+1+1+1+1+1,0,M⟩) 1 1] 40/\Ah u u W:=by obtain⟨G,r,E,c0,S⟩:=D8 u #[] 2;rw[r];obtain⟨H,s,s1,c1,C⟩:=D8 G #[] 2;rw[s];obtain⟨I,t,s2,c2,D⟩:=D8 H #[] 2;rw[t];obtain⟨L,v,l,c3,d⟩:=D8 I #[Z u 0 0,Z (K ⟨(u:Nat)+1,0,M⟩) 0 0,Z (K ⟨(u:Nat)+1+1,0,M⟩) 0 0] 27;rw[v];obtain⟨N,w,m,c4,e⟩:=D8 L #[.int Af 3,.int .u32 k] 31;rw[w];obtain⟨O,x,n,c5,f⟩:=D8 N #[.int Af 3] 2;rw[x];obtain⟨P,y,p,c6,g⟩:=D8 O #[Z M 0 0,.int Af 0,Z (K ⟨(u:Nat)+1+1+1+1+1,0,M⟩) 1 1,Z b cs cc] 34;rw[y];obtain⟨Q,z,q,c7,i⟩:=D8 P #[.int Af 0,c,.int Af 0,.int .u32 k] 37;rw[z];obtain⟨R,A,F,a,j⟩:=D8 Q #[Z (K ⟨(u:Nat)+1+1+1,0,M⟩) 3 3,Z (K ⟨(u:Nat)+1+1+1+1,0,M⟩) 1 1,Z (K ⟨(u:Nat)+1+1+1+1+1+1,0,M⟩) 1 1,Z (K ⟨(u:Nat)+1+1+1+1+1+1+1,0,M⟩) 1 1] 40;rw[A];rw[E]at s1 C;rw[s1]at s2 D;rw[s2]at l d;rw[l]at m e;rw[m]at n f;rw[n]at p g;rw[p]at q i;rw[q]at F j;exact⟨R,rfl,⟨(((((d.av c4).av c5).av c6).av c7).av a),((((e.av c5).av c6).av c7).av a),((g.av c7).av a),(((f.av c6).av c7).av a),(((((((((h.av c0 lR).av c1 lR).av c2 lR).av c3 lR).av c4 lR).av c5 lR).av c6 lR).av c7 lR).av a lR),B⟩,(i.av a),j,(Ar (Ar (Ar (Ar (Ar (Ar (Ar (Ar c0 lR c1) lR c2) lR c3) lR c4) lR c5) lR c6) lR c7) lR a)⟩
theorem X8{base k n c:Nat}{a:Option Addr}{e:Aj}{xs:List J}(h:Ab w base e k (Z a n c) n xs):n<=c:=by
 rcases h.2 with⟨b,i⟩|⟨g,cap,f,b,_,_,d,_⟩
 . omega
 cases b;exact d
theorem w6(a:0<=z)(b:z<=100):Fb z:=C9 oM oM
theorem SW{a:List Int}{k:Int}{ts:List MT}(d:a.length<=100)(e:cs.length<=1000)(g:ts.length<=100):(Ge a cs k ts).small:=by
 refine⟨by show 3<=_;omega, λr b=> ?_,by show 1<=_;omega,by show 1<=_;omega, λf c=> ?_,by show ts.length<=_;omega⟩
 . simp only[Ge,jK,jO,kM,or_self]at b;rw[b];decide
 rw[jU.1 c];exact⟨ku _,by show a.length<=_;omega,by show cs.length<=_;omega⟩
theorem ZK{c:List Int}{k:Int}{ts:List MT}(d:∀z∈c,Fb z)(e:∀x∈cs,x.wf)(i:Ql k)(g:∀x∈ts,x.wf):(Ge c cs k ts).wf:=by
 refine⟨λr b z a=> ?_, λx j=> ?_, λf h=> ?_,g⟩
 . simp only[Ge,jK,jO,kM,or_self]at b;rw[b]at a;cases a
 . rw[jU.1 j];exact⟨w6 (z:=3) dC dC,i⟩
 rw[jU.1 h];exact⟨λz a=>(by cases a),w6 (z:=0) dC dC,d,e⟩
theorem XM{n:Nat}(h:n<9):∀x∈AR n,x.wf:=by
 intro x e;unfold AR EM at e;simp only[jL,jK,jO,kM,List.mem_replicate]at e;have q:= λ(a b c d:Int) (f:0<=a/\a<=100) (g:0<=b/\b<=100) (i:0<=c/\c<=100) (j:0<=d/\d<=100)=>(show(⟨a,b,c,d⟩:MI).wf from⟨w6 f.1 f.2,w6 g.1 g.2,w6 i.1 i.2,w6 j.1 j.2⟩)
 rcases e with((rfl|rfl|rfl)|⟨_,rfl⟩)|rfl|rfl<;>exact q _ _ _ _ oM oM oM oM
structure Wv(n k:Nat):Prop where
 ok:∃C D,cf C 0=2+(k:Int)*(2+n+2)+2+2/\K3 (Ge [3] (AR n) k [⟨0,2,0,k⟩]) 0 0 0 C D
 run:∃s:MS,FO (Ge [3] (AR n) k [⟨0,2,0,k⟩]) ⟨[],[],[]⟩ 1048576 s/\s.done=true/\s.cost=2+(k:Int)*(2+n+2)+2+2/\s.steps=2+(k:Int)*(n+2)+2
 two:∃c g a C D,c≠0/\K3 (Ge [3] (AR n) k [⟨0,2,0,(k:Int)+1⟩]) c g a C D
 non:∃g a C D,K3 (Ge [3] (AR n) k []) 5 g a C D
theorem JT.put{n i d m g:Nat}{v x y:Option Addr}{p q s:Nat}{t:List Int}{k:Int}(h:JT w n i d m v x y p q s t cs k g cc){a:Addr}(b:n≠a.block/\i≠a.block/\d≠a.block/\m≠a.block/\g≠a.block)(V:J):JT (w.setCell a V) n i d m v x y p q s t cs k g cc:=⟨h.r.other b.1 V,h.k.other b.2.1 V,h.f.other b.2.2.1 V,h.l.other b.2.2.2.1 V,⟨h.c.1,by
 rcases h.c.2 with e|⟨C,D,c1,z,A⟩
 . exact .inl e
 cases z
 refine .inr ⟨g,0,_,rfl, λj u B=> ?_⟩;have:=A j u B;unfold World.cell? at this⊢;simp only[lj w a g V b.2.2.2.2]at this⊢;exact this⟩,h.cc⟩
theorem UY(c g a:Int)(w:Y):(Instr.field 42 (.agg #[.int Af 2,c,g,a,Z M 0 0,Z M 0 0,Z M 0 0,Z M 0 0,.int Af 0]) 0).run Aq w=.ok (.int Af 2) w:=kR
theorem XK(c g a:Int)(w:Y):(Instr.field 42 (.agg #[.int Af 2,c,g,a,Z M 0 0,Z M 0 0,Z M 0 0,Z M 0 0,.int Af 0]) 1).run Aq w=.ok c w:=kR
theorem YJ:(Tryz.prog.info? 25).map (λi=>(i.zero,i.size,i.bytes))=K (K (.agg #[.int Af 0,.int Af 0,.int Af 0,.int Af 0]),4,32):=kR
theorem Pk(HP:∀n k,n<9->k<60->Wv n k)(a:Option Addr)(len cap:Nat)(w:Y)(hc:CodeAt w w a len)(Q:CC w):
 Ai Aq 3 #[Z a len cap] w λe w'=>e=Am true/\Ah w w w':=by
 obtain⟨iX,br,aX,aY,aZ⟩:=km YJ;have HW:=Aw (fd hc Q);clear hc Q;by_cases bt:len<=1048576;case neg=>have bV:(len:Int)>1048576:=oM;go_enter func3,ntmps3;go_wp2_with fail;go_ret;exact⟨rfl,jZ _ _⟩
 have bV:¬((len:Int)>1048576):=oM;go_enter func3,ntmps3;go_wp2_with fail;refine(JA a len cap 0 60 w w bt oM oM oM HW.1).mono ?_;rintro e u1 ⟨⟨k,hk,rfl⟩,c⟩;have B1:=Aw c;have aK:Ae (CodeAt u1 w a len):=by
  rcases HW.1 with e0|⟨b,ce,e1,hb,bZ⟩
  . exact .inl e0
  exact .inr ⟨b,ce,e1,hb, λi hi=>by obtain⟨v,v0,v1,hv⟩:=bZ i hi;exact⟨v,v0,v1,by rw[c.cell hb];exact hv⟩⟩
 clear c;go_wp2_with fail;refine(JA a len cap 1 9 w u1 bt oM oM oM aK).mono ?_;rintro e u2 ⟨⟨n,hn,rfl⟩,c⟩;have B2:=Aw (Ar B1 lR c);clear c B1 aK;go_upto_region 6 with fail
 have E0:Ae (Ab (Ac u2 (Ak #[.int Af 1,.int Af 0,.int Af 0,.int Af 0,.int Af 3,.int Af 0,.int Af 0,.int Af 0,.int Af 27,.int Af 0,.int Af 0,.int Af ((n:Int)+4)] 25)) w 25 4 (Z u2 3 3) 3 (Ad MI.cells (EM n 0))/\Ah w w (Ac u2 (Ak #[.int Af 1,.int Af 0,.int Af 0,.int Af 0,.int Af 3,.int Af 0,.int Af 0,.int Af 0,.int Af 27,.int Af 0,.int Af 0,.int Af ((n:Int)+4)] 25))):=⟨Bt (Yb u2 25 4 3 [.int Af 1,.int Af 0,.int Af 0,.int Af 0,.int Af 3,.int Af 0,.int Af 0,.int Af 0,.int Af 27,.int Af 0,.int Af 0,.int Af ((n:Int)+4)] rfl oX) B2.size,Ar B2 lR (Al _ _)⟩
 clear B2;generalize Ac u2 (Ak #[.int Af 1,.int Af 0,.int Af 0,.int Af 0,.int Af 3,.int Af 0,.int Af 0,.int Af 0,.int Af 27,.int Af 0,.int Af 0,.int Af ((n:Int)+4)] 25)=U3 at E0⊢;generalize u2.heap.size=gc at E0⊢;go_upto_region 7 with fail
 go_loopw [5,6] (λV i wr=>∃(j:Nat) (g:Nat) (cp:Nat),j<=n/\i=.int Af (j:Int)/\V=Z g (3+j) cp/\Ae (Ab wr w 25 4 (Z g (3+j) cp) (3+j) (Ad MI.cells (EM n j))/\Ah w w wr)) (λ_ i _=>n-(intOf i).toNat)
 case atStart=>exact⟨0,gc,3,oM,rfl,rfl,E0⟩
 clear E0;obtain⟨j,g,cp,hj,rfl,rfl,E1⟩:=hrel;by_cases cH:j<n;case pos=>
  have cI:(j:Int)<(n:Int):=oM;have r:=Aw (fd (AC E1.1 (Al wr (Ak #[.int Af 0,.int Af 0,.int Af 0,.int Af 0] 25)) lR) (Ar E1.2 lR (Al wr (Ak #[.int Af 0,.int Af 0,.int Af 0,.int Af 0] 25))));clear E1;go_wp2_with (first|(at_builtin;refine wpList_append_lies _ rfl _ _ 26 rfl w 25 iX (.agg #[.int Af 0,.int Af 0,.int Af 0,.int Af 0]) 4 32 underlying26 br aX aY aZ rfl dC (Z g (3+j) cp) (3+j) (Ad MI.cells (EM n j)) rfl r.1 wr 1 1 [.int Af 0,.int Af 0,.int Af 0,.int Af 0] rfl rfl (GT wr _ _) (by intro q hq;simp only[jK,jO,kM]at hq;rcases hq with rfl|rfl|rfl|rfl<;>rfl) oM oX oM r.2.size _ rfl ?_;intro R aa w5 S ai aH aI;rw[S3]at S;have O:=Aw (fd S (r.2.grown ai r.2.size (λg Q=>(r.1.lt g Q).1)));clear S ai aH aI)|go_in);go_roundw;case rel=>exact⟨j+1,R,aa,oM,by go_num,rfl,O⟩
  exact oI
 case neg=>
  obtain rfl:j=n:=oM;have r:=Aw (fd (AC E1.1 (Al wr (Ak #[.int Af 25,.int Af 0,.int Af 0,.int Af 2,.int Af 29,.int Af 0,.int Af 0,.int Af 0] 25)) lR) (Ar E1.2 lR (Al wr (Ak #[.int Af 25,.int Af 0,.int Af 0,.int Af 2,.int Af 29,.int Af 0,.int Af 0,.int Af 0] 25))));clear E1;go_upto_region 11 with(first|(at_builtin;refine wpList_append_lies _ rfl _ _ 26 rfl w 25 iX (.agg #[.int Af 0,.int Af 0,.int Af 0,.int Af 0]) 4 32 underlying26 br aX aY aZ rfl dC (Z g (3+j) cp) (3+j) (Ad MI.cells (EM j j)) rfl r.1 wr 2 2 [.int Af 25,.int Af 0,.int Af 0,.int Af 2,.int Af 29,.int Af 0,.int Af 0,.int Af 0] rfl rfl (GT wr _ _) (by intro q hq;simp only[jK,jO,kM]at hq;rcases hq with rfl|rfl|rfl|rfl|rfl|rfl|rfl|rfl<;>rfl) oM oX oM r.2.size _ rfl ?_;intro R aa w5 S ai aH aI;rw[Rc]at S;have O:=Aw (fd S (r.2.grown ai r.2.size (λg Q=>(r.1.lt g Q).1)));clear S ai aH aI)|go_in)
  clear r;go_upto_region 12 with fail
  have au:(AR j).length=3+j+2:=by unfold AR;rw[jI,Fl];rfl
  have bq:(AR j).length<=aa:=by rw[au];exact X8 O.1
  have bx:Rd w5 4 (Z R (AR j).length aa) (AR j).length (Ad MI.cells (AR j)):=by rw[au];exact Rd.eS O.1
  obtain⟨W,eW,hL,hT,hP,l⟩:=ZL w5 (k:Int) 2 bx bq;rw[au]at eW;rw[eW];have m:=Aw (fd hL (fd hT (fd hP (Ar O.2 lR l))));have aJ:Ae ((w:Nat)<= ↑w5):=O.2.size
  have aF:Ae (R< ↑w5):=(O.1.lt R rfl).2
  clear O hL hT hP l bx bq;have aj:=Aw (HP j k hn hk);have aE:Ae (∀u,Ah w w u->CC u):= λu hu=>HW.2.av hu
  have aq:Ae (∀(x:Int) (ts:List MT),ts.length<=100->(∀t∈ts,t.wf)->(Ge [3] (AR j) (k:Int) ts).small/\(Ge [3] (AR j) (k:Int) ts).wf):= λx ts h1 h2=>⟨SW dC (by rw[au];omega) h1,ZK (λz T=>by rw[jU.1 T];exact w6 dC dC) (XM hn) (OZ oM oM) h2⟩
  have HT:Ae (∀z:Int,0<=z->z<=100->(⟨0,2,0,z⟩:MT).wf):= λz h0 h1=>⟨w6 (z:=0) dC dC,w6 (z:=2) dC dC,w6 (z:=0) dC dC,OZ h0 (by show z<=_;omega)⟩
  generalize w5.heap.size=N at m aF aJ⊢;clear eW;have B:=m.2.2.1.cell 0;have E:=m.2.2.1.cell 1;have G:=m.2.2.1.cell 2;have d:=m.2.2.1.cell 3;simp only[i5,f8,i6]at B E G d;go_wp2_with fail;obtain⟨y,l,A,H⟩:=m.1.fT (ts:=[⟨0,2,0,(k:Int)⟩]) (G7 (cs:=[.int Af 0,.int Af 2,.int Af 0,.int .u32 (k:Int)]) (n:=1) (k:=4) m.2.1 rfl 1);have h:=aq.o 0 [⟨0,2,0,(k:Int)⟩] (by show 1<=100;omega) (λt ht=>by rw[jU.1 ht];exact HT.o _ oM oM);refine(Gq ⟨Z (some ⟨N+1+1+1,0,M⟩) 3 3,Z (some ⟨N+1+1+1+1,0,M⟩) 1 1,Z (some ⟨N+1+1+1+1+1+1,0,M⟩) 1 1,Z (some ⟨N+1+1+1+1+1+1+1,0,M⟩) 1 1⟩ _ W h.1 h.2 y l A H (aE.o _ m.2.2.2)).mono ?_;rintro e u6 ⟨c1,g1,a1,C,D,P,c,ae⟩;obtain⟨C0,D0,bj,bf⟩:=aj.ok;obtain⟨rfl,-,-,rfl,-⟩:=P.one bf;rcases ae with⟨_,a0,aG,a2,a3,n0,n1,n2,n3,b0,b1,b2,b3,rfl⟩|⟨bY,_⟩
  case inr=>exact absurd rfl bY
  have bJ:=Aw bj;have E3:=Aw (fd (m.1.av c) (fd (m.2.1.av c) (fd (m.2.2.1.av c) (Ar m.2.2.2 lR c))));clear c P bf y l A H h m B E G d bj;go_upto_region 13 with fail
  have s:=Al u6 (Ak #[.int Af 0,.int Af 0,.int Af 0,.int Af 0,Z a0 n0 b0,Z aG n1 b1,Z a2 n2 b2,Z a3 n3 b3,(cf C 0)] 42);have E4:=Aw (fd (E3.1.av s) (fd (E3.2.1.av s) (fd (E3.2.2.1.av s) (fd (Ar E3.2.2.2 lR s) (Ay.new u6 #[.int Af 0,.int Af 0,.int Af 0,.int Af 0,Z a0 n0 b0,Z aG n1 b1,Z a2 n2 b2,Z a3 n3 b3,(cf C 0)] 42)))));clear E3 s;generalize Ac u6 (Ak #[.int Af 0,.int Af 0,.int Af 0,.int Af 0,Z a0 n0 b0,Z aG n1 b1,Z a2 n2 b2,Z a3 n3 b3,(cf C 0)] 42)=U7 at E4⊢;generalize u6.heap.size=N8 at E4⊢;have B:=E4.2.2.1.cell 0;have E:=E4.2.2.1.cell 1;have G:=E4.2.2.1.cell 2;have d:=E4.2.2.1.cell 3;simp only[i5,f8,i6]at B E G d;go_wp2_with fail;obtain⟨y,l,A,H⟩:=E4.1.fT (ts:=[⟨0,2,0,(k:Int)⟩]) (G7 (cs:=[.int Af 0,.int Af 2,.int Af 0,.int .u32 (k:Int)]) (n:=1) (k:=4) E4.2.1 rfl 1);have h:=aq.o 0 [⟨0,2,0,(k:Int)⟩] (by show 1<=100;omega) (λt ht=>by rw[jU.1 ht];exact HT.o _ oM oM);refine(Hv ⟨Z (some ⟨N+1+1+1,0,M⟩) 3 3,Z (some ⟨N+1+1+1+1,0,M⟩) 1 1,Z (some ⟨N+1+1+1+1+1+1,0,M⟩) 1 1,Z (some ⟨N+1+1+1+1+1+1+1,0,M⟩) 1 1⟩ _ ⟨Z M 0 0,Z M 0 0,Z M 0 0⟩ ⟨[],[],[]⟩ 1048576 1048576 U7 dC C9 h.1 h.2 y l A ⟨by show 0<=_;omega,by show 0<=_;omega,by show 0<=_;omega⟩ ⟨λz T=>(by cases T), λz T=>(by cases T), λz T=>(by cases T)⟩ ⟨Hi _ _,Hi _ _,Hi _ _⟩).mono ?_;rintro e u8 ⟨st,sd,sc,sn,X,Cc,K,F,rfl,aA,bB,_,c⟩;obtain⟨x0,x1,aR⟩:=AF aA.cells;obtain⟨x2,x3,aS⟩:=AF (aA.eT.own (X.k,K) sP);obtain⟨x4,x5,aT⟩:=AF aA.dk;obtain⟨Xc,Xk,Xf⟩:=X;simp only[]at aR aS aT;subst aR aS aT;obtain⟨s0,bC,bG,bH,bI⟩:=aj.run;have ax:=bB.one bC;have bQ:sd=true:=by rw[<-bG,<-ax];rfl
  have aO:sc=2+(k:Int)*(2+j+2)+2+2:=by rw[<-bH,<-ax];rfl
  have aQ:sn=2+(k:Int)*(j+2)+2:=by rw[<-bI,<-ax];rfl
  subst bQ;clear aA bB ax bC bG bH bI y l A H h B E G d;have HS:=Aw (fd aO aQ);clear aO aQ;have U:=Aw (fd (E4.1.av c) (fd (E4.2.1.av c) (fd (E4.2.2.1.av c) (fd (Ar E4.2.2.2.1 lR c) (E4.2.2.2.2.av c)))));clear E4 c;go_upto_region 14 with fail
  have s:=Al u8 (Ak #[st,true,sc,sn,Z x0 Cc x1,Z x2 K x3,Z x4 F x5] 48);have f:=Aw (fd (U.1.av s) (fd (U.2.1.av s) (fd (U.2.2.1.av s) (fd (Ar U.2.2.2.1 lR s) (fd (U.2.2.2.2.av s) (Ay.new u8 #[st,true,sc,sn,Z x0 Cc x1,Z x2 K x3,Z x4 F x5] 48))))));clear U s;generalize Ac u8 (Ak #[st,true,sc,sn,Z x0 Cc x1,Z x2 K x3,Z x4 F x5] 48)=U9 at f⊢;generalize u8.heap.size=N9 at f⊢;have r0:=f.2.2.2.2.1.cell 0;have r8:=f.2.2.2.2.1.cell 8;have s1:=f.2.2.2.2.2.cell 1;have s2:=f.2.2.2.2.2.cell 2;have s3:=f.2.2.2.2.2.cell 3;simp only[i5,f8,i6]at r0 r8 s1 s2 s3;have bS:k*(j+4)<=59*12:=Nat.mul_le_mul oM oM;have bT:k*(j+2)<=59*10:=Nat.mul_le_mul oM oM;obtain⟨L,hM⟩:∃L:Int,(k:Int)*(2+(j:Int)+2)=L:=⟨_,rfl⟩;obtain⟨M2,aW⟩:∃L:Int,(k:Int)*((j:Int)+2)=L:=⟨_,rfl⟩;have cg:0<=L/\L<=1000:=by (have e:L=((k*(j+4):Nat):Int):=by rw[<-hM,Int.natCast_mul];congr 1;omega);omega
  have cj:0<=M2/\M2<=1000:=by (have e:M2=((k*(j+2):Nat):Int):=by rw[<-aW,Int.natCast_mul];congr 1);omega
  have eC:cf C 0=2+L+2+2:=by rw[bJ,hM]
  have e2:sc=2+L+2+2:=by rw[HS.1,hM]
  have e3:sn=2+M2+2:=by rw[HS.2,aW]
  rw[eC]at r8;rw[e2]at s2;rw[e3]at s3;clear eC e2 e3 bS bT;go_upto_region 15 with fail
  clear hM;go_upto_region 17 with fail
  clear r0 r8 s1 s2 s3;have d:=f.2.2.1.cell 3;have t3:=f.2.1.cell 3;simp only[i5,f8,i6]at d t3;have z3:=f.2.1.frozen 3;go_upto_region 18 with fail
  clear d t3 z3;have aM:Ae (↑w<=N):=aJ.o
  have p:Ae (JT (Aa U9 ⟨N+1+1+1+1+1+1+1,3,M⟩ (.int .u32 ((k:Int)+1))) (N+1+1+1) (N+1+1+1+1) (N+1+1+1+1+1+1) (N+1+1+1+1+1) N (some ⟨N+1,0,M⟩) (some ⟨N+1+1,0,M⟩) 0 0 0 [3] (AR j) (k:Int) R aa/\Ay (Aa U9 ⟨N+1+1+1+1+1+1+1,3,M⟩ (.int .u32 ((k:Int)+1))) (N+1+1+1+1+1+1+1) #[.int Af 0,.int Af 2,.int Af 0,.int .u32 ((k:Int)+1)] 37/\Ay (Aa U9 ⟨N+1+1+1+1+1+1+1,3,M⟩ (.int .u32 ((k:Int)+1))) (N+1+1+1+1+1+1+1+1) #[Z (some ⟨N+1+1+1,0,M⟩) 3 3,Z (some ⟨N+1+1+1+1,0,M⟩) 1 1,Z (some ⟨N+1+1+1+1+1+1,0,M⟩) 1 1,Z (some ⟨N+1+1+1+1+1+1+1,0,M⟩) 1 1] 40/\Ah w w (Aa U9 ⟨N+1+1+1+1+1+1+1,3,M⟩ (.int .u32 ((k:Int)+1)))):=by have Q:=aF.o;have hw:=aM.o;refine⟨f.1.put (a:=⟨N+1+1+1+1+1+1+1,3,M⟩) ⟨by show _≠N+1+1+1+1+1+1+1;omega,by show _≠N+1+1+1+1+1+1+1;omega,by show _≠N+1+1+1+1+1+1+1;omega,by show _≠N+1+1+1+1+1+1+1;omega,by show _≠N+1+1+1+1+1+1+1;omega⟩ _,?_,f.2.2.1.other (a:=⟨N+1+1+1+1+1+1+1,3,M⟩) (by show _≠N+1+1+1+1+1+1+1;omega) _,f.2.2.2.1.setCell (by show _<=N+1+1+1+1+1+1+1;omega) _⟩;have:=f.2.1.set 3 (.int .u32 ((k:Int)+1));simpa using this
  clear f;generalize Aa U9 ⟨N+1+1+1+1+1+1+1,3,M⟩ (.int .u32 ((k:Int)+1))=V1 at p⊢;have B:=p.2.2.1.cell 0;have E:=p.2.2.1.cell 1;have G:=p.2.2.1.cell 2;have d:=p.2.2.1.cell 3;simp only[i5,f8,i6]at B E G d;go_wp2_with fail;obtain⟨y,l,A,H⟩:=p.1.fT (ts:=[⟨0,2,0,(k:Int)+1⟩]) (G7 (cs:=[.int Af 0,.int Af 2,.int Af 0,.int .u32 ((k:Int)+1)]) (n:=1) (k:=4) p.2.1 rfl 1);have h:=aq.o 0 [⟨0,2,0,(k:Int)+1⟩] (by show 1<=100;omega) (λt ht=>by rw[jU.1 ht];exact HT.o _ oM oM);refine(Gq ⟨Z (some ⟨N+1+1+1,0,M⟩) 3 3,Z (some ⟨N+1+1+1+1,0,M⟩) 1 1,Z (some ⟨N+1+1+1+1+1+1,0,M⟩) 1 1,Z (some ⟨N+1+1+1+1+1+1+1,0,M⟩) 1 1⟩ _ V1 h.1 h.2 y l A H (aE.o _ p.2.2.2)).mono ?_;rintro e v2 ⟨c1,g1,a1,C',D',P,c,ae⟩;obtain⟨c2,g2,a2,C2,D2,bu,bg⟩:=aj.two;obtain⟨rfl,-,-,-,-⟩:=P.one bg;rcases ae with⟨e0,_⟩|⟨_,rfl⟩
  case inl=>exact absurd e0 bu
  have E8:=Aw (fd (p.1.av c) (fd (p.2.1.av c) (fd (p.2.2.1.av c) (Ar p.2.2.2 lR c))));have hf:=UY c1 g1 a1;clear c P bg y l A H h p B E G d bu;go_upto_region 20 with fail
  clear hf;have d:=E8.2.2.1.cell 3;simp only[i5,f8,i6]at d;have z3:=E8.2.2.1.frozen 3;go_upto_region 21 with fail
  clear d z3;have I:Ae (JT (v2.setCell ⟨N+1+1+1+1+1+1+1+1,3,M⟩ (Z M 0 0)) (N+1+1+1) (N+1+1+1+1) (N+1+1+1+1+1+1) (N+1+1+1+1+1) N (some ⟨N+1,0,M⟩) (some ⟨N+1+1,0,M⟩) 0 0 0 [3] (AR j) (k:Int) R aa/\Ay (v2.setCell ⟨N+1+1+1+1+1+1+1+1,3,M⟩ (Z M 0 0)) (N+1+1+1+1+1+1+1+1) #[Z (some ⟨N+1+1+1,0,M⟩) 3 3,Z (some ⟨N+1+1+1+1,0,M⟩) 1 1,Z (some ⟨N+1+1+1+1+1+1,0,M⟩) 1 1,Z M 0 0] 40/\Ah w w (v2.setCell ⟨N+1+1+1+1+1+1+1+1,3,M⟩ (Z M 0 0))):=by have Q:=aF.o;have hw:=aM.o;refine⟨E8.1.put (a:=⟨N+1+1+1+1+1+1+1+1,3,M⟩) ⟨by show _≠N+1+1+1+1+1+1+1+1;omega,by show _≠N+1+1+1+1+1+1+1+1;omega,by show _≠N+1+1+1+1+1+1+1+1;omega,by show _≠N+1+1+1+1+1+1+1+1;omega,by show _≠N+1+1+1+1+1+1+1+1;omega⟩ _,?_,E8.2.2.2.setCell (by show _<=N+1+1+1+1+1+1+1+1;omega) _⟩;have:=E8.2.2.1.set 3 (Z M 0 0);simpa using this
  clear E8;generalize v2.setCell ⟨N+1+1+1+1+1+1+1+1,3,M⟩ (Z M 0 0)=V3 at I⊢;have B:=I.2.1.cell 0;have E:=I.2.1.cell 1;have G:=I.2.1.cell 2;have d:=I.2.1.cell 3;simp only[i5,f8,i6]at B E G d;go_wp2_with fail;obtain⟨y,l,A,H⟩:=I.1.fT (ts:=[]) (vt:=Z M 0 0) (Hi M 0);have h:=aq.o 0 [] (by show 0<=100;omega) (λt ht=>(by cases ht));refine(Gq ⟨Z (some ⟨N+1+1+1,0,M⟩) 3 3,Z (some ⟨N+1+1+1+1,0,M⟩) 1 1,Z (some ⟨N+1+1+1+1+1+1,0,M⟩) 1 1,Z M 0 0⟩ _ V3 h.1 h.2 y l A H (aE.o _ I.2.2)).mono ?_;rintro e v4 ⟨c3,g3,bP,C3,D3,P,c,ae⟩;obtain⟨g4,a4,C4,D4,bi⟩:=aj.non;obtain⟨rfl,-,-,-,-⟩:=P.one bi;rcases ae with⟨e0,_⟩|⟨_,rfl⟩
  case inl=>exact absurd e0 dC
  have EB:=Aw (Ar I.2.2 lR c);have hf:=XK 5 g3 bP;clear c P bi y l A H h I B E G d;go_wp2_with fail;go_ret;exact⟨rfl,EB⟩
abbrev Ci(n k:Nat)(ts:List MT):MP:=Ge [3] (AR n) k ts
theorem Oh(n:Nat):(AR n).length=n+5:=by unfold AR;rw[jI,Fl];show 3+n+2=n+5;omega
theorem Kc{n:Nat}{x:MI}(h:x∈AR n):x=⟨1,0,0,0⟩\/x=⟨3,0,0,0⟩\/x=⟨27,0,0,(n:Int)+4⟩\/x=⟨0,0,0,0⟩\/x=⟨25,0,0,2⟩\/x=⟨29,0,0,0⟩:=by unfold AR EM at h;simp only[jL,jK,jO,kM,List.mem_replicate]at h;rcases h with((h|h|h)|⟨_,h⟩)|h|h<;>simp[h]
theorem Vc:AG 0=0/\AG 1=1/\AG 3=2/\AG 25=9/\AG 27=10/\AG 29=0:=by decide+kernel
theorem GW{n k:Nat}(y:n<9)(v:k<60){ts:List MT}(ht:ts=[]\/∃z,ts=[⟨0,2,0,z⟩]):AX (Ci n k ts) 0:=by
 obtain⟨f0,f1,f3,l,m,p⟩:=Vc;have w:=Oh n;refine .inr (.inr (.inr (.inr (.inr ⟨rfl,⟨rfl, λj a r t=> ?_⟩,⟨by show 1<=64;omega, λj a c g=> ?_⟩,⟨by show¬1=0;omega,by show 1<=32;omega, λj a f b=> ?_, λf b=> ?_⟩, λj a f b i q x u=> ?_,?_⟩))))
 . (have:r=[]:=by have:=hC t;simpa[Ge]using this);subst this;exact⟨ku _,rfl⟩
 . (have:c=⟨3,(k:Int)⟩:=by simpa[Ge]using hC g);subst this;exact⟨rfl, λe=>absurd e (by show¬(3:Int)=1;decide)⟩
 . (have:f=⟨[],0,[3],AR n⟩:=by simpa[Ge]using hC b);subst this;exact⟨ku _,by show 0+1<=32;omega,rfl,rfl,.inl rfl,by show¬(AR n).length=0;omega,by show(AR n).length<=1024;omega⟩
 . (have:f=⟨[],0,[3],AR n⟩:=by simpa[Ge]using hC b);subst this;exact⟨rfl,rfl⟩
 . (have:f=⟨[],0,[3],AR n⟩:=by simpa[Ge]using hC b);subst this;(have h:¬AJ ⟨[],0,[3],AR n⟩ 0=0:=by unfold AJ;simp);rcases Kc (hC u)with rfl|rfl|rfl|rfl|rfl|rfl
   . exact⟨dC,dC,.inr (.inl ⟨f1,dC,by show(0:Int)<1;decide,rfl,rfl⟩)⟩
   . exact⟨dC,dC,.inr (.inr (.inl ⟨f3,h,rfl,rfl⟩))⟩
   . exact⟨by show(0:Int)<=27;decide,by show(27:Int)<=29;decide,.inr (.inr (.inr (.inr (.inr (.inr (.inr (.inr (.inl ⟨m,h,rfl,by show 0<=(n:Int)+4;omega,by show(n:Int)+4<((AR n).length:Int);omega⟩))))))))⟩
   . exact⟨dC,dC,.inl ⟨f0,rfl,rfl,rfl⟩⟩
   . exact⟨dC,dC,.inr (.inr (.inr (.inr (.inr (.inr (.inr (.inl ⟨l,rfl,rfl,dC,by show(2:Int)<((AR n).length:Int);omega⟩)))))))⟩
   exact⟨dC,dC,.inl ⟨p,rfl,rfl,rfl⟩⟩
 rcases ht with rfl|⟨z,rfl⟩
 . exact⟨ku _, λj a=>absurd a (Nat.not_lt_zero _)⟩
 refine⟨by show 1<=64;omega, λj a c g=> ?_⟩;have s:j=0:=by have:j<1:=a;omega
 subst s;cases g
 exact⟨⟨⟨[],0,[3],AR n⟩,rfl,by show(0:Int)<=0;decide,by show(0:Int)<=2;decide,by show(2:Int)<((AR n).length:Int);omega,by unfold AJ;simp⟩, λi d q=>oM⟩
theorem Mn(n k:Nat)(a:n<9)(ts:List MT):CV (Ci n k ts).aB=[0]:=by
 have h:∀n:Fin 9,CV [⟨[],0,[3],AR n.val⟩]=[0]:=by decide+kernel
 exact h ⟨n,a⟩
theorem Vh(n:Nat)(d:n<9):Bb (AR n):=by
 have c:=Oh n;refine⟨oM,oM, λi x b a=> ?_⟩;rcases Kc (hC b)with rfl|rfl|rfl|rfl|rfl|rfl
 . exact absurd a dC
 . exact absurd a dC
 . exact⟨by show 0<=(n:Int)+4;omega,by show(n:Int)+4<_;omega⟩
 . exact absurd a dC
 . exact⟨dC,by show(2:Int)<_;omega⟩
 exact absurd a dC
def Eg(n:Nat):List MB:=[⟨0,1,[1]⟩,⟨2,2,[2,3]⟩,⟨3,(n:Int)+3,[1]⟩,⟨(n:Int)+4,(n:Int)+4,[]⟩]
theorem Rf(n:Nat)(j:n<9):AQ (AR n)=Eg n:=by
 have h:∀n:Fin 9,(AQ (AR n.val)).map (λm=>(m.cz,m.last,m.next))=(Eg n.val).map (λm=>(m.cz,m.last,m.next)):=by decide+kernel
 have i:=h ⟨n,j⟩;have l:∀a b:List MB,a.map (λm=>(m.cz,m.last,m.next))=b.map (λm=>(m.cz,m.last,m.next))->a=b:=by
  intro a;induction a with
  |nil=>intro b e;cases b with|nil=>rfl|cons _ _=>simp at e
  | cons x r k=>
    intro b e;cases b with
    |nil=>simp at e
    | cons y s=>simp only[lM,mK,Prod.mk.injEq]at e;obtain⟨⟨c,d,f⟩,g⟩:=e;rw[k s g];obtain⟨_,_,_⟩:=x;obtain⟨_,_,_⟩:=y;simp only[]at c d f;subst c d f;rfl
 exact l _ _ i
def E4:Nat->List Nat|0=>[1]|1=>[2,3]|2=>[1]|_=>[]
theorem TV(n:Nat):nx (Eg n)=E4:=by
 funext b
 match b with
 |0=>rfl
 |1=>rfl
 |2=>rfl
 |3=>rfl
 |k+4=>rfl
theorem JD{E:Nat->List Nat}{d:Nat}{R:List Nat}(e:0∈R)(c:∀x∈R,∀y∈E x,y≠d->y∈R)(f:∀x∈R,ES E (· ≠d) 0 x)(b:Nat):ES E (· ≠d) 0 b↔b∈R:=by
 constructor
 . intro h;induction h with
   |here _=>exact e
   |step _ a ok g=>exact c _ g _ a ok
 exact f b
def R4:Nat->List Nat|0=>[]|1=>[0]|2=>[0,1,3]|3=>[0,1,2]|_=>[0,1,2,3]
def D4(d b:Nat):Bool:= !(R4 d).contains b
theorem ro(d b:Nat):ES E4 (· ≠d) 0 b↔b∈R4 d:=by
 match d with
 |0=>exact⟨λh=>absurd rfl h.iq, λh=>by cases h⟩
 | 1 =>
   refine JD dC (λx a y f g=> ?_) (λx a=> ?_) b
   . simp only[R4,jK,jO,kM]at a⊢;subst a;simp only[E4,jK,jO,kM]at f;exact absurd f g
   simp only[R4,jK,jO,kM]at a;subst a;exact .here dC
 | 2 =>
   refine JD dC (λx a y f g=> ?_) (λx a=> ?_) b
   . simp only[R4,jK,jO,kM]at a⊢;rcases a with rfl|rfl|rfl<;>simp only[E4,jK,jO,kM]at f<;>omega
   have e:ES E4 (· ≠2) 0 0:=.here dC;have c:ES E4 (· ≠2) 0 1:=.step e dC dC;simp only[R4,jK,jO,kM]at a;rcases a with rfl|rfl|rfl
   . exact e
   . exact c
   exact .step c dC dC
 | 3 =>
   refine JD dC (λx a y f g=> ?_) (λx a=> ?_) b
   . simp only[R4,jK,jO,kM]at a⊢;rcases a with rfl|rfl|rfl<;>simp only[E4,jK,jO,kM]at f<;>omega
   have e:ES E4 (· ≠3) 0 0:=.here dC;have c:ES E4 (· ≠3) 0 1:=.step e dC dC;simp only[R4,jK,jO,kM]at a;rcases a with rfl|rfl|rfl
   . exact e
   . exact c
   exact .step c dC dC
 | d +4=>
   refine JD (by show 0∈[0,1,2,3];decide) (λx a y f g=> ?_) (λx a=> ?_) b
   . simp only[R4,jK,jO,kM]at a⊢;rcases a with rfl|rfl|rfl|rfl<;>simp only[E4,jK,jO,kM]at f<;>omega
   have e:ES E4 (· ≠d+4) 0 0:=.here oM;have c:ES E4 (· ≠d+4) 0 1:=.step e dC oM;simp only[R4,jK,jO,kM]at a;rcases a with rfl|rfl|rfl|rfl
   . exact e
   . exact c
   . exact .step c dC oM
   exact .step c dC oM
theorem Xa(d b:Nat):D4 d b=true↔Ed E4 d b:=by unfold Ed D4;rw[ro];simp
theorem vs4:Vs E4 [] [] [0] [3,2,1,0] [2,3,1,0]:=.new dC (.new dC (.new dC (.old dC (.nil _ _)) (.new dC (.nil _ _) (.nil _ _))) (.nil _ _)) (.nil _ _)
def I4:Nat->Int|0=> -1|1=>0|2=>1|3=>1|_=>0
def TA(h y:Nat):Bool:=decide (y=h)||(decide (h=1)&&decide (y=2))
theorem WJ(h:Nat):AO E4 D4 4 h=if h=1 then[2]else[]:=by
 match h with
 |0=>decide
 |1=>decide
 |2=>decide
 |3=>decide
 | h+4=>
   rw[jH oM,List.eq_nil_iff_forall_not_mem];intro p c;obtain⟨b,a,_⟩:=(DN _ _ _ _ _).1 c;match p,b with
   |0,_=>simp[E4]at a
   |1,_=>simp[E4]at a
   |2,_=>simp[E4]at a
   |3,_=>simp[E4]at a
theorem in4(h y:Nat):TA h y=true↔AU E4 D4 4 h y:=by
 have two:∀y,ES (Bq E4 4) (· ≠1) 2 y->y=2:=by
  intro y a;induction a with
  |here _=>rfl
  | step _ b ok d=>
    subst d;obtain⟨p,q⟩:=(Di _ _ _ _).1 b;rename_i c _;match c,p with
    |0,_=>simp[E4]at q
    |1,_=>exact absurd rfl ok
    |2,_=>simp[E4]at q
    |3,_=>simp[E4]at q
 unfold TA AU;rw[WJ];simp only[Bool.or_eq_true,lC,ky];constructor
 . rintro(e|⟨rfl,rfl⟩)
   . exact .inl e
   exact .inr ⟨2,sP,.here dC⟩
 rintro(e|⟨t,ht,a⟩)
 . exact .inl e
 by_cases e:h=1
 . subst e;rw[jP rfl,jU]at ht;subst ht;exact .inr ⟨rfl,two y a⟩
 rw[jH e]at ht;cases ht
theorem qo:∀b,b<4->(b=0/\I4 b=-1)\/b≠0/\∃c:Nat,c<4/\I4 b=(c:Int)/\Hk E4 b c:=by
 have h:∀b c:Nat,c≠b->D4 c b=true->(∀d,d≠b->D4 d b=true->D4 d c=true)->Hk E4 b c:= λb c g i j=>⟨g,(Xa _ _).1 i, λd e f=>(Xa _ _).1 (j d e ((Xa _ _).2 f))⟩
 intro b f;match b,f with
 |0,_=>exact .inl ⟨rfl,rfl⟩
 | 1,_=>
   refine .inr ⟨dC,0,dC,rfl,h 1 0 dC dC λd e a=> ?_⟩;match d with
   |0=>decide
   |1=>exact absurd rfl e
   |2=>exact absurd a dC
   |3=>exact absurd a dC
   |d+4=>simp[D4,R4]at a
 | 2,_=>
   refine .inr ⟨dC,1,dC,rfl,h 2 1 dC dC λd e a=> ?_⟩;match d with
   |0=>decide
   |1=>decide
   |2=>exact absurd rfl e
   |3=>exact absurd a dC
   |d+4=>simp[D4,R4]at a
 | 3,_=>
   refine .inr ⟨dC,1,dC,rfl,h 3 1 dC dC λd e a=> ?_⟩;match d with
   |0=>decide
   |1=>decide
   |2=>exact absurd a dC
   |3=>exact absurd rfl e
   |d+4=>simp[D4,R4]at a
def Oi(n:Nat):Ee:=⟨0,0,Eg n,[0,1,3,2],[-1,0,1,1],[⟨1,[2],[1,2]⟩]⟩
theorem Gv(n:Nat)(i:n<9):Bl (AR n) (Oi n):=by
 have g:=Rf n i;have q:(AR n)[(AR n).length-1]?=K ⟨29,0,0,0⟩:=by
  have h:∀n:Fin 9,((AR n.val)[(AR n.val).length-1]?).map (λx=>(x.op,x.a,x.b,x.c))=K (29,0,0,0):=by decide+kernel
  have m:=h ⟨n,i⟩;obtain⟨x,l,k⟩:=lE.1 m;rw[l];obtain⟨_,_,_,_⟩:=x;simp only[Prod.mk.injEq]at k;obtain⟨rfl,rfl,rfl,rfl⟩:=k;rfl
 have d:nx (AQ (AR n))=E4:=by rw[g,TV]
 have f:(AQ (AR n)).length=4:=by rw[g];rfl
 have j:=Bl.good (xs:=AR n) (S:=[3,2,1,0]) (O:=[2,3,1,0]) (D:=D4) (L:=TA) (I:=I4) (Vh n i) q rfl (by rw[d];exact vs4) (by rw[f];intro c p;match c,p with|0,_=>decide|1,_=>decide|2,_=>decide|3,_=>decide) (by rw[d];exact Xa) (by
  rw[d,f];intro b g t ht;match b,g with
  |0,_=>simp only[E4,jK,jO,kM]at ht;subst ht;unfold PY;decide
  | 1,_=>simp only[E4,jK,jO,kM]at ht;rcases ht with rfl|rfl<;>(unfold PY;decide)
  |2,_=>simp only[E4,jK,jO,kM]at ht;subst ht;unfold PY;decide
  |3,_=>simp[E4]at ht) (by rw[d,f];exact qo) (by rw[d,f];exact in4)
 rw[d,f,g]at j;have e:BA E4 D4 TA 4 4=[⟨1,[2],[1,2]⟩]:=by unfold BA;rw[show List.range 4=[0,1,2,3]from rfl];simp only[List.filterMap_cons,List.filterMap_nil,WJ];rfl
 rw[e]at j;exact j
theorem ZM(n:Nat):(AR n)[1]?=K ⟨3,0,0,0⟩:=rfl
theorem XL{n a:Nat}(b:3<=a)(c:a<=n+3):∃x,(AR n)[a]?=K x/\(x=⟨0,0,0,0⟩\/x=⟨25,0,0,2⟩):=by
 by_cases h:a<n+3
 . refine⟨⟨0,0,0,0⟩,?_,.inl rfl⟩;unfold AR EM;rw[kL oT,jX oT];show(List.replicate n (⟨0,0,0,0⟩:MI))[a-3]?=_;rw[List.getElem?_replicate,jP oM]
 obtain rfl:a=n+3:=oM;refine⟨⟨25,0,0,2⟩,?_,.inr rfl⟩;unfold AR;have e:(EM n n).length=n+3:=by rw[Fl];omega
 rw[jX oM,e,mM];rfl
def Jx:ML:=⟨1,[2],[1,2]⟩
theorem Ob{n:Nat}:DZ (Eg n) [1,2] a↔(a=2\/(3<=a/\a<=(n:Int)+3)):=by
 unfold DZ;constructor
 . rintro⟨z,e,m,d,b,c⟩;simp only[jK,jO,kM]at e;rcases e with rfl|rfl
   . obtain rfl:(⟨2,2,[2,3]⟩:MB)=m:=jM d;left;simp only[]at b c;omega
   obtain rfl:(⟨3,(n:Int)+3,[1]⟩:MB)=m:=jM d;right;exact⟨b,c⟩
 rintro(rfl|⟨b,c⟩)
 . exact⟨1,sP,⟨2,2,[2,3]⟩,rfl,dC,dC⟩
 exact⟨2,sP,⟨3,(n:Int)+3,[1]⟩,rfl,b,c⟩
theorem Rh(n:Nat):¬∃a,DZ (Eg n) [1,2] a/\a≠2/\Qn (AR n) 0 a:=by
 rintro⟨a,c,d,x,g,f,_⟩;rcases Ob.1 c with e|⟨i,j⟩
 . exact d e
 obtain⟨y,b,h⟩:=XL (n:=n) (a:=a.toNat) oM oM;rw[g]at b;obtain rfl:=jM b;rcases h with rfl|rfl<;>rcases f with e|e<;>exact absurd e dC
theorem Ok(n k:Nat)(z:Int):BR [⟨3,(k:Int)⟩] (AR n) ⟨0,1,[1]⟩ ⟨0,2,0,z⟩↔(k:Int)=z:=by
 have b:J8 (AR n) ⟨0,1,[1]⟩=1:=by unfold J8;show(match (AR n)[1]? with|some x=>if x.op=25 then(1:Int)-1 else 1|none=>1)=1;rw[ZM];rfl
 unfold BR;rw[b];constructor
 . rintro⟨_,x,y,v,d,j,f,g,h,c,i,a⟩;obtain rfl:(⟨1,0,0,0⟩:MI)=x:=jM (by rw[<-d];rfl);obtain rfl:(⟨3,(k:Int)⟩:MC)=v:=jM (by rw[<-c];rfl);exact a
 intro e;exact⟨dC,⟨1,0,0,0⟩,⟨3,0,0,0⟩,⟨3,(k:Int)⟩,rfl,rfl,rfl,rfl,rfl,rfl,rfl,e⟩
theorem Oj(n k:Nat)(z:Int):Ku [⟨3,(k:Int)⟩] (AR n) (Eg n) Jx ⟨0,2,0,z⟩↔(k:Int)≠z:=by
 unfold Ku;constructor
 . rintro⟨b,m,a,d,c,f⟩ e;match b,a with
   | 0,a=>obtain rfl:(⟨0,1,[1]⟩:MB)=m:=jM a;exact f ((Ok n k z).2 e)
   |1,a=>exact c dC
   |2,a=>exact c dC
   | 3,a=>obtain rfl:(⟨(n:Int)+4,(n:Int)+4,[]⟩:MB)=m:=jM a;cases d
   |b+4,a=>cases a
 intro e;exact⟨0,⟨0,1,[1]⟩,rfl,dC,dC, λh=>e ((Ok n k z).1 h)⟩
theorem Pw{n k:Nat}:A6 (Ci n k [⟨0,2,0,z⟩]) 0 (AR n) (Eg n) Jx (if(k:Int)=z then 0 else 5):=by
 refine⟨⟨2,2,[2,3]⟩,rfl,.inr ⟨⟨0,2,0,z⟩,⟨27,0,0,(n:Int)+4⟩,rfl,rfl,.inr ⟨⟨rfl,rfl⟩,.inr ⟨?_,.inr ⟨Rh n,?_⟩⟩⟩⟩⟩
 . intro h;rcases Ob.1 h with e|⟨_,a⟩
   . simp only[]at e;omega
   simp only[]at a;omega
 by_cases e:(k:Int)=z
 . rw[jP e];exact .inr ⟨λh=>h.elim (λq=>absurd q dC) λq=>(Oj n k z).1 q e,rfl⟩
 rw[jH e];exact .inl ⟨.inr ((Oj n k z).2 e),rfl⟩
theorem Vj{n k:Nat}:A6 (Ci n k []) 0 (AR n) (Eg n) Jx 1:=⟨⟨2,2,[2,3]⟩,rfl,.inl ⟨rfl,rfl⟩⟩
def ID(n:Nat):MF:=⟨[],0,[3],AR n⟩
def IE(n k:Nat)(ts:List MT):Qh:=PL (AR n).length (Ib (Ci n k ts) (ID n) (Eg n) [0,1,3,2] NM)
def qw(y:Qh):Bool:=decide (y.aU=0)&&decide (y.depth<=64)
theorem Vd:∀n:Fin 9,∀k:Fin 60,qw (IE n.val k.val [⟨0,2,0,(k.val:Int)⟩])=true:=by decide+kernel
theorem Ve:∀n:Fin 9,∀k:Fin 60,qw (IE n.val k.val [⟨0,2,0,(k.val:Int)+1⟩])=true:=by decide+kernel
theorem Vf:∀n:Fin 9,∀k:Fin 60,qw (IE n.val k.val [])=true:=by decide+kernel
theorem Re{n k:Nat}(a:n<9)(b:k<60){ts:List MT}(ht:ts=[]\/∃z,ts=[⟨0,2,0,z⟩]):JX (Ci n k ts) 0 (IE n k ts):=.inr ⟨GW a b ht,dC,ID n,Oi n,rfl,Gv n a,rfl,rfl⟩
theorem TI{b:List (List Int)}{D:List Int}{xs:List MI}(h:∀x∈xs,x.op≠28):∀k,EZ p xs b D a k=a
 |0=>rfl
 | k+1=>by
   unfold EZ;rw[TI h k];cases e:xs[k]? with
   |none=>rfl
   |some x=>simp only[];rw[jH (h x (hC e))]
theorem KQ(n:Nat):∀x∈AR n,x.op≠28:=by intro x a;rcases Kc a with rfl|rfl|rfl|rfl|rfl|rfl<;>(intro e;exact absurd e (by first|decide|(show¬(27:Int)=28;decide)))
theorem TS(n:Nat)(a:n<9):(Eg n).map (Cf (AR n) [-1])=[2,2,(n:Int)+2,2]:=by
 have h:∀n:Fin 9,(Eg n.val).map (Cf (AR n.val) [-1])=[2,2,(n.val:Int)+2,2]:=by decide+kernel
 exact h ⟨n,a⟩
theorem Og(n:Nat):(AR n)[n+4]?=K ⟨29,0,0,0⟩:=by
 unfold AR;have e:(EM n n).length=n+3:=by rw[Fl];omega
 rw[jX oM,e,show n+4-(n+3)=1 from oM];rfl
def C4(n:Nat):Nat->Int:=cf [2,2,(n:Int)+2,2]
def J4:Nat->Nat:=jf (List.range 4)
theorem qZ{x:Nat}(h:x∈E4 b):(b=0/\x=1)\/(b=1/\x=2)\/(b=1/\x=3)\/(b=2/\x=1):=by
 match b,h with
 |0,h=>simp only[E4,jK,jO,kM]at h;omega
 |1,h=>simp only[E4,jK,jO,kM]at h;omega
 |2,h=>simp only[E4,jK,jO,kM]at h;omega
 |3,h=>cases h
 |b+4,h=>cases h
theorem rh:TA 1 b=true↔b=1\/b=2:=by unfold TA;simp
def s1(n:Nat)(b:Nat):Int:=if b=1 then 2 else(n:Int)+4
theorem XO{n k:Nat}(q:n<9)(m:k<60):Qk E4 (λb=>TA 1 b=true) (· ∈AO E4 D4 4 1) J4 1 (C4 n) (k:Int) (K ((k:Int)*((n:Int)+4)+2)):=by
 have p:(k:Int)*((n:Int)+4)<=10000/\0<=(k:Int)*((n:Int)+4):=by
  have d:k*(n+4)<=60*13:=Nat.mul_le_mul oM oM;have e:(k:Int)*((n:Int)+4)=((k*(n+4):Nat):Int):=by rw[Int.natCast_mul];rfl
  omega
 have c1:C4 n 1=2:=rfl;have c2:C4 n 2=(n:Int)+2:=rfl;have f:YO E4 (λb=>TA 1 b=true) J4 1 (C4 n) (s1 n):=⟨rfl, λb x a h i d c=>by
  rcases qZ h with⟨rfl,rfl⟩|⟨rfl,rfl⟩|⟨rfl,rfl⟩|⟨rfl,rfl⟩
  . exact absurd rfl c
  . show(2:Int)+C4 n 2<=(n:Int)+4;rw[c2];omega
  . exact absurd i dC
  exact absurd rfl c⟩
 refine .inr ⟨s1 n,(n:Int)+4,2,⟨⟨f, λt ht b a=> ?_⟩, λb a=> ?_⟩,?_,?_,?_⟩
 . have r:t 1=2:=ht.hd;have j:=ht.ed 1 2 dC dC dC dC dC;have l:t 1+C4 n 2<=t 2:=j;rcases rh.1 a with rfl|rfl
   . show(2:Int)<=t 1;omega
   show(n:Int)+4<=t 2;rw[c2]at l;omega
 . rcases rh.1 a with rfl|rfl
   . show(2:Int)<=4294967295;decide
   show(n:Int)+4<=4294967295;omega
 . rw[WJ,jP rfl];exact⟨oM, λb a=>(by rw[jU.1 a];exact Int.le_refl _),.inr ⟨2,jU.2 rfl,rfl⟩⟩
 . refine⟨dC, λb a=> ?_,.inr ⟨1,⟨dC,3,dC,dC⟩,rfl⟩⟩;obtain⟨d,x,c,g⟩:=a;rcases rh.1 d with rfl|rfl
   . exact Int.le_refl _
   rcases qZ c with⟨e,_⟩|⟨e,_⟩|⟨e,_⟩|⟨_,rfl⟩
   . cases e
   . cases e
   . cases e
   exact absurd dC g
 rw[jH oM]
def s2(v:Int)(b:Nat):Int:=if b=0 then 2 else if b=3 then 2+v+2 else 2+v
theorem XN{n:Nat}{v:Int}(g:0<=v)(d:v<=20000):Qd E4 4 (Ll (AR n) (Eg n)) (λb=>if TA 1 b then 1 else J4 b) (λc=>if c=1 then v else C4 n c) (2+v+2):=by
 have e:YO E4 (λb=>b<4) (λb=>if TA 1 b then 1 else J4 b) 0 (λc=>if c=1 then v else C4 n c) (s2 v):=⟨rfl, λb x a f i d h=>by
  rcases qZ f with⟨rfl,rfl⟩|⟨rfl,rfl⟩|⟨rfl,rfl⟩|⟨rfl,rfl⟩
  . exact Int.le_refl _
  . exact absurd rfl d
  . exact Int.le_refl _
  exact absurd rfl d⟩
 refine .inr ⟨s2 v,⟨⟨e, λt ht b a=> ?_⟩, λb a=> ?_⟩,oM, λb a=> ?_,.inr ⟨3,⟨dC,⟨(n:Int)+4,(n:Int)+4,[]⟩,⟨29,0,0,0⟩,rfl,?_,rfl⟩,rfl⟩⟩
 . have j:t 0=2:=ht.hd;have k:t 0+v<=t 1:=ht.ed 0 1 dC dC dC dC dC;have l:t 1+2<=t 3:=ht.ed 1 3 dC dC dC dC dC;match b,a with
   |0,_=>show(2:Int)<=t 0;omega
   |1,_=>show 2+v<=t 1;omega
   |2,_=>show 2+v<=t 1;omega
   |3,_=>show 2+v+2<=t 3;omega
 . match b,a with
   |0,_=>show(2:Int)<=4294967295;decide
   |1,_=>show 2+v<=4294967295;omega
   |2,_=>show 2+v<=4294967295;omega
   |3,_=>show 2+v+2<=4294967295;omega
 . obtain⟨a,_⟩:=a;match b,a with
   |0,_=>show(2:Int)<=2+v+2;omega
   |1,_=>show 2+v<=2+v+2;omega
   |2,_=>show 2+v<=2+v+2;omega
   |3,_=>show 2+v+2<=2+v+2;omega
 show(AR n)[((n:Int)+4).toNat]?=_;rw[show((n:Int)+4).toNat=n+4 from oM];exact Og n
theorem Vg{n k:Nat}(c:n<9)(r:k<60):Gi (Ci n k [⟨0,2,0,(k:Int)⟩]) 0 [-1] (2+((k:Int)*((n:Int)+4)+2)+2):=by
 have A:(k:Int)*((n:Int)+4)<=10000/\0<=(k:Int)*((n:Int)+4):=by
  have a:k*(n+4)<=60*13:=Nat.mul_le_mul oM oM;have e:(k:Int)*((n:Int)+4)=((k*(n+4):Nat):Int):=by rw[Int.natCast_mul];rfl
  omega
 refine .inr ⟨ID n,Oi n,GW c r (.inr ⟨_,rfl⟩),dC,rfl,Gv n c,rfl,.inr ⟨λl v=> ?_, λm w u=> ?_,?_⟩⟩
 . obtain rfl:l=Jx:=jU.1 v;have:=Pw (n:=n) (k:=k) (z:=(k:Int));rw[jP rfl]at this;exact this
 . rcases u with⟨j,x,_,_,p,s⟩|h
   . exact s λe=>absurd e (KQ n x (hC p))
   have h:4294967295<Cf (AR n) [-1] m:=h;have a:Cf (AR n) [-1] m∈(Eg n).map (Cf (AR n) [-1]):=kI.2 ⟨m,w,rfl⟩;rw[TS n c]at a;simp only[jK,jO,kM]at a;omega
 obtain⟨O,D,L,g⟩:=(Gv n c).gd rfl;have f:nx (Oi n).aC=E4:=TV n;have q:D=D4:=by
  funext d b
  have a:=g.fl.D d b;rw[f]at a;have i:=Xa d b;cases e1:D d b<;>cases e2:D4 d b<;>simp_all
 have t:L=TA:=by
  funext h y
  have a:=g.il h y;rw[f,q]at a;have i:=in4 h y;have p:L h y=true↔TA h y=true:=a.trans i.symm;cases e1:L h y<;>cases e2:TA h y<;>simp_all
 refine⟨O,D,L,[Jx],g,List.Perm.refl _,List.pairwise_singleton _ _,?_⟩;rw[f,q,t];show PZ E4 4 D4 TA (Ka (Ci n k [⟨0,2,0,(k:Int)⟩]) 0 (Eg n)) (Ll (AR n) (Eg n)) [1] J4 (cf ((Eg n).map (Cf (AR n) [-1]))) _;rw[TS n c];exact .step (XO c r) (.nil (XN oM oM))
theorem Rg{n k:Nat}{ts:List MT}(b:n<9)(d:k<60)(ht:ts=[]\/∃z,ts=[⟨0,2,0,z⟩]){c g a:Int}{C D:List Int}(h:Ty (Ci n k ts) [0] [-1] [0] c g a C D):K3 (Ci n k ts) c g a C D:=by refine .inr (.inr ⟨GW b d ht,by rw[Mn n k b];simp,[-1],[0],rfl,rfl,?_⟩);rw[Mn n k b];exact h
theorem S7{y:Qh}(h:qw y=true):y.aU=0/\y.depth<=64:=by unfold qw at h;simpa using h
theorem XP{n k:Nat}(a:n<9)(b:k<60):∃C D,cf C 0=2+(k:Int)*(2+n+2)+2+2/\K3 (Ci n k [⟨0,2,0,(k:Int)⟩]) 0 0 0 C D:=by
 have ht:([⟨0,2,0,(k:Int)⟩]:List MT)=[]\/∃z,([⟨0,2,0,(k:Int)⟩]:List MT)=[⟨0,2,0,z⟩]:=.inr ⟨_,rfl⟩
 obtain⟨f,g⟩:=S7 (Vd ⟨n,a⟩ ⟨k,b⟩);simp only[]at f g;have c:=Pw (n:=n) (k:=k) (z:=(k:Int));rw[jP rfl]at c;have u:(0:Int)<=2+((k:Int)*((n:Int)+4)+2)+2:=by
  have e:(k:Int)*((n:Int)+4)=((k*(n+4):Nat):Int):=by rw[Int.natCast_mul];rfl
  omega
 have h:Hp (Ci n k [⟨0,2,0,(k:Int)⟩]) (ID n) (IE n k [⟨0,2,0,(k:Int)⟩]) [0]<=64:=by unfold Hp;rw[TI (xs:=(ID n).aU) (KQ n)];exact g
 refine⟨[2+((k:Int)*((n:Int)+4)+2)+2],[Hp (Ci n k [⟨0,2,0,(k:Int)⟩]) (ID n) (IE n k [⟨0,2,0,(k:Int)⟩]) [0]],?_,Rg a b ht (.step (v:=2+((k:Int)*((n:Int)+4)+2)+2) (d:=Hp (Ci n k [⟨0,2,0,(k:Int)⟩]) (ID n) (IE n k [⟨0,2,0,(k:Int)⟩]) [0]) ⟨ID n,Oi n,rfl,Gv n a,.inr ⟨rfl,IE n k [⟨0,2,0,(k:Int)⟩],Re a b ht,.inr ⟨f,.inr ⟨λl j i=> ?_,.inr ⟨λt s r=> ?_,_,Vg a b,.inr ⟨u,.inr ⟨h,rfl,rfl,rfl,rfl⟩⟩⟩⟩⟩⟩⟩ .nil)⟩
 . show 2+((k:Int)*((n:Int)+4)+2)+2=_;have e:(2:Int)+n+2=n+4:=oM;rw[e];omega
 . obtain rfl:l=Jx:=jU.1 j;obtain⟨q,m,p⟩:=i;exact m (p.one c)
 obtain rfl:t=⟨0,2,0,(k:Int)⟩:=jU.1 s;exact r.2 Jx (jU.2 rfl) ⟨2,2,[2,3]⟩ rfl rfl
theorem Ol{n k:Nat}{ts:List MT}{q:Int}(a:n<9)(b:k<60)(ht:ts=[]\/∃z,ts=[⟨0,2,0,z⟩])(g:(IE n k ts).aU=0)(c:A6 (Ci n k ts) 0 (AR n) (Eg n) Jx q)(f:q≠0):K3 (Ci n k ts) 5 0 2 [] []:=by refine Rg a b ht (.bad (q:=0) (v:=0) (d:=0) ⟨ID n,Oi n,rfl,Gv n a,.inr ⟨rfl,IE n k ts,Re a b ht,.inr ⟨g,.inl ⟨Jx,⟨2,2,[2,3]⟩,⟨0,rfl,⟨q,f,c⟩, λj y e=>absurd e (Nat.not_lt_zero _)⟩,rfl,rfl,rfl⟩⟩⟩⟩ dC)
theorem Vp{n k:Nat}(c:n<9)(b:k<60):K3 (Ci n k [⟨0,2,0,(k:Int)+1⟩]) 5 0 2 [] []:=by have a:=Pw (n:=n) (k:=k) (z:=(k:Int)+1);rw[jH oM]at a;exact Ol c b (.inr ⟨_,rfl⟩) (S7 (Ve ⟨n,c⟩ ⟨k,b⟩)).1 a dC
theorem Vm{n k:Nat}(b:n<9)(a:k<60):K3 (Ci n k []) 5 0 2 [] []:=Ol b a (.inl rfl) (S7 (Vf ⟨n,b⟩ ⟨k,a⟩)).1 Vj dC
abbrev sS(a c:Int)(st:List MC)(C N:Int):MS:=⟨0,false,C,N,[[],[],[]],st,[⟨0,a,0,[⟨3,c⟩]⟩]⟩
theorem Cs.add{k j:Nat}{s s1 s2:MS}(d:Cs p k s s1)(e:Cs p j s1 s2):Cs p (k+j) s s2:=by
 induction e with
 |zero=>exact d
 |next _ a b c f=>exact .next (f d) a b c
section
variable {n k:Nat} {ts:List MT} {c C N:Int}
theorem Yw:Bf (Ci n k ts) (sS 0 c [] C N) (sS 1 c [⟨3,(k:Int)⟩] (C+1) (N+1)):=.does (g:=⟨0,0,0,[⟨3,c⟩]⟩) (f:=⟨[],0,[3],AR n⟩) (x:=⟨1,0,0,0⟩) rfl rfl (by show(0:Int)<=0;decide) rfl rfl
theorem Yz:Bf (Ci n k ts) (sS 1 c [⟨3,z⟩] C N) (sS 2 z [] (C+1) (N+1)):=.does (g:=⟨0,1,0,[⟨3,c⟩]⟩) (f:=⟨[],0,[3],AR n⟩) (x:=⟨3,0,0,0⟩) rfl rfl (by show(0:Int)<=1;decide) rfl rfl
theorem pA{a:Nat}(h:(AR n)[a]?=K ⟨0,0,0,0⟩):Bf (Ci n k ts) (sS a c [] C N) (sS ((a+1:Nat):Int) c [] (C+1) (N+1)):=.does (g:=⟨0,a,0,[⟨3,c⟩]⟩) (f:=⟨[],0,[3],AR n⟩) (x:=⟨0,0,0,0⟩) rfl rfl (Int.natCast_nonneg a) h rfl
theorem Z7{a:Nat}(h:(AR n)[a]?=K ⟨25,0,0,2⟩):Bf (Ci n k ts) (sS a c [] C N) (sS 2 c [] (C+2) (N+1)):=.does (g:=⟨0,a,0,[⟨3,c⟩]⟩) (f:=⟨[],0,[3],AR n⟩) (x:=⟨25,0,0,2⟩) rfl rfl (Int.natCast_nonneg a) h rfl
theorem qz(c:Int):Eb (Ci n k ts) ⟨[],0,[3],AR n⟩ ⟨0,2,0,[⟨3,c⟩]⟩ (sS 2 c [] (C+2) (N+1)) ⟨27,0,0,(n:Int)+4⟩=if c=0 then sS ((n:Int)+4) c [] (C+2) (N+1)else sS 3 (c-1) [] (C+2) (N+1):=by
 show(if c=0 then _ else _)=_;by_cases a:c=0
 . rw[jP a,jP a];rfl
 rw[jH a,jH a];rfl
theorem qn:B4 27=2:=by decide+kernel
theorem T9(c:Int):Bf (Ci n k ts) (sS 2 c [] C N) (if c=0 then sS ((n:Int)+4) c [] (C+2) (N+1)else sS 3 (c-1) [] (C+2) (N+1)):=by
 rw[<-qz (n:=n) (k:=k) (ts:=ts) c];have h:=Bf.does (p:=Ci n k ts) (s:=sS 2 c [] C N) (g:=⟨0,2,0,[⟨3,c⟩]⟩) (f:=⟨[],0,[3],AR n⟩) (x:=⟨27,0,0,(n:Int)+4⟩) rfl rfl (by show(0:Int)<=2;decide) rfl rfl;have e:sS 2 c [] (C+2) (N+1)={sS 2 c [] C N with steps:=N+1,cost:=C+B4 27}:=by rw[qn]
 rw[e];exact h
theorem Yx(a:c≠0):Bf (Ci n k ts) (sS 2 c [] C N) (sS 3 (c-1) [] (C+2) (N+1)):=by have h:=T9 (n:=n) (k:=k) (ts:=ts) (C:=C) (N:=N) c;rw[jH a]at h;exact h
theorem Yy:Bf (Ci n k ts) (sS 2 0 [] C N) (sS ((n+4:Nat):Int) 0 [] (C+2) (N+1)):=by have h:=T9 (n:=n) (k:=k) (ts:=ts) (C:=C) (N:=N) 0;rw[jP rfl]at h;exact h
theorem pB:Bf (Ci n k ts) (sS ((n+4:Nat):Int) c [] C N) ⟨0,true,C+2,N+1,[[],[],[]],[],[]⟩:=.does (g:=⟨0,((n+4:Nat):Int),0,[⟨3,c⟩]⟩) (f:=⟨[],0,[3],AR n⟩) (x:=⟨29,0,0,0⟩) rfl rfl (Int.natCast_nonneg _) (Og n) rfl
theorem Va{i:Nat}(h:i<n):(AR n)[3+i]?=K ⟨0,0,0,0⟩:=by unfold AR EM;rw[kS,jX (by show 3<=_;omega),kL (by rw[jT];show 3+i-3<n;omega)];rw[List.getElem?_replicate,jP (by show 3+i-3<n;omega)]
theorem SZ:(AR n)[3+n]?=K ⟨25,0,0,2⟩:=by unfold AR;rw[jX (by rw[Fl];omega),Fl,mM];rfl
theorem Ua:∀i:Nat,i<=n->Cs (Ci n k ts) i (sS 3 c [] C N) (sS ((3+i:Nat):Int) c [] (C+i) (N+i))
 |0,_=>by rw[show C+((0:Nat):Int)=C by omega,show N+((0:Nat):Int)=N by omega];exact .zero
 | i+1,h=>by have:=Cs.next (Ua i oM) rfl rfl (pA (Va oM));rw[show C+((i+1:Nat):Int)=C+i+1 from oM,show N+((i+1:Nat):Int)=N+i+1 from oM];exact this
theorem RM:∀(j:Nat) (C N:Int),Cs (Ci n k ts) (j*(n+2)) (sS 2 j [] C N) (sS 2 0 [] (C+j*((n:Int)+4)) (N+j*((n:Int)+2)))
 | 0,C,N=>by rw[Nat.zero_mul,show C+((0:Nat):Int)*((n:Int)+4)=C by simp,show N+((0:Nat):Int)*((n:Int)+2)=N by simp];exact .zero
 | j+1,C,N=>by have b:=Cs.next (.zero (s:=sS 2 ((j+1:Nat):Int) [] C N)) rfl rfl (Yx (n:=n) (k:=k) (ts:=ts) oM);have a:=(b.add (Ua n (Nat.le_refl n))).next rfl rfl (Z7 SZ);rw[show((j+1:Nat):Int)-1=j from oM]at a;have c:=a.add (RM j _ _);rw[show(j+1)*(n+2)=0+1+n+1+j*(n+2)by rw[Nat.succ_mul];omega,show C+((j+1:Nat):Int)*((n:Int)+4)=C+2+n+2+j*((n:Int)+4)by rw[show((j+1:Nat):Int)=j+1 from oM,Int.add_mul];omega,show N+((j+1:Nat):Int)*((n:Int)+2)=N+1+n+1+j*((n:Int)+2)by rw[show((j+1:Nat):Int)=j+1 from oM,Int.add_mul];omega];exact c
end
theorem Vn{n k:Nat}(c:n<9)(b:k<60):∃s:MS,FO (Ci n k [⟨0,2,0,(k:Int)⟩]) ⟨[],[],[]⟩ 1048576 s/\s.done=true/\s.cost=2+(k:Int)*(2+n+2)+2+2/\s.steps=2+(k:Int)*(n+2)+2:=by
 have d:k*(n+2)<=60*11:=Nat.mul_le_mul oM oM;have h:=((((Cs.zero (p:=Ci n k [⟨0,2,0,(k:Int)⟩]) (s:=sS 0 0 [] 0 0)).next rfl rfl Yw).next rfl rfl Yz).add (RM k _ _)).next rfl rfl Yy;have h:=h.next rfl rfl pB;refine⟨_,⟨sS 0 0 [] 0 0,.inl ⟨⟨GW c b (.inr ⟨_,rfl⟩),[],[],[],rfl,rfl,?_,?_⟩,[],[],[],ID n,[],rfl,rfl,rfl⟩,_,h,.inr ⟨oM,.inr rfl⟩⟩,rfl,?_,?_⟩
 . exact⟨rfl, λi a=>absurd a (Nat.not_lt_zero _)⟩
 . exact⟨rfl, λi a=>absurd a (Nat.not_lt_zero _)⟩
 . show 0+1+1+(k:Int)*((n:Int)+4)+2+2=_;rw[show(2:Int)+n+2=n+4 from oM];omega
 show 0+1+1+(k:Int)*((n:Int)+2)+1+1=_;omega
theorem pi(n k:Nat)(b:n<9)(a:k<60):Wv n k:=⟨XP b a,Vn b a,⟨5,0,2,[],[],dC,Vp b a⟩,⟨0,2,[],[],Vm b a⟩⟩
end Go.Proofs.YtkgohaigebcgoaaGreatDoor
