import Derived.Test.YthjbicggfnnonaaGreatDoorCw20
import Derived.Deep.RegionLawGrows
import Derived.Test.YthjbicggfnnonaaGreatDoorCw12
import Derived.Laws.IdiomStrings
import Derived.Laws.Strings
namespace Go.Proofs.YthjbicggfnnonaaGreatDoor
open Go.ChangeShapes Go.WideShapes Go.ChangeAt Go.RowKit
set_option linter.unusedVariables false
set_option maxHeartbeats 8000000
set_option maxRecDepth 100000
variable {b f x1 x2 x3 g:Value}{p:MP}{w u:World}{a l:List Int}{R:Nat}
theorem LS(B wb c:Nat)(w:World)(p:B<=w.heap.size)(hw:B<=wb)(A:Aw w wb #[sG c 4 4] 56)(D:∀j u,B8[j]?=some u->w.cell? ((⟨c,0,none⟩:Addr).add j)=some u):
 Calls Tryz.prog 17 #[.pointer (some ⟨wb,0,none⟩),iZ 1,iZ 2] w fun e n=>e=.returned (.tuple #[])/\EM B n wb (B8++Az 1 2)/\Wg B w n:=by
 obtain⟨N,I,K,L,M⟩:=kS infoBD;have H:=Ag (f7 A D);have E:Hid (∀u:World,Calls Tryz.prog 48 #[iZ 1,iZ 2] u fun e n=>∃r,e=.returned r/\n.ownsRow u.heap.size 5 1 r 2 (Az 1 2)/\Below u.heap.size u n):=fun u=>by have:=Ir 1 2 u;rw[show Q1 2=2 from rfl]at this;exact this
 clear A D;have x:w.drew.cell? ⟨wb,0,none⟩=some (sG c 4 4):=(H.o.1.aa (Ae w)).cell 0;go_enter Tryz.func17,Tryz.ntmps17;go_wp2_with fail;go_region_law (first
  |(refine step_append_grows rfl (.tmp 10) (.tmp 13) 22 rfl 5 N (.int .u8 0) 1 1 Tryz.underlying22 I K L M rfl dC (some ⟨c,0,none⟩) 4 4 B8 oE (fun e=>by cases e) rfl f.o.2.2 ⟨z,0,none⟩ 2 c1 (Az 1 2) oE rfl (Bm f.o.1) (AX 1 2) oM oX oM ?_;intro V m s i;have h:Hid (m.ownsRow d.heap.size 5 1 V (4+2) (B8++Az 1 2)/\Below d.heap.size d m):=⟨s,⟨i.os,i.tape,i.output,i.size,fun k J=>i.block k J sP⟩⟩;obtain⟨g,cap,rfl,_,_⟩:=s.form oM;have x:m.cell? ⟨wb,0,none⟩=some (sG c 4 4):=(f.o.2.1.aa h.o.2).cell 0;have Z:=(f.o.2.1.aa h.o.2).frozen 0;clear s i)
  |(go_simp;go_at_call 48;refine(E.o _).mono ?_;rintro e d ⟨r,rfl,t,y⟩;obtain⟨z,c1,rfl,_,_⟩:=t.form oM;have l:Hid (Below w.heap.size w d):=Gf y lR;have f:Hid (d.ownsRow w.heap.size 5 1 (sG z 2 c1) 2 (Az 1 2)/\Aw d wb #[sG c 4 4] 56/\(∀b,some (⟨c,0,none⟩:Addr)=some b->∀j u,B8[j]?=some u->d.cell? (b.add j)=some u)):=⟨t,H.o.1.aa l.o,fun b F j u C=>by cases F;rw[l.o.cell (d5 (H.o.2 j u C))];exact H.o.2 j u C⟩;have x:d.cell? ⟨wb,0,none⟩=some (sG c 4 4):=f.o.2.1.cell 0;clear t y))
 all_goals
  have q:=f.o.2.1.aa h.o.2;have v:Hid (EM B (m.setCell ⟨wb,0,none⟩ (sG g (4+2) cap)) wb (B8++Az 1 2)/\Wg B w (m.setCell ⟨wb,0,none⟩ (sG g (4+2) cap))):=by refine⟨⟨sG g (4+2) cap,q.set 0 _,?_⟩,((Wg.gz l.o p).trans (Wg.gz h.o.2 (jX p l.o.size))).trans (Wg.iO q hw 0 _)⟩;(have G:¬g=wb:=fun e=>by have h1:=q.lt;have h2:=f.o.2.1.lt;have O:=(h.o.1.lt g rfl).1;omega);have:=i9 (BD h.o.1 (jX p l.o.size)) (a:=⟨wb,0,none⟩) (by simp only[Value.ownBlock];intro e;exact G (kH e)) (sG g (4+2) cap);exact this
  go_end0;exact⟨rfl,v.o.1,v.o.2⟩
def AN(a:List Int):List Int:=a.take (a.length-4)
def DI(a:List Int):Prop:=10<=a.length/\a.take 4=[80,76,67,49]
def Hc(a:List Int):Prop:=wrap64 (BW a (a.length-4) 4)=DO (~~~(BU (AN a) (a.length-4)))
def Kz(a:List Int):Prop:=wrap64 (BW a 4 2)=1
def JH:MP:=⟨[],[],[],[]⟩
def DQ(a:List Int)(c:Int)(p:MP):Prop:=
 (¬DI a/\c=1/\p=JH)\/(DI a/\¬Hc a/\c=2/\p=JH)\/(DI a/\Hc a/\¬Kz a/\c=3/\p=JH)\/
 (DI a/\Hc a/\Kz a/\FR (AN a) 6=none/\c=4/\p=JH)\/
 (∃q k,DI a/\Hc a/\Kz a/\FR (AN a) 6=some (q,k)/\k≠a.length-4/\c=5/\p=JH)\/
 (∃q n,DI a/\Hc a/\Kz a/\FR (AN a) 6=some (q,a.length-4)/\Bj q n/\n≠0/\c=6/\p=JH)\/
 (DI a/\Hc a/\Kz a/\FR (AN a) 6=some (p,a.length-4)/\Bj p 0/\c=0)
theorem DQ.one{b:List Int}{c c':Int}{j:MP}(h:DQ b c p)(a:DQ b c' j):c=c'/\p=j:=by
 unfold DQ at h a;by_cases r:DI b<;>by_cases s:Hc b<;>by_cases t:Kz b<;>simp only[r,s,t,not_true_eq_false,not_false_eq_true,kU,false_and,false_or,ly,and_false,exists_false]at h a
 . cases e:FR (AN b) 6 with
   | none=>simp only[e]at h a;simp at h a;exact⟨h.1.trans a.1.symm,h.2.trans a.2.symm⟩
   | some y=>
     obtain⟨q,k⟩:=y;simp only[e,i4,Prod.mk.injEq]at h a;simp only[reduceCtorEq,false_and,false_or]at h a;(rcases h with⟨_,_,⟨rfl,rfl⟩,d,rfl,rfl⟩|⟨_,n,⟨rfl,d⟩,g,l,rfl,rfl⟩|⟨⟨rfl,d⟩,g,rfl⟩<;>rcases a with⟨_,_,⟨rfl,rfl⟩,f,rfl,rfl⟩|⟨_,n',⟨rfl,f⟩,i,m,rfl,rfl⟩|⟨⟨rfl,f⟩,i,rfl⟩);all_goals first
      |exact⟨rfl,rfl⟩
      |(exfalso;omega)
      |(exfalso;exact d f)
      |(exfalso;exact f d)
      |(exfalso;exact l (g.one i))
      |(exfalso;exact m (i.one g))
 all_goals exact⟨h.1.trans a.1.symm,h.2.trans a.2.symm⟩
theorem Cj.front{a:Option Addr}{n c m:Nat}{d:List Int}(h:Cj w (.slice a n c) n (d.map (Value.int .u8)))(l:m<=n)(i:0<m):Cj w (.slice a m c) m ((d.take m).map (Value.int .u8)):=by
 obtain⟨h1,h2⟩:=h;have k:d.length=n:=by simpa using h1
 refine⟨oT,?_⟩;rcases h2 with⟨rfl,_⟩|⟨g,o,c',e,f⟩
 . omega
 cases e
 refine .inr ⟨g,o,c,rfl,fun j u b=>f j u ?_⟩;rw[List.map_take,List.getElem?_take]at b;split at b
 . exact b
 cases b
theorem C7.take(h:C7 a)(m:Nat):C7 (a.take m):=fun j=>by
 have:=h j;rw[kF,List.getElem?_take]at*;split
 . exact this
 simp
abbrev rb(X:Nat)(c:Int)(v:VP):Ax:=AH X 31 5 [iZ c,v.r,v.k,v.f,v.t]
def Ue(b:List Int)(w:World)(e:Ending)(a:World):Prop:=∃(c:Int) (v:VP) (p:MP),e=.returned (.agg #[iZ c,v.r,v.k,v.f,v.t])/\Ft a v p/\p.small/\DQ b c p/\Below w.heap.size w a
theorem GO(w:World):Ft w ⟨sN,sN,sN,sN⟩ JH:=by
 have h:CJ w 0 (Ab ⟨sN,sN,sN,sN⟩ [] [] [] [] []):=by
  refine⟨fun r a=> ?_,?_⟩
  . simp[Ab,A5,AV]at a;rcases a with rfl|rfl|rfl|rfl<;>exact lJ _ _ _ _
  simp[Ab,A5,AV,Uk,Bf,Cd,AP,BS,Value.ownBlock]
 exact h.ik.rd
theorem DD:JH.small:=⟨by simp[JH],by simp[JH],by simp[JH],by simp[JH],by simp[JH],by simp[JH]⟩
theorem R5{t:TypeId}(h:Aw u R #[f,x1,x2,x3,g] t)(a b c d e:Value):Aw (((((u.setCell ⟨R,0,none⟩ a).setCell ⟨R,1,none⟩ b).setCell ⟨R,2,none⟩ c).setCell ⟨R,3,none⟩ d).setCell ⟨R,4,none⟩ e) R #[a,b,c,d,e] t:=by have:=((((h.set 0 a).set 1 b).set 2 c).set 3 d).set 4 e;simpa using this
abbrev As:Value:=sN
structure Dw(w u:World)(x0 x1 x2 x3 x4:Value):Prop where
 cC:Aw u w.heap.size #[x0,x1,x2,x3,x4] 31
 aC:Below w.heap.size w u
theorem Dw.aa{v:World}{c:Value}(h:Dw w u b x1 x2 x3 c)(a:Below u.heap.size u v):Dw w v b x1 x2 x3 c:=⟨h.cC.aa a,Ac h.aC lR a⟩
theorem Dw.set(h:Dw w u f x1 x2 x3 g)(a b c d e:Value):Dw w (((((u.setCell ⟨w.heap.size,0,none⟩ a).setCell ⟨w.heap.size,1,none⟩ b).setCell ⟨w.heap.size,2,none⟩ c).setCell ⟨w.heap.size,3,none⟩ d).setCell ⟨w.heap.size,4,none⟩ e) a b c d e:=⟨R5 h.cC _ _ _ _ _,((((h.aC.setCell lR _).setCell lR _).setCell lR _).setCell lR _).setCell lR _⟩
theorem Dw.cells{a:Value}(h:Dw w u a x1 x2 x3 b):(u.cell? ⟨w.heap.size,0,none⟩=some a/\u.cell? ⟨w.heap.size,1,none⟩=some x1/\u.cell? ⟨w.heap.size,2,none⟩=some x2/\u.cell? ⟨w.heap.size,3,none⟩=some x3/\u.cell? ⟨w.heap.size,4,none⟩=some b)/\(u.frozen? ⟨w.heap.size,0,none⟩=false/\u.frozen? ⟨w.heap.size,1,none⟩=false/\u.frozen? ⟨w.heap.size,2,none⟩=false/\u.frozen? ⟨w.heap.size,3,none⟩=false/\u.frozen? ⟨w.heap.size,4,none⟩=false):=⟨⟨h.cC.cell 0,h.cC.cell 1,h.cC.cell 2,h.cC.cell 3,h.cC.cell 4⟩,h.cC.frozen 0,h.cC.frozen 1,h.cC.frozen 2,h.cC.frozen 3,h.cC.frozen 4⟩
theorem CJ.j7{base:Nat}{L:List Ax}(h:CJ u base L)(g:R<base)(a b c d f:Value):CJ (((((u.setCell ⟨R,0,none⟩ a).setCell ⟨R,1,none⟩ b).setCell ⟨R,2,none⟩ c).setCell ⟨R,3,none⟩ d).setCell ⟨R,4,none⟩ f) base L:=by have c1:En (fun j=>j=R) u (u.setCell ⟨R,0,none⟩ a):=(En.refl (fun j=>j=R) u).setCell (ad:=⟨R,0,none⟩) (.inl rfl) a;have c2:=c1.setCell (ad:=⟨R,1,none⟩) (.inl rfl) b;have c3:=c2.setCell (ad:=⟨R,2,none⟩) (.inl rfl) c;have c4:=c3.setCell (ad:=⟨R,3,none⟩) (.inl rfl) d;have c5:=c4.setCell (ad:=⟨R,4,none⟩) (.inl rfl) f;exact h.gH c5 (fun j i e=>oM)
theorem DI.str(c:C7 a)(j:10<=a.length):∃b:ByteArray,b=⟨((a.take 4).map fun z=>UInt8.ofNat z.toNat).toArray⟩/\(DI a↔b=⟨#[80,76,67,49]⟩):=by
 refine⟨_,rfl,?_⟩;match a,j with
 | z0 ::z1::z2::z3::r,j=>
   have d:=c 0;have f:=c 1;have g:=c 2;have i:=c 3;simp only[List.getD_cons_zero,List.getD_cons_succ]at d f g i;have e:∀z:Int,0<=z->z<=255->∀n:Nat,n<=255->(UInt8.ofNat z.toNat=UInt8.ofNat n↔z=n):=fun z l h1 n m=>by
    constructor
    . intro e;have k:=congrArg UInt8.toNat e;rw[UInt8.toNat_ofNat',UInt8.toNat_ofNat']at k;omega
    intro e;rw[e];rfl
   unfold DI;simp only[List.take_succ_cons,List.take_zero,mL,List.map_nil];constructor
   . rintro⟨_,h⟩;simp only[nN,lp]at h;obtain⟨rfl,rfl,rfl,rfl⟩:=h;rfl
   intro h;refine⟨j,?_⟩;(have h2:[UInt8.ofNat z0.toNat,UInt8.ofNat z1.toNat,UInt8.ofNat z2.toNat,UInt8.ofNat z3.toNat]=[80,76,67,49]:=by have:=congrArg (fun b:ByteArray=>b.data.toList) h;simpa using this);simp only[nN,lp]at h2;rw[(e z0 d.1 d.2 80 oM).1 h2.1,(e z1 f.1 f.2 76 oM).1 h2.2.1,(e z2 g.1 g.2 67 oM).1 h2.2.2.1,(e z3 i.1 i.2 49 oM).1 h2.2.2.2];rfl
theorem Ml(b:Bool)(x:Int)(w:World):(Instr.field 44 (.agg #[.bool b,iZ x]) 1).run Tryz.prog w=.ok (iZ x) w:=kR
theorem Li (a:Option Addr)(L c:Nat)(b:List Int)(w:World)(hL:L<=1048576)(hc:L<=c)(h:Cj w (.slice a L c) L (b.map (Value.int .u8)))(hz:C7 b):
 Calls Tryz.prog 6 #[.slice a L c] w (Ue b w):=by
 have aS:b.length=L:=by simpa using h.1
 have H:Hid (Cj w (.slice a L c) L (b.map (Value.int .u8))):=h
 have HZ:Hid (C7 b):=hz
 have Z:Hid (b.length=L):=aS
 have J:Hid (Dw w (w.alloc (.cells #[iZ 0,As,As,As,As] 31)) (iZ 0) As As As As):=⟨Aw.new _ _ _,Aa _ _⟩
 go_enter Tryz.func6,Tryz.ntmps6
 go_upto_region 1 with fail
 refine Ao (fun u=>Hid (Dw w u (iZ 0) As As As As)) J ?_
 clear J
 intro S J
 by_cases bF:L<10
 . have aZ:(L:Int)<10:=oM
   obtain⟨⟨q0,q1,q2,q3,q4⟩,f0,f1,f2,f3,f4⟩:=J.o.cells
   go_wp2
   have d:Hid (Dw w (((((S.setCell ⟨w.heap.size,0,none⟩ (iZ 1)).setCell ⟨w.heap.size,1,none⟩ As).setCell ⟨w.heap.size,2,none⟩ As).setCell ⟨w.heap.size,3,none⟩ As).setCell ⟨w.heap.size,4,none⟩ As) (iZ 1) As As As As):=J.o.set _ _ _ _ _
   generalize ((((S.setCell ⟨w.heap.size,0,none⟩ (iZ 1)).setCell ⟨w.heap.size,1,none⟩ As).setCell ⟨w.heap.size,2,none⟩ As).setCell ⟨w.heap.size,3,none⟩ As).setCell ⟨w.heap.size,4,none⟩ As=W at d⊢
   obtain⟨⟨y,A,B,C,D⟩,-⟩:=d.o.cells
   exact i6 (v:=.agg #[iZ 1,As,As,As,As]) (by simp[results,Tryz.results6,go_sem,y,A,B,C,D]) rfl ⟨1,⟨As,As,As,As⟩,JH,rfl,GO _,DD,(.inl ⟨fun hs=>by have:=hs.1;have:=Z.o;omega,rfl,rfl⟩),d.o.aC⟩
 obtain⟨g,o,hg⟩:∃g o,a=some ⟨g,o,none⟩:=by
  rcases h.2 with⟨e,_⟩|⟨g,o,c',e,_⟩
  . omega
  cases e;exact⟨g,o,rfl⟩
 subst hg
 obtain⟨str,aU,aQ⟩:=DI.str hz oM
 have HS:Hid (DI b↔str=⟨#[80,76,67,49]⟩):=aQ
 have bw:(convert 22 9 (sO g o 4 c)).run Tryz.prog S=.ok (.string str) S:=by
  have h4:((b.take 4).map fun z=>UInt8.ofNat z.toNat).length=4:=oT
  have:=run_convert_bytes_back (P:=Tryz.prog) S 22 9 5 ⟨g,o,none⟩ c ((b.take 4).map fun z=>UInt8.ofNat z.toNat) Tryz.underlying22 Tryz.underlying5 Tryz.underlying9 (fun j hj=>by
   have bK:j<4:=oM
   have hr:=(h.aa J.o.aC).2
   rcases hr with⟨e,_⟩|⟨g',o',c',e,bu⟩
   . omega
   cases e
   have aR:j<b.length:=oM
   have N:=hz j
   rw[kF,an aR]at N
   simp only[mm]at N
   have:=bu j (.int .u8 b[j]) (by rw[kh,an aR];rfl)
   rw[DF,this]
   simp only[List.getElem_map,List.getElem_take,UInt8.toNat_ofNat']
   congr 2
   omega)
  rw[h4,<-aU]at this
  exact this
 clear aU aQ h hz aS
 have aZ:¬(L:Int)<10:=oM
 by_cases aG:str=⟨#[80,76,67,49]⟩
 . subst aG
   have a8:Hid (DI b):=HS.o.2 rfl
   clear HS
   have bt:(4:Int)<=(c:Int):=oM
   have bp:((L-4:Nat):Int)=(L:Int)-4:=oM
   have bJ:(L:Int)-4<=(c:Int):=oM
   have bH:(0:Int)<=(L:Int)-4:=oM
   have bQ:((L:Int)-4).toNat=L-4:=oM
   have aM:Hid (∀u,Below w.heap.size w u->Cj u (sO g o (L-4) c) (L-4) ((AN b).map (Value.int .u8))):=fun u X=>by
    have:=(H.o.aa X).front (m:=L-4) oM oM
    rw[AN,Z.o]
    exact this
   have aE:Hid (C7 (AN b)):=HZ.o.take _
   have HG:Hid (∀u,Below w.heap.size w u->Calls Tryz.prog 12 #[sO g o L c,iZ ((L:Int)-4),iZ 4] u fun e u'=>e=.returned (.agg #[.bool true,iZ (wrap64 (BW b (L-4) 4))])/\Below u.heap.size u u'):=fun u X=>by
    have:=FU (sO g o L c) L b (L-4) 4 u hL (H.o.aa X) oM oM oM
    rw[bp]at this
    exact this
   have HC:Hid (∀u,Below w.heap.size w u->Calls Tryz.prog 13 #[sO g o (L-4) c] u fun e u'=>e=.returned (.int .u32 (DO (~~~(BU (AN b) (L-4)))))/\u'=u):=fun u X=>Ge _ (L-4) (AN b) u oM (aM.o u X) aE.o
   have bx:IntKind.i64.wrap (DO (~~~(BU (AN b) (L-4))))=DO (~~~(BU (AN b) (L-4))):=by
    have:=Hu (~~~(BU (AN b) (L-4)))
    exact lU _ ⟨oM,oM⟩
   have H4:Hid (Hc b↔wrap64 (BW b (L-4) 4)=DO (~~~(BU (AN b) (L-4)))):=by unfold Hc;rw[Z.o];exact Iff.rfl
   generalize wrap64 (BW b (L-4) 4)=x4 at*
   generalize DO (~~~(BU (AN b) (L-4)))=s4 at*
   go_upto_region 4 with fail
   go_cut [28] (fun s wx=>∃z:Value,z=s/\Hid (z=.bool (!decide (x4=s4)))/\Hid (Dw w wx (iZ 0) As As As As))
   case first=>
    have inst:=At.some S
    have aP:=fun u:World=>Ml true x4 u
    refine AF kR kR ?_
    repeat(go_big_quiet_step (fail))
    go_big_quiet_step ((go_at_call 12;rename_i n;exact(HG.o n.u (Ac J.o.aC lR n.h)).mono fun e aH h=>⟨h.1,⟨⟨aH,Ac n.h lR h.2⟩,rfl⟩⟩))
    repeat(go_big_quiet_step (fail))
    go_big_quiet_step ((go_at_call 13;rename_i n;exact(HC.o n.u (Ac J.o.aC lR n.h)).mono fun e aH h=>⟨h.1,⟨n,h.2⟩⟩))
    repeat(go_big_quiet_step (fail))
    refine wpQuiet_nil ?_
    rintro aH ⟨n,rfl⟩
    have T:Hid (Dw w n.u (iZ 0) As As As As):=J.o.aa n.h
    go_wp2_with fail
    go_meet
    exact⟨_,rfl,(by show _=_;by_cases h:x4=s4<;>simp[h]),T⟩
   case rest=>
   obtain⟨z,bB,au,T⟩:=hcut
   subst bB
   clear J HG HC bx bw
   by_cases ae:x4=s4
   . have ah :Hid (Hc b):=H4.o.2 ae
     obtain rfl:z=.bool false:=by rw[au.o];simp[ae]
     clear H4 au ae
     go_wp2_with fail
     refine(FU (sO g o L c) L b 4 2 wc hL (H.o.aa T.o.aC) oM oM oM).mono ?_
     rintro e E ⟨rfl,N⟩
     have U:Hid (Dw w E (iZ 0) As As As As):=T.o.aa N
     have HV:Hid (Kz b↔wrap64 (BW b 4 2)=1):=Iff.rfl
     clear N T
     generalize wrap64 (BW b 4 2)=x2 at HV⊢
     have aP:=Ml true x2 E
     by_cases hv:x2=1
     . subst hv
       have aq:Hid (Kz b):=HV.o.2 rfl
       clear HV
       go_upto_region 9 with fail
       have V:Hid (FH (E.alloc (.cells #[sO g o (L-4) c,iZ 6,.bool false] 50)) w.heap.size E.heap.size (L-4) (some ⟨g,o,none⟩) c (AN b) 6 false/\Dw w (E.alloc (.cells #[sO g o (L-4) c,iZ 6,.bool false] 50)) (iZ 0) As As As As/\w.heap.size<E.heap.size):=
        ⟨⟨Aw.new _ _ _,fun u X=>aM.o u ((U.o.aa (Aa _ _)).aC.trans X),oM,oM,U.o.aC.size,aE.o⟩,U.o.aa (Aa _ _),U.o.cC.lt⟩
       go_wp2_with fail
       refine(JF w.heap.size E.heap.size (L-4) (some ⟨g,o,none⟩) c (AN b) 6 false _ V.o.1).mono ?_
       rintro e u2 ⟨v,F,f,G,ts,Q,aw,rfl,aF,aT,aA⟩
       obtain⟨i,q,k,r,l,t,p,x,rfl⟩:=EQ aF
       have HD:Hid (Dw w u2 (iZ 0) As As As As):=⟨aA.gH.cC V.o.2.1.cC (fun e=>by have:=V.o.2.2;omega),V.o.2.1.aC.trans (aA.below V.o.1)⟩
       have HP:Hid (CJ u2 (E.heap.size+1) (Ab ⟨.slice i F.length q,.slice k f.length r,.slice l G.length t,.slice p ts.length x⟩ F f G ts [])):=by have:=aF;rw[ln]at this;exact this
       have aJ:Hid (FH u2 w.heap.size E.heap.size (L-4) (some ⟨g,o,none⟩) c (AN b) Q aw):=aA.at_
       have aN:Hid (AZ (FR (AN b)) 6 false ⟨F.map Prod.fst,f,G.map Prod.fst,ts⟩ Q aw):=aT
       have bI:=V.o.2.2
       clear aF aT aA V U aP
       go_upto_region 10 with fail
       refine Ao (fun u=>Hid (Dw w u (iZ 0) As As As As/\CJ u (E.heap.size+1) (Ab ⟨.slice i F.length q,.slice k f.length r,.slice l G.length t,.slice p ts.length x⟩ F f G ts [])/\FH u w.heap.size E.heap.size (L-4) (some ⟨g,o,none⟩) c (AN b) Q aw/\Aw u u2.heap.size #[.slice i F.length q,.slice k f.length r,.slice l G.length t,.slice p ts.length x] 29)) ⟨HD.o.aa (Aa _ _),HP.o.aa (Aa _ _),aJ.o.aa (Aa _ _),Aw.new _ _ _⟩ ?_
       clear HD HP aJ
       generalize u2.heap.size=Y
       intro O M
       generalize E.heap.size=I at*
       obtain⟨i0,i1,i2⟩:=Du M.o.2.2.1.cC
       obtain⟨⟨q0,q1,q2,q3,q4⟩,f0,f1,f2,f3,f4⟩:=M.o.1.cells
       have y0:O.cell? ⟨Y,0,none⟩=some (.slice i F.length q):=M.o.2.2.2.cell 0
       have y1:O.cell? ⟨Y,1,none⟩=some (.slice k f.length r):=M.o.2.2.2.cell 1
       have y2:O.cell? ⟨Y,2,none⟩=some (.slice l G.length t):=M.o.2.2.2.cell 2
       have y3:O.cell? ⟨Y,3,none⟩=some (.slice p ts.length x):=M.o.2.2.2.cell 3
       have am:Hid (Dw w O (iZ 0) As As As As):=M.o.1
       cases aw
       . have a6:Hid (FR (AN b) 6=some (⟨F.map Prod.fst,f,G.map Prod.fst,ts⟩,Q)):=by
          rcases aN.o with⟨_,_,h⟩|⟨h,_⟩
          . exact h
          cases h
         have ao:=A7.prog aE.o _ _ _ a6.o
         by_cases hk:Q=L-4
         . subst hk
           go_wp2_with fail
           refine(CO ⟨.slice i F.length q,.slice k f.length r,.slice l G.length t,.slice p ts.length x⟩ ⟨F.map Prod.fst,f,G.map Prod.fst,ts⟩ O ao.1 ao.2 (M.o.2.1.ik.rd)).mono ?_
           rintro e K ⟨⟨n,rfl,hf⟩,N⟩
           have aI:Hid (Bj ⟨F.map Prod.fst,f,G.map Prod.fst,ts⟩ n):=hf
           have aD:Hid (Dw w K (iZ 0) As As As As):=am.o.aa N
           have aX:Hid (CJ K (I+1) (Ab ⟨.slice i F.length q,.slice k f.length r,.slice l G.length t,.slice p ts.length x⟩ F f G ts [])):=M.o.2.1.aa N
           have aj:Hid (Aw K Y #[.slice i F.length q,.slice k f.length r,.slice l G.length t,.slice p ts.length x] 29):=M.o.2.2.2.aa N
           have aY:Hid (MP.small ⟨F.map Prod.fst,f,G.map Prod.fst,ts⟩):=ao.1
           clear hf N M am ao q0 q1 q2 q3 q4 f0 f1 f2 f3 f4 y0 y1 y2 y3 i0 i1 i2
           obtain⟨⟨q0,q1,q2,q3,q4⟩,f0,f1,f2,f3,f4⟩:=aD.o.cells
           have y0:K.cell? ⟨Y,0,none⟩=some (.slice i F.length q):=aj.o.cell 0
           have y1:K.cell? ⟨Y,1,none⟩=some (.slice k f.length r):=aj.o.cell 1
           have y2:K.cell? ⟨Y,2,none⟩=some (.slice l G.length t):=aj.o.cell 2
           have y3:K.cell? ⟨Y,3,none⟩=some (.slice p ts.length x):=aj.o.cell 3
           by_cases hn:n=0
           . subst hn
             go_wp2
             have d:Hid (Dw w (((((K.setCell ⟨w.heap.size,0,none⟩ (iZ 0)).setCell ⟨w.heap.size,1,none⟩ (.slice i F.length q)).setCell ⟨w.heap.size,2,none⟩ (.slice k f.length r)).setCell ⟨w.heap.size,3,none⟩ (.slice l G.length t)).setCell ⟨w.heap.size,4,none⟩ (.slice p ts.length x)) (iZ 0) (.slice i F.length q) (.slice k f.length r) (.slice l G.length t) (.slice p ts.length x)):=aD.o.set (iZ 0) (.slice i F.length q) (.slice k f.length r) (.slice l G.length t) (.slice p ts.length x)
             have aL:Hid (CJ (((((K.setCell ⟨w.heap.size,0,none⟩ (iZ 0)).setCell ⟨w.heap.size,1,none⟩ (.slice i F.length q)).setCell ⟨w.heap.size,2,none⟩ (.slice k f.length r)).setCell ⟨w.heap.size,3,none⟩ (.slice l G.length t)).setCell ⟨w.heap.size,4,none⟩ (.slice p ts.length x)) (I+1) (Ab ⟨.slice i F.length q,.slice k f.length r,.slice l G.length t,.slice p ts.length x⟩ F f G ts [])):=aX.o.j7 (R:=w.heap.size) oM (iZ 0) (.slice i F.length q) (.slice k f.length r) (.slice l G.length t) (.slice p ts.length x)
             generalize ((((K.setCell ⟨w.heap.size,0,none⟩ (iZ 0)).setCell ⟨w.heap.size,1,none⟩ (.slice i F.length q)).setCell ⟨w.heap.size,2,none⟩ (.slice k f.length r)).setCell ⟨w.heap.size,3,none⟩ (.slice l G.length t)).setCell ⟨w.heap.size,4,none⟩ (.slice p ts.length x)=W at d aL⊢
             obtain⟨⟨y,A,B,C,D⟩,-⟩:=d.o.cells
             exact i6 (v:=.agg #[iZ 0,.slice i F.length q,.slice k f.length r,.slice l G.length t,.slice p ts.length x]) (by simp[results,Tryz.results6,go_sem,y,A,B,C,D]) rfl ⟨0,⟨.slice i F.length q,.slice k f.length r,.slice l G.length t,.slice p ts.length x⟩,⟨F.map Prod.fst,f,G.map Prod.fst,ts⟩,rfl,aL.o.ik.rd,aY.o,.inr (.inr (.inr (.inr (.inr (.inr ⟨a8.o,ah.o,aq.o,by rw[Z.o];exact a6.o,aI.o,rfl⟩))))),d.o.aC⟩
           have bO:(n != 0)=true:=by simpa using hn
           go_wp2
           have d:Hid (Dw w (((((K.setCell ⟨w.heap.size,0,none⟩ (iZ 6)).setCell ⟨w.heap.size,1,none⟩ As).setCell ⟨w.heap.size,2,none⟩ As).setCell ⟨w.heap.size,3,none⟩ As).setCell ⟨w.heap.size,4,none⟩ As) (iZ 6) As As As As):=aD.o.set _ _ _ _ _
           generalize ((((K.setCell ⟨w.heap.size,0,none⟩ (iZ 6)).setCell ⟨w.heap.size,1,none⟩ As).setCell ⟨w.heap.size,2,none⟩ As).setCell ⟨w.heap.size,3,none⟩ As).setCell ⟨w.heap.size,4,none⟩ As=W at d⊢
           obtain⟨⟨y,A,B,C,D⟩,-⟩:=d.o.cells
           exact i6 (v:=.agg #[iZ 6,As,As,As,As]) (by simp[results,Tryz.results6,go_sem,y,A,B,C,D]) rfl ⟨6,⟨As,As,As,As⟩,JH,rfl,GO _,DD,(.inr (.inr (.inr (.inr (.inr (.inl ⟨_,n,a8.o,ah.o,aq.o,by rw[Z.o];exact a6.o,aI.o,hn,rfl,rfl⟩)))))),d.o.aC⟩
         have bz:¬(Q:Int)=(L:Int)-4:=oM
         have bL:((Q:Int) != (L:Int)-4)=true:=by simpa using bz
         go_wp2
         have d:Hid (Dw w (((((O.setCell ⟨w.heap.size,0,none⟩ (iZ 5)).setCell ⟨w.heap.size,1,none⟩ As).setCell ⟨w.heap.size,2,none⟩ As).setCell ⟨w.heap.size,3,none⟩ As).setCell ⟨w.heap.size,4,none⟩ As) (iZ 5) As As As As):=am.o.set _ _ _ _ _
         generalize ((((O.setCell ⟨w.heap.size,0,none⟩ (iZ 5)).setCell ⟨w.heap.size,1,none⟩ As).setCell ⟨w.heap.size,2,none⟩ As).setCell ⟨w.heap.size,3,none⟩ As).setCell ⟨w.heap.size,4,none⟩ As=W at d⊢
         obtain⟨⟨y,A,B,C,D⟩,-⟩:=d.o.cells
         exact i6 (v:=.agg #[iZ 5,As,As,As,As]) (by simp[results,Tryz.results6,go_sem,y,A,B,C,D]) rfl ⟨5,⟨As,As,As,As⟩,JH,rfl,GO _,DD,(.inr (.inr (.inr (.inr (.inl ⟨_,Q,a8.o,ah.o,aq.o,a6.o,by rw[Z.o];exact hk,rfl,rfl⟩))))),d.o.aC⟩
       . have a6:Hid (FR (AN b) 6=none):=by
          rcases aN.o with⟨_,h,_⟩|⟨_,h|h⟩
          . cases h
          . cases h
          exact h
         go_wp2
         have d:Hid (Dw w (((((O.setCell ⟨w.heap.size,0,none⟩ (iZ 4)).setCell ⟨w.heap.size,1,none⟩ As).setCell ⟨w.heap.size,2,none⟩ As).setCell ⟨w.heap.size,3,none⟩ As).setCell ⟨w.heap.size,4,none⟩ As) (iZ 4) As As As As):=am.o.set _ _ _ _ _
         generalize ((((O.setCell ⟨w.heap.size,0,none⟩ (iZ 4)).setCell ⟨w.heap.size,1,none⟩ As).setCell ⟨w.heap.size,2,none⟩ As).setCell ⟨w.heap.size,3,none⟩ As).setCell ⟨w.heap.size,4,none⟩ As=W at d⊢
         obtain⟨⟨y,A,B,C,D⟩,-⟩:=d.o.cells
         exact i6 (v:=.agg #[iZ 4,As,As,As,As]) (by simp[results,Tryz.results6,go_sem,y,A,B,C,D]) rfl ⟨4,⟨As,As,As,As⟩,JH,rfl,GO _,DD,(.inr (.inr (.inr (.inl ⟨a8.o,ah.o,aq.o,a6.o,rfl,rfl⟩)))),d.o.aC⟩
     obtain⟨⟨q0,q1,q2,q3,q4⟩,f0,f1,f2,f3,f4⟩:=U.o.cells
     go_wp2
     have d:Hid (Dw w (((((E.setCell ⟨w.heap.size,0,none⟩ (iZ 3)).setCell ⟨w.heap.size,1,none⟩ As).setCell ⟨w.heap.size,2,none⟩ As).setCell ⟨w.heap.size,3,none⟩ As).setCell ⟨w.heap.size,4,none⟩ As) (iZ 3) As As As As):=U.o.set _ _ _ _ _
     generalize ((((E.setCell ⟨w.heap.size,0,none⟩ (iZ 3)).setCell ⟨w.heap.size,1,none⟩ As).setCell ⟨w.heap.size,2,none⟩ As).setCell ⟨w.heap.size,3,none⟩ As).setCell ⟨w.heap.size,4,none⟩ As=W at d⊢
     obtain⟨⟨y,A,B,C,D⟩,-⟩:=d.o.cells
     exact i6 (v:=.agg #[iZ 3,As,As,As,As]) (by simp[results,Tryz.results6,go_sem,y,A,B,C,D]) rfl ⟨3,⟨As,As,As,As⟩,JH,rfl,GO _,DD,(.inr (.inr (.inl ⟨a8.o,ah.o,fun h=>hv (HV.o.1 h),rfl,rfl⟩))),d.o.aC⟩
   obtain rfl:z=.bool true:=by rw[au.o];simp[ae]
   have aW:Hid (¬x4=s4):=ae
   clear au ae
   obtain⟨⟨q0,q1,q2,q3,q4⟩,f0,f1,f2,f3,f4⟩:=T.o.cells
   go_wp2
   have d:Hid (Dw w (((((wc.setCell ⟨w.heap.size,0,none⟩ (iZ 2)).setCell ⟨w.heap.size,1,none⟩ As).setCell ⟨w.heap.size,2,none⟩ As).setCell ⟨w.heap.size,3,none⟩ As).setCell ⟨w.heap.size,4,none⟩ As) (iZ 2) As As As As):=T.o.set _ _ _ _ _
   generalize ((((wc.setCell ⟨w.heap.size,0,none⟩ (iZ 2)).setCell ⟨w.heap.size,1,none⟩ As).setCell ⟨w.heap.size,2,none⟩ As).setCell ⟨w.heap.size,3,none⟩ As).setCell ⟨w.heap.size,4,none⟩ As=W at d⊢
   obtain⟨⟨y,A,B,C,D⟩,-⟩:=d.o.cells
   exact i6 (v:=.agg #[iZ 2,As,As,As,As]) (by simp[results,Tryz.results6,go_sem,y,A,B,C,D]) rfl ⟨2,⟨As,As,As,As⟩,JH,rfl,GO _,DD,(.inr (.inl ⟨a8.o,fun h=>aW.o (H4.o.1 h),rfl,rfl⟩)),d.o.aC⟩
 have bt:(4:Int)<=(c:Int):=oM
 have bP:(str.toList==[80,76,67,49])=false:=by
  rw[mV]
  intro e
  rw[ByteArray.toList_eq]at e
  exact aG (ByteArray.ext (Array.toList_inj.1 e))
 obtain⟨⟨q0,q1,q2,q3,q4⟩,f0,f1,f2,f3,f4⟩:=J.o.cells
 go_wp2
 have d:Hid (Dw w (((((S.setCell ⟨w.heap.size,0,none⟩ (iZ 1)).setCell ⟨w.heap.size,1,none⟩ As).setCell ⟨w.heap.size,2,none⟩ As).setCell ⟨w.heap.size,3,none⟩ As).setCell ⟨w.heap.size,4,none⟩ As) (iZ 1) As As As As):=J.o.set _ _ _ _ _
 generalize ((((S.setCell ⟨w.heap.size,0,none⟩ (iZ 1)).setCell ⟨w.heap.size,1,none⟩ As).setCell ⟨w.heap.size,2,none⟩ As).setCell ⟨w.heap.size,3,none⟩ As).setCell ⟨w.heap.size,4,none⟩ As=W at d⊢
 obtain⟨⟨y,A,B,C,D⟩,-⟩:=d.o.cells
 exact i6 (v:=.agg #[iZ 1,As,As,As,As]) (by simp[results,Tryz.results6,go_sem,y,A,B,C,D]) rfl ⟨1,⟨As,As,As,As⟩,JH,rfl,GO _,DD,(.inl ⟨fun hs=>aG (HS.o.1 hs),rfl,rfl⟩),d.o.aC⟩
structure Gu(xs:List Int)(c:Int):Prop where
 low:0<=c
 jB:c<(xs.length:Int)
 jf:bits .and .i64 c (c+1)=0
 one:∀j:Nat,(j:Int)<=c->xs[j]?=xs[0]?
theorem IC(B:Option Addr)(c1:Nat)(xs:List Int)(c:Int)(w:World)(L:xs.length<=1048576)(J:xs.length<=c1)(h:Rd w 1 (.slice B xs.length c1) xs.length (xs.flatMap Ad)):
 Calls Tryz.prog 109 #[.slice B xs.length c1,iZ c] w fun e Q=>Au e (Gu xs c)/\Below w.heap.size w Q:=by
 have f:=Ag h;clear h;generalize D:xs.length=n at L J f;have l:=Ag D;clear D;by_cases d:0<=c/\c<(n:Int)
 . have b :decide (0<=c/\c<(n:Int))=true:=decide_eq_true d
   obtain⟨c,rfl⟩:=i7 d.1;have T:c<n:=oM;clear d;by_cases q:bits .and .i64 (c:Int) ((c:Int)+1)=0
   . have G:Hid (bits .and .i64 (c:Int) ((c:Int)+1)=0):=q;obtain⟨y,t⟩:∃y,xs[0]?=some y:=⟨_,an (by rw[l.o];omega)⟩;rcases f.o.2 with⟨S,_⟩|⟨g,o,R,C,r⟩
     . omega
     simp only[ip,kU]at C;obtain⟨rfl,rfl⟩:=C;have N:=Rd.elem Ar r 0 y t 0 _ rfl;simp only[Nat.zero_mul,kD]at N;have F:=Ag r;have A:=Ag t;clear r t;go_enter Tryz.func109,Tryz.ntmps109;go_wp2_with fail;refine(AY (c:Int) (n:Int) _).mono ?_;rintro e u ⟨rfl,rfl⟩;rw[b];have O:(c:Int)+1<=(c1:Int):=oM;have P:(0:Int)<=(c:Int)+1:=oM;have Z:(0:Int)<(n:Int):=oM;have k4:((c:Int)+1).toNat=c+1:=oM;go_wp2;clear O P b q;go_loopw [24] (fun i wr=>∃k:Nat,k<=c+1/\i=iZ k/\Hid (∀j,j<k->xs[j]?=some y)/\∃m,wr=u.drewN m) (fun i _=>c+1-(intOf i).toNat)
     (case atStart=>exact⟨0,oM,rfl,fun j E=>oM,0,rfl⟩);obtain⟨k,U,rfl,v,m,rfl⟩:=hrel;by_cases V:k<c+1
     . obtain⟨x,s⟩:∃x,xs[k]?=some x:=⟨_,an (by rw[l.o];omega)⟩;have M:=Rd.elem Ar F.o k x s 0 _ rfl;rw[kn,kD]at M;have z:=Ag s;clear s;have W:(k:Int)<(c:Int)+1:=oM;by_cases p:x=y
       . subst p;have H:Hid (∀j,j<k+1->xs[j]?=some x):=fun j E=>by
          by_cases e:j=k
          . rw[e];exact z.o
          exact v.o j oM
         go_wp2;go_roundw;(case rel=>exact⟨k+1,oM,by go_num,H,_,rfl⟩);exact oI
       (have a:Hid (¬Gu xs c):=fun e=>by have:=e.one k oM;rw[z.o,A.o]at this;exact p (kH this));(have X:(x==y)=false:=by simpa using p);(have Y:(x != y)=true:=by simpa using p);go_wp2;go_ret;exact⟨.no a.o,Aq _ _ _⟩
     have K:k=c+1:=oM;subst K;have I:Hid (Gu xs c):=⟨oM,by rw[l.o];omega,G.o,fun j E=>by rw[A.o];exact v.o j oM⟩;go_wp2;go_ret;exact⟨.hQ I.o,Aq _ _ _⟩
   (have a:Hid (¬Gu xs c):=fun e=>q e.jf);(have a6:(bits .and .i64 (c:Int) ((c:Int)+1)==0)=false:=by simpa using q);clear f;go_enter Tryz.func109,Tryz.ntmps109;go_wp2_with fail;refine(AY (c:Int) (n:Int) _).mono ?_;rintro e u ⟨rfl,rfl⟩;rw[b];go_wp2;go_ret;exact⟨.no a.o,kV _ _⟩
 have a:Hid (¬Gu xs c):=fun e=>d ⟨e.low,by have:=e.jB;rw[l.o]at this;exact this⟩
 have b:decide (0<=c/\c<(n:Int))=false:=ld d
 clear f;go_enter Tryz.func109,Tryz.ntmps109;go_wp2_with fail;refine(AY c (n:Int) _).mono ?_;rintro e u ⟨rfl,rfl⟩;rw[b];go_wp2;go_ret;exact⟨.no a.o,kV _ _⟩
theorem IK{t:Int}(h:Fk t=true):¬t=0:=by unfold Fk at h;simp at h;omega
theorem OT{xs:List Int}(h:xs.all Fk=true){k:Nat}{x:Int}(a:xs[k]?=some x):Fk x=true:=nM.1 h x (d9 a)
theorem Jb{f:MF}(a:Dh f)(n:Int):I4 f n↔¬AR f n=0:=by
 constructor
 . rintro⟨d,h1⟩;obtain⟨k,rfl⟩:=i7 d;by_cases q:k<f.params.length
   . rw[JW (an q)];exact IK (OT a.pt (an q))
   have b:k-f.params.length<f.locals.length:=oM;have e:=JU (f:=f) (an b);have c:((f.params.length:Int)+((k-f.params.length:Nat):Int))=(k:Int):=oM;rw[c]at e;rw[e];exact IK (OT a.lt (an b))
 intro h;by_cases g:n<0
 . exact absurd (Ho g) h
 by_cases i:(f.params.length:Int)+f.locals.length<=n
 . exact absurd (JV i) h
 exact⟨oM,oM⟩
theorem FL{a b:Nat}(d:p.aB.length=3)(c:p.aB[a]?=some l):Ch p a b=l.getD b 0:=Jz (by have:=(d7.1 c).1;omega) c
theorem KE(d:AD p.aB)(a b:Int):¬Ch p a b=0↔∃l,0<=a/\p.aB[a.toNat]?=some l/\0<=b/\b<(l.length:Int):=by
 constructor
 . intro h;have n:¬(a<0\/2<a\/b<0):=fun e=>h (FA e)
   obtain⟨i,rfl⟩:=i7 (show 0<=a from oM);obtain⟨j,rfl⟩:=i7 (show 0<=b from oM);(have g:i<p.aB.length:=by have:=d.1;omega);rw[FL d.1 (an g)]at h;refine⟨p.aB[i],oM,by rw[kJ];exact an g,oM,?_⟩;by_cases f:j<p.aB[i].length
   . omega
   exact absurd (by rw[kF,kK oM];rfl) h
 rintro⟨l,k,c,h1,h2⟩;obtain⟨i,rfl⟩:=i7 k;obtain⟨j,rfl⟩:=i7 h1;rw[kJ]at c;rw[FL d.1 c];have f:j<l.length:=oM;have e:l.getD j 0=l[j]:=by rw[kF,an f];rfl
 rw[e];have m:=d.2 i (d7.1 c).1 l c;exact IK (OT m.2 (an f))
theorem Iu(f:AD p.aB)(op a b:Int)(j:op=4\/op=5\/op=6\/op=7):Dv p op a b↔¬Ch p a b=0/\((op=4\/op=6)\/¬a=0):=by
 rw[KE f];constructor
 . rintro⟨l,h1,h2,c,d,e⟩;refine⟨⟨l,h1,h2,c,d⟩,?_⟩;by_cases q:a=0
   . left;by_cases g:op=5\/op=7
     . exact absurd ⟨g,q⟩ e
     omega
   exact .inr q
 rintro⟨⟨l,h1,h2,c,d⟩,e⟩;exact⟨l,h1,h2,c,d,fun⟨h,i⟩=>oM⟩
theorem Pv(i:AD p.aB){a b:Nat}(f:p.aB[a]?=some l)(n:b<l.length)(c:Int):Gu (l.drop b) c↔EY p a b c:=by
 have v:=i.2 a (d7.1 f).1 l f;have cell:∀j:Nat,Ch p (a:Int) ((b:Int)+(j:Int))=l.getD (b+j) 0:=fun j=>by have:=FL (b:=b+j) i.1 f;rw[Int.natCast_add]at this;exact this
 have m:Ch p (a:Int) (b:Int)=l.getD b 0:=FL i.1 f;have g:∀j:Nat,(l.drop b)[j]?=l[b+j]?:=fun j=>by rw[nH]
 constructor
 . intro h;have u:=h.jB;rw[lN]at u;have w:=h.low;have y:=v.1;refine⟨h.low,oM,h.jf,?_,fun j d=> ?_⟩
   . rw[KE i];exact⟨l,oM,by rw[kJ];exact f,oM,oM⟩
   have:=h.one j d;rw[g,g]at this;rw[cell,m,kF,kF,this];rfl
 intro h;have t:∀j:Nat,(j:Int)<=c->b+j<l.length:=fun j d=>by
  have e:=h.one j d;have s:=h.there;rw[<-e,cell]at s;by_cases q:b+j<l.length
  . exact q
  exact absurd (by rw[kF,kK oM];rfl) s
 obtain⟨k,rfl⟩:=i7 h.low;have x:=t k oM;refine⟨h.low,by rw[lN];omega,h.jf,fun j d=> ?_⟩;have r:=t j d;have e:=h.one j d;rw[cell,m,kF,kF,an r,an n]at e;rw[g,g,kD,an r,an n];simpa using e
end Go.Proofs.YthjbicggfnnonaaGreatDoor
