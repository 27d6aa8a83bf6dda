import Derived.Test.YthjbicggfnnonaaGreatDoorCw37
import Derived.Test.YthjbicggfnnonaaGreatDoorCw43
namespace Go.Proofs.YthjbicggfnnonaaGreatDoor
open Go.ChangeShapes Go.WideShapes Go.ChangeAt Go.RowKit
set_option linter.unusedVariables false
set_option maxHeartbeats 8000000
set_option maxRecDepth 100000
variable {w u:World}{V:Value}{L:Nat}{a:List Int}{p:MP}
theorem D3.aa(h:D3 w)(b:Below w.heap.size w u):D3 u:=fun j a=>by rw[b.cell (d5 (h j a))];exact h j a
structure Lc(w u:World)(V:Value)(L:Nat)(zs:List Int)(code:Int)(v:VP)(m:MP)(X:Nat):Prop where
 aC:Below w.heap.size w u
 rd:Cj u V L (zs.map (Value.int .u8))
 cC:Aw u X #[.int .i64 code,v.r,v.k,v.f,v.t] 31
 own:∃base,base<=u.heap.size/\EZ u base v m
 tab:D3 u
theorem Lc.aa{b:World}{c:List Int}{code:Int}{v:VP}{m:MP}{X:Nat}(h:Lc w u V L c code v m X)(a:Below u.heap.size u b):Lc w b V L c code v m X:=by obtain⟨base,h1,h2⟩:=h.own;exact⟨Ac h.aC lR a,h.rd.aa a,h.cC.aa a,⟨base,jX h1 a.size,h2.aa a lR⟩,h.tab.aa a⟩
theorem CFq{b:Nat}{t:TypeId}{a c d e f:Value}(h:Aw w b #[a,c,d,e,f] t):w.cell? ⟨b,0,none⟩=some a/\w.cell? ⟨b,1,none⟩=some c/\w.cell? ⟨b,2,none⟩=some d/\w.cell? ⟨b,3,none⟩=some e/\w.cell? ⟨b,4,none⟩=some f:=⟨h.cell 0,h.cell 1,h.cell 2,h.cell 3,h.cell 4⟩
theorem UX(h:Cj u V L (a.map (Value.int .u8)))(l:C7 a)(m:0<L):(convert 22 9 V).run Tryz.prog u=.ok (.string ⟨(a.map fun z=>UInt8.ofNat z.toNat).toArray⟩) u:=by
 rcases h.2 with⟨e,_⟩|⟨g,o,c,rfl,i⟩
 . omega
 have f:(a.map fun z=>UInt8.ofNat z.toNat).length=L:=by have:=h.1;simpa using this
 have:=run_convert_bytes_back (P:=Tryz.prog) u 22 9 5 ⟨g,o,none⟩ c (a.map fun z=>UInt8.ofNat z.toNat) Tryz.underlying22 Tryz.underlying5 Tryz.underlying9 (fun j k=>by
  have d:j<a.length:=by simpa using k
  have b:=l j;rw[kF,an d]at b;simp only[mm]at b;have:=i j (.int .u8 a[j]) (by rw[kh,an d];rfl);rw[DF,this];simp only[List.getElem_map,UInt8.toNat_ofNat'];congr 2
  omega)
 rw[f]at this;exact this
theorem DQ.jG{b:List Int}{c:Int}(h:DQ b c p)(a:¬c=0):(c=1\/c=2\/c=3\/c=4\/c=5\/c=6)/\p=JH:=by
 unfold DQ at h;rcases h with h|h|h|h|h|h|h
 . exact⟨oM,h.2.2⟩
 . exact⟨oM,h.2.2.2⟩
 . exact⟨oM,h.2.2.2.2⟩
 . exact⟨oM,h.2.2.2.2.2⟩
 . obtain⟨q,k,h⟩:=h;exact⟨oM,h.2.2.2.2.2.2⟩
 . obtain⟨q,n,h⟩:=h;exact⟨oM,h.2.2.2.2.2.2.2⟩
 exact absurd h.2.2.2.2.2 a
theorem DQ.jO(h:DQ a 0 p):10<=a.length:=by
 unfold DQ at h;rcases h with h|h|h|h|h|h|h
 . exact absurd h.2.1 oM
 . exact absurd h.2.2.1 oM
 . exact absurd h.2.2.2.1 oM
 . exact absurd h.2.2.2.2.1 oM
 . obtain⟨q,k,h⟩:=h;exact absurd h.2.2.2.2.2.1 oM
 . obtain⟨q,n,h⟩:=h;exact absurd h.2.2.2.2.2.2.1 oM
 exact h.1.1
theorem Q8(c:Int)(v:VP)(w:World):(Instr.field 31 (.agg #[.int .i64 c,v.r,v.k,v.f,v.t]) 0).run Tryz.prog w=.ok (.int .i64 c) w:=kR
theorem OW(hM:Kt)(Y:Option Addr)(y ae:Nat)(w:World)(hc:G5 w w.heap.size Y y)(ht:D3 w)(aA:EW w):
 Calls Tryz.prog 3 #[.slice Y y ae] w fun e w'=>e=.returned (.bool true)/\Below w.heap.size w w':=by
 have J:=Ag (f7 hc (f7 ht aA));clear hc ht aA;go_enter Tryz.func3,Tryz.ntmps3;by_cases hL:y<=1048576;rotate_left
 . have aI:(1048576:Int)<(y:Int):=oM;go_wp2;go_ret;exact⟨rfl,kV _ _⟩
 have aI:¬(1048576:Int)<(y:Int):=oM;go_wp2_with fail;refine(KG hM Y y ae w oM J.o.1).mono ?_;rintro e u1 ⟨V,O,rfl,aN,am,ho,g⟩;obtain⟨a,c,rfl,Z⟩:=K9 ho;obtain⟨b,aH⟩:∃b,b=BN O:=⟨_,rfl⟩;have T:=Di am;rw[<-aH]at T;have f:=Ag (f7 (show Cj u1 (.slice a O.length c) O.length (b.map (Value.int .u8))by rw[T.1];exact Cj.cB ho) (f7 (show C7 b from T.2) (f7 (J.o.2.1.aa g) (f7 (J.o.2.2.aa g) g))));clear am ho g aH T J;generalize O.length=L at f aN Z⊢;go_wp2_with fail;refine(KK a L c b u1 oM Z f.o.2.2.1 f.o.2.2.2.1 f.o.1 f.o.2.1).mono ?_;rintro e I ⟨code,v,F,x,G,ts,rfl,a8,aF,aq,g⟩;obtain⟨K,P,M,Q,C,E,N,R,ev⟩:=EQ a8;subst ev;have H:Below w.heap.size w I:=Ac f.o.2.2.2.2 lR g;have E2:=Ag (show Lc w (I.alloc (.cells #[.int .i64 code,.slice K F.length P,.slice M x.length Q,.slice C G.length E,.slice N ts.length R] 31)) (.slice a L c) L b code ⟨.slice K F.length P,.slice M x.length Q,.slice C G.length E,.slice N ts.length R⟩ ⟨F.map Prod.fst,x,G.map Prod.fst,ts⟩ I.heap.size from
  ⟨Ac H lR (Aa _ _),(f.o.1.aa g).aa (Aa _ _),Aw.new _ _ _,⟨u1.heap.size,by rw[ln];have:=g.size;omega,a8.ik.aa (Aa _ _) lR⟩,(f.o.2.2.1.aa g).aa (Aa _ _)⟩)
 have m:=Ag (f7 aq (f7 f.o.2.1 aF));clear a8 aF aq g H f;go_upto_region 5 with fail
 refine Ao (fun u=>Hid (Lc w u (.slice a L c) L b code ⟨.slice K F.length P,.slice M x.length Q,.slice C G.length E,.slice N ts.length R⟩ ⟨F.map Prod.fst,x,G.map Prod.fst,ts⟩ I.heap.size)) E2 ?_;clear E2;generalize I.heap.size=X;intro u3 k;obtain⟨k0,k1,k2,k3,k4⟩:=CFq k.o.cC;by_cases a6:code=0
 . subst a6;have U:=m.o.1.jM m.o.2.1;have aU:=m.o.1.jO;(have aJ:b.length=L:=by have:=k.o.rd.1;simpa using this);(go_upto_region 7 with fail);refine wp_region_held_drew (S:=fun W=>W.cell? ⟨X,1,none⟩=some (.slice K F.length P)/\W.cell? ⟨X,2,none⟩=some (.slice M x.length Q)/\W.cell? ⟨X,3,none⟩=some (.slice C G.length E)/\W.cell? ⟨X,4,none⟩=some (.slice N ts.length R)/\Hid (True->Cj W (.slice a L c) L (b.map (Value.int .u8)))) kR (by have D:=k.o.aa (Ae _);obtain⟨A,q,s,j,t⟩:=CFq D.cC;exact⟨q,s,j,t,fun _=>D.rd⟩) (fun n=> ?_)
   have d:=Ag (k.o.aa (Ae _));clear k0 k1 k2 k3 k4 k;generalize u3.drew=u4 at d n⊢;refine An 0 ?_;refine An 1 ?_;refine An 4 ?_;obtain⟨str,aG⟩:∃str,str=(⟨(b.map fun z=>UInt8.ofNat z.toNat).toArray⟩:ByteArray):=⟨_,rfl⟩;(have HS:Hid (∀(W:World) (V:Value),Cj W V L (b.map (Value.int .u8))->(convert 22 9 V).run Tryz.prog W=.ok (.string str) W):=fun W V h=>by rw[aG];exact UX h m.o.2.1 oM);clear aG;refine wpAnyH_take (i:=5) (v:=.string str) rfl kR kR kR (fun _ _ _ h=>h) (Or.inl ⟨by rfl,?_⟩) (by assumption) ?_
   . intro w aL;have ao:=HS.o w _ (aL.2.2.2.2.o trivial);go_simp
   refine rdH 2 ?_;intro B p;go_simp;obtain⟨base,aj,aE⟩:=d.o.own;refine(KL _ _ base u4 m.o.2.2 U.2.1 aE aj d.o.tab).mono ?_;rintro e u5 ⟨r,rfl,ah,bs,aw,aD⟩;have aM:bs=b.map (Value.int .u8):=by
    rcases aw with⟨_,e⟩|⟨e,_⟩
    . rw[e];exact U.2.2
    exact absurd U.1 e
   subst aM;have l:=Ag (d.o.aa ah);have ao:=HS.o u5 r (by have:=Cj.cB aD;rw[kZ,aJ]at this;exact this);clear aw aD ah d aj aE U;refine p.o _ _ (by obtain⟨A,q,s,j,t⟩:=CFq l.o.cC;exact⟨q,s,j,t,fun _=>l.o.rd⟩) (fun n=> ?_);clear p B;refine rdH 3 ?_;intro B p;go_simp;refine p.o _ _ (by obtain⟨A,q,s,j,t⟩:=CFq l.o.cC;exact⟨q,s,j,t,fun _=>l.o.rd⟩) (fun n=> ?_);clear p B ao;refine An 6 ?_;refine An 7 ?_;refine wpAnyH_done kR ?_ _;clear n;go_wp2_with fail;go_ret;exact⟨rfl,l.o.aC⟩
 obtain⟨aP,hp⟩:=m.o.1.jG a6;have hG:G=[]:=by have:=congrArg MP.funcs hp;simpa[JH]using this
 subst hG;have HF:=Ag (Q8 code);clear hp a6;rcases aP with rfl|rfl|rfl|rfl|rfl|rfl
 all_goals
  go_upto_region 6 with fail
  refine wp_region_held_drew (S:=fun W=>W.cell? ⟨X,0,none⟩=some (.int .i64 _)/\W.cell? ⟨X,3,none⟩=some (.slice C 0 E)/\Hid (True->True)) kR (by obtain⟨A,q,s,j,t⟩:=CFq (k.o.aa (Ae _)).cC;exact⟨A,j,fun h=>h⟩) (fun n=> ?_)
  have d:=Ag (k.o.aa (Ae _));clear k0 k1 k2 k3 k4 k;generalize u3.drew=u4 at d n⊢;refine An 0 ?_;refine An 1 ?_;refine An 2 ?_;refine An 3 ?_;refine An 4 ?_ (hw:=kR);refine An 5 ?_ (hw:=kR);refine An 6 ?_ (hw:=kR);refine An 7 ?_;refine An 8 ?_;refine An 9 ?_ (hw:=kR);refine An 10 ?_ (hw:=kR);refine An 11 ?_ (hw:=kR);refine rdH 12 (fun B p=> ?_);rw[lI kR];go_simp;refine(Li a L c b u4 oM Z d.o.rd m.o.2.1).mono ?_;rintro e u5 ⟨aS,v',p',rfl,aQ,aR,au,H⟩;obtain⟨rfl,_⟩:=m.o.1.one au;have l:=Ag (d.o.aa H);clear aQ aR au H d;refine p.o _ _ (by obtain⟨A,q,s,j,t⟩:=CFq l.o.cC;exact⟨A,j,fun h=>h⟩) (fun n=> ?_);clear p B;have aT:=HF.o v';refine An 13 ?_ (hw:=kR);refine An 14 ?_ (hw:=kR);refine An 15 ?_;refine An 16 ?_;refine An 17 ?_ (hw:=kR);refine An 18 ?_ (hw:=kR);refine An 19 ?_ (hw:=kR);refine An 20 ?_ (hw:=kR);refine An 21 ?_ (hw:=kR);refine An 22 ?_;refine An 23 ?_;refine wpAnyH_done kR ?_ _;clear n;go_wp2_with fail;go_ret;exact⟨kR,l.o.aC⟩
end Go.Proofs.YthjbicggfnnonaaGreatDoor
