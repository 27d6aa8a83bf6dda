import Derived.Test.YtdipfjmlfbdkdaaGreatFc8
namespace Go.Proofs.YtdipfjmlfbdkdaaGreat
open Go.ChangeShapes Go.WideShapes Go.ChangeAt Go.RowKit
set_option linter.unusedVariables false
set_option maxHeartbeats 4000000
set_option maxRecDepth 100000
structure ML where
 head:Int
 back:List Int
 blocks:List Int
structure Dm where
 code:Int
 at_:Int
 blocks:List MB
 order:List Int
 idom:List Int
 loops:List ML
def ints(l:List Nat):List Int:=l.map fun(x:Nat)=>(x:Int)
theorem AA(l:List Nat):(ints l).length=l.length:=by simp[ints]
def nx(bs:List MB)(b:Nat):List Nat:=match bs[b]? with|some m=>m.next.map Int.toNat|none=>[]
def Dc(c a:Int):Dm:=⟨c,a,[],[],[],[]⟩
def AZ(E:Nat->List Nat)(D L:Nat->Nat->Bool)(n j:Nat):List ML:=(List.range j).filterMap fun h=>if An E D n h=[]then none else some ⟨(h:Int),ints (An E D n h),ints ((List.range n).filter (L h))⟩
inductive AR (xs:List MI):Dm->Prop
 |none:¬Aw xs->AR xs (Dc 4 0)
 |off {x:MI}:Aw xs->xs[xs.length-1]?=some x->DX x=true->AR xs (Dc 1 ((xs.length:Int)-1))
 |lost {x:MI} {S O:List Nat} {b:Nat} {m:MB}:Aw xs->xs[xs.length-1]?=some x->DX x=false->Vs (nx (Ao xs)) [] [] [0] S O->b<(Ao xs).length->b∉S->(∀c,c<b->c∈S)->(Ao xs)[b]?=some m->AR xs (Dc 2 m.first)
 |two {x:MI} {S O:List Nat} {D:Nat->Nat->Bool} {b k t:Nat} {m:MB}:Aw xs->xs[xs.length-1]?=some x->DX x=false->Vs (nx (Ao xs)) [] [] [0] S O->(∀c,c<(Ao xs).length->c∈S)->(∀d b,D d b=true↔Ca (nx (Ao xs)) d b)->D1 (nx (Ao xs)) (Ao xs).length (IX O D) b k t->(Ao xs)[t]?=some m->AR xs (Dc 3 m.first)
 |good {x:MI} {S O:List Nat} {D L:Nat->Nat->Bool} {I:Nat->Int}:Aw xs->xs[xs.length-1]?=some x->DX x=false->Vs (nx (Ao xs)) [] [] [0] S O->(∀c,c<(Ao xs).length->c∈S)->(∀d b,D d b=true↔Ca (nx (Ao xs)) d b)->(∀b,b<(Ao xs).length->∀t∈nx (Ao xs) b,¬IX O D b t)->
  (∀b,b<(Ao xs).length->(b=0/\I b=-1)\/b≠0/\∃c:Nat,c<(Ao xs).length/\I b=(c:Int)/\DO (nx (Ao xs)) b c)->(∀h y,L h y=true↔Ar (nx (Ao xs)) D (Ao xs).length h y)->
  AR xs ⟨0,0,Ao xs,ints O.reverse,(List.range (Ao xs).length).map I,AZ (nx (Ao xs)) D L (Ao xs).length (Ao xs).length⟩
theorem Fe{xs:List MI}(h:Aw xs):0<(Ao xs).length:=by
 unfold Ao;rw[a7,Bd];exact dQ.2 (GE xs _ h.1)
theorem Ku{xs:List MI}(hg:Aw xs){b e:Nat}{x:MI}{m:MB}(hb:(AX xs xs.length)[b]?=some m)(he:m.last=(e:Int))(hx:xs[e]?=some x){p:Int}(hp:p∈AK xs x e):p.toNat∈BQ xs xs.length:=by
 have hen:e<xs.length:=(aD.1 hx).1;rw[BP]at hb;unfold AK at hp;rcases aU.1 hp with hp|hp
 . by_cases h:DX x=true/\e+1<xs.length
   . rw[a8 h]at hp
     simp only[aa,ao,cH]at hp;subst hp;rw[aG];exact H9 _ _ _ _ _ hb he h.2
   . rw[bF h]at hp
     cases hp
 . by_cases h:AB x=true/\¬(DX x=true/\e+1<xs.length/\x.c=((e+1:Nat):Int))
   . rw[a8 h]at hp
     simp only[aa,ao,cH]at hp;subst hp;obtain⟨h1,h2⟩:=hg.2.2 e x hx h.1;have h3:(x.c.toNat:Int)=x.c:=eC h1;exact(Cp _ _ _).2 ⟨by omega,Iz xs _ e _ x hen hx (by simp[Ea,h.1,h3])⟩
   . rw[bF h]at hp
     cases hp
theorem Ml{L:List Nat}{n b:Nat}{m:MB}(hs:L.Pairwise (· < ·))(hl:∀x∈L,x<n)(h:(build L n)[b]?=some m):∃e:Nat,m.last=(e:Int)/\e<n:=by
 unfold build at h;rw[dp]at h;cases h1:L[b]? with
 |none=>rw[h1]at h;simp at h
 | some a=>
   cases h2:(L.tail++[n])[b]? with
   |none=>rw[h1,h2]at h;simp at h
   | some q=>
     rw[h1,h2]at h;simp only[aR]at h;subst h;have ha:=hl a (aE h1)
     have hq:a<q/\q<=n:=by
      by_cases hb:b<L.tail.length
      . rw[bG hb]at h2
        have hq:=d7 (aE h2);refine⟨?_,d8 (hl q hq)⟩;have h3:L[b+1]?=some q:=by rw[<-h2];cases L<;>simp
        obtain⟨i1,e1⟩:=aD.1 h1;obtain⟨i2,e2⟩:=aD.1 h3;rw[<-e1,<-e2];exact(dL.1 hs) b (b+1) i1 i2 (by omega)
      . rw[aW (by omega)]at h2
        have:=aE h2;simp only[aa,ao,cH]at this;subst this;exact⟨ha,Nat.le_refl _⟩
     exact⟨q-1,by simp only[];omega,by omega⟩
theorem Pm{xs:List MI}{b:Nat}{m:MB}(h:(AX xs xs.length)[b]?=some m):∃(e:Nat) (x:MI),m.last=(e:Int)/\xs[e]?=some x:=by
 rw[BP]at h;obtain⟨e,h1,h2⟩:=Ml (DA _ _) (fun x hx=>((Cp _ _ _).1 hx).1) h;exact⟨e,_,h1,aA h2⟩
theorem IR{xs:List MI}(hg:Aw xs){b:Nat}{m:MB}(h:(Ao xs)[b]?=some m){z:Int}(hz:z∈m.next):0<=z/\z<((Ao xs).length:Int):=by
 unfold Ao at h⊢;rw[bB]at h;obtain⟨m0,h1,rfl⟩:=cY.1 h;obtain⟨e,x,he,hx⟩:=Pm h1
 have hB:(Cy xs m0).next=C4 xs x e:=by
  unfold Cy;rw[he,aG,aJ,hx];rfl
 rw[hB,JL xs b e x m0 hg h1 he hx]at hz;obtain⟨p,hp,rfl⟩:=au.1 hz;have:=dV.2 (Ku hg h1 he hx hp);rw[a7,Bd];omega
theorem Qt{bs:List MB}{b:Nat}{m:MB}(h:bs[b]?=some m):nx bs b=m.next.map Int.toNat:=by unfold nx;rw[h]
theorem NC{xs:List MI}(hg:Aw xs){b:Nat}{m:MB}(h:(Ao xs)[b]?=some m):m.next=ints (nx (Ao xs) b):=by
 rw[Qt h];unfold ints;rw[dh];symm
 rw[eD (g:=id),List.map_id];intro z hz;exact eC (IR hg h hz).1
theorem Lu{xs:List MI}(hg:Aw xs):∀b,b<(Ao xs).length->∀x∈nx (Ao xs) b,x<(Ao xs).length:=fun b hb x hx=>by
 rw[Qt (aA hb)]at hx;obtain⟨z,hz,rfl⟩:=au.1 hx;have:=IR hg (aA hb) hz;omega
theorem Ed{xs:List MI}(hg:Aw xs):(Ao xs).length<=1024:=by
 unfold Ao;rw[a7,Bd];have:=cJ (A8 xs xs.length) (List.range xs.length);have h2:=hg.2.1;simp only[bo]at this;exact aY this h2
theorem Gg(bs:List MB)(h:∀m∈bs,m.next.length<=2)(b:Nat):(nx bs b).length<=2:=by
 unfold nx;cases hb:bs[b]? with
 |none=>simp
 |some m=>simpa using h m (aE hb)
theorem Ee(xs:List MI):∀m∈Ao xs,m.next.length<=2:=by
 intro f hf;unfold Ao at hf;obtain⟨m,_,rfl⟩:=au.1 hf;simp only[Cy,C4];split<;>split<;>simp
theorem AR.one{xs:List MI}{r r':Dm}(h:AR xs r)(h':AR xs r'):r=r':=by
 have hD:∀{E:Nat->List Nat} {D D':Nat->Nat->Bool},(∀d b,D d b=true↔Ca E d b)->(∀d b,D' d b=true↔Ca E d b)->D=D':=fun h1 h2=>by
  funext d b
  rw[db,h1,h2]
 cases h with
 | none g=>
   cases h' with
   |none _=>rfl
   |_ g'=>exact absurd g' g
 | off g x1 o1=>
   cases h' with
   |none g'=>exact absurd g g'
   |off _ _ _=>rfl
   | lost _ x2 o2|two _ x2 o2|good _ x2 o2=>
     rw[x1]at x2;cases x2
     rw[o1]at o2;cases o2
 | @lost _ _ _ b m g x1 o1 v1 b1 n1 l1 m1=>
   cases h' with
   |none g'=>exact absurd g g'
   | off _ x2 o2=>
     rw[x1]at x2;cases x2
     rw[o1]at o2;cases o2
   | @lost _ _ _ b' m' _ x2 o2 v2 b2 n2 l2 m2=>
     obtain⟨rfl,rfl⟩:=v1.one v2
     have:b=b':=by
      rcases Nat.lt_trichotomy b b' with q|q|q
      . exact absurd (l2 _ q) n1
      . exact q
      . exact absurd (l1 _ q) n2
     subst this;rw[m1]at m2;cases m2
     rfl
   | two _ _ _ v2 s2|good _ _ _ v2 s2=>
     obtain⟨rfl,rfl⟩:=v1.one v2;exact absurd (s2 _ b1) n1
 | two g x1 o1 v1 s1 d1 f1 m1=>
   cases h' with
   |none g'=>exact absurd g g'
   | off _ x2 o2=>
     rw[x1]at x2;cases x2
     rw[o1]at o2;cases o2
   | lost _ _ _ v2 b2 n2=>
     obtain⟨rfl,rfl⟩:=v1.one v2;exact absurd (s1 _ b2) n2
   | two _ _ _ v2 _ d2 f2 m2=>
     obtain⟨rfl,rfl⟩:=v1.one v2;obtain rfl:=hD d1 d2;obtain rfl:=f1.one f2;rw[m1]at m2;cases m2
     rfl
   | good _ _ _ v2 _ d2 f2=>
     obtain⟨rfl,rfl⟩:=v1.one v2;obtain rfl:=hD d1 d2;exact absurd f1.is (f2 _ f1.lt _ (aE f1.at_))
 | good g x1 o1 v1 s1 d1 f1 i1 l1=>
   cases h' with
   |none g'=>exact absurd g g'
   | off _ x2 o2=>
     rw[x1]at x2;cases x2
     rw[o1]at o2;cases o2
   | lost _ _ _ v2 b2 n2=>
     obtain⟨rfl,rfl⟩:=v1.one v2;exact absurd (s1 _ b2) n2
   | two _ _ _ v2 _ d2 f2 m2=>
     obtain⟨rfl,rfl⟩:=v1.one v2;obtain rfl:=hD d1 d2;exact absurd f2.is (f1 _ f2.lt _ (aE f2.at_))
   | good _ _ _ v2 _ d2 f2 i2 l2=>
     obtain⟨rfl,rfl⟩:=v1.one v2;obtain rfl:=hD d1 d2;have hL:=fun h y=>db.2 ((l1 h y).trans (l2 h y).symm)
     obtain rfl:=funext fun h=>funext (hL h)
     obtain⟨hP,_⟩:=C5 (Fe g) (Lu g) v1 s1;congr 1
     apply eD;intro b hb;have hb:=br.1 hb;rcases i1 b hb with⟨e1,e2⟩|⟨e1,c,c1,c2,c3⟩
     . rcases i2 b hb with⟨_,e4⟩|⟨e3,_⟩
       . rw[e2,e4]
       . exact absurd e1 e3
     . rcases i2 b hb with⟨e3,_⟩|⟨e3,c',c1',c2',c3'⟩
       . exact absurd e3 e1
       . rw[c2,c2',c3.one hP c1 c1' c3']
theorem FL:∀(a b:List Int),a.Pairwise (· < ·)->b.Pairwise (· < ·)->(∀z,z∈a↔z∈b)->a=b
 |[],[],_,_,_=>rfl
 |[],y::b,_,_,h=>by have:=(h y).2 (by simp);cases this
 |x::a,[],_,_,h=>by have:=(h x).1 (by simp);cases this
 | x :: a,y::b,ha,hb,h=>by
   obtain⟨a1,a2⟩:=bS.1 ha;obtain⟨b1,b2⟩:=bS.1 hb
   have e:x=y:=by
    rcases aa.1 ((h x).1 (by simp))with e|e
    . exact e
    . rcases aa.1 ((h y).2 (by simp))with e'|e'
      . exact e'.symm
      . have:=b1 x e
        have:=a1 y e';omega
   subst e;congr 1
   refine FL a b a2 b2 fun z=>⟨fun hz=> ?_,fun hz=> ?_⟩
   . rcases aa.1 ((h z).1 (bK _ hz))with e|e
     . have:=a1 z hz
       omega
     . exact e
   . rcases aa.1 ((h z).2 (bK _ hz))with e|e
     . have:=b1 z hz
       omega
     . exact e
theorem P7(xs:List MI)(j:Nat)(hg:Aw xs)(h:A8 xs xs.length j=true):j<=xs.length:=by
 simp only[A8,Bool.or_eq_true,List.any_eq_true,br,cG]at h;rcases h with h|⟨i,hi,h⟩
 . omega
 . cases hx:xs[i]? with
   |none=>rw[hx]at h;cases h
   | some x=>
     rw[hx]at h;simp only[Ea,Bool.or_eq_true,dw,cG]at h;rcases h with⟨h1,h2⟩|⟨_,h2⟩
     . have:=hg.2.2 i x hx h1
       omega
     . omega
def CH(D:DataW Unit)(xs:List MI)(k:Nat):Prop:=∀z:Int,Go.Maps.has D (.int .i64 z)=(decide (0<=z)&&A8 xs k z.toNat)
theorem DJ(D:DataW Unit)(hD:Go.Maps.IsMap D)(z y:Int)(u:DataW Unit):Go.Maps.has (D.put (.int .i64 z) u) (.int .i64 y)=(Go.Maps.has D (.int .i64 y)||decide (y=z)):=by
 by_cases h:y=z
 . subst h
   rw[Go.Maps.has_put_same hD (show WideAt.IsKeyLit (Lit.int .i64 y)from trivial)];simp
 . rw[Go.Maps.has_put_other (fun e=>h (by cases e;rfl))]
   simp[h]
theorem CH.start(xs:List MI)(u:DataW Unit):CH ((DataW.map []:DataW Unit).put (.int .i64 0) u) xs 0:=fun z=>by
 rw[DJ _ Go.Maps.isMap_empty,GY];have e:Go.Maps.has (DataW.map []:DataW Unit) (.int .i64 z)=false:=rfl;rw[e];by_cases h:z=0
 . subst h
   rfl
 . by_cases h0:0<=z
   . have:¬z.toNat=0:=by omega
     simp[h,this]
   . simp[h,h0]
theorem CH.none{D:DataW Unit}{xs:List MI}{k:Nat}{x:MI}(h:CH D xs k)(hx:xs[k]?=some x)(hg:AB x=false)(hr:¬x.op=29):CH D xs (k+1):=fun z=>by
 rw[h z,CP xs k _ x hx];simp[Ea,hg,hr]
theorem CH.ret{D:DataW Unit}{xs:List MI}{k:Nat}{x:MI}{u:DataW Unit}(h:CH D xs k)(hD:Go.Maps.IsMap D)(hx:xs[k]?=some x)(hg:AB x=false)(hr:x.op=29):CH (D.put (.int .i64 ((k:Int)+1)) u) xs (k+1):=fun z=>by
 rw[DJ D hD,h z,CP xs k _ x hx];by_cases h0:0<=z
 . have e:decide (z=(k:Int)+1)=decide (z.toNat=k+1):=decide_eq_decide.2 ⟨fun _=>by omega,fun _=>by omega⟩
   rw[e];simp[Ea,hg,hr,h0]
 . have e:decide (z=(k:Int)+1)=false:=by simp;omega
   simp[e,h0]
theorem CH.goes{D:DataW Unit}{xs:List MI}{k:Nat}{x:MI}{u u':DataW Unit}(h:CH D xs k)(hD:Go.Maps.IsMap D)(hx:xs[k]?=some x)(hg:AB x=true)(hc:0<=x.c):CH ((D.put (.int .i64 x.c) u).put (.int .i64 ((k:Int)+1)) u') xs (k+1):=fun z=>by
 rw[DJ _ (hD.put _ _),DJ D hD,h z,CP xs k _ x hx];by_cases h0:0<=z
 . have e:decide (z=(k:Int)+1)=decide (z.toNat=k+1):=decide_eq_decide.2 ⟨fun _=>by omega,fun _=>by omega⟩
   have e2:decide (z=x.c)=decide (x.c=(z.toNat:Int)):=decide_eq_decide.2 ⟨fun _=>by omega,fun _=>by omega⟩;rw[e,e2];simp[Ea,hg,h0,Bool.or_assoc]
 . have e:decide (z=(k:Int)+1)=false:=by simp;omega
   have e2:decide (z=x.c)=false:=by simp;omega
   simp[e,e2,h0]
theorem EM{w w':World}(h:Below w.heap.size w w'):w.grownBy w' none:=⟨h.os,h.tape,h.output,h.size,fun k hk _=>h.block k hk⟩
theorem AU.keep{w w':World}{b cnt:Nat}{D:DataW Unit}(h:AU w b cnt D)(hb:Below w.heap.size w w'):AU w' b cnt D:=World.ownsMap.kept h (EM hb) (by simp)
structure LX(w wr U:World)(x:MI)(cnt:Nat)(D:DataW Unit):Prop where
 set:AU U w.heap.size cnt D
 xb:Ak U wr.heap.size #[.int .i64 x.op,.int .i64 x.a,.int .i64 x.b,.int .i64 x.c] 60
 bel:Below w.heap.size w U
 lt:w.heap.size<wr.heap.size
theorem LX.keep{w wr U U':World}{x:MI}{cnt:Nat}{D:DataW Unit}(h:LX w wr U x cnt D)(hb:Below U.heap.size U U'):LX w wr U' x cnt D:=⟨h.set.keep hb,h.xb.keep hb,Ab h.bel lR hb,h.lt⟩
theorem LX.grown{w wr U U':World}{x:MI}{cnt cnt':Nat}{D D':DataW Unit}(h:LX w wr U x cnt D)(hs:AU U' w.heap.size cnt' D')(hg:U.grownBy U' (some w.heap.size)):LX w wr U' x cnt' D':=by
 refine⟨hs,?_,h.bel.grown hg h.bel.size (fun j hj=>by cases hj;exact Nat.le_refl _),h.lt⟩;have:=h.xb;have hl:=h.lt;unfold Ak at*;rw[hg.block _ h.xb.lt (fun e=>by have:=ae e;omega)];exact this
theorem KW{u:World}{X:Nat}{x0 x1 x2 x3:Value}{t:TypeId}(h:Ak u X #[x0,x1,x2,x3] t):u.cell? ⟨X,0,none⟩=some x0/\u.cell? ⟨X,1,none⟩=some x1/\u.cell? ⟨X,2,none⟩=some x2/\u.cell? ⟨X,3,none⟩=some x3:=
 ⟨h.cell 0,h.cell 1,h.cell 2,h.cell 3⟩
theorem Dq{z:Int}(h0:0<=z)(h1:z<=1048576):CD z:=WalkArith.wf_i64 (by omega)
theorem Jn(s:Value)(xs:List MI)(w:World)(hg:Aw xs)(h:Rd w 4 s xs.length (xs.flatMap MI.cells)):
 Calls Tryz.prog 113 #[s] w fun e w'=>∃g cap,e=.returned (.slice (some ⟨g,0,none⟩) (BQ xs xs.length).length cap)/\w'.ownsRow w.heap.size 2 1 (.slice (some ⟨g,0,none⟩) (BQ xs xs.length).length cap) (BQ xs xs.length).length (((BQ xs xs.length).map Int.ofNat).flatMap Ac)/\Below w.heap.size w w':=by
 have H:Hid (Rd w 4 s xs.length (xs.flatMap MI.cells)):=h;have HG:Hid (Aw xs):=hg;have hg1:=hg.1;have hg2:=hg.2.1;obtain⟨a1,c1,rfl⟩:=h.is_slice;clear h hg;generalize hLL:xs.length=n at H hg1 hg2;have HL:Hid (xs.length=n):=hLL;clear hLL;have hmm:= @run_makeMap Tryz.prog;have S0:AU (w.alloc (.map #[] 0)) w.heap.size 0 (.map []):=World.ownsMap_made _ _ _ _;have B0:Below w.heap.size w (w.alloc (.map #[] 0)):=Aa _ _;have z0:(w.alloc (.map #[] 0)).heap.size=w.heap.size+1:=by simp
 have hce:((w.alloc (.map #[] 0)).alloc (.cells #[.int .i64 0] 2)).cell? ⟨w.heap.size+1,0,none⟩=some (.int .i64 0):=by
  have:=(Ak.new (w.alloc (.map #[] 0)) #[.int .i64 0] 2).cell 0;rw[z0]at this;exact this
 have S1:Hid (AU ((w.alloc (.map #[] 0)).alloc (.cells #[.int .i64 0] 2)) w.heap.size 0 (.map [])/\Below w.heap.size w ((w.alloc (.map #[] 0)).alloc (.cells #[.int .i64 0] 2))):=⟨S0.keep (Aa _ _),Ab B0 lR (Aa _ _)⟩
 have HCE:Hid _:=hce;clear S0 B0 z0 hce;go_enter Tryz.func113,Tryz.ntmps113;go_wp2_with fail
 refine(Ek w.heap.size 0 (w.heap.size+1) 1 (.map []) 0 _ (Dq (by omega) (by omega)) (by omega) HCE.o (by omega) S1.o.1).mono ?_;rintro e u1 ⟨rfl,s1,g1⟩;have HS:Hid (∃cnt D,cnt<=1/\AU u1 w.heap.size cnt D/\CH D xs 0/\Below w.heap.size w u1):=⟨_,_,Nat.le_refl _,s1,CH.start xs _,S1.o.2.grown g1 S1.o.2.size (fun j hj=>by cases hj;exact Nat.le_refl _)⟩
 clear s1 g1 S1 HCE;go_wp2
 go_loopw [12] (fun i wr=>∃k:Nat,k<=n/\i=.int .i64 k/\Hid (∃cnt D,cnt<=2*k+1/\AU wr w.heap.size cnt D/\CH D xs k/\Below w.heap.size w wr)) (fun i _=>n-(intOf i).toNat)
 case atStart=>exact⟨0,by omega,rfl,HS⟩
 case round=>
  clear HS;obtain⟨k,hk,rfl,HS⟩:=hrel;obtain⟨cnt,D,hcn,hset,hhas,hbel⟩:=HS.o;have HB:Hid (CH D xs k/\Below w.heap.size w wr/\AU wr w.heap.size cnt D/\Go.Maps.IsMap D):=⟨hhas,hbel,hset,dv hset⟩
  clear hset hhas hbel HS;by_cases hlt:k<n
  . obtain⟨x,hx⟩:∃x,xs[k]?=some x:=⟨_,aA (by rw[HL.o];exact hlt)⟩
    have HX:Hid (xs[k]?=some x):=hx;rcases H.o.2 with⟨e0,_⟩|⟨g,o,c,e1,hc1⟩
    . omega
    simp only[aF,aw]at e1;obtain⟨rfl,rfl⟩:=e1;have x0:=Rd.elem MI.cells_length hc1 k _ hx 0 _ rfl;have x1:=Rd.elem MI.cells_length hc1 k _ hx 1 _ rfl;have x2:=Rd.elem MI.cells_length hc1 k _ hx 2 _ rfl;have x3:=Rd.elem MI.cells_length hc1 k _ hx 3 _ rfl;rw[<-HB.o.2.1.cell (aC x0),aS]at x0;rw[<-HB.o.2.1.cell (aC x1)]at x1;rw[<-HB.o.2.1.cell (aC x2)]at x2;rw[<-HB.o.2.1.cell (aC x3)]at x3;clear hc1 hx;have hkL:(k:Int)<(n:Int):=by omega
    have HLX:Hid (LX w wr (wr.alloc (.cells #[.int .i64 x.op,.int .i64 x.a,.int .i64 x.b,.int .i64 x.c] 60)) x cnt D):=⟨HB.o.2.2.1.keep (Aa _ _),Ak.new _ _ _,Ab HB.o.2.1 lR (Aa _ _),dx HB.o.2.2.1⟩;go_upto_region 6 with fail
    refine Al (fun u=>Hid (LX w wr u x cnt D)) HLX ?_;intro U1 HU1;clear HLX x0 x1 x2 x3;obtain⟨a0,a1',a2,a3⟩:=KW HU1.o.xb;go_wp2_with fail
    refine(Bp x _).mono ?_;rintro e u2 ⟨rfl,b2⟩;have HU2:Hid (LX w wr u2 x cnt D):=HU1.o.keep b2;clear b2 a0 a1' a2 a3 HU1;cases hgo:AB x
    . obtain⟨a0,a1',a2,a3⟩:=KW HU2.o.xb
      go_wp2_with fail
      refine(Bp x _).mono ?_;rintro e u3 ⟨rfl,b3⟩;have HU3:Hid (LX w wr u3 x cnt D):=HU2.o.keep b3;clear b3 a0 a1' a2 a3 HU2;rw[hgo];obtain⟨a0,a1',a2,a3⟩:=KW HU3.o.xb;by_cases hr:x.op=29
      . rw[hr]at a0
        have HCE:Hid ((u3.alloc (.cells #[.int .i64 ((k:Int)+1)] 2)).cell? ⟨u3.heap.size,0,none⟩=some (.int .i64 ((k:Int)+1))/\LX w wr (u3.alloc (.cells #[.int .i64 ((k:Int)+1)] 2)) x cnt D/\¬u3.heap.size=w.heap.size):=⟨(Ak.new u3 #[.int .i64 ((k:Int)+1)] 2).cell 0,HU3.o.keep (Aa _ _),by have:=dx HU3.o.set;omega⟩
        go_wp2_with fail
        refine(Ek w.heap.size cnt u3.heap.size 1 D ((k:Int)+1) _ (Dq (by omega) (by omega)) (by omega) HCE.o.1 HCE.o.2.2 HCE.o.2.1.set).mono ?_;rintro e u4 ⟨rfl,s4,g4⟩;have HN:Hid (∃cnt D,cnt<=2*(k+1)+1/\AU u4 w.heap.size cnt D/\CH D xs (k+1)/\Below w.heap.size w u4):=⟨_,_,by omega,s4,HB.o.1.ret HB.o.2.2.2 HX.o hgo hr,(HCE.o.2.1.grown s4 g4).bel⟩
        clear s4 g4 a0 a1' a2 a3;go_wp2
        go_roundw
        case rel=>exact⟨k+1,by omega,by go_num,HN⟩
        case measure=>simp[intOf];omega
      . have hr':(x.op==29)=false:=by simpa using hr
        have HN:Hid (∃cnt D,cnt<=2*(k+1)+1/\AU u3 w.heap.size cnt D/\CH D xs (k+1)/\Below w.heap.size w u3):=⟨_,_,by omega,HU3.o.set,HB.o.1.none HX.o hgo hr,HU3.o.bel⟩
        go_wp2
        go_roundw
        case rel=>exact⟨k+1,by omega,by go_num,HN⟩
        case measure=>simp[intOf];omega
    . obtain⟨hc0,hc1⟩:=HG.o.2.2 k x HX.o hgo
      rw[HL.o]at hc1;obtain⟨a0,a1',a2,a3⟩:=KW HU2.o.xb;have HCE:Hid ((u2.alloc (.cells #[.int .i64 x.c] 2)).cell? ⟨u2.heap.size,0,none⟩=some (.int .i64 x.c)/\LX w wr (u2.alloc (.cells #[.int .i64 x.c] 2)) x cnt D/\¬u2.heap.size=w.heap.size):=⟨(Ak.new u2 #[.int .i64 x.c] 2).cell 0,HU2.o.keep (Aa _ _),by have:=dx HU2.o.set;omega⟩
      go_wp2_with fail
      refine(Ek w.heap.size cnt u2.heap.size 1 D x.c _ (Dq (by omega) (by omega)) (by omega) HCE.o.1 HCE.o.2.2 HCE.o.2.1.set).mono ?_;rintro e u4 ⟨rfl,s4,g4⟩;have HU4:Hid (LX w wr u4 x (cnt+1) (D.put (.int .i64 x.c) (.agg []))):=HCE.o.2.1.grown s4 g4;clear s4 g4 a0 a1' a2 a3 HCE HU2;obtain⟨a0,a1',a2,a3⟩:=KW HU4.o.xb;go_wp2_with fail
      refine(Bp x _).mono ?_;rintro e u5 ⟨rfl,b5⟩;have HU5:Hid (LX w wr u5 x (cnt+1) (D.put (.int .i64 x.c) (.agg []))):=HU4.o.keep b5;clear b5 a0 a1' a2 a3 HU4;rw[hgo];obtain⟨a0,a1',a2,a3⟩:=KW HU5.o.xb;have HCE:Hid ((u5.alloc (.cells #[.int .i64 ((k:Int)+1)] 2)).cell? ⟨u5.heap.size,0,none⟩=some (.int .i64 ((k:Int)+1))/\LX w wr (u5.alloc (.cells #[.int .i64 ((k:Int)+1)] 2)) x (cnt+1) (D.put (.int .i64 x.c) (.agg []))/\¬u5.heap.size=w.heap.size):=⟨(Ak.new u5 #[.int .i64 ((k:Int)+1)] 2).cell 0,HU5.o.keep (Aa _ _),by have:=dx HU5.o.set;omega⟩
      go_wp2_with fail
      refine(Ek w.heap.size (cnt+1) u5.heap.size 1 (D.put (.int .i64 x.c) (.agg [])) ((k:Int)+1) _ (Dq (by omega) (by omega)) (by omega) HCE.o.1 HCE.o.2.2 HCE.o.2.1.set).mono ?_;rintro e u6 ⟨rfl,s6,g6⟩;have HN:Hid (∃cnt D,cnt<=2*(k+1)+1/\AU u6 w.heap.size cnt D/\CH D xs (k+1)/\Below w.heap.size w u6):=⟨_,_,by omega,s6,HB.o.1.goes HB.o.2.2.2 HX.o hgo hc0,(HCE.o.2.1.grown s6 g6).bel⟩
      clear s6 g6 a0 a1' a2 a3;go_wp2
      go_roundw
      case rel=>exact⟨k+1,by omega,by go_num,HN⟩
      case measure=>simp[intOf];omega
  . obtain rfl:k=n:=by omega
    go_wp2_with (at_delete;refine wpList_delete_own _ rfl _ _ 174 2 rfl 201 Iw Tryz.underlying174 _ w.heap.size cnt D rfl HB.o.2.2.1 _ _ rfl (dt Tryz.underlying2 (Dq (z:=(k:Int)) (by omega) (by omega))) ?_;intro w1 hown1 hturn1)
    have HD:Hid (AU w1 w.heap.size cnt (D.del (.int .i64 k))/\Below w.heap.size w w1):=⟨hown1,HB.o.2.1.grown hturn1.grown HB.o.2.1.size (fun j hj=>by cases hj;exact Nat.le_refl _)⟩
    clear hown1 hturn1;go_wp2_with fail
    refine(IK w.heap.size cnt _ _ (by omega) HD.o.1).mono ?_;rintro e u9 ⟨g9,cap9,zs,rfl,own9,hsrt,hmem,b9⟩
    have ez:zs=(BQ xs k).map Int.ofNat:=by
     refine FL _ _ hsrt (dH.2 ((DA xs k).imp (fun h=>by simpa using h))) fun z=> ?_
     rw[hmem,au];constructor
     . rintro⟨h1,h2⟩
       by_cases e:z=(k:Int)
       . subst e
         rw[Go.Maps.has_del_same]at h2;cases h2
       . rw[Go.Maps.has_del_other (fun q=>e (by cases q;rfl)),HB.o.1 z]at h2
         simp only[dw,cG]at h2;have:=h2.2;rw[<-HL.o]at this;have hle:=P7 xs _ HG.o this;rw[HL.o]at hle;exact⟨z.toNat,(Cp _ _ _).2 ⟨by omega,this⟩,by simp;omega⟩
     . rintro⟨j,hj,rfl⟩
       obtain⟨j1,j2⟩:=(Cp _ _ _).1 hj;rw[HL.o]at j2;refine⟨Dq (by simp) (by simp;omega),?_⟩;rw[Go.Maps.has_del_other (fun q=>by cases q;omega),HB.o.1];simp[j2]
    subst ez;rw[a7]at own9;have HE:Hid (u9.ownsRow w.heap.size 2 1 (.slice (some ⟨g9,0,none⟩) (BQ xs k).length cap9) (BQ xs k).length (((BQ xs k).map Int.ofNat).flatMap Ac)/\Below w.heap.size w u9):=⟨AF own9 HD.o.2.size,Ab HD.o.2 lR b9⟩
    clear own9 hsrt hmem b9;rw[a7];go_wp2
    go_ret
    exact⟨g9,cap9,rfl,HE.o.1,HE.o.2⟩
def nv(l:List Nat):List Value:=l.map fun(k:Nat)=>Value.int .i64 (k:Int)
theorem Oh(l:List Nat):(nv l).length=l.length:=by simp[nv]
theorem DC(l m:List Nat):nv (l++m)=nv l++nv m:=by simp[nv]
theorem Ck(l:List Nat):nv l=(ints l).flatMap Ac:=by
 induction l with
 |nil=>rfl
 | cons x r ih=>
   simp only[nv,ints,cZ,bT]at ih⊢;rw[ih];rfl
theorem JN{l:List Nat}{k x:Nat}(h:l[k]?=some x):(nv l)[k]?=some (.int .i64 (x:Int)):=by simp[nv,h]
def DR(w:World)(s:Value)(l:List Nat):Prop:=Rd w 1 s l.length (nv l)
def DQ(w:World)(base:Nat)(s:Value)(l:List Nat):Prop:=w.ownsRow base 2 1 s l.length (nv l)
theorem DQ.rd{w:World}{base:Nat}{s:Value}{l:List Nat}(h:DQ w base s l):DR w s l:=Rd.of_own h
theorem DQ.keep{w w':World}{base:Nat}{s:Value}{l:List Nat}(h:DQ w base s l)(hb:Below w.heap.size w w'):DQ w' base s l:=Ag h hb lR
theorem DR.keep{w w':World}{s:Value}{l:List Nat}(h:DR w s l)(hb:Below w.heap.size w w'):DR w' s l:=Rd.keep h hb lR
theorem DR.at_{w:World}{a:Option Addr}{n c:Nat}{l:List Nat}(h:DR w (.slice a n c) l){k x:Nat}(hk:l[k]?=some x):∃g o,a=some ⟨g,o,none⟩/\n=l.length/\w.cell? ⟨g,o+k,none⟩=some (.int .i64 (x:Int)):=by
 rcases h.2 with⟨e0,_⟩|⟨g,o,c',e1,hc⟩
 . have:=(aD.1 hk).1
   omega
 . simp only[aF]at e1
   obtain⟨rfl,rfl,rfl⟩:=e1;exact⟨g,o,rfl,rfl,hc k _ (JN hk)⟩
theorem DR.all{w:World}{a:Option Addr}{n c:Nat}{l:List Nat}(h:DR w (.slice a n c) l)(hl:0<l.length):∃g o,a=some ⟨g,o,none⟩/\n=l.length/\∀k x:Nat,l[k]?=some x->w.cell? ⟨g,o+k,none⟩=some (.int .i64 (x:Int)):=by
 rcases h.2 with⟨e0,_⟩|⟨g,o,c',e1,hc⟩
 . omega
 . simp only[aF]at e1
   obtain⟨rfl,rfl,rfl⟩:=e1;exact⟨g,o,rfl,rfl,fun k x hk=>hc k _ (JN hk)⟩
def bv(P:Nat->Bool)(n:Nat):List Value:=(List.range n).map fun i=>Value.bool (P i)
theorem Fb(P:Nat->Bool)(n:Nat):(bv P n).length=n:=by simp[bv]
theorem Hx(P:Nat->Bool)(n i:Nat)(h:i<n):(bv P n)[i]?=some (.bool (P i)):=by simp[bv,h]
theorem FV{P Q:Nat->Bool}{n:Nat}(h:∀i,i<n->P i=Q i):bv P n=bv Q n:=by
 unfold bv;apply eD;intro i hi;rw[h i (br.1 hi)]
theorem ON{P Q:Nat->Bool}{n i:Nat}{b:Bool}(h:∀j,j<n->Q j=if j=i then b else P j):(bv P n).set i (.bool b)=bv Q n:=by
 apply cI;intro j;by_cases hj:j<n
 . rw[Hx _ _ _ hj,h j hj]
   by_cases e:j=i
   . subst e
     rw[dK (by rw[Fb];exact hj),a8 rfl]
   . rw[dC (by omega),Hx _ _ _ hj,bF e]
 . rw[aZ (by simp[Fb];omega),aZ (by rw[Fb];omega)]
theorem Fc(n:Nat):List.replicate n (Value.bool false)=bv (fun _=>false) n:=by
 apply cI;intro j;by_cases hj:j<n
 . rw[Hx _ _ _ hj]
   simp[hj]
 . rw[aZ (by simp;omega),aZ (by rw[Fb];omega)]
def Eg(w:World)(base g n:Nat)(P:Nat->Bool):Prop:=w.ownsRow base 4 1 (.slice (some ⟨g,0,none⟩) n n) n (bv P n)
theorem Eg.keep{w w':World}{base g n:Nat}{P:Nat->Bool}(h:Eg w base g n P)(hb:Below w.heap.size w w'):Eg w' base g n P:=Ag h hb lR
theorem Eg.cell{w:World}{base g n:Nat}{P:Nat->Bool}(h:Eg w base g n P){i:Nat}(hi:i<n):w.cell? ⟨g,i,none⟩=some (.bool (P i)):=by
 have:=cD h i (by omega);rw[Hx _ _ _ hi]at this;exact this
theorem Eg.frozen{w:World}{base g n:Nat}{P:Nat->Bool}(h:Eg w base g n P)(i:Nat):w.frozen? ⟨g,i,none⟩=false:=eH h i
theorem Eg.set{w:World}{base g n:Nat}{P Q:Nat->Bool}(h:Eg w base g n P)(i:Nat)(b:Bool)(hQ:∀j,j<n->Q j=if j=i then b else P j):Eg (w.setCell ⟨g,i,none⟩ (.bool b)) base g n Q:=by
 have:=(cT h i (.bool b)).1;rw[ON hQ]at this;exact this
def D6(w:World)(g o n:Nat)(E:Nat->List Nat):Prop:=∀b,b<n->∃a c,w.cell? ⟨g,o+b*3+2,none⟩=some (.slice a (E b).length c)/\DR w (.slice a (E b).length c) (E b)
theorem D6.keep{w w':World}{g o n:Nat}{E:Nat->List Nat}(h:D6 w g o n E)(hb:Below w.heap.size w w'):D6 w' g o n E:=fun b hb'=>by
 obtain⟨a,c,h1,h2⟩:=h b hb';exact⟨a,c,Ad hb h1,h2.keep hb⟩
theorem FR.graph{w:World}{V:Value}{xs:List MI}(hg:Aw xs)(h:FR w V (Ao xs)):∃g o c,V=.slice (some ⟨g,o,none⟩) (Ao xs).length c/\D6 w g o (Ao xs).length (nx (Ao xs))/\∀b m,(Ao xs)[b]?=some m->w.cell? ⟨g,o+b*3,none⟩=some (.int .i64 m.first):=by
 obtain⟨ys,h1,h2,h3⟩:=h;have hp:=Fe hg;rcases h2.2 with⟨e0,_⟩|⟨g,o,c,e1,hc⟩
 . omega
 . have hyb:∀b m,(Ao xs)[b]?=some m->∃v,ys[b]?=some (m,v):=fun b m hm=>by
    rw[<-h1,bB]at hm;obtain⟨⟨m',v⟩,q1,q2⟩:=cY.1 hm;simp only[]at q2;subst q2;exact⟨v,q1⟩
   refine⟨g,o,c,e1,fun b hb=> ?_,fun b m hm=> ?_⟩
   . obtain⟨v,hv⟩:=hyb b _ (aA hb)
     have r:=h3 _ (aE hv);have e:=NC hg (aA hb)
     have r':DR w v (nx (Ao xs) b):=by
      unfold DR;rw[Ck];unfold NM at r;simp only[e]at r;rw[AA]at r;exact r
     obtain⟨a,cc,ev⟩:=Rd.is_slice r';subst ev;exact⟨a,cc,Rd.elem AJ hc b _ hv 2 _ rfl,r'⟩
   . obtain⟨v,hv⟩:=hyb b m hm
     have:=Rd.elem AJ hc b _ hv 0 _ rfl;rw[aS]at this;exact this
theorem KZ{L:List Nat}{n b:Nat}{m:MB}(hs:L.Pairwise (· < ·))(hl:∀x∈L,x<n)(h:(build L n)[b]?=some m):∃a e:Nat,m.first=(a:Int)/\m.last=(e:Int)/\a<=e/\e<n:=by
 unfold build at h;rw[dp]at h;cases h1:L[b]? with
 |none=>rw[h1]at h;simp at h
 | some a=>
   cases h2:(L.tail++[n])[b]? with
   |none=>rw[h1,h2]at h;simp at h
   | some q=>
     rw[h1,h2]at h;simp only[aR]at h;subst h;have ha:=hl a (aE h1)
     have hq:a<q/\q<=n:=by
      by_cases hb:b<L.tail.length
      . rw[bG hb]at h2
        have hq:=d7 (aE h2);refine⟨?_,d8 (hl q hq)⟩;have h3:L[b+1]?=some q:=by rw[<-h2];cases L<;>simp
        obtain⟨i1,e1⟩:=aD.1 h1;obtain⟨i2,e2⟩:=aD.1 h3;rw[<-e1,<-e2];exact(dL.1 hs) b (b+1) i1 i2 (by omega)
      . rw[aW (by omega)]at h2
        have:=aE h2;simp only[aa,ao,cH]at this;subst this;exact⟨ha,Nat.le_refl _⟩
     exact⟨a,q-1,rfl,by simp only[];omega,by omega,by omega⟩
theorem LM{xs:List MI}{b:Nat}{m:MB}(h:(Ao xs)[b]?=some m):∃a e:Nat,m.first=(a:Int)/\m.last=(e:Int)/\a<=e/\e<xs.length:=by
 unfold Ao at h;rw[bB]at h;obtain⟨m0,h1,rfl⟩:=cY.1 h;rw[BP]at h1;obtain⟨a,e,q1,q2,q3,q4⟩:=KZ (DA _ _) (fun x hx=>((Cp _ _ _).1 hx).1) h1;exact⟨a,e,q1,q2,q3,q4⟩
structure PG(xs:List MI)(r:Dm):Prop where
 len:xs.length<=1024
 nb:r.blocks.length<=1024
 two:∀m∈r.blocks,m.next.length<=2
 nl:r.loops.length<=1024
 blk:∀(i:Nat) (m:MB),r.blocks[i]?=some m->∃a e:Nat,m.first=(a:Int)/\m.last=(e:Int)/\a<=e/\e<xs.length
 loop:∀l∈r.loops,(∃h:Nat,l.head=(h:Int)/\h<r.blocks.length)/\(∀z∈l.blocks,∃b:Nat,z=(b:Int)/\b<r.blocks.length)/\l.blocks.length<=1024/\l.back.length<=2048
theorem K7{α β:Type}(f:α->List β)(l:List α)(h:∀a∈l,(f a).length<=2):(l.flatMap f).length<=2*l.length:=by
 induction l with
 |nil=>simp
 | cons a l ih=>
   have h1:=h a (by simp);have h2:=ih fun b hb=>h b (by simp[hb])
   rw[bT,aH,dJ];omega
theorem NR{E:Nat->List Nat}{D:Nat->Nat->Bool}(h:∀b,(E b).length<=2)(n y:Nat):(An E D n y).length<=2*n:=by
 have h1:=K7 (fun p=>((E p).filter fun x=>decide (x=y)&&D y p).map fun _=>p) (List.range n) (fun p _=>by
  rw[a7];exact aY (cJ _ _) (h p))
 rw[bo]at h1;exact h1
theorem Jg{α β:Type}(f:α->Option β)(l:List α):(l.filterMap f).length<=l.length:=List.length_filterMap_le f l
theorem MR{E:Nat->List Nat}{D L:Nat->Nat->Bool}{n j:Nat}(hj:j<=n){l:ML}(h:l∈AZ E D L n j):(∃h:Nat,l.head=(h:Int)/\h<n)/\(∀z∈l.blocks,∃b:Nat,z=(b:Int)/\b<n)/\l.blocks.length<=n/\∃g,l.back=ints (An E D n g):=by
 unfold AZ at h;obtain⟨g,hg,e⟩:=List.mem_filterMap.1 h;split at e
 . cases e
 . cases e
   refine⟨⟨g,rfl,by have:=br.1 hg;omega⟩,?_,?_,g,rfl⟩
   . intro z hz
     obtain⟨b,hb,rfl⟩:=au.1 hz;exact⟨b,rfl,br.1 (da.1 hb).1⟩
   . simp only[]
     rw[AA];exact aY (cJ _ _) (by simp)
theorem AR.inn{xs:List MI}{r:Dm}(h:AR xs r)(h0:r.code=0):PG xs r:=by
 cases h with
 |none _=>cases h0
 |off _ _ _=>cases h0
 |lost _ _ _ _ _ _ _ _=>cases h0
 |two _ _ _ _ _ _ _ _=>cases h0
 | good g x1 o1 v1 s1 d1 b1 i1 l1=>
   refine⟨g.2.1,Ed g,Ee xs,?_,fun i m h=>LM h,fun l hl=> ?_⟩
   . simp only[]
     unfold AZ;exact aY (Jg _ _) (by rw[bo];exact Ed g)
   . obtain⟨a1,a2,a3,y,a4⟩:=MR lR hl
     refine⟨a1,a2,aY a3 (Ed g),?_⟩;rw[a4,AA];exact aY (NR (Gg _ (Ee xs)) _ _) (by have:=Ed g;omega)
def Bh(ts:List MT)(fi h:Int):Option MT:=ts.find? fun c=>decide (c.func=fi)&&decide (c.head=h)
theorem GS{ts:List MT}{fi h:Int}(q:∀(j:Nat) (c:MT),ts[j]?=some c->¬(c.func=fi/\c.head=h)):Bh ts fi h=none:=by
 unfold Bh;rw[List.find?_eq_none];intro c hc;obtain⟨j,hj⟩:=bH hc;have:=q j c hj;simpa using this
theorem GT{ts:List MT}{fi h:Int}{i:Nat}{c:MT}(hi:ts[i]?=some c)(hc:c.func=fi/\c.head=h)(q:∀(j:Nat) (c:MT),j<i->ts[j]?=some c->¬(c.func=fi/\c.head=h)):Bh ts fi h=some c:=by
 unfold Bh;rw[List.find?_eq_some_iff_getElem];obtain⟨hlt,he⟩:=aD.1 hi;refine⟨by simp[hc],i,hlt,he,fun j hj=> ?_⟩;have:=q j _ hj (aA (by omega));by_cases h1:ts[j].func=fi
 . simp only[h1,aw]at this
   simp[this]
 . simp[h1]
def Cb(bs:List MB)(l:List Int)(a:Int):Prop:=∃z∈l,∃m,bs[z.toNat]?=some m/\m.first<=a/\a<=m.last
def FM(xs:List MI)(k a:Int):Prop:=∃x,xs[a.toNat]?=some x/\(x.op=3\/x.op=27)/\x.a=k
def Eo(xs:List MI)(m:MB):Int:=match xs[m.last.toNat]? with|some x=>if x.op=25 then m.last-1 else m.last|none=>m.last
def AL(ks:List MC)(xs:List MI)(m:MB)(c:MT):Prop:=m.first<=Eo xs m-1/\∃x y v,xs[(Eo xs m-1).toNat]?=some x/\xs[(Eo xs m).toNat]?=some y/\x.op=1/\y.op=3/\y.a=c.counter/\ks[x.a.toNat]?=some v/\v.type=3/\v.word=c.init
def GO(ks:List MC)(xs:List MI)(bs:List MB)(l:ML)(c:MT):Prop:=∃(b:Nat) (m:MB),bs[b]?=some m/\l.head∈m.next/\¬((b:Int)∈l.blocks)/\¬AL ks xs m c
def Au (p:MP)(fi:Int)(xs:List MI)(bs:List MB)(l:ML)(n:Int):Prop:=∃hb,bs[l.head.toNat]?=some hb/\
 ((Bh p.certs fi hb.first=none/\n=1)\/∃c g,Bh p.certs fi hb.first=some c/\xs[hb.first.toNat]?=some g/\
   ((¬ (g.op=27/\g.a=c.counter)/\n=2)\/((g.op=27/\g.a=c.counter)/\
     ((Cb bs l.blocks g.c/\n=3)\/(¬Cb bs l.blocks g.c/\
       (((∃a,Cb bs l.blocks a/\a≠hb.first/\FM xs c.counter a)/\n=4)\/((¬∃a,Cb bs l.blocks a/\a≠hb.first/\FM xs c.counter a)/\
         (((l.head=0\/GO p.consts xs bs l c)/\n=5)\/(¬(l.head=0\/GO p.consts xs bs l c)/\n=0)))))))))
theorem Au.one{p:MP}{fi:Int}{xs:List MI}{bs:List MB}{l:ML}{n n':Int}(h:Au p fi xs bs l n)(h':Au p fi xs bs l n'):n=n':=by
 obtain⟨hb,e1,h⟩:=h;obtain⟨hb',e1',h'⟩:=h';obtain rfl:hb=hb':=by rw[e1]at e1';exact ae e1'
 rcases h with⟨q,rfl⟩|⟨c,g,q,e2,h⟩<;>rcases h' with⟨q',rfl⟩|⟨c',g',q',e2',h'⟩
 . rfl
 . rw[q]at q';cases q'
 . rw[q]at q';cases q'
 . obtain rfl:c=c':=by rw[q]at q';exact ae q'
   obtain rfl:g=g':=by rw[e2]at e2';exact ae e2'
   rcases h with⟨a,rfl⟩|⟨a,h⟩<;>rcases h' with⟨a',rfl⟩|⟨a',h'⟩
   . rfl
   . exact absurd a' a
   . exact absurd a a'
   . rcases h with⟨a,rfl⟩|⟨a,h⟩<;>rcases h' with⟨a',rfl⟩|⟨a',h'⟩
     . rfl
     . exact absurd a a'
     . exact absurd a' a
     . rcases h with⟨a,rfl⟩|⟨a,h⟩<;>rcases h' with⟨a',rfl⟩|⟨a',h'⟩
       . rfl
       . exact absurd a a'
       . exact absurd a' a
       . rcases h with⟨a,rfl⟩|⟨a,rfl⟩<;>rcases h' with⟨a',rfl⟩|⟨a',rfl⟩
         . rfl
         . exact absurd a a'
         . exact absurd a' a
         . rfl
def Fs(a b:ML):Prop:=a.blocks.length<b.blocks.length\/a.blocks.length=b.blocks.length/\a.head<b.head
theorem Fs.irr(a:ML):¬Fs a a:=fun h=>by rcases h with h|⟨_,h⟩<;>omega
theorem Fs.asy{a b:ML}(h:Fs a b)(h':Fs b a):False:=by rcases h with h|⟨h1,h2⟩<;>rcases h' with h'|⟨h3,h4⟩<;>omega
theorem Qg{l l':List ML}(h1:l.Pairwise Fs)(h2:l'.Pairwise Fs)(hp:l.Perm l'):l=l':=by
 induction l generalizing l' with
 |nil=>exact(List.Perm.nil_eq hp)
 | cons a r ih=>
   cases l' with
   |nil=>exact(List.Perm.nil_eq hp.symm).symm
   | cons b r'=>
     obtain⟨a1,a2⟩:=bS.1 h1;obtain⟨b1,b2⟩:=bS.1 h2
     have hab:a=b:=by
      have h3:=hp.subset bR;have h4:=hp.symm.subset bR;rcases aa.1 h3 with e|e
      . exact e
      . rcases aa.1 h4 with e'|e'
        . exact e'.symm
        . exact(Fs.asy (b1 a e) (a1 b e')).elim
     subst hab;rw[ih a2 b2 (List.Perm.cons_inv hp)]
section
variable {α:Type} {f:α->ML} {ys zs:List α} {m q r n:Nat} {z1 z2:α}
structure Oz(f:α->ML)(ys zs:List α)(m:Nat):Prop where
 perm:zs.Perm ys
 st:zs.Pairwise fun a b=>(f a).blocks.length=(f b).blocks.length->(f a).head<(f b).head
 so:∀i j a b,i<m->i<j->zs[i]?=some a->zs[j]?=some b->(f a).blocks.length<=(f b).blocks.length
structure G8(f:α->ML)(ys zs:List α)(m q:Nat):Prop where
 b:Oz f ys zs m
 mn:∀j a b,q<=j->zs[q]?=some a->zs[j]?=some b->(f a).blocks.length<=(f b).blocks.length
theorem Oz.start(h:ys.Pairwise fun a b=>(f a).head<(f b).head):Oz f ys ys 0:=⟨List.Perm.refl _,h.imp (S:=fun a b=>(f a).blocks.length=(f b).blocks.length->(f a).head<(f b).head) (fun h _=>h),fun i _ _ _ hi=>absurd hi (Nat.not_lt_zero _)⟩
theorem Oz.toI(h:Oz f ys zs m)(hl:zs.length=n):G8 f ys zs m (n-1):=⟨h,fun j a b hj ha hb=>by
 have h1:=(aD.1 hb).1;obtain rfl:j=n-1:=by omega
 rw[ha]at hb;cases hb
 exact Nat.le_refl _⟩
theorem G8.skip(h:G8 f ys zs m (r+1))(h1:zs[r+1]?=some z1)(h2:zs[r]?=some z2)(hl:¬(f z1).blocks.length<(f z2).blocks.length):G8 f ys zs m r:=⟨h.b,fun j a b hj ha hb=>by
 rw[h2]at ha;cases ha
 by_cases e:j=r
 . subst e
   rw[h2]at hb;cases hb
   exact Nat.le_refl _
 . have:=h.mn j z1 b (by omega) h1 hb
   omega⟩
theorem Q2(h1:zs[r+1]?=some z1)(h2:zs[r]?=some z2):∃A B,zs=A++z2::z1::B/\A.length=r:=by
 refine⟨zs.take r,zs.drop (r+2),?_,?_⟩
 . obtain⟨l1,e1⟩:=aD.1 h1
   obtain⟨l2,e2⟩:=aD.1 h2;have h3:=cE l2;have h4:=cE l1;rw[e2,h4,e1]at h3;rw[<-h3,dm]
 . have:=(aD.1 h2).1
   simp;omega
theorem G8.swap(h:G8 f ys zs m (r+1))(hm:m<=r)(h1:zs[r+1]?=some z1)(h2:zs[r]?=some z2)(hl:(f z1).blocks.length<(f z2).blocks.length):G8 f ys ((zs.set (r+1) z2).set r z1) m r:=by
 obtain⟨A,B,rfl,rfl⟩:=Q2 h1 h2
 have e:(((A++z2::z1::B).set (A.length+1) z2).set A.length z1)=A++z1::z2::B:=by
  rw[dE _ _ (by omega),dE _ _ (by omega)];simp
 have hat:∀j x,(A++z1::z2::B)[j]?=some x->∃k,(A++z2::z1::B)[k]?=some x/\(j<A.length->k=j)/\(A.length<=j->A.length<=k)/\(A.length+1<j->k=j):=fun j x hx=>by
  by_cases c1:j<A.length
  . exact⟨j,by rw[bG c1]at hx⊢;exact hx,fun _=>rfl,fun _=>by omega,fun _=>rfl⟩
  . rw[aW (by omega)]at hx
    obtain⟨i,hi⟩:∃i,j=A.length+i:=⟨j-A.length,by omega⟩;subst hi;rw[bg]at hx;rcases i with _|_|i
    . exact⟨A.length+1,by rw[aW (by omega),bg];exact hx,fun h=>by omega,fun _=>by omega,fun h=>by omega⟩
    . exact⟨A.length,by rw[aW (by omega),cg];exact hx,fun h=>by omega,fun _=>by omega,fun h=>by omega⟩
    . exact⟨A.length+(i+1+1),by rw[aW (by omega),bg];exact hx,fun h=>by omega,fun _=>by omega,fun h=>rfl⟩
 rw[e];refine⟨⟨(List.Perm.append_left A (List.Perm.swap _ _ _)).trans h.b.perm,?_,fun i j a b hi hj ha hb=> ?_⟩,fun j a b hj ha hb=> ?_⟩
 . have:=h.b.st
   rw[dB]at this⊢;obtain⟨p1,p2,p3⟩:=this;refine⟨p1,?_,fun a ha b hb=>p3 a ha b ?_⟩
   . obtain⟨q1,q2⟩:=bS.1 p2
     obtain⟨q3,q4⟩:=bS.1 q2;refine bS.2 ⟨fun x hx=> ?_,bS.2 ⟨fun x hx=>q1 x (bK _ hx),q4⟩⟩;rcases aa.1 hx with rfl|hx
     . intro e;omega
     . exact q3 x hx
   . simp only[aa]at hb⊢
     rcases hb with hb|hb|hb
     . exact .inr (.inl hb)
     . exact .inl hb
     . exact .inr (.inr hb)
 . obtain⟨i',hi1,hi2,_,_⟩:=hat i a ha
   obtain⟨j',hj1,hj2,hj3,_⟩:=hat j b hb;have:=hi2 (by omega);subst this;exact h.b.so i' j' a b hi (by rcases Nat.lt_or_ge j A.length with c|c;{have:=hj2 c;omega};{have:=hj3 c;omega}) hi1 hj1
 . rw [aW (by omega),cg]at ha
   cases ha
   by_cases c1:j=A.length
   . subst c1
     rw[aW (by omega),cg]at hb;cases hb
     exact Nat.le_refl _
   . by_cases c2:j=A.length+1
     . subst c2
       rw[aW (by omega),bg]at hb;cases hb
       omega
     . obtain⟨k,hk,_,_,hk4⟩:=hat j b hb
       have:=hk4 (by omega);subst this;exact h.mn k z1 b (by omega) h1 hk
theorem G8.next(h:G8 f ys zs m m):Oz f ys zs (m+1):=⟨h.b.perm,h.b.st,fun i j a b hi hj ha hb=>by
 by_cases e:i=m
 . subst e
   exact h.mn j a b (by omega) ha hb
 . exact h.b.so i j a b (by omega) hj ha hb⟩
theorem Oz.done(h:Oz f ys zs m)(hl:zs.length<=m):(zs.map f).Pairwise Fs:=by
 rw[dH]
 have h1:zs.Pairwise fun a b=>(f a).blocks.length<=(f b).blocks.length:=by
  rw[dL];intro i j hi hj hij;exact h.so i j _ _ (by omega) hij (aA hi) (aA hj)
 refine(h1.and h.st).imp ?_;rintro a b ⟨h1,h2⟩;rcases Nat.lt_or_ge (f a).blocks.length (f b).blocks.length with c|c
 . exact .inl c
 . exact .inr ⟨by omega,h2 (by omega)⟩
end
structure EF(E:Nat->List Nat)(n:Nat)(pl:Nat->Nat)(D:Nat->Nat->Bool):Prop where
 P:Ce E n pl
 D:∀d b,D d b=true↔Ca E d b
 B:∀b,b<n->∀t∈E b,pl t<=pl b->Ca E t b
 R:∀x,x<n->CJ E (fun _=>True) 0 x
section
variable {E:Nat->List Nat} {n:Nat} {pl:Nat->Nat} {D:Nat->Nat->Bool} {a b h x y p:Nat}
theorem EF.in_dom(g:EF E n pl D)(hx:Ar E D n h x):Ca E h x:=by
 rcases hx with rfl|⟨t,ht,hr⟩
 . exact Ca.self _ _
 . obtain⟨_,_,h3⟩:=(Cu _ _ _ _ _).1 ht
   induction hr with
   |here _=>exact(g.D _ _).1 h3
   | step hr' h2 h4 ih=>
     obtain⟨_,h5⟩:=(BS _ _ _ _).1 h2;exact fun hc=>ih (.step hc h5 hr'.okb)
theorem EF.in_lt(g:EF E n pl D)(hh:h<n)(hx:Ar E D n h x):x<n:=by
 rcases hx with rfl|⟨t,ht,hr⟩
 . exact hh
 . cases hr with
   |here _=>exact((Cu _ _ _ _ _).1 ht).1
   |step _ h2 _=>exact((BS _ _ _ _).1 h2).1
theorem EF.pred(hx:Ar E D n h x)(hn:x≠h)(hp:p<n)(he:x∈E p):Ar E D n h p:=by
 rcases hx with rfl|⟨t,ht,hr⟩
 . exact absurd rfl hn
 . by_cases e:p=h
   . exact .inl e
   . exact .inr ⟨t,ht,.step hr ((BS _ _ _ _).2 ⟨hp,he⟩) e⟩
theorem EF.head(g:EF E n pl D)(hb:b<n)(he:x∈E b)(hd:Ca E x b):b∈An E D n x/\Ar E D n x b:=by
 have h1:b∈An E D n x:=(Cu _ _ _ _ _).2 ⟨hb,he,(g.D _ _).2 hd⟩;refine⟨h1,?_⟩;by_cases e:b=x
 . exact .inl e
 . exact .inr ⟨b,h1,.here e⟩
theorem EF.comp(g:EF E n pl D)(hx:x<n)(h1:Ca E a x)(h2:Ca E b x):Ca E a b\/Ca E b a:=by
 have ha:=FG g.P g.R hx h1;have hb:=FG g.P g.R hx h2
 have key:∀a b,Ca E a x->Ca E b x->pl a<pl b->Ca E a b:=fun a b h1 h2 hl hr=>by
  exact h1 (hr.trans ((h2.way g.P hx).1.mono fun y hy e=>by subst e;omega))
 by_cases e:a=b
 . subst e;exact .inl (Ca.self _ _)
 . rcases Nat.lt_or_ge (pl a) (pl b)with hl|hl
   . exact .inl (key a b h1 h2 hl)
   . have:pl b≠pl a:=fun q=>e (g.P.inj b a hb ha q).symm
     exact .inr (key b a h2 h1 (by omega))
theorem EF.nest(g:EF E n pl D)(hb:b<n)(h1:Ar E D n a x)(h2:Ar E D n b x)(hd:Ca E a b)(hne:a≠b):(∀y,Ar E D n b y->Ar E D n a y)/\¬Ar E D n b a:=by
 have hx:=g.in_lt hb h2;have hl:=(hd.way g.P hb).2.2 hne;have ha:=FG g.P g.R hb hd
 have hnot:∀y,Ar E D n b y->y≠a:=fun y hy e=>by
  subst e;exact hne (Ca.anti g.P hb ha hd (g.in_dom hy))
 have key:∀{x},CJ E (fun y=>pl b<=pl y) b x->Ar E D n a x->x<n->Ar E D n a b:=by
  intro x hr;induction hr with
  |here _=>exact fun h _=>h
  | step hr h2 h3 ih=>
    intro h hx';have hy:=hr.lt g.P.edge hb;exact ih (EF.pred h (fun e=>by subst e;omega) hy h2) hy
 have hab:Ar E D n a b:=key ((g.in_dom h2).way g.P hx).1 h1 hx;refine⟨fun y hy=> ?_,fun h=>hnot a h rfl⟩;rcases hy with rfl|⟨t,ht,hr⟩
 . exact hab
 . obtain⟨t1,t2,t3⟩:=(Cu _ _ _ _ _).1 ht
   have ht':Ar E D n a t:=EF.pred hab (Ne.symm hne) t1 t2;induction hr with
   |here _=>exact ht'
   | step hr h2 h3 ih=>
     obtain⟨h4,h5⟩:=(BS _ _ _ _).1 h2;exact EF.pred ih (hnot _ (.inr ⟨t,ht,hr⟩)) h4 h5
theorem EF.nest2(g:EF E n pl D)(ha:a<n)(hb:b<n)(h1:Ar E D n a x)(h2:Ar E D n b x)(hne:a≠b):((∀y,Ar E D n b y->Ar E D n a y)/\¬Ar E D n b a)\/((∀y,Ar E D n a y->Ar E D n b y)/\¬Ar E D n a b):=by
 rcases g.comp (g.in_lt ha h1) (g.in_dom h1) (g.in_dom h2)with h|h
 . exact .inl (g.nest hb h1 h2 h hne)
 . exact .inr (g.nest ha h2 h1 h (Ne.symm hne))
end
end Go.Proofs.YtdipfjmlfbdkdaaGreat
