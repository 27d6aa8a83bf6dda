import Derived.Test.YtdipfjmlfbdkdaaGreatFc12
namespace Go.Proofs.YtdipfjmlfbdkdaaGreat
open Go.ChangeShapes Go.WideShapes Go.ChangeAt Go.RowKit
set_option linter.unusedVariables false
set_option maxHeartbeats 4000000
set_option maxRecDepth 100000
structure Br(f:Nat->Int)(S:Nat->Prop)(m:Int):Prop where
 nn:0<=m
 ub:∀b,S b->f b<=m
 at_:m=0\/∃b,S b/\f b=m
theorem Br.one{f f':Nat->Int}{S:Nat->Prop}{m m':Int}(h:Br f S m)(h':Br f' S m')(hf:∀b,S b->f b=f' b):m=m':=by
 have h1:=h.nn;have h2:=h'.nn;apply Int.le_antisymm
 . rcases h.at_ with e|⟨b,hb,e⟩
   . omega
   . have:=h'.ub b hb;have:=hf b hb;omega
 . rcases h'.at_ with e|⟨b,hb,e⟩
   . omega
   . have:=h.ub b hb;have:=hf b hb;omega
theorem Br.le{f:Nat->Int}{S:Nat->Prop}{m B:Int}(h:Br f S m)(h0:0<=B)(hB:∀b,S b->f b<=B):m<=B:=by
 rcases h.at_ with e|⟨b,hb,e⟩
 . omega
 . have:=hB b hb;omega
theorem Br.none{f:Nat->Int}{S:Nat->Prop}(h:∀b,¬S b):Br f S 0:=⟨Int.le_refl _,fun b hb=>(h b hb).elim,.inl rfl⟩
theorem Br.add{f:Nat->Int}{S S':Nat->Prop}{m:Int}{b:Nat}(h:Br f S m)(hS:∀x,S' x↔S x\/x=b):Br f S' (max m (f b)):=by
 have h1:=h.nn;refine⟨by omega,fun x hx=> ?_,?_⟩
 . rcases(hS x).1 hx with hx|rfl
   . have:=h.ub x hx;omega
   . omega
 . rcases Int.le_total m (f b)with hl|hl
   . exact .inr ⟨b,(hS b).2 (.inr rfl),by omega⟩
   . rw[Int.max_eq_left hl]
     exact h.at_.imp_right fun⟨x,hx,e⟩=>⟨x,(hS x).2 (.inl hx),e⟩
theorem Br.iff{f:Nat->Int}{S S':Nat->Prop}{m:Int}(h:Br f S m)(hS:∀x,S' x↔S x):Br f S' m:=
 ⟨h.nn,fun b hb=>h.ub b ((hS b).1 hb),h.at_.imp_right fun⟨x,hx,e⟩=>⟨x,(hS x).2 hx,e⟩⟩
section
variable {E:Nat->List Nat} {n:Nat} {D L:Nat->Nat->Bool} {inn bk:Nat->Prop} {J:Nat->Nat} {C s s':Nat->Int} {h:Nat} {iv:Int}
structure NL(E:Nat->List Nat)(inn:Nat->Prop)(J:Nat->Nat)(h:Nat)(C s:Nat->Int):Prop where
 lst:RA E inn J h C s
 sm:∀b,inn b->s (J b)<=4294967295
def Ho(E:Nat->List Nat)(inn:Nat->Prop)(J:Nat->Nat)(h:Nat)(C:Nat->Int):Prop:=∀t,Pz E inn J h C t->∃b,inn b/\4294967295<t (J b)
theorem NL.not(p:NL E inn J h C s)(q:Ho E inn J h C):False:=by
 obtain⟨b,hb,hl⟩:=q s p.lst.clo;have:=p.sm b hb;omega
def PK(E:Nat->List Nat)(inn:Nat->Prop)(b:Nat):Prop:=inn b/\∃x∈E b,¬inn x
def JZ(E:Nat->List Nat)(inn bk:Nat->Prop)(J:Nat->Nat)(h:Nat)(C:Nat->Int)(iv:Int)(r:Option Int):Prop:=
 (r=none/\Ho E inn J h C)\/∃s ar ou,NL E inn J h C s/\Br (fun b=>s (J b)) bk ar/\Br (fun b=>s (J b)) (PK E inn) ou/\r=if 4294967295<iv*ar+ou then none else some (iv*ar+ou)
theorem JZ.one{r r':Option Int}(hb:∀b,bk b->inn b)(h1:JZ E inn bk J h C iv r)(h2:JZ E inn bk J h C iv r'):r=r':=by
 rcases h1 with⟨rfl,h1⟩|⟨s,ar,ou,p,m1,m2,e⟩
 . rcases h2 with⟨rfl,_⟩|⟨s',ar',ou',p',m1',m2',e'⟩
   . rfl
   . exact(p'.not h1).elim
 . rcases h2 with⟨rfl,h2⟩|⟨s',ar',ou',p',m1',m2',e'⟩
   . exact(p.not h2).elim
   . obtain rfl:=m1.one m1' fun b q=>p.lst.one p'.lst (hb b q)
     obtain rfl:=m2.one m2' fun b q=>p.lst.one p'.lst q.1
     rw[e,e']
def OD(E:Nat->List Nat)(n:Nat)(rt:Nat->Prop)(J:Nat->Nat)(C:Nat->Int)(r:Int):Prop:=
 (r=-1/\Ho E (fun b=>b<n) J 0 C)\/∃s,NL E (fun b=>b<n) J 0 C s/\Br (fun b=>s (J b)) (fun b=>b<n/\rt b) r
theorem OD.one{rt:Nat->Prop}{r r':Int}(h1:OD E n rt J C r)(h2:OD E n rt J C r'):r=r':=by
 rcases h1 with⟨rfl,h1⟩|⟨s,p,m⟩
 . rcases h2 with⟨rfl,_⟩|⟨s',p',m'⟩
   . rfl
   . exact(p'.not h1).elim
 . rcases h2 with⟨rfl,h2⟩|⟨s',p',m'⟩
   . exact(p.not h2).elim
   . exact m.one m' fun b q=>p.lst.one p'.lst q.1
inductive Ni (E:Nat->List Nat) (n:Nat) (D L:Nat->Nat->Bool) (iv:Nat->Int) (rt:Nat->Prop):List Nat->(Nat->Nat)->(Nat->Int)->Int->Prop
 |nil {J:Nat->Nat} {C:Nat->Int} {r:Int}:OD E n rt J C r->Ni E n D L iv rt [] J C r
 |bad {h:Nat} {hs:List Nat} {J:Nat->Nat} {C:Nat->Int}:JZ E (fun b=>L h b=true) (· ∈An E D n h) J h C (iv h) none->Ni E n D L iv rt (h::hs) J C (-1)
 |step {h:Nat} {hs:List Nat} {J:Nat->Nat} {C:Nat->Int} {v r:Int}:JZ E (fun b=>L h b=true) (· ∈An E D n h) J h C (iv h) (some v)->Ni E n D L iv rt hs (fun b=>if L h b then h else J b) (fun c=>if c=h then v else C c) r->Ni E n D L iv rt (h::hs) J C r
theorem Ni.one{iv:Nat->Int}{rt:Nat->Prop}(hb:∀h b,b∈An E D n h->L h b=true){hs:List Nat}{J:Nat->Nat}{C:Nat->Int}{r r':Int}(h1:Ni E n D L iv rt hs J C r)(h2:Ni E n D L iv rt hs J C r'):r=r':=by
 induction h1 with
 |nil h=>cases h2 with|nil h'=>exact h.one h'
 | bad h=>
   cases h2 with
   |bad _=>rfl
   |step h' _=>cases h.one (hb _) h'
 | step h _ ih=>
   cases h2 with
   |bad h'=>cases h.one (hb _) h'
   |step h' q=>cases h.one (hb _) h';exact ih q
end
theorem M3(xs:List MI)(x:MI)(e:Nat)(h1:DX x=true/\e+1<xs.length)(h2:¬AB x=true):AK xs x e=[]++[((e:Int)+1)]:=by
 unfold AK;rw[a8 h1,bF (fun q=>h2 q.1)];rfl
theorem M1(xs:List MI)(x:MI)(e:Nat)(h1:DX x=true/\e+1<xs.length)(h2:AB x=true)(h:x.c=((e+1:Nat):Int)):AK xs x e=[]++[((e:Int)+1)]:=by
 unfold AK;rw[a8 h1,bF (fun q=>q.2 ⟨h1.1,h1.2,h⟩)];rfl
theorem M2(xs:List MI)(x:MI)(e:Nat)(h1:DX x=true/\e+1<xs.length)(h2:AB x=true)(h:¬x.c=((e+1:Nat):Int)):AK xs x e=[]++[((e:Int)+1)]++[x.c]:=by
 unfold AK;rw[a8 h1,a8 ⟨h2,fun q=>h q.2.2⟩];rfl
theorem II(xs:List MI)(x:MI)(e:Nat)(h1:¬(DX x=true/\e+1<xs.length))(h2:AB x=true):AK xs x e=[]++[x.c]:=by
 unfold AK;rw[bF h1,a8 ⟨h2,fun q=>h1 ⟨q.1,q.2.1⟩⟩]
theorem IJ(xs:List MI)(x:MI)(e:Nat)(h1:¬(DX x=true/\e+1<xs.length))(h2:¬AB x=true):AK xs x e=[]:=by
 unfold AK;rw[bF h1,bF (fun q=>h2 q.1)];rfl
theorem IF(s:Value)(xs:List MI)(x:MI)(e:Nat)(w:World)(hn:xs.length<=1024)(hp:EG xs)(hx:xs[e]?=some x)(h:Rd w 4 s xs.length (xs.flatMap MI.cells)):
 Calls Tryz.prog 114 #[s,.int .i64 (e:Int)] w fun e1 w'=>∃r,e1=.returned r/\w'.ownsRow w.heap.size 2 1 r (AK xs x e).length ((AK xs x e).flatMap Ac)/\Below w.heap.size w w':=by
 obtain⟨k0,hk,hx0,hx1,hx2⟩:=bQ BE;have hen:e<xs.length:=(aD.1 hx).1;have HX:Hid (xs[e]?=some x):=hx;have HG:Hid (EG xs):=hp;rcases h.2 with⟨e0,_⟩|⟨g,o,c,rfl,hc1⟩
 . omega
 have HC:Hid (∀j v,(xs.flatMap MI.cells)[j]?=some v->w.cell? ⟨g,o+j,none⟩=some v):=hc1;clear h hc1 hp hx;generalize hLL:xs.length=n at hn hen;have HL:Hid (xs.length=n):=hLL;clear hLL;have hel:(e:Int)<(n:Int):=by omega
 have HU0:Hid (NP w w (.slice none 0 0) []):=⟨aX _ _,bL _ _ _ _⟩;obtain⟨x0,x1,x2,x3⟩:=MI.at4 (n:=0) HC.o HX.o (aX w.heap.size w);go_enter Tryz.func114,Tryz.ntmps114;go_wp2_with fail
 refine(Il x _).mono ?_;rintro e1 u1 ⟨rfl,b1⟩;have HU1:Hid (NP w u1 (.slice none 0 0) []):=HU0.o.keep b1;clear b1 x0 x1 x2 x3 HU0;cases hon:DX x
 . have h1:¬(DX x=true/\e+1<xs.length):=fun q=>by rw[hon]at q;exact absurd q.1 cU
   obtain⟨x0,x1,x2,x3⟩:=MI.at4 (n:=0) HC.o HX.o HU1.o.bel;go_wp2_with fail
   refine(Bp x _).mono ?_;rintro e4 u4 ⟨rfl,b4⟩;have HU4:Hid (NP w u4 (.slice none 0 0) []):=HU1.o.keep b4;clear b4;clear x0 x1 x2 x3;cases hgo:AB x
   . go_wp2
     go_ret
     exact⟨_,rfl,by rw[IJ xs x e h1 (by rw[hgo];exact cU)];exact HU4.o.row,HU4.o.bel⟩
   . obtain⟨hc0,hc1⟩:=HG.o e x HX.o hgo
     go_wp2_with fail
     refine(DU none 0 x.c _).mono ?_;rintro e5 u5 ⟨rfl,hu⟩;have hu2:=hu.symm;clear hu;subst hu2;go_wp2_with (at_builtin;refine wpList_append_lies _ rfl _ _ 28 rfl w.heap.size 2 k0 (.int .i64 0) 1 8 Tryz.underlying28 hk hx0 hx1 hx2 rfl (by decide) _ ([]:List Int).length (([]:List Int).flatMap Ac) rfl (HU4.o.keep (Aa _ (.cells #[.int .i64 (x.c)] 2))).row ⟨u4.heap.size,0,none⟩ 1 1 [.int .i64 (x.c)] rfl rfl (A5 u4 (x.c)) (fun u hu=>by simp at hu;subst hu;rfl) (by omega) (by simp[maxLen]) (by simp) (HU4.o.keep (Aa _ (.cells #[.int .i64 (x.c)] 2))).bel.size _ rfl ?_;intro g3 cap3 w3 hown hgrow hat hlt3;have HU5:Hid (NP w w3 (.slice (some ⟨g3,0,none⟩) (0+1) cap3) ([]++[x.c])):=HU4.o.app hown rfl hgrow;clear hown hgrow hat hlt3);go_wp2;go_ret;exact⟨_,rfl,by rw[II xs x e h1 hgo];exact HU5.o.row,HU5.o.bel⟩
 . go_wp2_with fail
   refine(JF ((e:Int)+1) n _ (by omega)).mono ?_;rintro e2 u2 ⟨rfl,hu⟩;have hu2:=hu.symm;clear hu;subst hu2;by_cases hb:e+1<n
   . have h1:DX x=true/\e+1<xs.length:=⟨hon,by rw[HL.o];exact hb⟩
     rw[show decide (0<=(e:Int)+1/\(e:Int)+1<(n:Int))=true from by simp;omega]
     obtain⟨x0,x1,x2,x3⟩:=MI.at4 (n:=0) HC.o HX.o HU1.o.bel;go_wp2_with (at_builtin;refine wpList_append_lies _ rfl _ _ 28 rfl w.heap.size 2 k0 (.int .i64 0) 1 8 Tryz.underlying28 hk hx0 hx1 hx2 rfl (by decide) _ ([]:List Int).length (([]:List Int).flatMap Ac) rfl (HU1.o.keep (Aa _ (.cells #[.int .i64 ((e:Int)+1)] 2))).row ⟨u1.heap.size,0,none⟩ 1 1 [.int .i64 ((e:Int)+1)] rfl rfl (A5 u1 ((e:Int)+1)) (fun u hu=>by simp at hu;subst hu;rfl) (by omega) (by simp[maxLen]) (by simp) (HU1.o.keep (Aa _ (.cells #[.int .i64 ((e:Int)+1)] 2))).bel.size _ rfl ?_;intro g3 cap3 w3 hown hgrow hat hlt3;have HU3:Hid (NP w w3 (.slice (some ⟨g3,0,none⟩) (0+1) cap3) ([]++[(e:Int)+1])):=HU1.o.app hown rfl hgrow;clear hown hgrow hat hlt3;obtain⟨x0,x1,x2,x3⟩:=MI.at4 (n:=0) HC.o HX.o HU3.o.bel);go_wp2_with fail;refine(Bp x _).mono ?_;rintro e4 u4 ⟨rfl,b4⟩;have HU4:Hid (NP w u4 (.slice (some ⟨g3,0,none⟩) (0+1) cap3) ([]++[((e:Int)+1)])):=HU3.o.keep b4;clear b4;clear x0 x1 x2 x3;cases hgo:AB x
     . go_wp2
       go_ret
       exact⟨_,rfl,by rw[M3 xs x e h1 (by rw[hgo];exact cU)];exact HU4.o.row,HU4.o.bel⟩
     . obtain⟨hc0,hc1⟩:=HG.o e x HX.o hgo
       have f5:=HU4.o.row.cellAt 0 (by simp);simp only[dY,bT,Ac,cA,aM]at f5;go_wp2_with fail
       refine(J9 g3 cap3 ((e:Int)+1) x.c _ f5).mono ?_;rintro e5 u5 ⟨rfl,hu⟩;have hu2:=hu.symm;clear hu;subst hu2;by_cases heq:x.c=(e:Int)+1
       . rw[show decide (x.c=(e:Int)+1)=true from by simpa using heq]
         go_wp2
         go_ret
         exact⟨_,rfl,by rw[M1 xs x e h1 hgo (by rw[heq];push_cast;rfl)];exact HU4.o.row,HU4.o.bel⟩
       . rw[show decide (x.c=(e:Int)+1)=false from by simpa using heq]
         go_wp2_with (at_builtin;refine wpList_append_lies _ rfl _ _ 28 rfl w.heap.size 2 k0 (.int .i64 0) 1 8 Tryz.underlying28 hk hx0 hx1 hx2 rfl (by decide) _ (([]++[((e:Int)+1)]):List Int).length ((([]++[((e:Int)+1)]):List Int).flatMap Ac) rfl (HU4.o.keep (Aa _ (.cells #[.int .i64 (x.c)] 2))).row ⟨u4.heap.size,0,none⟩ 1 1 [.int .i64 (x.c)] rfl rfl (A5 u4 (x.c)) (fun u hu=>by simp at hu;subst hu;rfl) (by omega) (by simp[maxLen]) (by simp) (HU4.o.keep (Aa _ (.cells #[.int .i64 (x.c)] 2))).bel.size _ rfl ?_;intro g5 cap5 w5 hown hgrow hat hlt3;have HU5:Hid (NP w w5 (.slice (some ⟨g5,0,none⟩) ((([]++[((e:Int)+1)]):List Int).length+1) cap5) (([]++[((e:Int)+1)])++[x.c])):=HU4.o.app hown rfl hgrow;clear hown hgrow hat hlt3)
         go_wp2
         go_ret
         exact⟨_,rfl,by rw[M2 xs x e h1 hgo (fun q=>heq (by rw[q];push_cast;rfl))];exact HU5.o.row,HU5.o.bel⟩
   . have h1:¬(DX x=true/\e+1<xs.length):=fun q=>hb (by rw[<-HL.o];exact q.2)
     rw[show decide (0<=(e:Int)+1/\(e:Int)+1<(n:Int))=false from by simp;omega]
     obtain⟨x0,x1,x2,x3⟩:=MI.at4 (n:=0) HC.o HX.o HU1.o.bel;go_wp2_with fail
     refine(Bp x _).mono ?_;rintro e4 u4 ⟨rfl,b4⟩;have HU4:Hid (NP w u4 (.slice none 0 0) []):=HU1.o.keep b4;clear b4;clear x0 x1 x2 x3;cases hgo:AB x
     . go_wp2
       go_ret
       exact⟨_,rfl,by rw[IJ xs x e h1 (by rw[hgo];exact cU)];exact HU4.o.row,HU4.o.bel⟩
     . obtain⟨hc0,hc1⟩:=HG.o e x HX.o hgo
       go_wp2_with fail
       refine(DU none 0 x.c _).mono ?_;rintro e5 u5 ⟨rfl,hu⟩;have hu2:=hu.symm;clear hu;subst hu2;go_wp2_with (at_builtin;refine wpList_append_lies _ rfl _ _ 28 rfl w.heap.size 2 k0 (.int .i64 0) 1 8 Tryz.underlying28 hk hx0 hx1 hx2 rfl (by decide) _ ([]:List Int).length (([]:List Int).flatMap Ac) rfl (HU4.o.keep (Aa _ (.cells #[.int .i64 (x.c)] 2))).row ⟨u4.heap.size,0,none⟩ 1 1 [.int .i64 (x.c)] rfl rfl (A5 u4 (x.c)) (fun u hu=>by simp at hu;subst hu;rfl) (by omega) (by simp[maxLen]) (by simp) (HU4.o.keep (Aa _ (.cells #[.int .i64 (x.c)] 2))).bel.size _ rfl ?_;intro g3 cap3 w3 hown hgrow hat hlt3;have HU5:Hid (NP w w3 (.slice (some ⟨g3,0,none⟩) (0+1) cap3) ([]++[x.c])):=HU4.o.app hown rfl hgrow;clear hown hgrow hat hlt3);go_wp2;go_ret;exact⟨_,rfl,by rw[II xs x e h1 hgo];exact HU5.o.row,HU5.o.bel⟩
theorem EZ{S S':List Nat}(n:Nat)(h:∀x∈S,x∈S'):Az S' n<=Az S n:=by
 unfold Az;rw[<-List.countP_eq_length_filter,<-List.countP_eq_length_filter];apply List.countP_mono_left;intro x _ hx;simp only[Bool.not_eq_true',List.contains_eq_mem,dy]at hx⊢;exact fun q=>hx (h x q)
theorem Vs.more{E:Nat->List Nat}{S O r S' O':List Nat}(h:Vs E S O r S' O'):∀x∈S,x∈S':=by
 obtain⟨N,t⟩:=h.told;exact fun x hx=>(t.seen x).2 (.inl hx)
theorem MJ(g o c n gs:Nat)(E:Nat->List Nat)(w:World)(hn:n<=1048576)(hE:∀b,b<n->∀x∈E b,x<n)(hsz:∀b,(E b).length<=2)(h:D6 w g o n E):
 ∀(m:Nat) (S O:List Nat) (b:Nat) (V:Value) (u:World),Az S n=m->b<n->b∉S->O.length+Az S n<=n->SN w u n gs V (fun x=>S.contains x) O->
 Calls Tryz.prog 43 #[.slice (some ⟨g,o,none⟩) n c,.int .i64 (b:Int),.slice (some ⟨gs,0,none⟩) n n,V] u fun e u'=>∃V' S' O',e=.returned V'/\Vs E (b::S) O (E b) S' O'/\SN w u' n gs V' (fun x=>S'.contains x) (O'++[b])/\(O'++[b]).length+Az S' n<=O.length+Az S n:=by
 obtain⟨k0,hk,hx0,hx1,hx2⟩:=bQ BE;have H:Hid (D6 w g o n E/\(∀b,b<n->∀x∈E b,x<n)/\(∀b,(E b).length<=2)):=⟨h,hE,hsz⟩
 clear h hE hsz;intro m;induction m using Nat.strongRecOn with
 | ind m ih=>
   intro S O b V u hm hb hbS hlen hsn
   have IH:Hid (∀m',m'<m->∀(S O:List Nat) (b:Nat) (V:Value) (u:World),Az S n=m'->b<n->b∉S->O.length+Az S n<=n->SN w u n gs V (fun x=>S.contains x) O->
    Calls Tryz.prog 43 #[.slice (some ⟨g,o,none⟩) n c,.int .i64 (b:Int),.slice (some ⟨gs,0,none⟩) n n,V] u fun e u'=>∃V' S' O',e=.returned V'/\Vs E (b::S) O (E b) S' O'/\SN w u' n gs V' (fun x=>S'.contains x) (O'++[b])/\(O'++[b]).length+Az S' n<=O.length+Az S n):=ih
   have hu1:=C7 S n b hb hbS;have HU1:Hid (Az (b::S) n+1=Az S n/\Az S n=m/\O.length+Az S n<=n):=⟨hu1,hm,hlen⟩
   obtain⟨aV,cV,rfl⟩:=Ax hsn.list;have hbI:(b:Int)<(n:Int):=by omega
   have d0:=hsn.seen.cell hb;have z0:=hsn.seen.frozen b
   have HS0:Hid (SN w (u.setCell ⟨gs,b,none⟩ (.bool true)) n gs (.slice aV O.length cV) (fun x=>(b::S).contains x) O):=hsn.mark b true fun j hj=>by
    by_cases e:j=b
    . subst e;simp
    . simp[e]
   obtain⟨a,ca,g0,g1⟩:=H.o.1 b hb;have HG:Hid (w.cell? ⟨g,o+b*3+2,none⟩=some (.slice a (E b).length ca)/\DR w (.slice a (E b).length ca) (E b)):=⟨g0,g1⟩
   have hE2:=H.o.2.2 b;clear ih hsn g0 g1 hu1 hm hlen;go_enter Tryz.func43,Tryz.ntmps43;go_wp2
   go_loopw [3,9] (fun V i wr=>∃(S' O':List Nat) (k:Nat) (aV:Option Addr) (cV:Nat),V=.slice aV O'.length cV/\i=.int .i64 k/\k<=(E b).length/\O'.length+1<=n/\Hid (Vs E (b::S) O ((E b).take k) S' O'/\SN w wr n gs V (fun x=>S'.contains x) O'/\O'.length+Az S' n+1<=O.length+Az S n)) (fun _ i _=>2-(intOf i).toNat)
   case atStart=>exact⟨b::S,O,0,aV,cV,rfl,rfl,by omega,by have:=HU1.o;omega,by simpa using Vs.nil (b::S) O,HS0.o,by have:=HU1.o;omega⟩
   case round=>
    clear HS0 d0 z0;obtain⟨S',O',k,aV,cV,rfl,rfl,hkE,hO,HL⟩:=hrel;have g0:=Ad HL.o.2.1.bel HG.o.1;by_cases hlt:k<(E b).length
    . have hltI:(k:Int)<((E b).length:Int):=by omega
      obtain⟨y,hy⟩:∃y,(E b)[k]?=some y:=⟨_,aA hlt⟩;have hyn:y<n:=H.o.2.1 b hb y (aE hy);have hynI:(y:Int)<(n:Int):=by omega
      have HY:Hid ((E b)[k]?=some y):=hy;obtain⟨ga,oa,rfl,_,y0⟩:=HG.o.2.at_ hy;replace y0:=Ad HL.o.2.1.bel y0
      have s0:=HL.o.2.1.seen.cell hyn
      have HT:Hid ((E b).take (k+1)=(E b).take k++[y]):=by
       obtain⟨hl,rfl⟩:=aD.1 hy;exact ah hl
      clear hy;cases hc:S'.contains y
      . simp only[hc]at s0
        have hyS:y∉S':=by simpa using hc
        have hmo:=HL.o.1.more;have hun:=EZ n hmo;have HC:Hid (Calls Tryz.prog 43 #[.slice (some ⟨g,o,none⟩) n c,.int .i64 (y:Int),.slice (some ⟨gs,0,none⟩) n n,.slice aV O'.length cV] wr fun e u'=>∃V' S'' O'',e=.returned V'/\Vs E (y::S') O' (E y) S'' O''/\SN w u' n gs V' (fun x=>S''.contains x) (O''++[y])/\(O''++[y]).length+Az S'' n<=O'.length+Az S' n):=IH.o (Az S' n) (by have:=HU1.o;omega) S' O' y _ wr rfl hyn hyS (by have:=HL.o.2.2;have:=HU1.o;omega) HL.o.2.1
        clear hmo hun;go_wp2_with fail
        refine HC.o.mono ?_;rintro e u2 ⟨V2,S2,O2,rfl,hv2,hs2,hl2⟩;obtain⟨a2,c2,rfl⟩:=Ax hs2.list
        have HN:Hid (Vs E (b::S) O ((E b).take (k+1)) S2 (O2++[y])/\SN w u2 n gs (.slice a2 (O2++[y]).length c2) (fun x=>S2.contains x) (O2++[y])/\(O2++[y]).length+Az S2 n+1<=O.length+Az S n):=by
         refine⟨?_,hs2,by have:=HL.o.2.2;omega⟩;rw[HT.o];exact HL.o.1.app (.new hyS hv2 (.nil _ _))
        have hO2:(O2++[y]).length+1<=n:=by have:=HN.o.2.2;have:=HU1.o;omega
        clear hv2 hs2 hl2 s0 y0 g0;go_wp2
        go_roundw
        case rel=>exact⟨S2,O2++[y],k+1,a2,c2,by rw[aH,aI],by go_num,by omega,hO2,HN.o.1,by have:=HN.o.2.1;rw[aH,aI]at this;exact this,HN.o.2.2⟩
        case measure=>simp[intOf];omega
      . simp only[hc]at s0
        have HN:Hid (Vs E (b::S) O ((E b).take (k+1)) S' O'):=by
         show Vs E (b::S) O ((E b).take (k+1)) S' O';rw[HT.o];exact HL.o.1.app (.old (by simpa using hc) (.nil _ _))
        go_wp2
        go_roundw
        case rel=>exact⟨S',O',k+1,aV,cV,rfl,by go_num,by omega,hO,HN.o,HL.o.2.1,HL.o.2.2⟩
        case measure=>simp[intOf];omega
    . obtain rfl:k=(E b).length:=by omega
      have hO3:=HU1.o;have hO4:=HL.o.2.2;go_upto_region 7 with fail
      refine Al (fun u=>Hid (SN w u n gs (.slice aV O'.length cV) (fun x=>S'.contains x) O')) HL.o.2.1 ?_;intro U HU;clear g0;go_wp2_with (at_builtin;refine wpList_append_lies _ rfl _ _ 28 rfl w.heap.size 2 k0 (.int .i64 0) 1 8 Tryz.underlying28 hk hx0 hx1 hx2 rfl (by decide) _ O'.length (nv O') rfl (HU.o.al (.cells #[.int .i64 (b:Int)] 2)).1 ⟨U.heap.size,0,none⟩ 1 1 [.int .i64 (b:Int)] rfl rfl (A5 U (b:Int)) (fun u hu=>by simp at hu;subst hu;rfl) (by omega) (by simp[maxLen];omega) (by omega) (HU.o.al (.cells #[.int .i64 (b:Int)] 2)).2 _ rfl ?_;intro g5 cap5 w5 hown hgrow hat hlt3;have HU5:Hid (SN w w5 n gs (.slice (some ⟨g5,0,none⟩) (O'.length+1) cap5) (fun x=>S'.contains x) (O'++[b])):=HU.o.app hown hgrow;clear hown hgrow hat hlt3);go_ret;refine⟨_,S',O',rfl,?_,HU5.o,by rw[aH,aI];omega⟩;have:=HL.o.1;rw[an lR]at this;exact this
def jf(I:List Nat)(b:Nat):Nat:=I.getD b 0
def cf(C:List Int)(c:Nat):Int:=C.getD c 0
def Da(P:Nat->Bool)(n b:Nat):Prop:=b<n/\P b=true
theorem Ir{I:List Nat}{b t:Nat}(h:I[b]?=some t):jf I b=t:=by unfold jf;rw[aJ,h];rfl
theorem DI{C:List Int}{b:Nat}{t:Int}(h:C[b]?=some t):cf C b=t:=by unfold cf;rw[aJ,h];rfl
theorem CE{C:List Int}{k b:Nat}{c y:Int}(h:C[k]?=some y):cf (C.set k c) b=if b=k then c else cf C b:=by
 have hk:=(aD.1 h).1;unfold cf;rw[aJ,aJ,List.getElem?_set];by_cases e:b=k
 . subst e;simp[hk]
 . rw[bF (Ne.symm e),bF e]
structure WI(E:Nat->List Nat)(n:Nat)(P:Nat->Bool)(I:List Nat)(C:List Int)(f:Nat)(bd0 bd:Bool)(L:List Int):Prop where
 hd:cf L f=cf C f
 le:∀t,Pz E (Da P n) (jf I) f (cf C) t->(∀b,Da P n b->0<=t (jf I b))->∀b,Da P n b->cf L (jf I b)<=t (jf I b)
 bad:bd=true->bd0=true\/∀t,Pz E (Da P n) (jf I) f (cf C) t->(∀b,Da P n b->0<=t (jf I b))->∃b,Da P n b/\4294967295<t (jf I b)
 mono:bd0=true->bd=true
def Rb(P:Nat->Bool)(I:List Nat)(C:List Int)(f:Nat)(L:List Int)(b x:Nat):Prop:=P b=true->P x=true->jf I x≠jf I b->jf I x≠f->0<=cf L (jf I b)->cf L (jf I b)+cf C (jf I x)<=cf L (jf I x)
def Ry(E:Nat->List Nat)(n:Nat)(P:Nat->Bool)(I:List Nat)(C:List Int)(f:Nat)(L:List Int):Prop:=∀b,b<n->∀x∈E b,Rb P I C f L b x
def OL(E:Nat->List Nat)(O:List Nat)(P:Nat->Bool)(I:List Nat)(C:List Int)(f:Nat)(L0 L:List Int)(ag bd:Bool)(m:Nat):Prop:=ag=false->bd=false->L=L0/\∀j b,j<m->O[j]?=some b->∀x∈E b,Rb P I C f L0 b x
def Rg(eb:List Nat)(P:Nat->Bool)(I:List Nat)(C:List Int)(f:Nat)(L0:List Int)(ag bd:Bool)(b q:Nat):Prop:=ag=false->bd=false->∀j x,j<q->eb[j]?=some x->Rb P I C f L0 b x
section
variable {E:Nat->List Nat} {n:Nat} {P:Nat->Bool} {I:List Nat} {C:List Int} {f:Nat} {bd0 bd:Bool} {L L0:List Int} {O eb:List Nat} {ag:Bool} {m b q x:Nat}
theorem WI.start(hl:∀y∈L,y=-1)(hf:L[f]?=some (-1)){y:Int}(hy:cf C f=y)(hJ:∀b,Da P n b->jf I b=f->b=f)(hff:jf I f=f):WI E n P I C f bd bd (L.set f y):=by
 refine⟨by rw[CE hf,a8 rfl,hy],fun t ht hn b hb=> ?_,fun h=>.inl h,fun h=>h⟩;rw[CE hf];by_cases e:jf I b=f
 . rw[a8 e,e,ht.hd,hy];exact Int.le_refl _
 . rw[bF e]
   have h1:=hn b hb
   have h2:cf L (jf I b)=-1\/cf L (jf I b)=0:=by
    unfold cf;rw[aJ];cases h3:L[jf I b]? with
    |none=>exact .inr rfl
    |some z=>exact .inl (hl z (aE h3))
   omega
theorem WI.over(h:WI E n P I C f bd0 bd L)(hb:Da P n b)(hx:Da P n x)(he:x∈E b)(h1:jf I x≠jf I b)(h2:jf I x≠f)(h3:0<=cf L (jf I b)){yo:Int}(hyo:L[jf I x]?=some yo)(hs:cf L (jf I b)+cf C (jf I x)<=4294967295)(hgt:yo<cf L (jf I b)+cf C (jf I x)):WI E n P I C f bd0 bd (L.set (jf I x) (cf L (jf I b)+cf C (jf I x))):=by
 refine⟨by rw[CE hyo,bF (Ne.symm h2)];exact h.hd,fun t ht hn b' hb'=> ?_,h.bad,h.mono⟩;rw[CE hyo];by_cases e:jf I b'=jf I x
 . rw[a8 e,e]
   have:=h.le t ht hn b hb;have:=ht.ed b x hb he hx h1 h2;omega
 . rw[bF e];exact h.le t ht hn b' hb'
theorem WI.zero(h:WI E n P I C f bd0 bd L)(h2:jf I x≠f){yo:Int}(hyo:L[jf I x]?=some yo):WI E n P I C f bd0 bd (L.set (jf I x) 0):=by
 refine⟨by rw[CE hyo,bF (Ne.symm h2)];exact h.hd,fun t ht hn b' hb'=> ?_,h.bad,h.mono⟩;rw[CE hyo];by_cases e:jf I b'=jf I x
 . rw[a8 e];exact hn b' hb'
 . rw[bF e];exact h.le t ht hn b' hb'
theorem WI.bad_(h:WI E n P I C f bd0 bd L)(hb:Da P n b)(hx:Da P n x)(he:x∈E b)(h1:jf I x≠jf I b)(h2:jf I x≠f)(hs:4294967295<cf L (jf I b)+cf C (jf I x)):WI E n P I C f bd0 true L:=
 ⟨h.hd,h.le,fun _=>.inr fun t ht hn=>⟨x,hx,by have:=h.le t ht hn b hb;have:=ht.ed b x hb he hx h1 h2;omega⟩,fun _=>rfl⟩
theorem WI.pass{pl:Nat->Nat}{D:Nat->Nat->Bool}{Dn:Nat->Prop}(g:EF E n pl D)(r:NN E n D Dn (jf I) (Da P n) f)(hC:∀c,0<=cf C c)(h:WI E n P I C f bd0 bd L)(hc:Ry E n P I C f L)(hl:∀c,cf L c<=4294967295):NL E (Da P n) (jf I) f (cf C) (cf L):=by
 have hn:∀b,Da P n b->0<=cf L (jf I b):=by
  intro b hb;suffices ∀m b,pl b<=m->Da P n b->0<=cf L (jf I b)from this _ b lR hb
  intro m;induction m with
  | zero=>
    intro b h1 h2;by_cases e:b=f
    . rw[e,r.jh,h.hd];exact hC _
    . have h0:b≠0:=fun q=>by subst q;exact e (r.z h2).symm
      have:=g.P.first b (r.lt b h2) h0;omega
  | succ m ih=>
    intro b h1 h2;by_cases e:b=f
    . rw[e,r.jh,h.hd];exact hC _
    . have h0:b≠0:=fun q=>by subst q;exact e (r.z h2).symm
      obtain⟨q,q1,q2,q3⟩:=g.P.par b (r.lt b h2) h0;have hq:=r.pr b h2 e q q1 q2;have i1:=ih q (by omega) hq;by_cases e1:jf I b=jf I q
      . rw[e1];exact i1
      . by_cases e2:jf I b=f
        . exact absurd (r.jo b h2 e2) e
        . have i2:=hc q q1 b q2 hq.2 h2.2 e1 e2 i1
          have:=hC (jf I b);omega
 refine⟨⟨⟨h.hd,fun b x hb he hx h1 h2=>hc b hb.1 x he hb.2 hx.2 h1 h2 (hn b hb)⟩,fun t ht b hb=>h.le t ht (fun b hb=>ht.nonneg g r hC hb) b hb⟩,fun b hb=>hl _⟩
theorem WI.noPass{pl:Nat->Nat}{D:Nat->Nat->Bool}{Dn:Nat->Prop}(g:EF E n pl D)(r:NN E n D Dn (jf I) (Da P n) f)(hC:∀c,0<=cf C c)(h:WI E n P I C f false true L):Ho E (Da P n) (jf I) f (cf C):=fun t ht=>
 (h.bad rfl).elim (fun e=>by cases e) fun k=>k t ht fun b hb=>ht.nonneg g r hC hb
end
def Og(xs:List MI)(m:MB):MB:=⟨m.first,m.last,AK xs (xs.getD m.last.toNat ⟨0,0,0,0⟩) m.last.toNat⟩
def GG(xs:List MI):List MB:=(AX xs xs.length).map (Og xs)
theorem EU(xs:List MI):(GG xs).length=(BQ xs xs.length).length:=by unfold GG;rw[a7,Bd]
theorem KY(L:List Nat)(n b a q:Nat)(ha:L[b]?=some a)(hq:(L++[n])[b+1]?=some q):(build L n)[b]?=some ⟨(a:Int),(q:Int)-1,[]⟩:=by
 unfold build;rw[dp,ha]
 have e:(L.tail++[n])[b]?=some q:=by
  cases L with
  |nil=>simp at ha
  |cons y r=>simpa using hq
 rw[e]
def z3:List Value:=[.int .i64 0,.int .i64 0,.slice none 0 0]
structure IW(w u:World)(xs:List MI)(gl cl bl j:Nat)(D:List (MB×Value)):Prop where
 row:u.ownsRow w.heap.size 58 3 (.slice (some ⟨bl,0,none⟩) (BQ xs xs.length).length (BQ xs xs.length).length) (BQ xs xs.length).length ((List.replicate j z3).flatten++D.flatMap A9)
 fam:Cc u w.heap.size ((.slice (some ⟨gl,0,none⟩) (BQ xs xs.length).length cl,(BQ xs xs.length).map Int.ofNat)::Cw D)
 done:D.map Prod.fst=(GG xs).drop j
 bel:Below w.heap.size w u
theorem IW.lead{w u:World}{xs:List MI}{gl cl bl j:Nat}{D:List (MB×Value)}(h:IW w u xs gl cl bl j D):u.ownsRow w.heap.size 2 1 (.slice (some ⟨gl,0,none⟩) (BQ xs xs.length).length cl) (BQ xs xs.length).length (((BQ xs xs.length).map Int.ofNat).flatMap Ac):=by
 have:=h.fam.own _ (bR);simpa using this
theorem Cc.keep{u u':World}{B:Nat}{L:List (Value×List Int)}(h:Cc u B L)(hb:Below u.heap.size u u'):Cc u' B L:=⟨fun r hr=>Ag (h.own r hr) hb lR,h.sep⟩
theorem Cc.add{u u':World}{B:Nat}{y:Value×List Int}{L:List (Value×List Int)}{b:Value}{cb:List Int}(h:Cc u B (y::L))(hb:Below u.heap.size u u')(hn:u'.ownsRow u.heap.size 2 1 b cb.length (cb.flatMap Ac))(hB:B<=u.heap.size):Cc u' B (y::(b,cb)::L):=by
 have hap:∀r∈y::L,FN (b,cb) r:=by
  intro r hr g hg e;have h1:=hn.lt g hg;have h2:=(h.own r hr).lt g e;omega
 obtain⟨p1,p2⟩:=bS.1 h.sep;refine⟨?_,bS.2 ⟨?_,bS.2 ⟨fun r hr=>hap r (by simp[hr]),p2⟩⟩⟩
 . intro r hr
   simp only[aa]at hr;rcases hr with rfl|rfl|hr
   . exact Ag (h.own _ (by simp)) hb lR
   . exact AF hn hB
   . exact Ag (h.own r (by simp[hr])) hb lR
 . intro r hr
   simp only[aa]at hr;rcases hr with rfl|hr
   . exact(hap y (by simp)).symm
   . exact p1 r hr
theorem Cc.setB{w:World}{base g:Nat}{L:List (Value×List Int)}{B' k n c:Nat}{xs:List Value}(h:Cc w base L)(ho:w.ownsRow B' 58 k (.slice (some ⟨g,0,none⟩) n c) n xs)(i:Nat)(x:Value):Cc (w.setCell ⟨g,i,none⟩ x) base L:=
 ⟨fun y hy=>Bb (h.own y hy) ho (by decide) i x,h.sep⟩
theorem Qe(A R:List Value)(y0 y1 y2 c0 c1 c2:Value)(i:Nat)(h:A.length=i):(((A++([y0,y1,y2]++R)).set i c0).set (i+1) c1).set (i+2) c2=A++([c0,c1,c2]++R):=by
 subst h;simp[List.set_append_right]
theorem L3(b:Nat)(R:List Value):(List.replicate (b+1) z3).flatten++R=(List.replicate b z3).flatten++(z3++R):=by
 rw[List.replicate_succ'];simp
theorem Nc(b:Nat):(List.replicate b z3).flatten.length=b*3:=by
 rw[List.length_flatten];simp[z3]
theorem IW.next{w wr u:World}{xs:List MI}{gl cl bl b a q e:Nat}{D:List (MB×Value)}{x:MI}{ar:Option Addr}{cr:Nat}(h:IW w wr xs gl cl bl (b+1) D)(hb:Below wr.heap.size wr u)(hr:u.ownsRow wr.heap.size 2 1 (.slice ar (AK xs x e).length cr) (AK xs x e).length ((AK xs x e).flatMap Ac))(ha:(BQ xs xs.length)[b]?=some a)(hq:(BQ xs xs.length++[xs.length])[b+1]?=some q)(he:(q:Int)-1=(e:Int))(hx:xs[e]?=some x):
 IW w (((u.setCell ⟨bl,b*3,none⟩ (.int .i64 a)).setCell ⟨bl,b*3+1,none⟩ (.int .i64 e)).setCell ⟨bl,b*3+2,none⟩ (.slice ar (AK xs x e).length cr)) xs gl cl bl b ((⟨(a:Int),(e:Int),AK xs x e⟩,.slice ar (AK xs x e).length cr)::D):=by
 have r0:=Ag h.row hb lR;have r1:=(r0.stored (b*3) (.int .i64 a)).1;have r2:=(r1.stored (b*3+1) (.int .i64 e)).1;have r3:=(r2.stored (b*3+2) (.slice ar (AK xs x e).length cr)).1;rw[L3,show z3++D.flatMap A9=[Value.int .i64 0,.int .i64 0,.slice none 0 0]++D.flatMap A9 from rfl,Qe _ _ _ _ _ _ _ _ _ (Nc b)]at r3;have hbl:=(Am r0).1;have hm:=KY _ _ _ _ _ ha hq;refine⟨?_,?_,?_,(((Ab h.bel lR hb).setCell hbl _).setCell hbl _).setCell hbl _⟩
 . rw[bT]
   exact r3
 . have f0:=Cc.add h.fam hb hr h.bel.size
   exact((f0.setB r0 _ _).setB r1 _ _).setB r2 _ _
 . have hlt:b<(GG xs).length:=by rw[EU];exact(aD.1 ha).1
   rw[cZ,h.done,cE hlt];congr 1
   have e1:(GG xs)[b]?=some (Og xs ⟨(a:Int),(q:Int)-1,[]⟩):=by
    unfold GG;rw[bB,BP,hm];rfl
   have e2:=(aD.1 e1).2;rw[e2];unfold Og;rw[he,aG,aJ,hx];rfl
end Go.Proofs.YtdipfjmlfbdkdaaGreat
