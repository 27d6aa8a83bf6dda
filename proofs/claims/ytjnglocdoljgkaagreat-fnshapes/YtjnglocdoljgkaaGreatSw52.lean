import Derived.Test.YtjnglocdoljgkaaGreatSw51
namespace Go.Proofs.YtjnglocdoljgkaaGreat
open Go.ChangeShapes Go.WideShapes Go.ChangeAt Go.RowKit
set_option linter.unusedVariables false
open Go.Value renaming slice → Z,int → Ac
open Option renaming some → K,none → M
open Go renaming World → Y,Calls → Ae
open Go.RowKit renaming Hid → Aa
open Go.IntKind renaming i64 → Ab
set_option maxHeartbeats 4000000
set_option maxRecDepth 100000
structure Mb(u U:Y)(s:Ci)(p:Int)(RB X:Nat)(n:Nat)(v:VP)(x:MP):Prop where
 bl:Bs u U s p [gb RB vN,gb X v]
 ex:∃b t,Cb b t U v x/\(X<b\/t<=X)/\RB<b/\ ↑u<=b/\t<= ↑U
 pb:PB n x
section
variable {u U U':Y} {s:Ci} {p p':Int} {RB X n:Nat} {v v':VP} {x x':MP}
theorem Mb.draw(h:Mb u U s p RB X n v x)(j:DE U' s.S s.a s.len s.cap p')(e:AM s.S U U'):Mb u U' s p' RB X n v x:=by obtain⟨b,t,h1,h2,g,i,f⟩:=h.ex;exact⟨h.bl.draw j e,⟨b,t,h1.draw e (by have:=h.bl.gG.lo;omega) f,h2,g,i,kT f e.size⟩,h.pb⟩
theorem Mb.rd(h:Mb u U s p RB X n v x):UR s U v x:=by obtain⟨b,t,⟨F,G,e,f,g⟩,h2,j,l,m⟩:=h.ex;exact⟨F,G,e,f, λi a=>g i λk q r=>a.block k oM (by have:=h.bl.gG.lo;omega)⟩
theorem Mb.new(h:Bs u U s p [gb RB vN]){b:Nat}(i:Cb b U U v x)(a:RB<b)(e: ↑u<=b)(g:PB n x):Mb u (U.alloc (.cells #[v.r,v.k,v.f,v.t] 28)) s p RB U n v x:=⟨h.box 28 4 [v.r,v.k,v.f,v.t] rfl,⟨b,U,i.below (Ag _ _) lR,.inr lR,a,e,(Ag _ _).size⟩,g⟩
theorem Mb.cells(h:Mb u U s p RB X n v x):(U.cell? X=K v.r/\U.cell? ⟨X,1,M⟩=K v.k/\U.cell? ⟨X,2,M⟩=K v.f/\U.cell? ⟨X,3,M⟩=K v.t)/\(U.frozen? X=false/\U.frozen? ⟨X,1,M⟩=false/\U.frozen? ⟨X,2,M⟩=false/\U.frozen? ⟨X,3,M⟩=false):=h.bl.four (P:=X) (v:=v) sP
theorem Mb.lt(h:Mb u U s p RB X n v x):X< ↑U/\RB<U.heap.size:=⟨(h.bl.sep.lt (gb X v) sP X rfl).2,(h.bl.sep.lt (gb RB vN) sP RB rfl).2⟩
theorem Mb.put{n':Nat}(h:Mb u U s p RB X n v x)(j:DE U' s.S s.a s.len s.cap p')(g:AM s.S U U')(l:Cb U U' U' v' x')(i:PB n' x'):Mb u ((((U'.setCell X v'.r).setCell ⟨X,1,M⟩ v'.k).setCell ⟨X,2,M⟩ v'.f).setCell ⟨X,3,M⟩ v'.t) s p' RB X n' v' x'/\(U'.cell? X=K v.r/\U'.cell? ⟨X,1,M⟩=K v.k/\U'.cell? ⟨X,2,M⟩=K v.f/\U'.cell? ⟨X,3,M⟩=K v.t)/\(U'.frozen? X=false/\U'.frozen? ⟨X,1,M⟩=false/\U'.frozen? ⟨X,2,M⟩=false/\U'.frozen? ⟨X,3,M⟩=false):=by have e:=h.draw j g;have b:=h.lt;have h1:Bs u U' s p' ([gb RB vN]++gb X v::[]):=e.bl;have h2:=(((h1.set 0 oM v'.r).set 1 oM v'.k).set 2 oM v'.f).set 3 oM v'.t;refine⟨⟨h2,⟨U,U',(((l.set _ (.inl b.1) _).set _ (.inl b.1) _).set _ (.inl b.1) _).set _ (.inl b.1) _,.inl b.1,b.2,h.bl.size,sP⟩,i⟩,e.cells⟩
theorem Mb.fin{m:Int}(h:Mb u U s p' RB X n v x)(h1:p<=p')(h2:p'<=p+m){e:Ending}(q:e=.returned (.agg #[v.r,v.k,v.f,v.t])):JU s p m n u e ((((U.setCell RB v.r).setCell ⟨RB,1,M⟩ v.k).setCell ⟨RB,2,M⟩ v.f).setCell ⟨RB,3,M⟩ v.t):=by obtain⟨b,t,i,z,a,j,l⟩:=h.ex;have y:Bs u U s p' ([]++gb RB vN::[gb X v]):=h.bl;have g:=(((y.set 0 oM v.r).set 1 oM v.k).set 2 oM v.f).set 3 oM v.t;exact⟨v,x,q,((((i.set _ (.inl a) _).set _ (.inl a) _).set _ (.inl a) _).set _ (.inl a) _).wide j (by simpa using l),h.pb,p',h1,h2,g.gG.src,g.gG.ij⟩
end
theorem JU.mono{s:Ci}{p m a:Int}{n n':Nat}{u b:Y}{e:Ending}(h:JU s p m n u e b)(l:m<=a)(j:n<=n'):JU s p a n' u e b:=by obtain⟨v,x,h1,h2,f,p',g,k,i⟩:=h;exact⟨v,x,h1,h2,f.mono j,p',g,oM,i⟩
section
variable {u U:Y} {s:Ci} {p:Int} {RB X n:Nat} {v:VP} {x:MP}
theorem Mb.rb(h:Mb u U s p RB X n v x):((U.cell? RB=K (Z M 0 0)/\U.cell? ⟨RB,1,M⟩=K (Z M 0 0)/\U.cell? ⟨RB,2,M⟩=K (Z M 0 0)/\U.cell? ⟨RB,3,M⟩=K (Z M 0 0))/\(U.frozen? RB=false/\U.frozen? ⟨RB,1,M⟩=false/\U.frozen? ⟨RB,2,M⟩=false/\U.frozen? ⟨RB,3,M⟩=false))/\Bs u ((((U.setCell RB v.r).setCell ⟨RB,1,M⟩ v.k).setCell ⟨RB,2,M⟩ v.f).setCell ⟨RB,3,M⟩ v.t) s p [gb RB v,gb X v]:=by have a:Bs u U s p ([]++gb RB vN::[gb X v]):=h.bl;exact⟨h.bl.four (P:=RB) (v:=vN) sP,(((a.set 0 oM v.r).set 1 oM v.k).set 2 oM v.f).set 3 oM v.t⟩
theorem Mb.sl(h:Mb u U s p RB X n v x):∃a c,v.r=Z a x.a7 c:=by obtain⟨xs,h1,h2,_⟩:=(h.rd.rd U (AM.refl _ _)).a7;exact h2.fu
end
theorem X8{q:Prop}(h:q:=by obtain⟨k0,k1,k2,k3⟩:=E6.o.cells.1;obtain⟨y0,y1,y2,y3⟩:=E6.o.rb.1.1;obtain⟨z0,z1,z2,z3⟩:=E6.o.rb.1.2;simp only[]at k0 k1 k2 k3;go_wp2_with fail;have HF4:Aa _:=(E6.o.rb.2.four (P:=RB) (v:=⟨Z a21 x2.a7 c21,Z a22 x2.aC c22,Z a23 x2.cC c23,Z a24 x2.dr c24⟩) (by simp)).1;obtain⟨w0,w1,w2,w3⟩:=HF4.o;simp only[]at w0 w1 w2 w3;exact kY (v:=.agg #[Z a21 x2.a7 c21,Z a22 x2.aC c22,Z a23 x2.cC c23,Z a24 x2.dr c24]) (by simp[results,Tryz.results11,go_sem,w0,w1,w2,w3]) rfl ((E6.o.fin (p:=p) (m:=3000000300) (by omega) (by omega) rfl).mono (by omega) (by omega))):q:=h
theorem Nt(hB:Q5)(u:Y)(s:Ci)(p k:Int)(b:DE u s.S s.a s.len s.cap p)(hp:p+3000000300<=100000000000)(hk:1<=k)(ah:k<=1000000):
 Ae Tryz.prog 11 #[.pointer (K ⟨s.S,0,M⟩),Ac Ab k] u (JU s p 3000000300 100002 u):=by
 have aq:=b.low;have j:=Ap ((Bs.start ⟨AM.refl _ _,b,b.lt⟩).box 28 4 [Z M 0 0,Z M 0 0,Z M 0 0,Z M 0 0] rfl);clear b;go_enter Tryz.func11,Tryz.ntmps11;go_upto_region 1 with fail
 generalize u.heap.size=RB at j⊢;refine An (λU=>Aa (Bs u U s p [gb RB vN])) j ?_;rintro U0 j;go_wp2_with fail;refine(KR _ s p j.o.gG.src oM).mono ?_;rintro e U1 ⟨v,x,rfl,i,l,h3,p1,am,ao,aj,ae⟩;have H3:=Ap h3;clear h3;obtain⟨r,A,t,B,y,C,z,D,E⟩:=i.rd.jn;subst E;have F:=Ap (Mb.new (v:=⟨Z r x.a7 A,Z t x.aC B,Z y x.cC C,Z z x.dr D⟩) (j.o.draw aj ae) i (j.o.sep.lt (gb RB vN) sP RB rfl).2 j.o.size l);go_upto_region 2 with fail
 generalize U1.heap.size=X at F⊢;refine An (λU=>Aa (Mb u U s p1 RB X 100000 ⟨Z r x.a7 A,Z t x.aC B,Z y x.cC C,Z z x.dr D⟩ x)) F ?_;clear F;rintro U2 G;go_wp2_with fail;refine(DN G.o.bl.gG.src oM hk ah).mono ?_;rintro e U3 ⟨q,rfl,b,g⟩;have f:=Ap (G.o.draw b g);clear b g G;cases q
 case false=>obtain⟨k0,k1,k2,k3⟩:=f.o.cells.1;obtain⟨y0,y1,y2,y3⟩:=f.o.rb.1.1;obtain⟨z0,z1,z2,z3⟩:=f.o.rb.1.2;simp only[]at k0 k1 k2 k3;go_wp2_with fail;have HF4:Aa _:=(f.o.rb.2.four (P:=RB) (v:=⟨Z r x.a7 A,Z t x.aC B,Z y x.cC C,Z z x.dr D⟩) sP).1;obtain⟨w0,w1,w2,w3⟩:=HF4.o;simp only[]at w0 w1 w2 w3;exact kY (v:=.agg #[Z r x.a7 A,Z t x.aC B,Z y x.cC C,Z z x.dr D]) (by simp[results,Tryz.results11,go_sem,w0,w1,w2,w3]) rfl ((f.o.fin (p:=p) (m:=3000000300) oM oM rfl).mono oM oM)
 case true=>
  obtain⟨k0,k1,k2,k3⟩:=f.o.cells.1;simp only[]at k0 k1 k2 k3;go_wp2_with fail;refine(hB _ s _ ⟨Z r x.a7 A,Z t x.aC B,Z y x.cC C,Z z x.dr D⟩ x 100000 f.o.bl.gG.src oM f.o.rd f.o.pb H3.o oM).mono ?_;rintro e U4 ⟨v,x2,rfl,i,l,p4,au,aw,b,g⟩;obtain⟨a21,c21,a22,c22,a23,c23,a24,c24,E⟩:=i.rd.jn;subst E;have h:Aa _:=f.o.put b g i l;obtain⟨k0,k1,k2,k3⟩:=h.o.2.1;obtain⟨z0,z1,z2,z3⟩:=h.o.2.2;simp only[]at k0 k1 k2 k3;go_upto_region 4 with fail
  refine An (λU=>Aa (Mb u U s p4 RB X 100001 ⟨Z a21 x2.a7 c21,Z a22 x2.aC c22,Z a23 x2.cC c23,Z a24 x2.dr c24⟩ x2)) (show Aa _ from h.o.1) ?_;clear k0 k1 k2 k3 z0 z1 z2 z3 h;rintro U5 H;go_wp2_with fail;refine(DN H.o.bl.gG.src).mono ?_;rintro e U6 ⟨q,rfl,b,g⟩;have E6:=Ap (H.o.draw b g);clear b g H;obtain⟨W,g1,g2,g3⟩:=E6.o.cells.1;simp only[]at W g1 g2 g3;cases q
  case false=>(go_upto_region 6 with fail);exact X8
  case true=>(cases hq:((x2.a7:Int)==3));(case false=>(go_upto_region 6 with fail);clear W g1 g2 g3 hq;exact X8);case true=>(have a8:Aa (x2.a7.length=3):=by have:=hq;rw[beq_iff_eq]at this;exact(by omega:x2.a7.length=3));(go_upto_region 5 with fail);obtain⟨k0,k1,k2,k3⟩:=E6.o.cells.1;simp only[]at k0 k1 k2 k3;go_wp2_with fail;refine(hB _ s _ ⟨Z a21 x2.a7 c21,Z a22 x2.aC c22,Z a23 x2.cC c23,Z a24 x2.dr c24⟩ x2 100001 E6.o.bl.gG.src oM E6.o.rd E6.o.pb a8.o oM).mono ?_;rintro e U7 ⟨v,x3,rfl,i,l,p7,aA,aD,b,g⟩;obtain⟨I,Q,L,R,N,T,O,V,E⟩:=i.rd.jn;subst E;have h:Aa _:=E6.o.put b g i l;clear b g i l k0 k1 k2 k3 E6;obtain⟨k0,k1,k2,k3⟩:=h.o.2.1;obtain⟨z0,z1,z2,z3⟩:=h.o.2.2;simp only[]at k0 k1 k2 k3;(go_upto_region 6 with fail);refine An (λU=>Aa (Mb u U s p7 RB X 100002 ⟨Z I x3.a7 Q,Z L x3.aC R,Z N x3.cC T,Z O x3.dr V⟩ x3)) (show Aa _ from h.o.1) ?_;clear k0 k1 k2 k3 z0 z1 z2 z3 h;clear U7;rintro U8 n;obtain⟨k0,k1,k2,k3⟩:=n.o.cells.1;obtain⟨y0,y1,y2,y3⟩:=n.o.rb.1.1;obtain⟨z0,z1,z2,z3⟩:=n.o.rb.1.2;simp only[]at k0 k1 k2 k3;go_wp2_with fail;have HF4:Aa _:=(n.o.rb.2.four (P:=RB) (v:=⟨Z I x3.a7 Q,Z L x3.aC R,Z N x3.cC T,Z O x3.dr V⟩) sP).1;obtain⟨w0,w1,w2,w3⟩:=HF4.o;simp only[]at w0 w1 w2 w3;exact kY (v:=.agg #[Z I x3.a7 Q,Z L x3.aC R,Z N x3.cC T,Z O x3.dr V]) (by simp[results,Tryz.results11,go_sem,w0,w1,w2,w3]) rfl ((n.o.fin (p:=p) (m:=3000000300) oM oM rfl).mono oM oM)
end Go.Proofs.YtjnglocdoljgkaaGreat
