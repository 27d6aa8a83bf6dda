import Derived.Test.YtmalfecapdmdbaaGreatHo16
import Derived.Deep.RegionHeld3
namespace Go.Proofs.YtmalfecapdmdbaaGreat
open Go.ChangeShapes Go.WideShapes Go.ChangeAt Go.RowKit Go.Proofs.Tryz
set_option linter.unusedVariables false
open Go.Value renaming slice → Z,agg → Am
open Option renaming some → K,none → M
open Go renaming Value → J,World → Y,Calls → Ai
open Go.RowKit renaming Hid → Ae,Below → Ah
open Go.Obj renaming cells → Ak
open Go.Ending renaming returned → Al
open Go.Proofs.Tryz renaming prog → Ap
open Go.World renaming setCell → Aa,alloc → Ac
open List renaming flatMap → Ad
set_option maxHeartbeats 8000000
set_option maxRecDepth 100000
variable {w u:Y}{v:VP}{g:VF}{f:MF}{op a b c:Int}
def DI(w:Y)(ts b:List Int)(e:Ending)(a:Y):Prop:=∃t s,e=Al (Am #[t,s])/\Rd a 1 t ts (Ad As ts)/\Rd a 1 s b (Ad As b)/\Ah w w a
structure Md(w u:Y)(v:VP)(g:VF)(f:MF)(op a b c:Int):Prop where
 gT:TK w u v g f op a b c
 rb:AC u ((w:Nat)+1+1+1) #[sN,sN] 145
theorem Md.of(w:Y)(v:VP)(g:VF)(f:MF)(op a b c:Int):Md w (Ac (Ac (Ac (Ac w (Ak #[v.r,v.k,v.f,v.t] 36)) (Ak #[g.p,f.gy,g.l,g.c] 70)) (Ak #[op,a,b,c] 72)) (Ak #[sN,sN] 145)) v g f op a b c:=by refine⟨(TK.of w v g f op a b c).a7 (Aq _ _),?_⟩;have:=AC.new (Ac (Ac (Ac w (Ak #[v.r,v.k,v.f,v.t] 36)) (Ak #[g.p,f.gy,g.l,g.c] 70)) (Ak #[op,a,b,c] 72)) #[sN,sN] 145;simpa using this
theorem Md.a7{e:Y}(h:Md w u v g f op a b c)(d:Ah u u e):Md w e v g f op a b c:=⟨h.gT.a7 d,h.rb.a7 d⟩
theorem JM(u:Y)(ts:List Int):Rd (Ac u (Ak (Ad As ts).toArray 2)) 1 (sG u ts ts) ts (Ad As ts):=by refine⟨by rw[AE As 1 AA],.inr ⟨u,0,_,rfl, λj x a=> ?_⟩⟩;rw[nh _ _ _ _ _ _ (Ht u (Ad As ts).toArray 2),lM];simpa using a
theorem Om(u:Y):Rd u 1 sN ([]:List Int).length (Ad As ([]:List Int)):=⟨rfl,.inl ⟨rfl,_,_,rfl⟩⟩
theorem AQ{W:Y}(b:Ah W W u){a:Addr}{x:J}(h:W a=K x):u a=K x:=by rw[b.cell (hC h)];exact h
theorem G6(h:Md w u v g f op a b c)(ts:List Int)(d:List Int)(U:Y)(t:U=(Ac (Ac (Aa (Aa u ⟨(w:Nat)+1+1+1,0,M⟩ (sG u ts ts)) ⟨(w:Nat)+1+1+1,1,M⟩ (Z (K ⟨(u:Nat)+1,0,M⟩) d d)) (Ak (Ad As ts).toArray 2)) (Ak (Ad As d).toArray 2))):
 DI w ts d (Al (Am #[sG u ts ts,Z (K ⟨(u:Nat)+1,0,M⟩) d d])) U/\U ⟨(w:Nat)+1+1+1,0,M⟩=K (sG u ts ts)/\U ⟨(w:Nat)+1+1+1,1,M⟩=K (Z (K ⟨(u:Nat)+1,0,M⟩) d d):=by
 subst t;have r:=(h.rb.set 0 (sG u ts ts)).set 1 (Z (K ⟨(u:Nat)+1,0,M⟩) d d);have k:=r.cell 0;have l:=r.cell 1;simp only[lF,lI,lT,kB,i9,kC]at k l;have bel:Ah w w (Aa (Aa u ⟨(w:Nat)+1+1+1,0,M⟩ (sG u ts ts)) ⟨(w:Nat)+1+1+1,1,M⟩ (Z (K ⟨(u:Nat)+1,0,M⟩) d d)):=(h.gT.e8.setCell oS _).setCell oS _;have q:(Aa (Aa u ⟨(w:Nat)+1+1+1,0,M⟩ (sG u ts ts)) ⟨(w:Nat)+1+1+1,1,M⟩ (Z (K ⟨(u:Nat)+1,0,M⟩) d d)).heap.size=u.heap.size:=by simp only[lr]
 generalize (Aa (Aa u ⟨w.heap.size+1+1+1,0,M⟩ (sG u ts ts)) ⟨w.heap.size+1+1+1,1,M⟩ (Z (K ⟨u.heap.size+1,0,M⟩) d d))=j at k l bel q⊢;have m:=JM j ts;have s:(Ac j (Ak (Ad As ts).toArray 2)).heap.size= ↑u+1:=by simp[q]
 have i:=Aq j (Ak (Ad As ts).toArray 2);rw[q]at m;generalize Ac j (Ak (Ad As ts).toArray 2)=p at m s i⊢;have n:=JM p d;have e:=Aq p (Ak (Ad As d).toArray 2);rw[s]at n;generalize Ac p (Ak (Ad As d).toArray 2)=x at n e⊢;exact⟨⟨_,_,rfl,(m.a7 e lR),n,(Ar (Ar bel lR i) lR e)⟩,(AQ e (AQ i k)),(AQ e (AQ i l))⟩
theorem Pj(h:Md w u v g f op a b c)(ts:List Int)(U:Y)(n:U=(Ac (Aa (Aa u ⟨(w:Nat)+1+1+1,0,M⟩ (sG u ts ts)) ⟨(w:Nat)+1+1+1,1,M⟩ sN) (Ak (Ad As ts).toArray 2))):
 DI w ts [] (Al (Am #[sG u ts ts,sN])) U/\U ⟨(w:Nat)+1+1+1,0,M⟩=K (sG u ts ts)/\U ⟨(w:Nat)+1+1+1,1,M⟩=K sN:=by
 subst n;have m:=(h.rb.set 0 (sG u ts ts)).set 1 sN;have i:=m.cell 0;have j:=m.cell 1;simp only[lF,lI,lT,kB,i9,kC]at i j;have bel:Ah w w (Aa (Aa u ⟨(w:Nat)+1+1+1,0,M⟩ (sG u ts ts)) ⟨(w:Nat)+1+1+1,1,M⟩ sN):=(h.gT.e8.setCell oS _).setCell oS _;have l:(Aa (Aa u ⟨(w:Nat)+1+1+1,0,M⟩ (sG u ts ts)) ⟨(w:Nat)+1+1+1,1,M⟩ sN).heap.size=u.heap.size:=by simp only[lr]
 generalize (Aa (Aa u ⟨w.heap.size+1+1+1,0,M⟩ (sG u ts ts)) ⟨w.heap.size+1+1+1,1,M⟩ sN)=e at i j bel l⊢;have k:=JM e ts;have p:(Ac e (Ak (Ad As ts).toArray 2)).heap.size= ↑u+1:=by simp[l]
 have d:=Aq e (Ak (Ad As ts).toArray 2);rw[l]at k;generalize Ac e (Ak (Ad As ts).toArray 2)=q at k p d⊢;exact⟨⟨_,_,rfl,k,(Om _),(Ar bel lR d)⟩,(AQ d i),(AQ d j)⟩
theorem T4(h:Md w u v g f op a b c)(d:List Int)(U:Y)(p:U=(Ac (Aa (Aa u ⟨(w:Nat)+1+1+1,0,M⟩ sN) ⟨(w:Nat)+1+1+1,1,M⟩ (sG u d d)) (Ak (Ad As d).toArray 2))):
 DI w [] d (Al (Am #[sN,sG u d d])) U/\U ⟨(w:Nat)+1+1+1,0,M⟩=K sN/\U ⟨(w:Nat)+1+1+1,1,M⟩=K (sG u d d):=by
 subst p;have m:=(h.rb.set 0 sN).set 1 (sG u d d);have i:=m.cell 0;have j:=m.cell 1;simp only[lF,lI,lT,kB,i9,kC]at i j;have bel:Ah w w (Aa (Aa u ⟨(w:Nat)+1+1+1,0,M⟩ sN) ⟨(w:Nat)+1+1+1,1,M⟩ (sG u d d)):=(h.gT.e8.setCell oS _).setCell oS _;have n:(Aa (Aa u ⟨(w:Nat)+1+1+1,0,M⟩ sN) ⟨(w:Nat)+1+1+1,1,M⟩ (sG u d d)).heap.size=u.heap.size:=by simp only[lr]
 generalize (Aa (Aa u ⟨w.heap.size+1+1+1,0,M⟩ sN) ⟨w.heap.size+1+1+1,1,M⟩ (sG u d d))=l at i j bel n⊢;have k:=JM l d;have e:=Aq l (Ak (Ad As d).toArray 2);rw[n]at k;generalize Ac l (Ak (Ad As d).toArray 2)=q at k e⊢;exact⟨⟨_,_,rfl,(Om _),k,(Ar bel lR e)⟩,(AQ e i),(AQ e j)⟩
theorem XT(h:Md w u v g f op a b c)(U:Y)(j:U=(Aa (Aa u ⟨(w:Nat)+1+1+1,0,M⟩ sN) ⟨(w:Nat)+1+1+1,1,M⟩ sN)):
 DI w [] [] (Al (Am #[sN,sN])) U/\U ⟨(w:Nat)+1+1+1,0,M⟩=K sN/\U ⟨(w:Nat)+1+1+1,1,M⟩=K sN:=by
 subst j;have i:=(h.rb.set 0 sN).set 1 sN;have d:=i.cell 0;have e:=i.cell 1;simp only[lF,lI,lT,kB,i9,kC]at d e;have bel:Ah w w (Aa (Aa u ⟨(w:Nat)+1+1+1,0,M⟩ sN) ⟨(w:Nat)+1+1+1,1,M⟩ sN):=(h.gT.e8.setCell oS _).setCell oS _;have k:(Aa (Aa u ⟨(w:Nat)+1+1+1,0,M⟩ sN) ⟨(w:Nat)+1+1+1,1,M⟩ sN).heap.size=u.heap.size:=by simp only[lr]
 generalize (Aa (Aa u ⟨w.heap.size+1+1+1,0,M⟩ sN) ⟨w.heap.size+1+1+1,1,M⟩ sN)=l at d e bel k⊢;exact⟨⟨_,_,rfl,(Om _),(Om _),bel⟩,d,e⟩
theorem Cj(A z y B s r q:J)(f:MF)(op F a b c:Int)(ts j:List Int)(w:Y)(h:op=0/\F=0/\ts=[]/\j=[]\/op=8/\F=5/\ts=[a,a]/\j=[a]\/op=9/\F=5/\ts=[a,a]/\j=[a]\/op=10/\F=5/\ts=[a,a]/\j=[a]\/op=11/\F=5/\ts=[a,a]/\j=[a]\/op=12/\F=5/\ts=[a,a]/\j=[a]\/op=13/\F=6/\ts=[a,a]/\j=[a]\/op=14/\F=6/\ts=[a,a]/\j=[a]\/op=15/\F=6/\ts=[a,a]/\j=[a]\/op=16/\F=6/\ts=[a]/\j=[a]\/op=17/\F=0/\ts=[3,3]/\j=[3]\/op=18/\F=0/\ts=[3,3]/\j=[3]\/op=19/\F=0/\ts=[2]/\j=[2]\/op=20/\F=7/\ts=[a,a]/\j=[1]\/op=21/\F=5/\ts=[a,a]/\j=[1]\/op=22/\F=8/\ts=[a]/\j=[b]\/op=23/\F=0/\ts=[0]/\j=[0,0]\/op=24/\F=0/\ts=[0]/\j=[]\/op=25/\F=9/\ts=[]/\j=[]\/op=26/\F=9/\ts=[1]/\j=[]\/op=27/\F=10/\ts=[]/\j=[]\/op=29/\F=0/\ts=[]/\j=[]):
 Ai Ap 74 #[Am #[A,z,y,B],Am #[s,f.gy,r,q],Am #[op,a,b,c]] w (DI w ts j):=by
 obtain⟨m,co,u⟩:∃m co,Cv op=#[.string m,iZ co,iZ F]:=by rcases h with⟨rfl,rfl,_⟩|⟨rfl,rfl,_⟩|⟨rfl,rfl,_⟩|⟨rfl,rfl,_⟩|⟨rfl,rfl,_⟩|⟨rfl,rfl,_⟩|⟨rfl,rfl,_⟩|⟨rfl,rfl,_⟩|⟨rfl,rfl,_⟩|⟨rfl,rfl,_⟩|⟨rfl,rfl,_⟩|⟨rfl,rfl,_⟩|⟨rfl,rfl,_⟩|⟨rfl,rfl,_⟩|⟨rfl,rfl,_⟩|⟨rfl,rfl,_⟩|⟨rfl,rfl,_⟩|⟨rfl,rfl,_⟩|⟨rfl,rfl,_⟩|⟨rfl,rfl,_⟩|⟨rfl,rfl,_⟩|⟨rfl,rfl,_⟩<;>exact⟨_,_,rfl⟩
 have x:Ae (∀w,Ai Ap 53 #[op] w λe E=>e=Al (Am #[.string m,co,F])/\Ah w w E):= λw=>by have t:=Cs op w;rw[u]at t;exact t
 clear u;have n:Ae _:=Md.of w ⟨A,z,y,B⟩ ⟨s,r,q⟩ f op a b c;rcases h with⟨rfl,rfl,rfl,rfl⟩|⟨rfl,rfl,rfl,rfl⟩|⟨rfl,rfl,rfl,rfl⟩|⟨rfl,rfl,rfl,rfl⟩|⟨rfl,rfl,rfl,rfl⟩|⟨rfl,rfl,rfl,rfl⟩|⟨rfl,rfl,rfl,rfl⟩|⟨rfl,rfl,rfl,rfl⟩|⟨rfl,rfl,rfl,rfl⟩|⟨rfl,rfl,rfl,rfl⟩|⟨rfl,rfl,rfl,rfl⟩|⟨rfl,rfl,rfl,rfl⟩|⟨rfl,rfl,rfl,rfl⟩|⟨rfl,rfl,rfl,rfl⟩|⟨rfl,rfl,rfl,rfl⟩|⟨rfl,rfl,rfl,rfl⟩|⟨rfl,rfl,rfl,rfl⟩|⟨rfl,rfl,rfl,rfl⟩|⟨rfl,rfl,rfl,rfl⟩|⟨rfl,rfl,rfl,rfl⟩|⟨rfl,rfl,rfl,rfl⟩|⟨rfl,rfl,rfl,rfl⟩
 all_goals
  have G:=CF;go_enter func74,ntmps74;go_wp2_with fail;refine(x.o _).mono ?_;rintro e k ⟨rfl,p⟩;have i:Ae _:=n.a7 p;clear n p x;have Q:=i.gT.ins.c0;have R:=i.gT.ins.c1;have S:=i.gT.ins.c2;have C:=i.rb.cell 0;have D:=i.rb.cell 1;have T:=i.rb.frozen 0;have U:=i.rb.frozen 1;have H:(w:Nat)+1+1<k.heap.size:=by have:=i.rb.lt;omega
  have L:¬(w:Nat)+1+1=k.heap.size:=by have:=i.rb.lt;omega
  have I:(w:Nat)+1+1+1<k.heap.size:=i.rb.lt;have N:¬(w:Nat)+1+1+1=k.heap.size:=by have:=i.rb.lt;omega
  have O:¬(w:Nat)+1+1+1= ↑k+1:=by have:=i.rb.lt;omega
  have P:¬(w:Nat)+1+1= ↑k+1:=by have:=i.rb.lt;omega
  simp only[kB,i9,kC]at C D;go_wp2_with fail;first
   |(obtain⟨l,d,g⟩:=XT i _ rfl;exact kQ (v:=Am #[sN,sN]) (by simp[results,results74,go_sem,d,g]) rfl l)
   |(obtain⟨l,d,g⟩:=G6 i [a,a] [a] _ rfl;simp only[As,lD,mJ,lK,lu,lX,lw,lM,Nat.reduceAdd]at d g;exact kQ (v:=Am #[sG k 2 2,Z (K ⟨(k:Nat)+1,0,M⟩) 1 1]) (by simp[results,results74,go_sem,d,g]) rfl l)
   |(obtain⟨l,d,g⟩:=G6 i [a] [a] _ rfl;simp only[As,lD,mJ,lK,lu,lX,lw,lM]at d g;exact kQ (v:=Am #[sG k 1 1,Z (K ⟨(k:Nat)+1,0,M⟩) 1 1]) (by simp[results,results74,go_sem,d,g]) rfl l)
   |(obtain⟨l,d,g⟩:=G6 i [3,3] [3] _ rfl;simp only[As,lD,mJ,lK,lu,lX,lw,lM,Nat.reduceAdd]at d g;exact kQ (v:=Am #[sG k 2 2,Z (K ⟨(k:Nat)+1,0,M⟩) 1 1]) (by simp[results,results74,go_sem,d,g]) rfl l)
   |(obtain⟨l,d,g⟩:=G6 i [2] [2] _ rfl;simp only[As,lD,mJ,lK,lu,lX,lw,lM]at d g;exact kQ (v:=Am #[sG k 1 1,Z (K ⟨(k:Nat)+1,0,M⟩) 1 1]) (by simp[results,results74,go_sem,d,g]) rfl l)
   |(obtain⟨l,d,g⟩:=G6 i [a,a] [1] _ rfl;simp only[As,lD,mJ,lK,lu,lX,lw,lM,Nat.reduceAdd]at d g;exact kQ (v:=Am #[sG k 2 2,Z (K ⟨(k:Nat)+1,0,M⟩) 1 1]) (by simp[results,results74,go_sem,d,g]) rfl l)
   |(obtain⟨l,d,g⟩:=G6 i [a] [b] _ rfl;simp only[As,lD,mJ,lK,lu,lX,lw,lM]at d g;exact kQ (v:=Am #[sG k 1 1,Z (K ⟨(k:Nat)+1,0,M⟩) 1 1]) (by simp[results,results74,go_sem,d,g]) rfl l)
   |(obtain⟨l,d,g⟩:=G6 i [0] [0,0] _ rfl;simp only[As,lD,mJ,lK,lu,lX,lw,lM,Nat.reduceAdd]at d g;exact kQ (v:=Am #[sG k 1 1,Z (K ⟨(k:Nat)+1,0,M⟩) 2 2]) (by simp[results,results74,go_sem,d,g]) rfl l)
   |(obtain⟨l,d,g⟩:=Pj i [0] _ rfl;simp only[As,lD,mJ,lK,lu,lX,lw,lM]at d g;exact kQ (v:=Am #[sG k 1 1,sN]) (by simp[results,results74,go_sem,d,g]) rfl l)
   |(obtain⟨l,d,g⟩:=Pj i [1] _ rfl;simp only[As,lD,mJ,lK,lu,lX,lw,lM]at d g;exact kQ (v:=Am #[sG k 1 1,sN]) (by simp[results,results74,go_sem,d,g]) rfl l)
end Go.Proofs.YtmalfecapdmdbaaGreat
