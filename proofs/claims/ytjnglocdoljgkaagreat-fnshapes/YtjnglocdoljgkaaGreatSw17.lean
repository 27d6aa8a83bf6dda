import Derived.Test.YtjnglocdoljgkaaGreatSw16
import Derived.Deep.RegionHeld3
namespace Go.Proofs.YtjnglocdoljgkaaGreat
open Go.ChangeShapes Go.WideShapes Go.ChangeAt Go.RowKit
set_option linter.unusedVariables false
open Go.Value renaming slice → Z
open Option renaming some → K,none → M
open Go renaming Value → J,World → Y,Calls → Ae
open Go.RowKit renaming Hid → Aa,Below → Ad
set_option maxHeartbeats 8000000
set_option maxRecDepth 100000
variable {w u:Y}{v:VP}{g:VF}{f:MF}{op a b c:Int}
def DH(w:Y)(ts gs:List Int)(e:Ending)(a:Y):Prop:=∃t s,e=.returned (.agg #[t,s])/\Rd a 1 t ts (ts.flatMap Ah)/\Rd a 1 s gs (gs.flatMap Ah)/\Ad w w a
structure LH(w u:Y)(v:VP)(g:VF)(f:MF)(op a b c:Int):Prop where
 gV:S3 w u v g f op a b c
 rb:Ar u ((w:Nat)+1+1+1) #[sN,sN] 98
theorem LH.of(w:Y)(v:VP)(g:VF)(f:MF)(op a b c:Int):LH w ((((w.alloc (.cells #[v.r,v.k,v.f,v.t] 28)).alloc (.cells #[g.p,iZ f.gz,g.l,g.c] 51)).alloc (.cells #[iZ op,iZ a,iZ b,iZ c] 60)).alloc (.cells #[sN,sN] 98)) v g f op a b c:=by refine⟨(S3.of w v g f op a b c).bM (Ag _ _),?_⟩;have:=Ar.new (((w.alloc (.cells #[v.r,v.k,v.f,v.t] 28)).alloc (.cells #[g.p,iZ f.gz,g.l,g.c] 51)).alloc (.cells #[iZ op,iZ a,iZ b,iZ c] 60)) #[sN,sN] 98;simpa using this
theorem LH.bM{i:Y}(h:LH w u v g f op a b c)(e:Ad u u i):LH w i v g f op a b c:=⟨h.gV.bM e,h.rb.bM e⟩
theorem JI(u:Y)(ts:List Int):Rd (u.alloc (.cells (ts.flatMap Ah).toArray 2)) 1 (sG u ts ts) ts (ts.flatMap Ah):=by refine⟨by rw[Au Ah 1 Ao],.inr ⟨u,0,_,rfl, λj x a=> ?_⟩⟩;rw[nO _ _ _ _ _ _ (Hq u (ts.flatMap Ah).toArray 2),lY];simpa using a
theorem Ny(u:Y):Rd u 1 sN ([]:List Int).length (([]:List Int).flatMap Ah):=⟨rfl,.inl ⟨rfl,_,_,rfl⟩⟩
theorem AN{W:Y}(b:Ad W W u){a:Addr}{x:J}(h:W.cell? a=K x):u.cell? a=K x:=by rw[b.cell (jC h)];exact h
theorem G6(h:LH w u v g f op a b c)(ts:List Int)(gs:List Int)(U:Y)(t:U=((((u.setCell ⟨(w:Nat)+1+1+1,0,M⟩ (sG u ts ts)).setCell ⟨(w:Nat)+1+1+1,1,M⟩ (Z (K ⟨(u:Nat)+1,0,M⟩) gs gs)).alloc (.cells (ts.flatMap Ah).toArray 2)).alloc (.cells (gs.flatMap Ah).toArray 2))):
 DH w ts gs (.returned (.agg #[sG u ts ts,Z (K ⟨(u:Nat)+1,0,M⟩) gs gs])) U/\U.cell? ⟨(w:Nat)+1+1+1,0,M⟩=K (sG u ts ts)/\U.cell? ⟨(w:Nat)+1+1+1,1,M⟩=K (Z (K ⟨(u:Nat)+1,0,M⟩) gs gs):=by
 subst t;have r:=(h.rb.set 0 (sG u ts ts)).set 1 (Z (K ⟨(u:Nat)+1,0,M⟩) gs gs);have k:=r.cell 0;have l:=r.cell 1;simp only[kV,lI,lM,kL,jt,kI]at k l;have bel:Ad w w ((u.setCell ⟨(w:Nat)+1+1+1,0,M⟩ (sG u ts ts)).setCell ⟨(w:Nat)+1+1+1,1,M⟩ (Z (K ⟨(u:Nat)+1,0,M⟩) gs gs)):=(h.gV.gG.setCell oS _).setCell oS _;have q:((u.setCell ⟨(w:Nat)+1+1+1,0,M⟩ (sG u ts ts)).setCell ⟨(w:Nat)+1+1+1,1,M⟩ (Z (K ⟨(u:Nat)+1,0,M⟩) gs gs)).heap.size=u.heap.size:=by simp only[mB]
 generalize ((u.setCell ⟨w.heap.size+1+1+1,0,M⟩ (sG u ts ts)).setCell ⟨w.heap.size+1+1+1,1,M⟩ (Z (K ⟨u.heap.size+1,0,M⟩) gs gs))=j at k l bel q⊢;have m:=JI j ts;have s:(j.alloc (.cells (ts.flatMap Ah).toArray 2)).heap.size= ↑u+1:=by simp[q]
 have i:=Ag j (.cells (ts.flatMap Ah).toArray 2);rw[q]at m;generalize j.alloc (.cells (ts.flatMap Ah).toArray 2)=p at m s i⊢;have n:=JI p gs;have e:=Ag p (.cells (gs.flatMap Ah).toArray 2);rw[s]at n;generalize p.alloc (.cells (gs.flatMap Ah).toArray 2)=y at n e⊢;exact⟨⟨_,_,rfl,(m.bM e lR),n,(Ai (Ai bel lR i) lR e)⟩,(AN e (AN i k)),(AN e (AN i l))⟩
theorem Ok(h:LH w u v g f op a b c)(ts:List Int)(U:Y)(p:U=(((u.setCell ⟨(w:Nat)+1+1+1,0,M⟩ (sG u ts ts)).setCell ⟨(w:Nat)+1+1+1,1,M⟩ sN).alloc (.cells (ts.flatMap Ah).toArray 2))):
 DH w ts [] (.returned (.agg #[sG u ts ts,sN])) U/\U.cell? ⟨(w:Nat)+1+1+1,0,M⟩=K (sG u ts ts)/\U.cell? ⟨(w:Nat)+1+1+1,1,M⟩=K sN:=by
 subst p;have n:=(h.rb.set 0 (sG u ts ts)).set 1 sN;have j:=n.cell 0;have k:=n.cell 1;simp only[kV,lI,lM,kL,jt,kI]at j k;have bel:Ad w w ((u.setCell ⟨(w:Nat)+1+1+1,0,M⟩ (sG u ts ts)).setCell ⟨(w:Nat)+1+1+1,1,M⟩ sN):=(h.gV.gG.setCell oS _).setCell oS _;have m:((u.setCell ⟨(w:Nat)+1+1+1,0,M⟩ (sG u ts ts)).setCell ⟨(w:Nat)+1+1+1,1,M⟩ sN).heap.size=u.heap.size:=by simp only[mB]
 generalize ((u.setCell ⟨w.heap.size+1+1+1,0,M⟩ (sG u ts ts)).setCell ⟨w.heap.size+1+1+1,1,M⟩ sN)=i at j k bel m⊢;have l:=JI i ts;have q:(i.alloc (.cells (ts.flatMap Ah).toArray 2)).heap.size= ↑u+1:=by simp[m]
 have e:=Ag i (.cells (ts.flatMap Ah).toArray 2);rw[m]at l;generalize i.alloc (.cells (ts.flatMap Ah).toArray 2)=r at l q e⊢;exact⟨⟨_,_,rfl,l,(Ny _),(Ai bel lR e)⟩,(AN e j),(AN e k)⟩
theorem Tp(h:LH w u v g f op a b c)(gs:List Int)(U:Y)(p:U=(((u.setCell ⟨(w:Nat)+1+1+1,0,M⟩ sN).setCell ⟨(w:Nat)+1+1+1,1,M⟩ (sG u gs gs)).alloc (.cells (gs.flatMap Ah).toArray 2))):
 DH w [] gs (.returned (.agg #[sN,sG u gs gs])) U/\U.cell? ⟨(w:Nat)+1+1+1,0,M⟩=K sN/\U.cell? ⟨(w:Nat)+1+1+1,1,M⟩=K (sG u gs gs):=by
 subst p;have m:=(h.rb.set 0 sN).set 1 (sG u gs gs);have i:=m.cell 0;have j:=m.cell 1;simp only[kV,lI,lM,kL,jt,kI]at i j;have bel:Ad w w ((u.setCell ⟨(w:Nat)+1+1+1,0,M⟩ sN).setCell ⟨(w:Nat)+1+1+1,1,M⟩ (sG u gs gs)):=(h.gV.gG.setCell oS _).setCell oS _;have n:((u.setCell ⟨(w:Nat)+1+1+1,0,M⟩ sN).setCell ⟨(w:Nat)+1+1+1,1,M⟩ (sG u gs gs)).heap.size=u.heap.size:=by simp only[mB]
 generalize ((u.setCell ⟨w.heap.size+1+1+1,0,M⟩ sN).setCell ⟨w.heap.size+1+1+1,1,M⟩ (sG u gs gs))=l at i j bel n⊢;have k:=JI l gs;have e:=Ag l (.cells (gs.flatMap Ah).toArray 2);rw[n]at k;generalize l.alloc (.cells (gs.flatMap Ah).toArray 2)=q at k e⊢;exact⟨⟨_,_,rfl,(Ny _),k,(Ai bel lR e)⟩,(AN e i),(AN e j)⟩
theorem XO(h:LH w u v g f op a b c)(U:Y)(k:U=((u.setCell ⟨(w:Nat)+1+1+1,0,M⟩ sN).setCell ⟨(w:Nat)+1+1+1,1,M⟩ sN)):
 DH w [] [] (.returned (.agg #[sN,sN])) U/\U.cell? ⟨(w:Nat)+1+1+1,0,M⟩=K sN/\U.cell? ⟨(w:Nat)+1+1+1,1,M⟩=K sN:=by
 subst k;have j:=(h.rb.set 0 sN).set 1 sN;have e:=j.cell 0;have i:=j.cell 1;simp only[kV,lI,lM,kL,jt,kI]at e i;have bel:Ad w w ((u.setCell ⟨(w:Nat)+1+1+1,0,M⟩ sN).setCell ⟨(w:Nat)+1+1+1,1,M⟩ sN):=(h.gV.gG.setCell oS _).setCell oS _;have l:((u.setCell ⟨(w:Nat)+1+1+1,0,M⟩ sN).setCell ⟨(w:Nat)+1+1+1,1,M⟩ sN).heap.size=u.heap.size:=by simp only[mB]
 generalize ((u.setCell ⟨w.heap.size+1+1+1,0,M⟩ sN).setCell ⟨w.heap.size+1+1+1,1,M⟩ sN)=m at e i bel l⊢;exact⟨⟨_,_,rfl,(Ny _),(Ny _),bel⟩,e,i⟩
theorem Cu(A vk z B t s r:J)(f:MF)(op F a b c:Int)(ts gs:List Int)(w:Y)(h:op=0/\F=0/\ts=[]/\gs=[]\/op=8/\F=5/\ts=[a,a]/\gs=[a]\/op=9/\F=5/\ts=[a,a]/\gs=[a]\/op=10/\F=5/\ts=[a,a]/\gs=[a]\/op=11/\F=5/\ts=[a,a]/\gs=[a]\/op=12/\F=5/\ts=[a,a]/\gs=[a]\/op=13/\F=6/\ts=[a,a]/\gs=[a]\/op=14/\F=6/\ts=[a,a]/\gs=[a]\/op=15/\F=6/\ts=[a,a]/\gs=[a]\/op=16/\F=6/\ts=[a]/\gs=[a]\/op=17/\F=0/\ts=[3,3]/\gs=[3]\/op=18/\F=0/\ts=[3,3]/\gs=[3]\/op=19/\F=0/\ts=[2]/\gs=[2]\/op=20/\F=7/\ts=[a,a]/\gs=[1]\/op=21/\F=5/\ts=[a,a]/\gs=[1]\/op=22/\F=8/\ts=[a]/\gs=[b]\/op=23/\F=0/\ts=[0]/\gs=[0,0]\/op=24/\F=0/\ts=[0]/\gs=[]\/op=25/\F=9/\ts=[]/\gs=[]\/op=26/\F=9/\ts=[1]/\gs=[]\/op=27/\F=10/\ts=[]/\gs=[]\/op=29/\F=0/\ts=[]/\gs=[]):
 Ae Tryz.prog 41 #[.agg #[A,vk,z,B],.agg #[t,iZ f.gz,s,r],.agg #[iZ op,iZ a,iZ b,iZ c]] w (DH w ts gs):=by
 obtain⟨n,m,u⟩:∃n m,Dc op=#[.string n,iZ m,iZ F]:=by rcases h with⟨rfl,rfl,_⟩|⟨rfl,rfl,_⟩|⟨rfl,rfl,_⟩|⟨rfl,rfl,_⟩|⟨rfl,rfl,_⟩|⟨rfl,rfl,_⟩|⟨rfl,rfl,_⟩|⟨rfl,rfl,_⟩|⟨rfl,rfl,_⟩|⟨rfl,rfl,_⟩|⟨rfl,rfl,_⟩|⟨rfl,rfl,_⟩|⟨rfl,rfl,_⟩|⟨rfl,rfl,_⟩|⟨rfl,rfl,_⟩|⟨rfl,rfl,_⟩|⟨rfl,rfl,_⟩|⟨rfl,rfl,_⟩|⟨rfl,rfl,_⟩|⟨rfl,rfl,_⟩|⟨rfl,rfl,_⟩|⟨rfl,rfl,_⟩<;>exact⟨_,_,rfl⟩
 have y:Aa (∀w,Ae Tryz.prog 71 #[iZ op] w λe E=>e=.returned (.agg #[.string n,iZ m,iZ F])/\Ad w w E):= λw=>by have h1:=CG op w;rw[u]at h1;exact h1
 clear u;have p:Aa _:=LH.of w ⟨A,vk,z,B⟩ ⟨t,s,r⟩ f op a b c;rcases h with⟨rfl,rfl,rfl,rfl⟩|⟨rfl,rfl,rfl,rfl⟩|⟨rfl,rfl,rfl,rfl⟩|⟨rfl,rfl,rfl,rfl⟩|⟨rfl,rfl,rfl,rfl⟩|⟨rfl,rfl,rfl,rfl⟩|⟨rfl,rfl,rfl,rfl⟩|⟨rfl,rfl,rfl,rfl⟩|⟨rfl,rfl,rfl,rfl⟩|⟨rfl,rfl,rfl,rfl⟩|⟨rfl,rfl,rfl,rfl⟩|⟨rfl,rfl,rfl,rfl⟩|⟨rfl,rfl,rfl,rfl⟩|⟨rfl,rfl,rfl,rfl⟩|⟨rfl,rfl,rfl,rfl⟩|⟨rfl,rfl,rfl,rfl⟩|⟨rfl,rfl,rfl,rfl⟩|⟨rfl,rfl,rfl,rfl⟩|⟨rfl,rfl,rfl,rfl⟩|⟨rfl,rfl,rfl,rfl⟩|⟨rfl,rfl,rfl,rfl⟩|⟨rfl,rfl,rfl,rfl⟩
 all_goals
  have G:=CS;go_enter Tryz.func41,Tryz.ntmps41;go_wp2_with fail;refine(y.o _).mono ?_;rintro e k ⟨rfl,q⟩;have j:Aa _:=p.o.bM q;clear p q y;have Q:=j.o.gV.ins.c0;have x1:=j.o.gV.ins.c1;have x2:=j.o.gV.ins.c2;have C:=j.o.rb.cell 0;have D:=j.o.rb.cell 1;have R:=j.o.rb.frozen 0;have S:=j.o.rb.frozen 1;have H:(w:Nat)+1+1<k.heap.size:=by have:=j.o.rb.lt;omega
  have L:¬(w:Nat)+1+1=k.heap.size:=by have:=j.o.rb.lt;omega
  have I:(w:Nat)+1+1+1<k.heap.size:=j.o.rb.lt;have N:¬(w:Nat)+1+1+1=k.heap.size:=by have:=j.o.rb.lt;omega
  have O:¬(w:Nat)+1+1+1= ↑k+1:=by have:=j.o.rb.lt;omega
  have P:¬(w:Nat)+1+1= ↑k+1:=by have:=j.o.rb.lt;omega
  simp only[kL,jt,kI]at C D;go_wp2_with fail;first
   |(obtain⟨l,g,i⟩:=XO j.o _ rfl;exact kY (v:=.agg #[sN,sN]) (by simp[results,Tryz.results41,go_sem,g,i]) rfl l)
   |(obtain⟨l,g,i⟩:=G6 j.o [a,a] [a] _ rfl;simp only[Ah,kX,mM,lF,lg,lh,mD,lY,Nat.reduceAdd]at g i;exact kY (v:=.agg #[sG k 2 2,Z (K ⟨(k:Nat)+1,0,M⟩) 1 1]) (by simp[results,Tryz.results41,go_sem,g,i]) rfl l)
   |(obtain⟨l,g,i⟩:=G6 j.o [a] [a] _ rfl;simp only[Ah,kX,mM,lF,lg,lh,mD,lY]at g i;exact kY (v:=.agg #[sG k 1 1,Z (K ⟨(k:Nat)+1,0,M⟩) 1 1]) (by simp[results,Tryz.results41,go_sem,g,i]) rfl l)
   |(obtain⟨l,g,i⟩:=G6 j.o [3,3] [3] _ rfl;simp only[Ah,kX,mM,lF,lg,lh,mD,lY,Nat.reduceAdd]at g i;exact kY (v:=.agg #[sG k 2 2,Z (K ⟨(k:Nat)+1,0,M⟩) 1 1]) (by simp[results,Tryz.results41,go_sem,g,i]) rfl l)
   |(obtain⟨l,g,i⟩:=G6 j.o [2] [2] _ rfl;simp only[Ah,kX,mM,lF,lg,lh,mD,lY]at g i;exact kY (v:=.agg #[sG k 1 1,Z (K ⟨(k:Nat)+1,0,M⟩) 1 1]) (by simp[results,Tryz.results41,go_sem,g,i]) rfl l)
   |(obtain⟨l,g,i⟩:=G6 j.o [a,a] [1] _ rfl;simp only[Ah,kX,mM,lF,lg,lh,mD,lY,Nat.reduceAdd]at g i;exact kY (v:=.agg #[sG k 2 2,Z (K ⟨(k:Nat)+1,0,M⟩) 1 1]) (by simp[results,Tryz.results41,go_sem,g,i]) rfl l)
   |(obtain⟨l,g,i⟩:=G6 j.o [a] [b] _ rfl;simp only[Ah,kX,mM,lF,lg,lh,mD,lY]at g i;exact kY (v:=.agg #[sG k 1 1,Z (K ⟨(k:Nat)+1,0,M⟩) 1 1]) (by simp[results,Tryz.results41,go_sem,g,i]) rfl l)
   |(obtain⟨l,g,i⟩:=G6 j.o [0] [0,0] _ rfl;simp only[Ah,kX,mM,lF,lg,lh,mD,lY,Nat.reduceAdd]at g i;exact kY (v:=.agg #[sG k 1 1,Z (K ⟨(k:Nat)+1,0,M⟩) 2 2]) (by simp[results,Tryz.results41,go_sem,g,i]) rfl l)
   |(obtain⟨l,g,i⟩:=Ok j.o [0] _ rfl;simp only[Ah,kX,mM,lF,lg,lh,mD,lY]at g i;exact kY (v:=.agg #[sG k 1 1,sN]) (by simp[results,Tryz.results41,go_sem,g,i]) rfl l)
   |(obtain⟨l,g,i⟩:=Ok j.o [1] _ rfl;simp only[Ah,kX,mM,lF,lg,lh,mD,lY]at g i;exact kY (v:=.agg #[sG k 1 1,sN]) (by simp[results,Tryz.results41,go_sem,g,i]) rfl l)
end Go.Proofs.YtjnglocdoljgkaaGreat
