import Derived.Test.YtkgohaigebcgoaaGreatDoorCh33
namespace Go.Proofs.YtkgohaigebcgoaaGreatDoor
open Go.ChangeShapes Go.WideShapes Go.ChangeAt Go.RowKit Go.Proofs.Tryz
set_option linter.unusedVariables false
open Option renaming some → K
open Go renaming Value → J,World → Y,Calls → Ai
open Go.RowKit renaming Below → Ah
open Go.Ending renaming returned → Am
open Go.Value renaming agg → An
open Go.Proofs.Tryz renaming prog → Aq
open List renaming flatMap → Ad
set_option maxHeartbeats 4000000
set_option maxRecDepth 100000
def pn(r k f t p rs l c b co a d g e vl:J):J:=An #[r,k,f,t,p,rs,l,c,b,co,a,d,g,e,vl]
theorem Ex(r k f t p rs l c v co a G B A vl y z:J)(F:List (MB×J))(h:Nat)(m:MB)(w:Y)(P:F.length<=1048576)(d:Rd w 3 G F (Ad Dj F))(j:(F.map Prod.fst)[h]?=K m):
 Ai Aq 68 #[pn r k f t p rs l c v co a G B A vl,An #[h,y,z]] w λe I=>e=Am m.cz/\Ah w w I:=by
 obtain⟨x,q,rfl⟩:∃x,F[h]?=K x/\x.1=m:=by rw[mN]at j;exact nJ.1 j
 obtain⟨L,c1,rfl⟩:=d.aD;have O:h<F.length:=(f7.1 q).1;rcases d.2 with⟨N,_⟩|⟨g,o,cc,D,E⟩
 . omega
 simp only[lU,mj]at D;obtain⟨rfl,rfl⟩:=D;have s:=Rd.elem Bj E h x q 0 _ rfl;rw[mL]at s;clear E d j q;generalize F.length=n at*;have C:=Bw w #[r,k,f,t,p,rs,l,c,v,co,a,sO g o n c1,B,A,vl] #[h,y,z] 111 65;unfold pn;go_enter func68,ntmps68;go_upto_region 1 with fail
 refine Av (λu=>Ay u w #[r,k,f,t,p,rs,l,c,v,co,a,sO g o n c1,B,A,vl] 111/\Ay u ((w:Nat)+1) #[h,y,z] 65/\Ah w w u) C ?_
 rintro U b;clear C;rw[<-b.2.2.cell (lT s)]at s;obtain⟨Q,R,S⟩:=CI b.2.1;have T:=b.1.cell 11;have H:=Aw b.2.2;clear b;go_wp2;go_ret;exact⟨rfl,H⟩
end Go.Proofs.YtkgohaigebcgoaaGreatDoor
