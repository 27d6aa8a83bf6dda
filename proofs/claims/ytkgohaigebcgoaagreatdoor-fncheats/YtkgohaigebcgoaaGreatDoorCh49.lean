import Derived.Test.YtkgohaigebcgoaaGreatDoorCh48
namespace Go.Proofs.YtkgohaigebcgoaaGreatDoor
open Go.ChangeShapes Go.WideShapes Go.ChangeAt Go.RowKit
set_option linter.unusedVariables false
open Go.Value renaming slice → Z
open Option renaming some → K
open Go renaming Value → J,World → Y
open List renaming flatMap → Ad
theorem MY.of{w:Y}{v:BN}{p:MP}{q:Int}{F:List (MB×J)}{xs:List MI}{r:DQ}{costs:List Int}{l:Option Addr}{cc:Nat}{U vl:J}(y:T8 w v p q F xs r)(z:Ba xs r)(e:r.aU=0)(S:JL w (Z v.b.a v.b.n v.b.c) (Z v.o.a v.o.n v.o.c) U vl r)(I:costs.length<=1048576)(H:Rd w 1 (Z l costs cc) costs (Ad At costs))(T:∀x∈xs,x.op=28->0<=x.a)(N:∀t∈p.bO,Kh t.init):∃O D L,MY w v p q F xs r costs l cc O D L:=by
 obtain⟨gb,B,V,s,C,co,O,D,L,f,h,Q,j,E⟩:=WX z e S;simp only[lU]at f h;have d:=E ⟨0,0,gb,B,0,s,C,0,true,true,0,0,0,0⟩ rfl rfl rfl rfl;have R:O.reverse.Nodup:=List.pairwise_reverse.2 (j.nd.imp Ne.symm);refine⟨O,D,L,y,j,⟨⟨gb,B,f.1,f.2.1,d.gr⟩,d.eb, λb=>mC (d.sz b) oM,⟨s,C,h.1,by rw[h.2.1,d.ol],d.ord⟩,d.ob,by rw[d.ol];exact y.iy.nb, λb G=>Hx ((j.om b).2 G), λk b A=> ?_⟩, λb m P=> ?_,Q,I,H,T,N⟩
 . have u:O.reverse[DY O b]?=K b:=Hx (nL.1 (lP A));exact(List.getElem?_inj (f7.1 u).1 R).1 (u.trans A.symm)
 cases z with
 |none _=>cases e
 |off _ _ _=>cases e
 |lost _ _ _ _ _ _ _ _=>cases e
 |two _ _ _ _ _ _ _ _=>cases e
 |good g=>exact TL g P
end Go.Proofs.YtkgohaigebcgoaaGreatDoor
