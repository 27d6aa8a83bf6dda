import Derived.Test.YtkgohaigebcgoaaGreatDoorLo47
namespace Go.Proofs.YtkgohaigebcgoaaGreatDoor
open Go.ChangeShapes Go.WideShapes Go.ChangeAt Go.RowKit
set_option linter.unusedVariables false
open Go.Value renaming slice → Z
open Option renaming some → K
open Go renaming Value → J,World → Y
open List renaming flatMap → Ad
theorem M5.of{w:Y}{v:BQ}{p:MP}{l:Int}{F:List (MB×J)}{xs:List MI}{r:Ee}{costs:List Int}{j:Option Addr}{cc:Nat}{T vl:J}(u:Ug w v p l F xs r)(y:Bl xs r)(e:r.aU=0)(R:JU w (Z v.b.a v.b.n v.b.c) (Z v.o.a v.o.n v.o.c) T vl r)(H:costs.length<=1048576)(G:Rd w 1 (Z j costs cc) costs (Ad As costs))(S:∀x∈xs,x.op=28->0<=x.a)(I:∀t∈p.bO,Ks t.init):∃O D L,M5 w v p l F xs r costs j cc O D L:=by
 obtain⟨gb,A,U,q,B,co,O,D,L,f,h,P,i,C⟩:=Xs y e R;simp only[i8]at f h;have d:=C ⟨0,0,gb,A,0,q,B,0,true,true,0,0,0,0⟩ rfl rfl rfl rfl;have Q:O.reverse.Nodup:=List.pairwise_reverse.2 (i.nd.imp Ne.symm);refine⟨O,D,L,u,i,⟨⟨gb,A,f.1,f.2.1,d.gr⟩,d.eb, λb=>jN (d.sz b) oM,⟨q,B,h.1,by rw[h.2.1,d.ol],d.ord⟩,d.ob,by rw[d.ol];exact u.fh.nb, λb E=>H9 ((i.om b).2 E), λk b z=> ?_⟩, λb m N=> ?_,P,H,G,S,I⟩
 . have s:O.reverse[Ea O b]?=K b:=H9 (kx.1 (hC z));exact(List.getElem?_inj (f7.1 s).1 Q).1 (s.trans z.symm)
 cases y with
 |none _=>cases e
 |off _ _ _=>cases e
 |lost _ _ _ _ _ _ _ _=>cases e
 |two _ _ _ _ _ _ _ _=>cases e
 |good g=>exact TT g N
end Go.Proofs.YtkgohaigebcgoaaGreatDoor
