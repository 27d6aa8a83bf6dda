import Derived.Test.YtmalfecapdmdbaaGreatHo49
namespace Go.Proofs.YtmalfecapdmdbaaGreat
open Go.ChangeShapes Go.WideShapes Go.ChangeAt Go.RowKit
set_option linter.unusedVariables false
open Go.Value renaming slice → Z
open Option renaming some → K
open Go renaming Value → J,World → Y
open List renaming flatMap → Ad
theorem L8.of{w:Y}{v:BI}{p:MP}{l:Int}{F:List (MB×J)}{xs:List MI}{r:DC}{costs:List Int}{j:Option Addr}{cc:Nat}{T U:J}(u:SA w v p l F xs r)(y:Bg xs r)(e:r.eC=0)(R:FN w (Z v.b.a v.b.n v.b.c) (Z v.o.a v.o.n v.o.c) T U r)(H:costs.length<=1048576)(G:Rd w 1 (Z j costs cc) costs (Ad As costs))(S:∀x∈xs,x.op=28->0<=x.a)(I:∀t∈p.eD,Ew t.init):∃O D L,L8 w v p l F xs r costs j cc O D L:=by
 obtain⟨gb,A,cb,q,B,co,O,D,L,f,h,P,i,C⟩:=Pn y e R;simp only[i8]at f h;have d:=C ⟨0,0,gb,A,0,q,B,0,true,true,0,0,0,0⟩ rfl rfl rfl rfl;have Q:O.reverse.Nodup:=List.pairwise_reverse.2 (i.nd.imp Ne.symm);refine⟨O,D,L,u,i,⟨⟨gb,A,f.1,f.2.1,d.gr⟩,d.eb, λb=>kV (d.sz b) oM,⟨q,B,h.1,by rw[h.2.1,d.ol],d.ord⟩,d.ob,by rw[d.ol];exact u.gW.nb, λb E=>IP ((i.om b).2 E), λk b z=> ?_⟩, λb m N=> ?_,P,H,G,S,I⟩
 . have s:O.reverse[Dp O b]?=K b:=IP (mc.1 (i7 z));exact(List.getElem?_inj (i6.1 s).1 Q).1 (s.trans z.symm)
 cases y with
 |none _=>cases e
 |off _ _ _=>cases e
 |lost _ _ _ _ _ _ _ _=>cases e
 |two _ _ _ _ _ _ _ _=>cases e
 |good g=>exact So g N
end Go.Proofs.YtmalfecapdmdbaaGreat
