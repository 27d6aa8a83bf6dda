import Derived.Test.YthjbicggfnnonaaGreatDoorCw31
import Derived.Test.YthjbicggfnnonaaGreatDoorCw29
namespace Go.Proofs.YthjbicggfnnonaaGreatDoor
open Go.ChangeShapes Go.WideShapes Go.ChangeAt Go.RowKit
set_option linter.unusedVariables false
variable {xs:List Value}{B k n:Nat}{e:TypeId}{s:Value}
theorem TJ{w:World}{xs:List MI}{r:JO}{vb vo vi vl:Value}(h:Cs xs r)(e:r.code=0)(m:Gx w vb vo vi vl r):∃gb ob cb d f n E O,vb=sO gb ob r.blocks.length cb/\vo=sO d f r.blocks.length n/\0<r.blocks.length/\∀x:GV,x.gb=gb->x.ob=ob->x.go=d->x.oo=f->GF w r.blocks.length x E O:=by
 cases h with
 |none _=>cases e
 |off _ _ _=>cases e
 |lost _ _ _ _ _ _ _ _=>cases e
 |two _ _ _ _ _ _ _ _=>cases e
 | @good x S O D L I g x1 o1 v1 s1 d1 b1 i1 l1=>have j:=Ic g;have k:∀b,b<(AM xs).length->∀y∈nx (AM xs) b,y<(AM xs).length:=Qj g;obtain⟨G,H,i,t,_⟩:=FQ j k v1 s1;obtain⟨gb,ob,cb,p,u,_⟩:=Kv.jt g m.blocks;(have l:LW w vo O.reverse:=by have:=m.order;unfold LW;rw[Jm];simp only[Dl]at this;exact this);obtain⟨a,c,q⟩:=Rd.bW l;subst q;obtain⟨d,f,s,_,v⟩:=l.all (by rw[mQ,i];exact j);subst s;refine⟨gb,ob,cb,d,f,c,nx (AM xs),O.reverse,p,by rw[mQ,i],j,fun x A B C F=> ?_⟩;subst A B C F;exact⟨u,v,by rw[mQ,i],fun y z=>(t y).1 (nJ.1 z),k,K8 _ (Ii xs)⟩
structure Gp(w u:World)(G:Nat)(fc fa:Int)(vb vo vi vl vI vC:Value)(bad:Bool)(I:List Nat)(C:List Int):Prop where
 cC:Aw u G #[iZ fc,iZ fa,vb,vo,vi,vl,vI,vC,.bool bad] 240
 lo:w.heap.size<=G
 gQ:u.ownsRow w.heap.size 2 1 vI I.length (nv I)
 cost:u.ownsRow w.heap.size 2 1 vC C.length (C.flatMap Ad)
 ne:∀b,vI.ownBlock=some b->vC.ownBlock=some b->False
 aC:Below w.heap.size w u
 cb:∀y∈C,Ll y
section
variable {w u u':World} {G:Nat} {fc fa:Int} {vb vo vi vl vI vC:Value} {bad:Bool} {I:List Nat} {C:List Int}
theorem Gp.aa(h:Gp w u G fc fa vb vo vi vl vI vC bad I C)(a:Below u.heap.size u u'):Gp w u' G fc fa vb vo vi vl vI vC bad I C:={h with cC:=h.cC.aa a,gQ:=Ai h.gQ a lR,cost:=Ai h.cost a lR,aC:=Ac h.aC lR a}
theorem Gp.gX(h:Gp w u G fc fa vb vo vi vl vI vC bad I C):Gp w (u.setCell ⟨G,8,none⟩ (.bool true)) G fc fa vb vo vi vl vI vC true I C:={h with cC:=by have:=h.cC.set 8 (.bool true);simpa using this,gQ:=i9 h.gQ (a:=⟨G,8,none⟩) (fun q=>B3 h.gQ h.cC dC _ q rfl) _,cost:=i9 h.cost (a:=⟨G,8,none⟩) (fun q=>B3 h.cost h.cC dC _ q rfl) _,aC:=h.aC.setCell h.lo _}
theorem Gp.cells(h:Gp w u G fc fa vb vo vi vl vI vC bad I C):u.cell? ⟨G,6,none⟩=some vI/\u.cell? ⟨G,7,none⟩=some vC/\u.cell? ⟨G,8,none⟩=some (.bool bad)/\∀i,u.frozen? ⟨G,i,none⟩=false:=⟨by rw[h.cC.cell];rfl,by rw[h.cC.cell];rfl,by rw[h.cC.cell];rfl,h.cC.frozen⟩
theorem Fg{o:Option Nat}(h:u.ownsRow B e k s n xs)(i:u.grownBy u' o)(j:∀b,s.ownBlock=some b->some b≠o):u'.ownsRow B e k s n xs:=by
 refine⟨h.1,?_⟩;rcases h.2 with h|⟨g,cap,d,a,f,c,l⟩
 . exact .inl h
 refine .inr ⟨g,cap,d,a,f,?_,l⟩;rw[i.block g (kN.1 c).1 (j g (by rw[a];rfl))];exact c
theorem Ko{b:Nat}(h:u.ownsRow B e k s n xs)(a:s.ownBlock=some b):b<u.heap.size:=(h.lt b a).2
theorem Gp.jx(h:Gp w u G fc fa vb vo vi vl vI vC bad I C)(b:Nat)(V:Value)(g:u'.ownsRow w.heap.size 2 1 V (I.length+1) (nv I++[iZ (b:Int)]))(d:u.grownBy u' vI.ownBlock)(i:V.ownBlock=vI.ownBlock\/V.ownBlock=some u.heap.size):Gp w (u'.setCell ⟨G,6,none⟩ V) G fc fa vb vo vi vl V vC bad (I++[b]) C/\u'.cell? ⟨G,6,none⟩=some vI/\u'.frozen? ⟨G,6,none⟩=false:=by
 have c:Aw u' G _ _:=h.cC.grown d h.gQ dC;have f:u'.ownsRow w.heap.size 2 1 vC C.length (C.flatMap Ad):=Fg h.cost d (fun b k q=>h.ne b q.symm k);refine⟨⟨by have:=c.set 6 V;simpa using this,h.lo,?_,i9 f (a:=⟨G,6,none⟩) (fun q=>B3 f c dC _ q rfl) _,fun b h1 h2=> ?_,((h.aC.grown d h.aC.size (fun j l=>(h.gQ.lt j l).1)).setCell h.lo _),h.cb⟩,by rw[c.cell];rfl,c.frozen 6⟩
 . have:=i9 g (a:=⟨G,6,none⟩) (fun q=>B3 g c dC _ q rfl) V;rw[f6,jY,JI];exact this
 rcases i with e|e
 . exact h.ne b (e▸h1) h2
 rw[e]at h1;have:=Ko h.cost h2;simp only[i4]at h1;omega
theorem Gp.iL(h:Gp w u G fc fa vb vo vi vl vI vC bad I C){c:Int}(m:Ll c)(V:Value)(i:u'.ownsRow w.heap.size 2 1 V (C.length+1) (C.flatMap Ad++[iZ c]))(f:u.grownBy u' vC.ownBlock)(k:V.ownBlock=vC.ownBlock\/V.ownBlock=some u.heap.size):Gp w (u'.setCell ⟨G,7,none⟩ V) G fc fa vb vo vi vl vI V bad I (C++[c])/\u'.cell? ⟨G,7,none⟩=some vC/\u'.frozen? ⟨G,7,none⟩=false:=by
 have d:Aw u' G _ _:=h.cC.grown f h.cost dC;have g:u'.ownsRow w.heap.size 2 1 vI I.length (nv I):=Fg h.gQ f (fun b l q=>h.ne b l q.symm);refine⟨⟨by have:=d.set 7 V;simpa using this,h.lo,i9 g (a:=⟨G,7,none⟩) (fun q=>B3 g d dC _ q rfl) _,?_,fun b h1 h2=> ?_,((h.aC.grown f h.aC.size (fun j n=>(h.cost.lt j n).1)).setCell h.lo _),fun y p=> ?_⟩,by rw[d.cell];rfl,d.frozen 7⟩
 . have:=i9 i (a:=⟨G,7,none⟩) (fun q=>B3 i d dC _ q rfl) V;rw[f6,jY,kO];exact this
 . rcases k with e|e
   . exact h.ne b h1 (e▸h2)
   rw[e]at h2;have:=Ko h.gQ h1;simp only[i4]at h2;omega
 rcases kB.1 p with e|e
 . exact h.cb y e
 rw[kM.1 e];exact m
theorem Gp.gr{n gb ob cb g j f:Nat}(h:Gp w u G fc fa (sO gb ob n cb) (sO g j n f) vi vl vI vC bad (List.range n) C)(i:C.length=n)(p:0<n):∃a c d b,Gr w u G n ⟨fc,fa,gb,ob,cb,g,j,f,vi,vl,a,c,d,b⟩ bad (List.range n) C:=by
 have h1:=h.gQ;have h2:=h.cost;rw[lO]at h1;rw[i]at h2;rcases B9 h1 with⟨_,e⟩|⟨a,c,k⟩
 . omega
 rcases B9 h2 with⟨_,e⟩|⟨d,b,l⟩
 . omega
 subst k l;exact⟨a,c,d,b,h.cC,h.lo,h1,h2,fun e=>h.ne a rfl (by simp only[]at e;rw[e];rfl),h.aC,lO,fun y m=>mD.1 m,i,h.cb⟩
end
end Go.Proofs.YthjbicggfnnonaaGreatDoor
