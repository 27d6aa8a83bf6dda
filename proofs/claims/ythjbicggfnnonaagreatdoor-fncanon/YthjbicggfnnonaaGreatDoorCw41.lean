import Derived.Test.YthjbicggfnnonaaGreatDoorCw34
namespace Go.Proofs.YthjbicggfnnonaaGreatDoor
open Go.ChangeShapes Go.WideShapes Go.ChangeAt Go.RowKit
set_option linter.unusedVariables false
section
variable {w u:World} {s:CP} {p:Int} {v:VP} {F:List (List Int×Value)} {cs:List MC} {G1 G2:List (MF×VF)} {ts:List MT} {D:List Ax}
theorem Bs.iG{C:List Ax}{e:TypeId}{k n c g:Nat}{xs:List Value}(h:Bs w u s p ((⟨e,k,sG g n c,n,xs⟩:Ax)::C))(i:Nat)(x:Value):Bs w (u.setCell ⟨g,i,none⟩ x) s p ((⟨e,k,sG g n c,n,xs.set i x⟩:Ax)::C)/\u.frozen? ⟨g,i,none⟩=false:=by have a:u.ownsRow w.heap.size e k (sG g n c) n xs:=h.sep.own _ (lS ..);have b:=(a.lt g rfl).1;refine⟨⟨?_,h.aC.setCell b _⟩,kx a i⟩;exact h.sep.put (A:=[]) (r:=⟨e,k,sG g n c,n,xs⟩) (xs.set i x) (a.stored i x).1 (Ew (⟨rfl,rfl,rfl,Nat.le_refl _,fun _ _ _=>rfl⟩:u.grownBy u (some g)) i x)
theorem Bs.ins{f:MF}{d b:Value}{g c:Nat}(h:Bs w u s p (Ab v F cs (G1++(f,(⟨d,b,sG g f.code.length c⟩:VF))::G2) ts D))(i:Nat)(x:Value)(a:List MI)(m:a.length=f.code.length)(y:(f.code.flatMap MI.cells).set i x=a.flatMap MI.cells):Bs w (u.setCell ⟨g,i,none⟩ x) s p (Ab v F cs (G1++((⟨f.params,f.result,f.locals,a⟩:MF),(⟨d,b,sG g f.code.length c⟩:VF))::G2) ts D)/\u.frozen? ⟨g,i,none⟩=false:=by
 have h1:=h.perm (M:=A3 (sG g f.code.length c) f.code::(Bf v.r F::A5 F++(Cd v.k cs::(AP v.f (G1++(f,(⟨d,b,sG g f.code.length c⟩:VF))::G2)::(AV G1++(Ay d f.params::Ay b f.locals::(AV G2++(BS v.t ts::D)))))))) (Bn fun inst q=>by simp only[Ab,AV,Bl,kO,kG,kl,kj,lC,kL];omega);have h2:=Bs.iG (e:=96) (k:=4) (n:=f.code.length) (c:=c) (g:=g) (xs:=f.code.flatMap MI.cells) h1 i x;refine⟨?_,h2.2⟩;have j:=h2.1;rw[y]at j;have e:AP v.f (G1++(f,(⟨d,b,sG g f.code.length c⟩:VF))::G2)=AP v.f (G1++((⟨f.params,f.result,f.locals,a⟩:MF),(⟨d,b,sG g f.code.length c⟩:VF))::G2):=by simp[AP,AJ]
 rw[e]at j;have l:(⟨96,4,sG g f.code.length c,f.code.length,a.flatMap MI.cells⟩:Ax)=A3 (sG g f.code.length c) a:=by simp[A3,m]
 rw[l]at j;refine j.perm (Bn fun inst q=> ?_);simp only[Ab,AV,Bl,kO,kG,kl,kj,lC,kL];omega
theorem Bs.gT{f:MF}{a:VF}{gf cf:Nat}(h:Bs w u s p (Ab v F cs (G1++(f,a)::G2) ts D))(c:v.f=sG gf (G1++(f,a)::G2).length cf)(z:Int):Bs w (u.setCell ⟨gf,G1.length*4+1,none⟩ (iZ z)) s p (Ab v F cs (G1++((⟨f.params,z,f.locals,f.code⟩:MF),a)::G2) ts D)/\u.frozen? ⟨gf,G1.length*4+1,none⟩=false:=by
 have h1:=h.perm (M:=AP v.f (G1++(f,a)::G2)::(Bf v.r F::A5 F++(Cd v.k cs::(AV (G1++(f,a)::G2)++(BS v.t ts::D))))) (Bn fun inst q=>by simp only[Ab,kl,kj,kL];omega);have d:AP v.f (G1++(f,a)::G2)=⟨68,4,sG gf (G1++(f,a)::G2).length cf,(G1++(f,a)::G2).length,(G1++(f,a)::G2).flatMap AJ⟩:=by simp[AP,c]
 rw[d]at h1;have h2:=Bs.iG h1 (G1.length*4+1) (iZ z);refine⟨?_,h2.2⟩;have b:=h2.1;have g:((G1++(f,a)::G2).flatMap AJ).set (G1.length*4+1) (iZ z)=(G1++((⟨f.params,z,f.locals,f.code⟩:MF),a)::G2).flatMap AJ:=by
  have i:(G1.flatMap AJ).length=G1.length*4:=Av AJ 4 Aj G1;rw[kO,kO,mR _ _ oM,i];congr 1
  rw[show G1.length*4+1-G1.length*4=1 from oM];simp[AJ]
 have e:(⟨68,4,sG gf (G1++(f,a)::G2).length cf,(G1++(f,a)::G2).length,((G1++(f,a)::G2).flatMap AJ).set (G1.length*4+1) (iZ z)⟩:Ax)=AP v.f (G1++((⟨f.params,z,f.locals,f.code⟩:MF),a)::G2):=by rw[g];simp[AP,c]
 rw[e]at b;refine b.perm (Bn fun inst q=> ?_);simp only[Ab,AV,Bl,kO,kG,kl,kj,kL];omega
end
end Go.Proofs.YthjbicggfnnonaaGreatDoor
