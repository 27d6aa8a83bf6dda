import Derived.Test.YtkgohaigebcgoaaGreatDoorCh28
namespace Go.Proofs.YtkgohaigebcgoaaGreatDoor
open Go.ChangeShapes Go.WideShapes Go.ChangeAt Go.RowKit Go.Proofs.Tryz
set_option linter.unusedVariables false
open Go.Value renaming slice → Z,agg → An,tuple → Ap
open Option renaming none → M
open Go renaming Value → J,World → Y,Calls → Ai
open Go.RowKit renaming Hid → Ae,Below → Ah
open Go.Obj renaming cells → Ak
open Go.Proofs.Tryz renaming prog → Aq
open Go.World renaming alloc → Ac
set_option maxHeartbeats 4000000
set_option maxRecDepth 100000
theorem QE(g:MC)(B j top:Nat)(t:Int)(d:Bool)(c n:Int)(X:VS)(C:List (J×List MC))(K:List MC)(F:List (MG×J))(l:J)(m q gf c3:Nat)(y:MG×J)(op a b c':Int)(w:Y)(W:B<= ↑w)(h:AB w B X C (K++[g]) F)(P:BC w j t d c n X l)(hF: ↑F=top+1)(ae:top<=1048576)(Q:F[top]?=some y)(aa:X.f=Z gf (top+1) c3)(O:K.length<=1048576):
 Ai Aq 106 #[.pointer j,An #[.pointer (some ⟨m,q,M⟩),.pointer (some ⟨gf,top*4,M⟩)],An #[op,a,b,c']] w (B4 w B j t d c n C (K++[⟨b,M1 a b g.word⟩]) F l X C F):=by
 have N:Ae (AG w (Ac (Ac w (Ak #[.pointer (some ⟨m,q,M⟩),.pointer (some ⟨gf,top*4,M⟩)] 143)) (Ak #[op,a,b,c'] 25)) B j top t d c n X C (K++[g]) F l m q gf op a b c' X C F):=AG.of m q gf op a b c' W h P;have H:Ae (AB w B X C (K++[g]) F/\ ↑F=top+1/\F[top]?=some y):=⟨h,hF,Q⟩
 clear h P Q;go_enter func106,ntmps106;go_upto_region 1 with fail
 refine Av (λu=>Ae (AG w u B j top t d c n X C (K++[g]) F l m q gf op a b c' X C F)/\Ah w w u) ⟨N,Ar (Al _ _) lR (Al _ _)⟩ ?_
 rintro U ⟨k,bU⟩;clear N;have ai:=k.hM;have E:=k.ib.cell 1;have G:=k.ib.cell 2;simp only[lQ,lO,lS]at E G;have aj:= λw=>MQ g.type g.word w
 have r:=As U;have KD:U.drew ⟨(w:Nat)+1,1,M⟩=some ↑a/\U.drew ⟨(w:Nat)+1,2,M⟩=some ↑b:=⟨Au r E,Au r G⟩
 clear E G aa;go_upto_region 1 with fail
 go_region_held_law (λS=>S ⟨(w:Nat)+1,1,M⟩=some ↑a/\S ⟨(w:Nat)+1,2,M⟩=some ↑b) (first|exact KD|exact T|exact V|go_keep) (first
  |(go_simp;go_at_call 151;refine(CZ B j t d c n X C K F l g _ (mC k.hB (k.av r).gv.size) (k.av r).own (k.av r).mb O).mono ?_;rintro e I ⟨rfl,R,z,A,p,D⟩;have s:Ae (AG w I B j top t d c n ⟨X.c,R,X.f⟩ C K F l m q gf op a b c' X C F):=(k.av r).pop z A p D;have T:I ⟨(w:Nat)+1,1,M⟩=some ↑a/\I ⟨(w:Nat)+1,2,M⟩=some ↑b:=⟨p.cell KD.1 oS,p.cell KD.2 oS⟩;clear z A p D)
  |(go_simp;go_at_call 153;refine(PT a b g.word _).mono ?_;rintro e u2 ⟨rfl,rfl⟩)
  |(go_simp;go_at_call 150;refine(Dw B j t d c n ⟨X.c,R,X.f⟩ C K F l ⟨b,M1 a b g.word⟩ _ (mC s.hB s.gv.size) s.own s.mb O).mono ?_;rintro e L ⟨rfl,k9,z,A,p,D⟩;have E5:Ae (AG w L B j top t d c n ⟨X.c,k9,X.f⟩ C (K++[⟨b,M1 a b g.word⟩]) F l m q gf op a b c' X C F):=s.push z A p D;have V:L ⟨(w:Nat)+1,1,M⟩=some ↑a/\L ⟨(w:Nat)+1,2,M⟩=some ↑b:=⟨(E5.ib.cell 1),(E5.ib.cell 2)⟩;clear z A p D))
 all_goals
  go_wp2_with fail;exact nR (v:=Ap #[]) kR rfl E5.ia
end Go.Proofs.YtkgohaigebcgoaaGreatDoor
