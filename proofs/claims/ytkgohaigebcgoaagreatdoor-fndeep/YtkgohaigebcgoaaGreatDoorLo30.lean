import Derived.Test.YtkgohaigebcgoaaGreatDoorLo28
namespace Go.Proofs.YtkgohaigebcgoaaGreatDoor
open Go.ChangeShapes Go.WideShapes Go.ChangeAt Go.RowKit Go.Proofs.Tryz
set_option linter.unusedVariables false
open Go.Value renaming slice → Z,agg → An,tuple → Ap
open Option renaming none → M
open Go renaming Value → J,World → Y,Calls → Ai
open Go.RowKit renaming Hid → Ae,Below → Ah
open Go.Obj renaming cells → Ak
open Go.Proofs.Tryz renaming prog → Aq
open Go.World renaming alloc → Ac
set_option maxHeartbeats 4000000
set_option maxRecDepth 100000
theorem QP(g:MC)(B i top:Nat)(t:Int)(d:Bool)(c n:Int)(X:VS)(C:List (J×List MC))(K:List MC)(F:List (MG×J))(j:J)(k m gf c3:Nat)(y:MG×J)(op a b c':Int)(w:Y)(T:B<= ↑w)(h:AB w B X C (K++[g]) F)(N:BF w i t d c n X j)(V: ↑F=top+1)(aa:top<=1048576)(O:F[top]?=some y)(W:X.f=Z gf (top+1) c3)(L:K.length<=1048576):
 Ai Aq 106 #[.pointer i,An #[.pointer (some ⟨k,m,M⟩),.pointer (some ⟨gf,top*4,M⟩)],An #[op,a,b,c']] w (Cd w B i t d c n C (K++[⟨b,Pc a b g.word⟩]) F j X C F):=by
 have I:Ae (AH w (Ac (Ac w (Ak #[.pointer (some ⟨k,m,M⟩),.pointer (some ⟨gf,top*4,M⟩)] 143)) (Ak #[op,a,b,c'] 25)) B i top t d c n X C (K++[g]) F j k m gf op a b c' X C F):=AH.of k m gf op a b c' T h N;have H:Ae (AB w B X C (K++[g]) F/\ ↑F=top+1/\F[top]?=some y):=⟨h,V,O⟩
 clear h N O;go_enter func106,ntmps106;go_upto_region 1 with fail
 refine Av (λu=>Ae (AH w u B i top t d c n X C (K++[g]) F j k m gf op a b c' X C F)/\Ah w w u) ⟨I,Ar (Al _ _) lR (Al _ _)⟩ ?_
 rintro U ⟨E1,bU⟩;clear I;have ae:=E1.hM;have A:=E1.ib.cell 1;have D:=E1.ib.cell 2;simp only[i5,f8,i6]at A D;have ai:= λw=>MZ g.type g.word w
 have p:=At U;have KD:U.drew ⟨(w:Nat)+1,1,M⟩=some ↑a/\U.drew ⟨(w:Nat)+1,2,M⟩=some ↑b:=⟨Au p A,Au p D⟩
 clear A D W;go_upto_region 1 with fail
 go_region_held_law (λQ=>Q ⟨(w:Nat)+1,1,M⟩=some ↑a/\Q ⟨(w:Nat)+1,2,M⟩=some ↑b) (first|exact KD|exact R|exact S|go_keep) (first
  |(go_simp;go_at_call 151;refine(C6 B i t d c n X C K F j g _ (jN E1.hB (E1.av p).eX.size) (E1.av p).own (E1.av p).mb L).mono ?_;rintro e E ⟨rfl,P,r,s,l,x⟩;have q:Ae (AH w E B i top t d c n ⟨X.c,P,X.f⟩ C K F j k m gf op a b c' X C F):=(E1.av p).pop r s l x;have R:E ⟨(w:Nat)+1,1,M⟩=some ↑a/\E ⟨(w:Nat)+1,2,M⟩=some ↑b:=⟨l.cell KD.1 oS,l.cell KD.2 oS⟩;clear r s l x)
  |(go_simp;go_at_call 153;refine(Qb a b g.word _).mono ?_;rintro e u2 ⟨rfl,rfl⟩)
  |(go_simp;go_at_call 150;refine(DA B i t d c n ⟨X.c,P,X.f⟩ C K F j ⟨b,Pc a b g.word⟩ _ (jN q.hB q.eX.size) q.own q.mb L).mono ?_;rintro e G ⟨rfl,k9,r,s,l,x⟩;have z:Ae (AH w G B i top t d c n ⟨X.c,k9,X.f⟩ C (K++[⟨b,Pc a b g.word⟩]) F j k m gf op a b c' X C F):=q.push r s l x;have S:G ⟨(w:Nat)+1,1,M⟩=some ↑a/\G ⟨(w:Nat)+1,2,M⟩=some ↑b:=⟨(z.ib.cell 1),(z.ib.cell 2)⟩;clear r s l x))
 all_goals
  go_wp2_with fail;exact lD (v:=Ap #[]) kR rfl z.eY
end Go.Proofs.YtkgohaigebcgoaaGreatDoor
