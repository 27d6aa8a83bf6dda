import Derived.Test.YtadcneiiokbofaaGreatBo9
namespace Go.Proofs.YtadcneiiokbofaaGreat
open Go.ChangeShapes Go.WideShapes Go.ChangeAt Go.RowKit Go.Proofs.Tryz
set_option linter.unusedVariables false
open Option renaming some → K,none → M
open Go renaming Value → J,World → Y,Calls → Ai,TypeId → Aj
open Go.RowKit renaming Hid → Ae,Below → Ah
open Go.Obj renaming cells → Ak
open Go.Value renaming agg → Am
open Go.Proofs.Tryz renaming prog → Ap
open Go.World renaming alloc → Ac
set_option maxHeartbeats 4000000
set_option maxRecDepth 100000
theorem B9{w:Y}{b:Nat}{t:Aj}{a0 a c:J}(h:AA w b #[a0,a,c] t):w b=K a0/\w ⟨b,1,M⟩=K a/\w ⟨b,2,M⟩=K c:=⟨h.cell 0,h.cell 1,h.cell 2⟩
theorem Bu(w:Y)(A B:Array J)(s t:Aj):AA (Ac (Ac w (Ak A s)) (Ak B t)) w A s/\AA (Ac (Ac w (Ak A s)) (Ak B t)) ((w:Nat)+1) B t/\Ah w w (Ac (Ac w (Ak A s)) (Ak B t)):=by
 have c:=Aq w (Ak A s);have a:=Aq (Ac w (Ak A s)) (Ak B t);refine⟨(AA.new w _ _).a7 a,?_,Ar c lR a⟩;have b:=AA.new (Ac w (Ak A s)) B t;have d:(Ac w (Ak A s)).heap.size= ↑w+1:=sP
 rw[d]at b;exact b
theorem Fs(w:Y)(A B C:Array J)(s t r:Aj):AA (Ac (Ac (Ac w (Ak A s)) (Ak B t)) (Ak C r)) w A s/\AA (Ac (Ac (Ac w (Ak A s)) (Ak B t)) (Ak C r)) ((w:Nat)+1) B t/\AA (Ac (Ac (Ac w (Ak A s)) (Ak B t)) (Ak C r)) ((w:Nat)+1+1) C r/\Ah w w (Ac (Ac (Ac w (Ak A s)) (Ak B t)) (Ak C r)):=by
 obtain⟨e,f,g⟩:=Bu w A B s t;generalize c:Ac (Ac w (Ak A s)) (Ak B t)=u at*;have d:(u:Nat)= ↑w+1+1:=by rw[<-c];simp
 have a:=Aq u (Ak C r);have b:=AA.new u C r;rw[d]at b;exact⟨e.a7 a,f.a7 a,b,Ar g lR a⟩
theorem ML.iN(a b:ML):a=b↔a.head=b.head/\a.back=b.back/\a.a8=b.a8:=by obtain⟨c,d,e⟩:=a;obtain⟨f,g,h⟩:=b;simp
theorem Hw(a b:ML)(g i d f:J)(w:Y)(D:a.back.length<=1048576/\a.a8.length<=1048576)(E:b.back.length<=1048576/\b.a8.length<=1048576)(h:UH w (a,g,i))(C:UH w (b,d,f)):
 Ai Ap 75 #[Am #[a.head,g,i],Am #[b.head,d,f]] w λe P=>AM e (a=b)/\Ah w w P:=by
 have H:Ae (UH w (a,g,i)/\UH w (b,d,f)/\(a.back.length<=1048576/\a.a8.length<=1048576)/\b.back.length<=1048576/\b.a8.length<=1048576):=⟨h,C,D,E⟩
 clear h C D E;have t:=Bu w #[a.head,g,i] #[b.head,d,f] 92 92;go_enter func75,ntmps75;go_upto_region 1 with fail
 refine Ax (λu=>AA u w #[a.head,g,i] 92/\AA u ((w:Nat)+1) #[b.head,d,f] 92/\Ah w w u) t ?_
 rintro U v;clear t;have c:Ae (AA U w #[a.head,g,i] 92/\AA U ((w:Nat)+1) #[b.head,d,f] 92/\Ah w w U):=v
 clear v;obtain⟨k,r,s⟩:=B9 c.1;obtain⟨m,n,p⟩:=B9 c.2.1;by_cases q:a.head=b.head
 . have L:Ae (a.head=b.head):=q;rw[q]at k;clear q;go_wp2_with fail;refine(GY g d a.back b.back U H.2.2.1.1 H.2.2.2.1 (H.1.1.a7 c.2.2 lR) (H.2.1.1.a7 c.2.2 lR)).mono ?_;rintro e l ⟨⟨z,rfl,F⟩,Q,A⟩;have j:Ae (AA l w #[a.head,g,i] 92/\AA l ((w:Nat)+1) #[b.head,d,f] 92/\Ah w w l):=by subst A;exact⟨c.1.a7 (AB _ _ _),c.2.1.a7 (AB _ _ _),Ar c.2.2 lR (AB _ _ _)⟩
   have x:Ae (z=true↔a.back=b.back):=F;clear c k r s m n p A F;obtain⟨k,r,s⟩:=B9 j.1;obtain⟨m,n,p⟩:=B9 j.2.1;cases z
   . go_wp2;go_ret;exact⟨.no (λe=>by have:=x.2 ((ML.iN a b).1 e).2.1;simp at this),j.2.2⟩
   go_wp2_with fail;refine(GY i f a.a8 b.a8 l H.2.2.1.2 H.2.2.2.2 (H.1.2.a7 j.2.2 lR) (H.2.1.2.a7 j.2.2 lR)).mono ?_;rintro e O ⟨⟨N,rfl,G⟩,R,B⟩;(have I:Ae (Ah w w O):=by subst B;exact Ar j.2.2 lR (AB _ _ _));have y:Ae (N=true↔a.a8=b.a8):=G;clear j k r s m n p B G;go_wp2;go_ret;exact⟨.of ⟨λe=>(ML.iN a b).2 ⟨L,x.1 (by first|rfl|trivial),y.1 e⟩, λe=>y.2 ((ML.iN a b).1 e).2.2⟩,I⟩
 go_wp2;go_ret;exact⟨.no λe=>q ((ML.iN a b).1 e).1,c.2.2⟩
end Go.Proofs.YtadcneiiokbofaaGreat
