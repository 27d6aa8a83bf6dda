import Derived.Test.YtmalfecapdmdbaaGreatHo31
import Derived.Test.YtmalfecapdmdbaaGreatHo27
namespace Go.Proofs.YtmalfecapdmdbaaGreat
open Go.ChangeShapes Go.WideShapes Go.ChangeAt Go.RowKit
set_option linter.unusedVariables false
open Go.Value renaming slice → Z,int → Ag,agg → Am
open Option renaming some → K,none → M
open Go renaming Value → J,World → Y,TypeId → Aj
open Go.IntKind renaming i64 → Af
open Go.RowKit renaming Below → Ah
open Go.Proofs.Tryz renaming prog → Ap
open Go.World renaming ownsRow → Ab
open List renaming flatMap → Ad
set_option maxRecDepth 100000
variable {v:J}{g n c:Nat}{l:List Int}{w u:Y}{zs:List (ML×J×J)}
theorem Od(k:Nat)(a:k<30):∃(s:ByteArray) (c f:Int),(BS k).toArray=#[.string s,Ag Af c,Ag Af f]/\0<=c/\c<=4294967295:=by
 have h:k=0\/k=1\/k=2\/k=3\/k=4\/k=5\/k=6\/k=7\/k=8\/k=9\/k=10\/k=11\/k=12\/k=13\/k=14\/k=15\/k=16\/k=17\/k=18\/k=19\/k=20\/k=21\/k=22\/k=23\/k=24\/k=25\/k=26\/k=27\/k=28\/k=29:=oM
 clear a;rcases h with rfl|rfl|rfl|rfl|rfl|rfl|rfl|rfl|rfl|rfl|rfl|rfl|rfl|rfl|rfl|rfl|rfl|rfl|rfl|rfl|rfl|rfl|rfl|rfl|rfl|rfl|rfl|rfl|rfl|rfl<;>exact⟨_,_,_,rfl,dC,dC⟩
theorem En(op:Int):∃(s:ByteArray) (c f:Int),Cv op=#[.string s,Ag Af c,Ag Af f]/\Ew c:=by
 by_cases h:0<=op/\op<=29
 . unfold Cv;rw[kZ h];exact Od _ oM
 unfold Cv;rw[kP h];exact⟨_,_,_,rfl,dC,dC⟩
theorem Ka(s:ByteArray)(c f:Int)(w:Y):(Instr.field 117 (Am #[.string s,c,f]) 1).run Ap w=.ok c w:=kR
theorem Sh{H:Nat}(h:v.ownBlock=K g\/g=H):(Z g n c).ownBlock=v.ownBlock\/(Z g n c).ownBlock=K H:=by
 rcases h with e|e
 . exact .inl e.symm
 exact .inr (by rw[e];rfl)
theorem Uh(h:∀z∈l,∃b:Nat,z=(b:Int)/\b<n):ints (l.map Int.toNat)=l:=by
 induction l with
 |nil=>rfl
 | cons x r c=>obtain⟨b,e,_⟩:=h x sP;(have:=c λz a=>h z (by simp[a]));unfold ints at this⊢;rw[mX,mX,this,e];rfl
theorem Xo(h:Rd w 1 v l (Ad As l))(a:∀z∈l,∃b:Nat,z=(b:Int)/\b<n):I5 w v (l.map Int.toNat):=by unfold I5;rw[lC,C7,Uh a];exact h
theorem Xw(h:∀z∈l,∃b:Nat,z=(b:Int)/\b<n):∀y∈l.map Int.toNat,y<n:= λy a=>by obtain⟨z,c,e⟩:=lA.1 a;obtain⟨b,d,f⟩:=h z c;omega
theorem Xm{c:Y}{B k:Nat}{e:Aj}{s:J}{xs:List J}(h:Ab u B e k s n xs)(i:∀b,s.ownBlock=K b->c.heap[b]?=u.heap[b]?):Ab c B e k s n xs:=by
 refine⟨h.1,?_⟩;rcases h.2 with h|⟨g,cap,d,a,f,j,l⟩
 . exact .inl h
 exact .inr ⟨g,cap,d,a,f,by rw[i g (by rw[a];rfl)];exact j,l⟩
theorem UX{q:Prop}(h:q:=by
 rcases h.own.2 with⟨e0,_⟩|⟨g,cap,cur',e0,_,hgg,_⟩
 . rw[e0]at hbb;cases hbb
 rw[e0]at hbb;simp only[Value.ownBlock,kI]at hbb;subst hbb;rw[e1]at hgg;injection hgg with q
 injection q with _ q
 exact absurd q (by decide)):q:=h
theorem Ix.fr{f:Y}{V:J}{m G:Nat}{p:List (ML×J×J)}{x:GV}{bad:Bool}{I:List Nat}{C:List Int}(h:Ix w u V n p zs)(c:Gr w u G m x bad I C)(r:Ah w w f)(s:∀b,b< ↑u->b≠G->b≠x.gi->b≠x.gc->f.heap[b]?=u.heap[b]?):Ix w f V n p zs:=by
 refine⟨Xm h.own λb hbb=> ?_,h.len,h.sub,r⟩;have t:=(h.own.lt b hbb).2;have k:∀(i j d c' a:Nat) (l:List J),Ab u i 2 j (Z a d c') d l->b≠a:= λi j d c' a l v e=>by subst e;obtain⟨_,y,e1⟩:=AD v;exact UX
 refine s b t (λe=> ?_) (k _ _ _ _ _ _ c.ia) (k _ _ _ _ _ _ c.cost);subst e;have e1:=c.gK;unfold AC at e1;exact UX
theorem Ix.same{b:Y}{d:List (ML×J×J)}(h:Ix w u (Z g n c) n d zs)(e:Ix w b (Z g n c) n d zs)(j:Nat)(a:j<n*3):b ⟨g,j,M⟩=u ⟨g,j,M⟩:=by rw[lj h.own j a,lj e.own j a]
structure FcR(w w1:Y)(v:VP)(p:MP)(f:MF)(gc:J)(FB:Nat)(r:DC)(z1 z2 z3 z4:J)(cv:J)(costs:List Int):Prop where
 pb:AC w1 w #[v.r,v.k,v.f,v.t] 36
 fb:AC w1 FB #[r.eC,r.at_,z1,z2,z3,z4] 80
 rf:FN w1 z1 z2 z3 z4 r
 rp:Da w1 v p
 rc:Rd w1 4 gc f.eC (Ad MI.cells f.eC)
 cs:Rd w1 1 cv costs (Ad As costs)
 e8:Ah w w w1
end Go.Proofs.YtmalfecapdmdbaaGreat
