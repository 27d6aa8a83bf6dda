import Derived.Test.YtjnglocdoljgkaaGreatSw12
import Derived.Deep.RegionHeld3
namespace Go.Proofs.YtjnglocdoljgkaaGreat
open Go.ChangeShapes Go.WideShapes Go.ChangeAt Go.RowKit
set_option linter.unusedVariables false
open Option renaming some → K,none → M
open Go renaming Value → J,World → Y,Calls → Ae,TypeId → Af
open Go.RowKit renaming Hid → Aa,Below → Ad
open Go.IntKind renaming i64 → Ab
open Go.Value renaming int → Ac,slice → Z
set_option maxHeartbeats 4000000
set_option maxRecDepth 100000
variable {w u:Y}{p r o:List J}
theorem Fx{b:Nat}{t:Af}{a e f:J}(h:Ar w b #[a,e,f] t):w.cell? b=K a/\w.cell? ⟨b,1,M⟩=K e/\w.cell? ⟨b,2,M⟩=K f:=⟨h.cell 0,h.cell 1,h.cell 2⟩
theorem Ef(w:Y)(A B:Array J)(s t:Af):Ar ((w.alloc (.cells A s)).alloc (.cells B t)) w A s/\Ar ((w.alloc (.cells A s)).alloc (.cells B t)) ((w:Nat)+1) B t/\Ad w w ((w.alloc (.cells A s)).alloc (.cells B t)):=by
 have e:=Ag w (.cells A s);have a:=Ag (w.alloc (.cells A s)) (.cells B t);refine⟨(Ar.new w _ _).bM a,?_,Ai e lR a⟩;have b:=Ar.new (w.alloc (.cells A s)) B t;have f:(w.alloc (.cells A s)).heap.size= ↑w+1:=sP
 rw[f]at b;exact b
theorem SU(w:Y)(A B C:Array J)(s t r:Af):Ar (((w.alloc (.cells A s)).alloc (.cells B t)).alloc (.cells C r)) w A s/\Ar (((w.alloc (.cells A s)).alloc (.cells B t)).alloc (.cells C r)) ((w:Nat)+1) B t/\Ar (((w.alloc (.cells A s)).alloc (.cells B t)).alloc (.cells C r)) ((w:Nat)+1+1) C r/\Ad w w (((w.alloc (.cells A s)).alloc (.cells B t)).alloc (.cells C r)):=by
 obtain⟨h1,h2,g⟩:=Ef w A B s t;generalize e:(w.alloc (.cells A s)).alloc (.cells B t)=u at*;have f:(u:Nat)= ↑w+1+1:=by rw[<-e];simp
 have a:=Ag u (.cells C r);have b:=Ar.new u C r;rw[f]at b;exact⟨h1.bM a,h2.bM a,b,Ai g lR a⟩
theorem ML.iD(a b:ML):a=b↔a.head=b.head/\a.back=b.back/\a.ej=b.ej:=by obtain⟨e,f,g⟩:=a;obtain⟨h,i,j⟩:=b;simp
theorem Ha(a b:ML)(v1 v2 g i:J)(w:Y)(E:a.back.length<=1048576/\a.ej.length<=1048576)(F:b.back.length<=1048576/\b.ej.length<=1048576)(h:UQ w (a,v1,v2))(D:UQ w (b,g,i)):
 Ae Tryz.prog 143 #[.agg #[Ac Ab a.head,v1,v2],.agg #[Ac Ab b.head,g,i]] w λe Q=>AC e (a=b)/\Ad w w Q:=by
 have H:Aa (UQ w (a,v1,v2)/\UQ w (b,g,i)/\(a.back.length<=1048576/\a.ej.length<=1048576)/\b.back.length<=1048576/\b.ej.length<=1048576):=⟨h,D,E,F⟩
 clear h D E F;have t:=Ef w #[Ac Ab a.head,v1,v2] #[Ac Ab b.head,g,i] 95 95;go_enter Tryz.func143,Tryz.ntmps143;go_upto_region 1 with fail
 refine An (λu=>Ar u w #[Ac Ab a.head,v1,v2] 95/\Ar u ((w:Nat)+1) #[Ac Ab b.head,g,i] 95/\Ad w w u) t ?_
 rintro U v;clear t;have f:Aa (Ar U w #[Ac Ab a.head,v1,v2] 95/\Ar U ((w:Nat)+1) #[Ac Ab b.head,g,i] 95/\Ad w w U):=v
 clear v;obtain⟨k,r,s⟩:=Fx f.o.1;obtain⟨m,n,p⟩:=Fx f.o.2.1;by_cases q:a.head=b.head
 . have N:Aa (a.head=b.head):=q;rw[q]at k;clear q;go_wp2_with fail;refine(Dv v1 g a.back b.back U H.o.2.2.1.1 H.o.2.2.2.1 (H.o.1.1.bM f.o.2.2 lR) (H.o.2.1.1.bM f.o.2.2 lR)).mono ?_;rintro e l ⟨⟨A,rfl,G⟩,R,B⟩;have j:Aa (Ar l w #[Ac Ab a.head,v1,v2] 95/\Ar l ((w:Nat)+1) #[Ac Ab b.head,g,i] 95/\Ad w w l):=by subst B;exact⟨f.o.1.bM (As _ _ _),f.o.2.1.bM (As _ _ _),Ai f.o.2.2 lR (As _ _ _)⟩
   have y:Aa (A=true↔a.back=b.back):=G;clear f k r s m n p B G;obtain⟨k,r,s⟩:=Fx j.o.1;obtain⟨m,n,p⟩:=Fx j.o.2.1;cases A
   . go_wp2;go_ret;exact⟨.no (λe=>by have:=y.o.2 ((ML.iD a b).1 e).2.1;simp at this),j.o.2.2⟩
   go_wp2_with fail;refine(Dv v2 i a.ej b.ej l H.o.2.2.1.2 H.o.2.2.2.2 (H.o.1.2.bM j.o.2.2 lR) (H.o.2.1.2.bM j.o.2.2 lR)).mono ?_;rintro e P ⟨⟨O,rfl,I⟩,S,C⟩;(have L:Aa (Ad w w P):=by subst C;exact Ai j.o.2.2 lR (As _ _ _));have z:Aa (O=true↔a.ej=b.ej):=I;clear j k r s m n p C I;go_wp2;go_ret;exact⟨.of ⟨λe=>(ML.iD a b).2 ⟨N.o,y.o.1 (by first|rfl|trivial),z.o.1 e⟩, λe=>z.o.2 ((ML.iD a b).1 e).2.2⟩,L.o⟩
 go_wp2;go_ret;exact⟨.no λe=>q ((ML.iD a b).1 e).1,f.o.2.2⟩
structure VT(k:Nat)(w u:Y)(tp tr:Af)(p r o:List J):Prop where
 iA:u.ownsRow w tp k (Z w 1 1) 1 p
 im:u.ownsRow w tr k (Z (K ⟨(w:Nat)+1,0,M⟩) 1 1) 1 r
 loc:u.ownsRow w tr k (Z (K ⟨(w:Nat)+1+1,0,M⟩) 1 1) 1 o
 gG:Ad w w u
 jb:(w:Nat)+3<= ↑u
theorem VT.of(k:Nat)(w:Y)(a b:Af)(p r o:Array J)(l:p.size=k)(m:r.size=k)(j:o.size=k):
 VT k w (((w.alloc (.cells p a)).alloc (.cells r b)).alloc (.cells o b)) a b p.toList r.toList o.toList:=by
 have f:Ad w w (w.alloc (.cells p a)):=(lQ _ _).alloc lR _;have c2:Ad (w.alloc (.cells p a)).heap.size (w.alloc (.cells p a)) ((w.alloc (.cells p a)).alloc (.cells r b)):=(lQ _ _).alloc lR _;have c3:Ad ((w.alloc (.cells p a)).alloc (.cells r b)).heap.size ((w.alloc (.cells p a)).alloc (.cells r b)) (((w.alloc (.cells p a)).alloc (.cells r b)).alloc (.cells o b)):=(lQ _ _).alloc lR _;have g:=mQ (base:=w) (e:=a) (size:=k) w p 1 lR oX oM;have h:=mQ (base:=w) (e:=b) (size:=k) (w.alloc (.cells p a)) r 1 sP oX oM;have i:=mQ (base:=w) (e:=b) (size:=k) ((w.alloc (.cells p a)).alloc (.cells r b)) o 1 (by simp<;>omega) oX oM;refine⟨Am (Am g c2 lR) c3 lR,?_,?_,(f.trans (c2.mono sP)).trans (c3.mono (by simp<;>omega)),by simp<;>omega⟩
 . have:=Am h c3 lR;simpa using this
 simpa using i
theorem VT.bM{k:Nat}{f:Y}{b e:Af}(h:VT k w u b e p r o)(a:Ad u u f):VT k w f b e p r o:=⟨Am h.iA a lR,Am h.im a lR,Am h.loc a lR,h.gG.trans (a.mono (by have:=h.jb;omega)),kT h.jb a.size⟩
theorem VT.set{k:Nat}{a b:Af}(h:VT k w u a b p r o)(j:Nat)(x:J):VT k w (u.setCell ⟨(w:Nat)+1+1,j,M⟩ x) a b p r (o.set j x):=⟨kO h.iA (by simp[Value.ownBlock]<;>omega) x,kO h.im (by simp[Value.ownBlock]) x,(h.loc.stored j x).1,h.gG.setCell (by simp<;>omega) x,by have:=h.jb;simpa using this⟩
structure VL where
 b:J
 k:J
def Kq(w:Y)(v:VL)(m:ML):Prop:=UQ w (m,v.b,v.k)
def ML.small(m:ML):Prop:=m.back.length<=1048576/\m.ej.length<=1048576
def ML.fits(m:ML):Prop:=m.back.length<=9223372036854775807/\m.ej.length<=9223372036854775807
def ML.wf(m:ML):Prop:=CO m.head
theorem Kq.bM{e:Y}{v:VL}{m:ML}(h:Kq w v m){B:Nat}(b:Ad B w e)(a: ↑w<=B):Kq e v m:=⟨Rd.bM h.1 b a,Rd.bM h.2 b a⟩
end Go.Proofs.YtjnglocdoljgkaaGreat
