import Derived.Test.YthjbicggfnnonaaGreatDoorCw33
import Derived.Test.YthjbicggfnnonaaGreatDoorCw28
namespace Go.Proofs.YthjbicggfnnonaaGreatDoor
open Go.ChangeShapes Go.WideShapes Go.ChangeAt Go.RowKit
set_option linter.unusedVariables false
set_option maxHeartbeats 2000000
variable {p:MP}{f:MF}{x:MI}{d me D k c b i g n t:Nat}{sh j:List Int}{T:Nat->List Int}{a:Kx}{z:Int}{m:MB}{s:WS}{rest nx:List Nat}{C:Nat->Option (List Int)}
theorem Mq(a:f.code[d]?=some x)(b:d<=me):G4 p f (me+1-d) d sh T D=if Iw p f x sh=0 then G4 p f (me+1-(d+1)) (d+1) (Ot p f x sh) (Jr T d sh) (max D (Ot p f x sh).length)else .inl (Iw p f x sh,d):=by have e:me+1-d=(me+1-(d+1))+1:=oM;rw[e,G4,a]
theorem Oy(a:d=me+1):G4 p f (me+1-d) d sh T D=.inr (sh,T,D):=by have e:me+1-d=0:=oM;rw[e,G4]
theorem P6{α:Type}{l:List α}{x:α}(h:l[k]?=some x):l.drop k=x::l.drop (k+1):=by obtain⟨i,rfl⟩:=d7.1 h;exact my i
theorem Qq{c:List MB}{a:List Int}{d:Kx}(h:Io p f c ((a.map Int.toNat).drop k) s=d)(j:a[k]?=some z)(g:z=(b:Int))(i:c[b]?=some m):(match Tb p f m b s with|.inl e=>Sum.inl e|.inr s'=>Io p f c ((a.map Int.toNat).drop (k+1)) s')=d:=by
 have e:(a.map Int.toNat)[k]?=some b:=by rw[kh,j,g];simp
 rw[P6 e,Io,i]at h;exact h
def Jv(p:MP)(f:MF)(c:List MB)(rest:List Nat)(me:Nat)(nx:List Nat)(sh:List Int)(C:Nat->Option (List Int))(T:Nat->List Int)(D:Nat)(b:Kx):Prop:=(match Ji nx sh C with|none=>Sum.inl (4,me)|some a=>Io p f c rest ⟨a,T,D⟩)=b
theorem Qo{a:Nat}(h1:m.cK=(a:Int))(h2:m.last=(me:Int)):Tb p f m b s=(match G4 p f (me+1-a) a ((s.c b).getD []) s.t s.d with|.inl e=>.inl e|.inr (sh,T,D)=>match Ji (m.next.map Int.toNat) sh s.c with|none=>.inl (4,me)|some C=>.inr ⟨C,T,D⟩):=by unfold Tb;have e:(m.last-m.cK+1).toNat=me+1-a:=oM;rw[e,h1,h2,kJ,kJ]<;>rfl
theorem Jv.bad{i:List MB}{a:Nat}{g:Kx}{e:Int×Nat}(h:Io p f i ((j.map Int.toNat).drop k) s=g)(r:j[k]?=some z)(l:z=(b:Int))(n:i[b]?=some m)(h1:m.cK=(a:Int))(h2:m.last=(me:Int))(q:G4 p f (me+1-a) a ((s.c b).getD []) s.t s.d=.inl e):g=.inl e:=by have:=Qq h r l n;rw[Qo h1 h2,q]at this;exact this.symm
theorem Jv.of{g:List MB}{n:Kx}{l:List Int}(h:Io p f g ((j.map Int.toNat).drop k) s=n)(w:j[k]?=some z)(q:z=(b:Int))(r:g[b]?=some m)(h1:m.cK=(i:Int))(h2:m.last=(me:Int))(u:G4 p f (me+1-i) i ((s.c b).getD []) s.t s.d=.inr (l,T,D))(v:l=sh\/m.next=[]):Jv p f g ((j.map Int.toNat).drop (k+1)) me (m.next.map Int.toNat) sh s.c T D n:=by
 have a:=Qq h w q r;rw[Qo h1 h2,u]at a;unfold Jv;rcases v with e|e
 . subst e;rw[<-a];simp only[];cases Ji (m.next.map Int.toNat) l s.c<;>rfl
 rw[e]at a⊢;exact a
theorem Jv.none_{c:List MB}{b:List Int}(h:Jv p f c rest me (t::nx) sh C T D a)(d:C t=some b)(e:¬b=sh):a=.inl (4,me):=by unfold Jv at h;rw[Ji,d]at h;simp only[lE e]at h;exact h.symm
theorem Jv.same{b:List MB}{c:List Int}(h:Jv p f b rest me (t::nx) sh C T D a)(d:C t=some c)(e:c=sh):Jv p f b rest me nx sh C T D a:=by unfold Jv at h⊢;rw[Ji,d]at h;simp only[lI e]at h;exact h
theorem Jv.new{b:List MB}(h:Jv p f b rest me (t::nx) sh C T D a)(c:C t=none):Jv p f b rest me nx sh (Kk C t sh) T D a:=by unfold Jv at h⊢;rw[Ji,c]at h;exact h
theorem Jv.some_{b:List MB}(h:Jv p f b rest me [] sh C T D a):Io p f b rest ⟨C,T,D⟩=a:=h
theorem NF(h:Dj p f x sh=0):(IU p f x sh).length<=64:=by
 unfold Dj at h;by_cases h1:sh.length<(AC p f x).length
 . rw[lI h1]at h;simp at h
 rw[lE h1]at h;split at h
 . simp at h
 split at h
 . simp at h
 omega
theorem S9{xs:List MI}{e:Nat}(h:(AM xs)[b]?=some m)(d:m.last=(e:Int))(i:xs[e]?=some x)(g:x.op=29):m.next=[]:=by
 unfold AM at h;rw[kh]at h;obtain⟨a,h1,rfl⟩:=lg.1 h;have f:a.last=(e:Int):=d;have c:(Ej xs a).next=Et xs x e:=by unfold Ej;rw[f,kJ,kF,i];rfl
 rw[c];simp[Et,J4,BR,g]
structure Jw(w u:World)(s:CP)(p:Int)(V:Value)(cs:List Value):Prop where
 own:u.ownsRow w.heap.size 5 1 V cs.length cs
 all:B5 cs
 gV:LT w u s p
section
variable {w u u':World} {s:CP} {p p':Int} {V V':Value} {cs news:List Value}
theorem Jw.draw(h:Jw w u s p V cs)(d:Dy u' s.S s.a s.len s.cap p')(b:AG s.S u u'):Jw w u' s p' V cs:=⟨BJ h.own b.grow (fun g c e=>by have:=(h.own.lt g c).1;have:=h.gV.lo;simp only[i4]at e;omega),h.all,h.gV.draw d b⟩
theorem Jw.aa(h:Jw w u s p V cs)(a:Below u.heap.size u u'):Jw w u' s p V cs:=⟨Ai h.own a lR,h.all,h.gV.on a⟩
theorem Jw.en(h:Jw w u s p V cs)(e:news.length=n)(b:B5 news)(f:u'.ownsRow w.heap.size 5 1 V' (cs.length+n) (cs++news))(c:u.grownBy u' V.ownBlock):∃a:List Value,(a.length<=cs.length+n/\cs.length+n<=a.length)/\Hid (Jw w u' s p V' a):=by subst e;exact⟨cs++news,by rw[f6];exact⟨Nat.le_refl _,Nat.le_refl _⟩,⟨by rw[f6];exact f,h.all.append b,h.gV.grown c fun k d=>(h.own.lt k d).1⟩⟩
theorem Jw.sl(h:Jw w u s p V cs):∃a c,V=.slice a cs.length c/\cs.length<=c/\c<=maxLen/\(0<cs.length->∃g,a=some ⟨g,0,none⟩):=by
 rcases h.own.2 with⟨e,b⟩|⟨g,c,i,e,_,_,d,f,_⟩
 . exact⟨none,0,by rw[b];exact e,oM,lr _,fun h=>oM⟩
 exact⟨_,c,e,d,f,fun _=>⟨g,rfl⟩⟩
theorem Jw.set(h:Jw w u s p (sG g n c) cs)(j:n=cs.length)(i:Nat)(z:Int)(e:0<=z)(h1:z<=255):∃b:List Value,(b.length<=cs.length/\cs.length<=b.length)/\Hid (Jw w (u.setCell ⟨g,i,none⟩ (.int .u8 z)) s p (sG g n c) b):=by
 subst j;have d:=h.own.stored i (.int .u8 z);refine⟨cs.set i (.int .u8 z),by rw[lw];exact⟨Nat.le_refl _,Nat.le_refl _⟩,⟨by rw[lw];exact d.1,fun x a=> ?_,h.gV.grown d.2 fun k f=>by cases f;exact(h.own.lt g rfl).1⟩⟩;rcases mM a with a|a
 . exact h.all x a
 exact⟨z,a,e,h1⟩
theorem Jw.front{a:Option Addr}{m:Nat}(h:Jw w u s p (.slice a n c) cs)(q:n=cs.length)(l:m<=cs.length)(v:0<cs.length):∃b:List Value,(b.length<=m/\m<=b.length)/\Hid (Jw w u s p (.slice a m c) b):=by
 subst q;have d:(cs.take m).length=m:=by rw[lB];omega
 refine⟨cs.take m,by rw[d];exact⟨Nat.le_refl _,Nat.le_refl _⟩,⟨?_,fun x r=>h.all x (lz r),h.gV⟩⟩;rw[d];refine⟨by rw[d,kn],?_⟩;rcases h.own.2 with⟨_,t⟩|⟨g,c',f,e,h1,h2,y,i,j,k⟩
 . omega
 simp only[ip,kU]at e;obtain⟨rfl,rfl⟩:=e;exact .inr ⟨g,c,f,rfl,h1,h2,oM,i,j,by rw[<-k,List.take_take,kn,kn,Nat.min_eq_left l]⟩
theorem Jw.fz(h:Jw w u s p (sG g n c) cs)(a:n=cs.length)(i:Nat):u.frozen? ⟨g,i,none⟩=false:=by subst a;exact kx h.own i
theorem Jw.at(h:Jw w u s p V cs)(j:V=sG g n c)(d:i<cs.length):∃z:Int,u.cell? ⟨g,i,none⟩=some (.int .u8 z)/\0<=z/\z<=255:=by subst j;obtain⟨z,k,f,h1⟩:=h.all _ (ku d);have b:=Bm (n:=cs.length) (c:=c) (ad:=⟨g,0,none⟩) (by obtain⟨a,c',e,_⟩:=h.sl;simp only[ip]at e;rw[<-e.2.1];exact(by rw[e.2.1];have:=h.own;rw[e.2.1]at this;exact this)) i _ (an d);rw[Addr.add_lit,ki,k]at b;exact⟨z,b,f,h1⟩
end
def TY(w:World)(s:CP)(p m:Int)(N:Nat)(e:Ending)(a:World):Prop:=∃(V:Value) (cs:List Value) (p':Int),e=.returned V/\p<=p'/\p'<=p+m/\cs.length<=N/\Jw w a s p' V cs
theorem LZ(r:Int)(a:0<=r)(h1:r<256):IntKind.u8.wrap r=r:=by show r % 2 ^ 8=r;omega
theorem Oc(w:World)(s:CP)(p n:Int)(b:Dy w s.S s.a s.len s.cap p)(M:p+1000<=1000000000000)(K:0<=n)(L:n<=100):
 Calls Tryz.prog 29 #[.pointer (some ⟨s.S,0,none⟩),iZ n] w (TY w s p 100 100):=by
 obtain⟨D,v,A,B,C⟩:=kS infoBD;have N:=b.low;have f:Hid (Jw w (w.alloc (.cells #[] 5)) s p (sG w.heap.size 0 0) []):=⟨⟨rfl,.inr ⟨w.heap.size,0,#[],rfl,Nat.le_refl _,lq _ _,Nat.le_refl _,lr _,rfl,rfl⟩⟩,(fun u y=>by cases y),(⟨AG.refl _ _,b,b.lt⟩:LT w w s p).on (Aa _ _)⟩;clear b;go_enter Tryz.func29,Tryz.ntmps29;go_wp2;go_loopw [5,6] (fun V i wr=>∃(k:Nat) (cs:List Value),((k:Int)<=n/\cs.length<=k)/\i=iZ k/\Hid (Jw w wr s (p+k) V cs)) (fun _ i _=>n.toNat-(intOf i).toNat)
 case atStart=>exact⟨0,[],oT,rfl,by simpa using f⟩
 clear f;obtain⟨k,cs,⟨H,G⟩,rfl,c⟩:=hrel;by_cases J:(k:Int)<n
 . go_wp2_with fail;refine(Al c.o.gV.src).mono ?_;rintro e E ⟨r,g,h1,rfl,b,l⟩;have d:=Ag (c.o.draw b l);have F:=LZ r g h1;clear b l c;go_wp2_with (at_builtin;refine wpList_append_own _ rfl _ _ 22 rfl w.heap.size 5 D (.int .u8 0) 1 1 Tryz.underlying22 v A B C rfl dC _ _ _ rfl (d.o.own.alloc _) ⟨E.heap.size,0,none⟩ 1 1 [_] rfl rfl (cell_one_new _ _ _) (ints_oneCell .u8 [_]) oX oM (by have:=d.o.gV.size;simp;omega) ?_);intro V' O h j t;obtain⟨q,I,m⟩:=(d.o.aa (Aa _ _)).en (n:=1) rfl (fun x z=>⟨r,kM.1 z,g,oM⟩) h j;clear h j t d;go_wp2;go_roundw;(case rel=>exact⟨k+1,q,oM,by go_num,by rw[show p+((k+1:Nat):Int)=p+k+1 from oM];exact m⟩);exact oI
 go_wp2;go_ret;exact⟨_,cs,p+k,rfl,oM,oM,oM,c.o⟩
end Go.Proofs.YthjbicggfnnonaaGreatDoor
