import Derived.Test.YtjnglocdoljgkaaGreatSw21
namespace Go.Proofs.YtjnglocdoljgkaaGreat
open Go.ChangeShapes Go.WideShapes Go.ChangeAt Go.RowKit
set_option linter.unusedVariables false
open Go.Value renaming slice → Z,int → Ac
open Option renaming some → K,none → M
open Go renaming Value → J,World → Y,Calls → Ae,TypeId → Af
open Go.RowKit renaming Hid → Aa,Below → Ad
open Go.IntKind renaming i64 → Ab
set_option maxHeartbeats 4000000
set_option maxRecDepth 100000
variable {S n b q base i:Nat}{a:Option Addr}{xs:List Int}{o:Oper}{h:Act->Y->Prop}{Q:Exit->Act->Y->Prop}{rest:List Oper}{e zs:List (ML×J×J)}{g v1 v2 f:J}{z:ML×J×J}{m:MB}
def Yr(w:Y)(S:Nat)(V:J)(sh ts:List Int)(b:J)(c:Int)(a:Y):Prop:=
 (sh.length< ↑ts/\c=1/\Ad w w a)\/(ts.length<= ↑sh/\CP (sh.drop (sh.length-↑ts)) ts=false/\c=2/\Ad w w a)\/
 (ts.length<= ↑sh/\CP (sh.drop (sh.length-↑ts)) ts=true/\c=0/\(∃V',Du a S V' (sh.take (sh.length-↑ts))/\V'.ownBlock=V.ownBlock)/\a.ownsRow w 2 1 b ts ((sh.drop (sh.length-↑ts)).flatMap Ah)/\DV (λj=>j=S) w a)
theorem Du.short{w:Y}{n c m:Nat}(h:Du w S (Z a n c) xs)(k:m<= ↑xs)(t:n= ↑xs):w.ownsRow (S+1) 2 1 (Z a m c) m ((xs.take m).flatMap Ah):=by
 subst t;have h1:=h.own;have f:m*1<= ↑xs*1:=oM
 refine⟨by rw[Au Ah 1 Ao,lj,Nat.min_eq_left k],?_⟩;rcases h1.2 with⟨b,v⟩|⟨g,cap,j,b,p,s,y,q,r,i⟩
 . have u:m=0:=oM;subst u;simp only[jc]at b;obtain⟨rfl,_,rfl⟩:=b;exact .inl ⟨rfl,rfl⟩
 simp only[jc,lO]at b;obtain⟨rfl,rfl⟩:=b;refine .inr ⟨g,c,j,rfl,p,s,oM,q,r,?_⟩;have e:(xs.take m).flatMap Ah=(xs.flatMap Ah).take (m*1):=by
  rw[<-i,List.take_take,Nat.min_eq_left f];have h2:xs.flatMap Ah=(xs.take m).flatMap Ah++(xs.drop m).flatMap Ah:=by rw[<-lJ,mx]
  have l:j.toList.take (m*1)=(xs.flatMap Ah).take (m*1):=by rw[<-i,List.take_take,Nat.min_eq_left f]
  rw[l,h2];exact(List.take_left' (by rw[Au Ah 1 Ao,lj,Nat.min_eq_left k])).symm
 rw[e,<-i,List.take_take,Nat.min_eq_left f]
theorem Du.tail{w:Y}{S g n c:Nat}(h:Du w S (Z g n c) xs)(a:Nat)(c':Nat)(f:a<= ↑xs):Rd w 1 (Z (K ⟨g,a,M⟩) (↑xs-a) c') (↑xs-a) ((xs.drop a).flatMap Ah):=by
 refine⟨by rw[Au Ah 1 Ao,mO],.inr ⟨g,a,c',rfl, λj u b=> ?_⟩⟩;rcases(Rd.gM h.own).2 with⟨e,_,_,l⟩|⟨m,o,c2,e,k⟩
 . have:xs=[]:=lP e;subst this;simp at b
 simp only[jc,kK,mA]at e;obtain⟨⟨rfl,rfl,_⟩,_⟩:=e;have h2:xs.flatMap Ah=(xs.take a).flatMap Ah++(xs.drop a).flatMap Ah:=by rw[<-lJ,mx]
 have i:(xs.flatMap Ah)[a+j]?=K u:=by rw[h2,lN (by rw[Au Ah 1 Ao,lj,Nat.min_eq_left f];omega),Au Ah 1 Ao,lj,Nat.min_eq_left f];rw[show a+j-a*1=j from oM];exact b
 have:=k (a+j) u i;rw[lY]at this;exact this
theorem Du.shrink{w:Y}{n c m:Nat}(h:Du w S (Z a n c) xs)(b:m<= ↑xs)(e:n= ↑xs):Du (w.setCell S (Z a m c)) S (Z a m c) (xs.take m):=by refine⟨by have:=h.gR.set 0 (Z a m c);simpa using this,?_⟩;rw[lj,Nat.min_eq_left b];exact lL (h.short b e) oS _
theorem T7(S:Nat)(V vw:J)(sh ts:List Int)(w:Y)(h:Du w S V sh)(T:Rd w 1 vw ts (ts.flatMap Ah))(O:sh.length<=1048576)(hy:ts.length<=1048576):Ae Tryz.prog 106 #[.pointer S,vw] w λe w'=>∃V2 c,e=.returned (.tuple #[V2,Ac Ab c])/\Yr w S V sh ts V2 c w':=by
 obtain⟨a2,c2,rfl⟩:=T.fu;have H:Aa (Du w S V sh/\Rd w 1 (Z a2 ts c2) ts (ts.flatMap Ah)/\sh.length<=1048576/\ts.length<=1048576):=⟨h,T,O,hy⟩
 clear h T;by_cases G:sh.length< ↑ts
 . have HL:Aa (sh.length< ↑ts):=G
   have aE:(sh:Int)-(ts:Int)<0:=oM;clear G;go_enter Tryz.func106,Tryz.ntmps106;go_wp2_with fail;refine(Fo S V sh w H.o.1).mono ?_;rintro e u ⟨rfl,rfl⟩;go_wp2_with fail;go_ret2;exact⟨_,1,rfl,.inl ⟨HL.o,rfl,lQ _ _⟩⟩
 obtain⟨b,N⟩:∃b, ↑sh=b+ts.length:=⟨sh.length-↑ts,oM⟩
 have t:Aa (↑sh=b+ ↑ts):=N
 have ao:¬(b:Int)<0:=oM;have B:Aa (↑sh-↑ts=b):=by show ↑sh-↑ts=b;omega
 rcases Bz H.o.1.own with⟨e,e0⟩|⟨g,c,e⟩
 . subst e;have aq:sh=[]:=lP e0;subst aq;have au:ts=[]:=lP (by simp at G;omega);subst au;clear N G ao e0 t B O hy;rw[mD];have c0:=H.o.1.gR.cell 0;have f0:=H.o.1.gR.frozen 0;simp only[kL,jt]at c0;go_enter Tryz.func106,Tryz.ntmps106;go_wp2_with fail;refine(Fo S _ [] w H.o.1).mono ?_;rintro e u ⟨rfl,rfl⟩;rw[mD];go_wp2_with fail;refine(JX _ 0 [] u oM (λu hu=>by cases hu) ⟨rfl,.inl ⟨rfl,_,_,rfl⟩⟩).mono ?_;rintro e A ⟨l,c3,rfl,I,D⟩;have i:Aa (A.ownsRow u 2 1 (Z l 0 c3) 0 []/\Ad u u A):=⟨I,D⟩
   clear I D c0 f0;go_wp2_with fail;refine(KB _ _ [] [] A sP sP ⟨rfl,.inl ⟨rfl,_,_,rfl⟩⟩ ⟨rfl,.inl ⟨rfl,_,_,rfl⟩⟩).mono ?_;rintro e k ⟨⟨L,rfl,F⟩,z⟩;have aj:L=true:=F.2 rfl;subst aj;have f:Aa (k.ownsRow u 2 1 (Z l 0 c3) 0 []/\Ad u u k):=⟨Am i.o.1 z lR,Ai i.o.2 lR z⟩
   clear F z i;have p:=(H.o.1.bM f.o.2).gR;have c0:=p.cell 0;have f0:=p.frozen 0;simp only[kL,jt]at c0;have y:Aa (Du (k.setCell S (Z M 0 0)) S (Z M 0 0) []/\(k.setCell S (Z M 0 0)).ownsRow u 2 1 (Z l 0 c3) 0 []/\DV (λj=>j=S) u (k.setCell S (Z M 0 0))):=⟨(H.o.1.bM f.o.2).shrink (m:=0) sP rfl,lL f.o.1 H.o.1.gR.lt _,(DV.of (R:= λj=>j=S) f.o.2).setCell (.inl rfl) _⟩
   clear p;go_wp2_with fail;go_ret2;exact⟨_,0,rfl,.inr (.inr ⟨Nat.le_refl _,rfl,rfl,⟨Z M 0 0,y.o.1,rfl⟩,y.o.2.1,y.o.2.2⟩)⟩
 subst e;have a8: ↑sh<=c:=by
  rcases H.o.1.own.2 with⟨e,_⟩|⟨g',cap,aw,e,_,_,am,_⟩
  . cases e
  simp only[jc,kK,mA]at e;obtain⟨_,_,rfl⟩:=e;exact am
 have c0:=H.o.1.gR.cell 0;have f0:=H.o.1.gR.frozen 0;simp only[kL,jt]at c0;rw[N]at c0 a8 O;have HT:Aa (∀c',Rd w 1 (Z (K ⟨g,b,M⟩) ts c') ts ((sh.drop b).flatMap Ah)):= λc'=>by
  have:=H.o.1.tail b c' oM;rw[show ↑sh-b= ↑ts from oM]at this
  exact this
 clear N G;generalize ae:ts.length=m at c0 a8 O hy HT⊢;have C:Aa (↑ts=m):=ae
 clear ae;have aA:(b:Int)<=(c:Int):=oM;have aD:(b:Int)+(m:Int)<=(c:Int):=oM;go_enter Tryz.func106,Tryz.ntmps106;go_wp2_with fail;refine(Fo S _ sh w H.o.1).mono ?_;rintro e u ⟨rfl,rfl⟩;rw[t.o,C.o];have Q:Aa ((sh.drop b).length=m):=by show(sh.drop b).length=m;rw[mO,t.o,C.o];omega
 go_upto_region 4 with fail
 go_cut [7] (λs wx=>∃a c',s=Z a m c'/\Aa (wx.ownsRow u 2 1 (Z a m c') m ((sh.drop b).flatMap Ah)/\Ad u u wx))
 case first=>
  go_wp2_with fail;all_goals
   refine(JX _ m ((sh.drop b).flatMap Ah) u oM (BZ _) (by
    first
     |exact HT.o _
     |exact⟨by rw[Au Ah 1 Ao,Q.o],.inl ⟨oM,_,_,by rw[show m=0 from oM]⟩⟩)).mono ?_
   rintro e A ⟨l,c3,rfl,I,D⟩;have i:Aa (A.ownsRow u 2 1 (Z l m c3) m ((sh.drop b).flatMap Ah)/\Ad u u A):=⟨I,D⟩
   clear I D;go_wp2_with fail;go_meet;exact⟨_,_,rfl,i⟩
 case rest=>
  obtain⟨l,c3,rfl,i⟩:=hcut;clear c0 f0;obtain⟨W1,ah⟩:∃W,W=wc:=⟨_,rfl⟩;subst ah;go_wp2_with fail;refine(KB _ _ (sh.drop b) ts W1 (by rw[Q.o];omega) H.o.2.2.2 (by rw[Q.o];exact Rd.gM i.o.1) (by have:=H.o.2.1.bM i.o.2 lR;rw[C.o]at this⊢;exact this)).mono ?_;rintro e k ⟨⟨L,rfl,F⟩,z⟩;have f:Aa ((L=true↔CP (sh.drop b) ts=true)/\k.ownsRow u 2 1 (Z l m c3) m ((sh.drop b).flatMap Ah)/\Ad u u k):=⟨F,Am i.o.1 z lR,Ai i.o.2 lR z⟩
  clear F z i;cases L
  . have HN:Aa (CP (sh.drop b) ts=false):=by
     cases hf:CP (sh.drop b) ts with
     |false=>rfl
     |true=>have:=f.o.1.2 hf;cases this
    go_wp2_with fail;go_ret2;exact⟨_,2,rfl,.inr (.inl ⟨by have:=t.o;omega,by rw[B.o];exact HN.o,rfl,f.o.2.2⟩)⟩
  . have HY:Aa (CP (sh.drop b) ts=true):=f.o.1.1 rfl;have p:=(H.o.1.bM f.o.2.2).gR;have c0:=p.cell 0;have f0:=p.frozen 0;simp only[kL,jt]at c0;rw[t.o,C.o]at c0;have y:Aa (Du (k.setCell S (Z g b c)) S (Z g b c) (sh.take b)/\(k.setCell S (Z g b c)).ownsRow u 2 1 (Z l m c3) m ((sh.drop b).flatMap Ah)/\DV (λj=>j=S) u (k.setCell S (Z g b c))):=⟨(H.o.1.bM f.o.2.2).shrink (by have:=t.o;omega) rfl,lL f.o.2.1 H.o.1.gR.lt _,(DV.of (R:= λj=>j=S) f.o.2.2).setCell (.inl rfl) _⟩
    clear p;go_wp2_with fail;go_ret2;refine⟨_,0,rfl,.inr (.inr ⟨by have:=t.o;omega,by rw[B.o];exact HY.o,rfl,⟨Z g b c,?_,rfl⟩,?_,y.o.2.2⟩)⟩
    . rw[B.o];exact y.o.1
    rw[B.o,C.o];exact y.o.2.1
theorem Tc{P:Program}(u:Y)(B:Nat)(t ty e:Af)(i:TypeInfo)(z:J)(k p:Nat)(D:P.underlying t=K (.slice e))(A:P.info? e=K i)(hz:i.zero=K z)(T:i.size=k)(Q:i.bytes=p)(ae:z.cells.size=k)(a8:0<k)(V:J)(n:Nat)(xs:List J)(s:u.ownsRow B e k V n xs)(Vs:J)(m:Nat)(b:List J)(y:Rd u k Vs m b)(W: ↑b=m*k)(h1:∀x∈b,x.oneCell'=true)(L:n+m<=maxLen)(R:(n+m)*p<=140737488355328)(N:B<= ↑u):∃v' f,(Builtin.append_ #[t,t] ty #[V,Vs]).run P u=.ok v' f/\f.ownsRow B e k v' (n+m) (xs++b)/\u.grownBy f V.ownBlock/\(v'.ownBlock=V.ownBlock\/v'.ownBlock=K u):=by
 obtain⟨a,c,rfl⟩:=y.fu;cases a with
 | none=>
   have hm:m=0:=by
    rcases y.2 with⟨e0,_⟩|⟨g,o,c,l,_⟩
    . exact e0
    cases l
   subst hm;have F:b=[]:=lP oM;subst F;exact⟨_,_,Db (P:=P) B t ty e i k D A _ _ _ s c,by simpa using s,⟨rfl,rfl,rfl,Nat.le_refl _, λ_ _ _=>rfl⟩,.inl rfl⟩
 | some ad=>
   have O:∀j v,b[j]?=K v->u.cell? (ad.add j)=K v:= λj v C=>by
    rcases y.2 with⟨e0,_⟩|⟨g,o,c,l,S⟩
    . subst e0;have:b=[]:=lP oM;subst this;simp at C
    simp only[jc,kK]at l;obtain⟨rfl,_⟩:=l;rw[Da];exact S j v C
   obtain⟨v',f,h2,G,H,_,I⟩:=run_append_own_at (P:=P) (w:=u) B t ty e i z k p D A hz T Q ae a8 V n xs s ad m c b W O h1 L R N;exact⟨v',f,h2,G,H,I⟩
theorem RH{P:Program}{a:Act}{u:Y}(s x:Operand)(B:Nat)(t e:Af)(i:TypeInfo)(z:J)(k g:Nat)(F:o.op=.call {callee:=.builtin .append,args:=#[s,x],argTypes:=#[t,t]})(L:P.underlying t=K (.slice e))(C:P.info? e=K i)(R:i.zero=K z)(D:i.size=k)(y:i.bytes=g)(S:z.cells.size=k)(I:0<k)(V:J)(n:Nat)(xs:List J)(H:a.eval s=V)(N:u.ownsRow B e k V n xs)(Vs:J)(m:Nat)(f:List J)(O:a.eval x=Vs)(G:Rd u k Vs m f)(E:f.length=m*k)(h1:∀x∈f,x.oneCell'=true)(q:n+m<=maxLen)(A:(n+m)*g<=140737488355328)(r:B<=u.heap.size)(v:∀v' b,b.ownsRow B e k v' (n+m) (xs++f)->u.grownBy b V.ownBlock->(v'.ownBlock=V.ownBlock\/v'.ownBlock=K u.heap.size)->h (a.put o.dst v') b):o.wp P a u h Q:=by obtain⟨v',b,h2,j,l,p⟩:=Tc (P:=P) u B t o.type e i z k g L C R D y S I V n xs N Vs m f G E h1 q A r;exact Lib.wp_append_run _ s x t t F _ _ H O v' b h2 (v v' b j l p)
theorem Hl{P:Program}{h:Array Oper}{a:Act}{u:Y}(y:o.guard=M)(s x:Operand)(B:Nat)(t e:Af)(i:TypeInfo)(z:J)(k g:Nat)(E:o.op=.call {callee:=.builtin .append,args:=#[s,x],argTypes:=#[t,t]})(I:P.underlying t=K (.slice e))(A:P.info? e=K i)(O:i.zero=K z)(C:i.size=k)(r:i.bytes=g)(R:z.cells.size=k)(H:0<k)(V:J)(n:Nat)(xs:List J)(G:a.eval s=V)(L:u.ownsRow B e k V n xs)(Vs:J)(m:Nat)(f:List J)(N:a.eval x=Vs)(F:Rd u k Vs m f)(D:f.length=m*k)(h1:∀x∈f,x.oneCell'=true)(j:n+m<=maxLen)(v:(n+m)*g<=140737488355328)(l:B<=u.heap.size)(p:∀v' b,b.ownsRow B e k v' (n+m) (xs++f)->u.grownBy b V.ownBlock->(v'.ownBlock=V.ownBlock\/v'.ownBlock=K u.heap.size)->wpList P h Q rest (a.put o.dst v') b):wpList P h Q (o::rest) a u:=wpList_plain y λ_ q=>RH s x B t e i z k g E I A O C r R H V n xs G L Vs m f N F D h1 j v l λv' b S T U=>q _ _ (p v' b S T U)
theorem Cw{P:Program}{j:Array Oper}{a:Act}{E:Prop}{u:Y}(y:o.guard=M)(s x:Operand)(B:Nat)(t e:Af)(i:TypeInfo)(z:J)(k f:Nat)(F:o.op=.call {callee:=.builtin .append,args:=#[s,x],argTypes:=#[t,t]})(L:P.underlying t=K (.slice e))(A:P.info? e=K i)(S:i.zero=K z)(C:i.size=k)(r:i.bytes=f)(T:z.cells.size=k)(I:0<k)(V:J)(n:Nat)(xs:List J)(H:a.eval s=V)(N:u.ownsRow B e k V n xs)(Vs:J)(m:Nat)(b:List J)(R:a.eval x=Vs)(G:Rd u k Vs m b)(D:b.length=m*k)(h1:∀x∈b,x.oneCell'=true)(l:n+m<=maxLen)(v:(n+m)*f<=140737488355328)(p:B<=u.heap.size)(q:∀v' g,g.ownsRow B e k v' (n+m) (xs++b)->u.grownBy g V.ownBlock->(v'.ownBlock=V.ownBlock\/v'.ownBlock=K u.heap.size)->h (a.put o.dst v') g):if Region.wanted o (yielded j a.tmps)=true then Oper.wp P o a u h Q else E:=by
 have O:Region.wanted o (yielded j a.tmps)=true:=by simp[Region.wanted,y]
 rw[lS O];exact RH s x B t e i z k f F L A S C r T I V n xs H N Vs m b R G D h1 l v p q
theorem CM(u:Y)(e:Af)(k:Nat):(u.alloc (.cells #[] e)).ownsRow u e k (Z u 0 0) 0 []:=⟨sP,.inr ⟨u,0,#[],rfl,Nat.le_refl _,nJ _ _,Nat.le_refl _,mu _,sP,sP⟩⟩
theorem Rd.front{u:Y}{k n m c:Nat}{xs:List J}(h:Rd u k (Z a n c) n xs)(l: ↑xs=n*k)(p:m<=n)(c':Nat):Rd u k (Z a m c') m (xs.take (m*k)):=by
 refine⟨by rw[lj,l];exact Nat.min_eq_left (Nat.mul_le_mul_right k p),?_⟩;rcases h.2 with⟨e0,_⟩|⟨g,o,c1,f,i⟩
 . obtain rfl:m=0:=oM;exact .inl ⟨rfl,a,c',rfl⟩
 simp only[jc]at f;obtain⟨rfl,_⟩:=f;refine .inr ⟨g,o,c',rfl, λj u b=>i j u ?_⟩;rw[List.getElem?_take]at b;split at b
 . exact b
 cases b
def PZ(y:ML×J×J):Prop:=(∃a c,y.2.1=Z a y.1.back c)/\∃a c,y.2.2=Z a y.1.ej c
theorem OU(h:∀y∈e,PZ y):∀u∈e.flatMap BS,u.oneCell'=true:=by
 intro u b;obtain⟨y,i,b⟩:=mN.1 b;obtain⟨⟨a,c,f⟩,a',c',g⟩:=h y i;simp only[BS,lA,lW,mZ]at b;rcases b with rfl|rfl|rfl
 . rfl
 . rw[f];rfl
 rw[g];rfl
theorem R6(ty:Af)(u:Y)(p:Nat)(V:J)(b:List (ML×J×J))(h:Rd u 3 V b (b.flatMap BS))(F:∀y∈b,PZ y)(s:p<= ↑u)(R:b.length<=1048576):∃v' f,(Builtin.append_ #[43,43] ty #[Z u 0 0,V]).run Tryz.prog (u.alloc (.cells #[] 95))=.ok v' f/\f.ownsRow p 95 3 v' b (b.flatMap BS)/\Ad u u f:=by
 obtain⟨z,t,L,N,O⟩:=lU Qm;have l:(u.alloc (.cells #[] 95)).ownsRow u 95 3 (Z u 0 0) 0 []:=⟨rfl,.inr ⟨u,0,#[],rfl,Nat.le_refl _,nJ _ _,Nat.le_refl _,mu _,rfl,sP⟩⟩;obtain⟨a,c,rfl⟩:=Rd.fu h;cases a with
 | none=>
   have I:b.length=0:=by
    rcases h.2 with⟨e0,_⟩|⟨g,o,c,i,_⟩
    . exact e0
    cases i
   have A:b=[]:=lP I;subst A;exact⟨_,_,Db (P:=Tryz.prog) u 43 ty 95 z 3 Tryz.underlying43 t _ _ _ l c,Ba l s,Ag _ _⟩
 | some ad=>
   have D:∀j v,(b.flatMap BS)[j]?=K v->(u.alloc (.cells #[] 95)).cell? (ad.add j)=K v:= λj v k=>by
    rcases h.2 with⟨e0,_⟩|⟨g,o,c,i,G⟩
    . have:b=[]:=lP e0;subst this;simp at k
    simp only[jc,kK]at i;obtain⟨rfl,_⟩:=i;have:=G j v k;rw[Da,(Ag u (.cells #[] 95)).cell (jC this)];exact this
   obtain⟨v',f,H,h2,B,Q⟩:=run_append_own (P:=Tryz.prog) (u.alloc (.cells #[] 95)) u 43 ty 95 z (.agg #[Ac Ab 0,Z M 0 0,Z M 0 0]) 3 56 Tryz.underlying43 t L N O rfl dC _ 0 [] l ad b c (b.flatMap BS) (by rw[Au BS 3 CA]) D (OU F) oX oM (Ag _ _).size;(have C:f.ownsRow u 95 3 v' b (b.flatMap BS):=by simpa using h2);exact⟨_,f,H,Ba C s,(Ag u (.cells #[] 95)).grown B (Ag _ _).size (λj k=>(l.lt j k).1)⟩
theorem NI{g:Array Oper}{a:Act}(m:o.guard=M)(s x:Operand)(p:o.op=.call {callee:=.builtin .append,args:=#[s,x],argTypes:=#[43,43]})(u:Y)(f:Nat)(V:J)(b:List (ML×J×J))(r:a.eval s=Z u 0 0)(t:a.eval x=V)(h:Rd u 3 V b (b.flatMap BS))(l:∀y∈b,PZ y)(i:f<= ↑u)(n:b.length<=1048576)(j:∀v' e,e.ownsRow f 95 3 v' b (b.flatMap BS)->Ad u u e->wpList Tryz.prog g Q rest (a.put o.dst v') e):wpList Tryz.prog g Q (o::rest) a (u.alloc (.cells #[] 95)):=wpList_plain m λ_ k=>by obtain⟨v',e,q,h1,h2⟩:=R6 o.type u f V b h l i n;exact Lib.wp_append_run _ s x 43 43 p _ _ r t v' e q (k _ _ (j v' e h1 h2))
structure Ia(w u:Y)(V:J)(n:Nat)(ys zs:List (ML×J×J)):Prop where
 own:u.ownsRow w 95 3 V n (zs.flatMap BS)
 len: ↑zs=n
 sub:∀z∈zs,z∈ys
 gG:Ad w w u
theorem Ia.at_{w u:Y}{g n c:Nat}{p zs:List (ML×J×J)}(h:Ia w u (Z (K ⟨g,0,M⟩) n c) n p zs)(D:∀y∈p,PZ y){k:Nat}(F:k<n):∃z a b d e,zs[k]?=K z/\z∈p/\z.2.1=Z a z.1.back.length b/\z.2.2=Z d z.1.ej.length e/\u.cell? ⟨g,k*3,M⟩=K (Ac Ab z.1.head)/\u.cell? ⟨g,k*3+1,M⟩=K (Z a z.1.back.length b)/\u.cell? ⟨g,k*3+2,M⟩=K (Z d z.1.ej.length e):=by
 have A:k<zs.length:=by rw[h.len];exact F
 have f:zs[k]?=K zs[k]:=an A;have B:=h.sub _ (mW A);obtain⟨⟨a,b,s⟩,d,e,t⟩:=D _ B;rcases(Rd.gM h.own).2 with⟨e0,_⟩|⟨G,H,c',e0,i⟩
 . omega
 simp only[jc,kK,mA,lO,mg]at e0;obtain⟨⟨rfl,rfl⟩,rfl⟩:=e0;have C:=Rd.elem CA i k _ f 0 _ rfl;have j:=Rd.elem CA i k _ f 1 _ rfl;have l:=Rd.elem CA i k _ f 2 _ rfl;rw[s]at j;rw[t]at l;simp only[lY,kZ]at C j l;exact⟨_,a,b,d,e,f,B,s,t,C,j,l⟩
theorem Ia.bM{w u b:Y}{V:J}(h:Ia w u V n e zs)(a:Ad u u b):Ia w b V n e zs:=⟨Am h.own a lR,h.len,h.sub,Ai h.gG lR a⟩
theorem Vu{k:Nat}:(((zs.flatMap BS).set (k*3) (Ac Ab z.1.head)).set (k*3+1) z.2.1).set (k*3+2) z.2.2=(zs.set k z).flatMap BS:=by
 induction zs generalizing k with
 |nil=>rfl
 | cons y r a=>
   cases k with
   |zero=>rfl
   | succ k=>rw[lM,kX,kX,<-a,show(k+1)*3=k*3+1+1+1 from oM];rfl
theorem Ia.kg{w U:Y}{g n c k:Nat}{b:List (ML×J×J)}(h:Ia w U (Z g n c) n b zs)(j:z∈b)(h1:z.2.1=v1)(h2:z.2.2=v2):Ia w (((U.setCell ⟨g,k*3,M⟩ (Ac Ab z.1.head)).setCell ⟨g,k*3+1,M⟩ v1).setCell ⟨g,k*3+2,M⟩ v2) (Z g n c) n b (zs.set k z):=by
 subst h1 h2;have a:=(AD h.own).1;have l:=(mq h.own (k*3) (Ac Ab z.1.head)).1;have m:=(mq l (k*3+1) z.2.1).1;have f:=(mq m (k*3+2) z.2.2).1;rw[Vu]at f;refine⟨f,by rw[mU];exact h.len, λy i=> ?_,((h.gG.setCell a _).setCell a _).setCell a _⟩;rcases m7 i with e|e
 . exact h.sub y e
 subst e;exact j
theorem Ia.jz{w U:Y}{g n c q r:Nat}{C:List (ML×J×J)}(h:Ia w U (Z g n c) n C zs)(s:∀y∈C,PZ y)(D:q<n)(E:r<n){a b:ML×J×J}{e f k l:Option Addr}{i j m p:Nat}(F:zs[q]?=K a)(G:zs[r]?=K b)(f1:a.2.1=Z e a.1.back i)(f2:a.2.2=Z k a.1.ej m)(f3:b.2.1=Z f b.1.back j)(f4:b.2.2=Z l b.1.ej p):U.cell? ⟨g,q*3,M⟩=K (Ac Ab a.1.head)/\U.cell? ⟨g,q*3+1,M⟩=K (Z e a.1.back i)/\U.cell? ⟨g,q*3+2,M⟩=K (Z k a.1.ej m)/\U.cell? ⟨g,r*3,M⟩=K (Ac Ab b.1.head)/\U.cell? ⟨g,r*3+1,M⟩=K (Z f b.1.back j)/\U.cell? ⟨g,r*3+2,M⟩=K (Z l b.1.ej p):=by
 obtain⟨Q,_,_,_,_,t,_,u,v,H,I,L⟩:=h.at_ s D;obtain⟨R,_,_,_,_,z,_,A,B,N,O,P⟩:=h.at_ s E;rw[F]at t;rw[G]at z;cases t
 cases z
 rw[f1]at u;rw[f2]at v;rw[f3]at A;rw[f4]at B;cases u
 cases v
 cases A
 cases B
 exact⟨H,I,L,N,O,P⟩
theorem OP(s:J)(n:Nat)(j:List (ML×J×J))(w:Y)(hN: ↑j=n)(hn:n<=1048576)(h:Rd w 3 s n (j.flatMap BS))(hS:∀y∈j,PZ y):
 Ae Tryz.prog 147 #[s] w λe w'=>∃V zs,e=.returned V/\Ia w w' V n j zs:=by
 obtain⟨v,c1,p⟩:=Rd.fu h;subst p;have H:=Ap (ji h hS);have F:=Ap hN;go_enter Tryz.func147,Tryz.ntmps147;go_wp2_with (at_builtin;refine NI rfl (.tmp 7) (.tmp 8) rfl w w (Z v n c1) j rfl rfl (by rw[F.o];exact H.o.1) H.o.2 lR (by rw[F.o];exact hn) ?_;intro V w3 au am);have f:Aa (Ia w w3 V n j j):=⟨by rw[<-F.o];exact au,F.o, λz Q=>Q,am⟩;rcases Bz f.o.own with⟨rfl,Q⟩|⟨g,c,rfl⟩
 . subst Q;go_wp2_with fail;go_loopw [4,5,6] (λi _ _ wr=>i=Ac Ab 0/\wr=w3) (λ_ _ _ _=>0)
   (case atStart=>exact⟨rfl,rfl⟩);obtain⟨rfl,rfl⟩:=hrel;go_wp2_with fail;go_ret;exact⟨Z M 0 0,_,rfl,f.o⟩
 go_wp2_with fail;go_loopw [4,5,6] (λi _ _ wr=>∃(m:Nat) (zs:List (ML×J×J)),m<=n/\i=Ac Ab m/\Aa (Ia w wr (Z g n c) n j zs)) (λi _ _ _=>n-(intOf i).toNat)
 case atStart=>exact⟨0,_,oM,rfl,f⟩
 obtain⟨m,zs,hm,rfl,f⟩:=hrel;by_cases aD:m<n;case neg=>go_wp2_with fail;go_ret;exact⟨Z g n c,_,rfl,f.o⟩
 have aE:(m:Int)<(n:Int):=oM;go_wp2_with fail;go_loopw [5,6] (λk _ wr=>∃(q:Nat) (zs:List (ML×J×J)),q<n/\k=Ac Ab q/\Aa (Ia w wr (Z g n c) n j zs)) (λk _ _=>(intOf k).toNat)
 case atStart=>exact⟨n-1,zs,oM,by go_num,f⟩
 obtain⟨q,zs,P,rfl,f⟩:=hrel;by_cases aw:m<q;case neg=>
  go_wp2_with fail;go_roundw;case rel=>exact⟨m+1,zs,oM,by go_num,f⟩
  exact oI
 have aA:(q:Int)>(m:Int):=oM;have aF:(q:Int)<(n:Int):=oM;obtain⟨r,hr⟩:∃r,q=r+1:=⟨q-1,oM⟩;have B:=Ap hr;obtain⟨b,v,C,A,p,ae,ao,f1,f2,R,T,I⟩:=f.o.at_ H.o.2 P;obtain⟨t,a2,b2,N,O,ah,aq,f3,f4,q0,q1,L⟩:=f.o.at_ H.o.2 (show r<n by have:=B.o;omega);have g6:(q:Int)-1=(r:Int):=oM;have g3:(0:Int)<=(r:Int):=oM;have g4:(r:Int)<(n:Int):=oM;clear hr;have g5:IntKind.i64.wrap (r:Int)=(r:Int):=mY _ ⟨oM,oM⟩;go_upto_region 8 with fail
 have D:Aa (Ia w wr.drew (Z g n c) n j zs):=⟨Am f.o.own (Aj _) lR,f.o.len,f.o.sub,Ai f.o.gG lR (Aj _)⟩;refine wp_region_held_drew (S:= λW=>W.cell? ⟨g,q*3+2,M⟩=K (Z A b.1.ej p)/\W.cell? ⟨g,r*3+2,M⟩=K (Z N t.1.ej O)) kR (by exact⟨I,L⟩) (λaj=> ?_)
 clear f R T I q0 q1 L;generalize wr.drew=E at D aj⊢;refine AE 0 ?_;refine AE 1 ?_;refine AE 2 ?_;refine AE 3 ?_;refine AE 4 ?_;refine AE 5 ?_;refine AE 6 ?_;refine AE 7 ?_;refine AE 8 ?_;refine AE 9 ?_;refine AE 10 ?_;refine AE 11 ?_;refine AE 12 ?_;refine AE 13 ?_;refine wpAnyH_done kR ?_ _;go_simp;by_cases a8:b.1.ej.length< ↑t.1.ej
 case neg=>
  rw[mj a8];go_wp2_with fail;go_roundw;case rel=>exact⟨r,zs,by have:=B.o;omega,by go_num,D⟩
  simp[intOf];have:=B.o;omega
 rw[decide_eq_true a8];have PC:Aa _:=D.o.jz H.o.2 P (show r<n by have:=B.o;omega) ae ah f1 f2 f3 f4;obtain⟨R,T,I,q0,q1,L⟩:=PC.o;go_upto_region 10 with fail
 have l:Aa (Ia w (E.alloc (.cells #[Ac Ab b.1.head,Z v b.1.back C,Z A b.1.ej p] 95)) (Z g n c) n j zs/\Ar (E.alloc (.cells #[Ac Ab b.1.head,Z v b.1.back C,Z A b.1.ej p] 95)) E #[Ac Ab b.1.head,Z v b.1.back C,Z A b.1.ej p] 95/\g≠ ↑E):=⟨D.o.bM (Ag _ _),Ar.new _ _ _, λe=>by obtain⟨_,_,h1⟩:=AD D.o.own;have:=(lC.1 h1).1;omega⟩
 generalize E.heap.size=X at l⊢;refine An (λU=>Aa (Ia w U (Z g n c) n j zs/\Ar U X #[Ac Ab b.1.head,Z v b.1.back C,Z A b.1.ej p] 95/\g≠X)) l ?_
 rintro U l;have PC:Aa _:=l.o.1.jz H.o.2 P (show r<n by have:=B.o;omega) ae ah f1 f2 f3 f4;obtain⟨R,T,I,q0,q1,L⟩:=PC.o;have y0:=l.o.1.own.frozenAt (q*3);have y1:=l.o.1.own.frozenAt (q*3+1);have y2:=l.o.1.own.frozenAt (q*3+2);go_upto_region 11 with fail
 have u:Aa (Ia w (((U.setCell ⟨g,q*3,M⟩ (Ac Ab t.1.head)).setCell ⟨g,q*3+1,M⟩ (Z a2 t.1.back b2)).setCell ⟨g,q*3+2,M⟩ (Z N t.1.ej O)) (Z g n c) n j (zs.set q t)/\Ar (((U.setCell ⟨g,q*3,M⟩ (Ac Ab t.1.head)).setCell ⟨g,q*3+1,M⟩ (Z a2 t.1.back b2)).setCell ⟨g,q*3+2,M⟩ (Z N t.1.ej O)) X #[Ac Ab b.1.head,Z v b.1.back C,Z A b.1.ej p] 95):=⟨l.o.1.kg aq f3 f4,((l.o.2.1.other (a:=⟨g,q*3,M⟩) (λe=>l.o.2.2 e.symm) _).other (a:=⟨g,q*3+1,M⟩) (λe=>l.o.2.2 e.symm) _).other (a:=⟨g,q*3+2,M⟩) (λe=>l.o.2.2 e.symm) _⟩
 refine An (λU=>Aa (Ia w U (Z g n c) n j (zs.set q t)/\Ar U X #[Ac Ab b.1.head,Z v b.1.back C,Z A b.1.ej p] 95)) u ?_
 rintro G u;have x0:G.cell? X=K (Ac Ab b.1.head):=by rw[u.o.2.cell];rfl
 have x1:G.cell? ⟨X,1,M⟩=K (Z v b.1.back C):=by rw[u.o.2.cell];rfl
 have x2:G.cell? ⟨X,2,M⟩=K (Z A b.1.ej p):=by rw[u.o.2.cell];rfl
 obtain⟨zz,_,_,_,_,_,_,_,_,k4,k5,k6⟩:=u.o.1.at_ H.o.2 (show r<n by have:=B.o;omega);have y0:=u.o.1.own.frozenAt (r*3);have y1:=u.o.1.own.frozenAt (r*3+1);have y2:=u.o.1.own.frozenAt (r*3+2);have E8:Aa (Ia w (((G.setCell ⟨g,r*3,M⟩ (Ac Ab b.1.head)).setCell ⟨g,r*3+1,M⟩ (Z v b.1.back C)).setCell ⟨g,r*3+2,M⟩ (Z A b.1.ej p)) (Z g n c) n j ((zs.set q t).set r b)):=u.o.1.kg ao f1 f2;go_wp2_with fail;go_roundw;case rel=>exact⟨r,_,by have:=B.o;omega,by go_num,E8⟩
 simp[intOf];have:=B.o;omega
def Rg(s:Ci)(u wr:Y)(a:Option Addr)(m c:Nat)(zs:List Int)(p:Int):Prop:= ↑zs=m/\wr.ownsRow u 2 1 (Z a m c) m (zs.flatMap Ah)/\(∀z∈zs,Ty z)/\DE wr s.S s.a s.len s.cap p/\AM s.S u wr
theorem Rg.next{s:Ci}{u wr:Y}{m c:Nat}{zs:List Int}{p:Int}(E:Aa (Rg s u wr a m c zs p))(B:s.S< ↑u){n:Int}(z:p+1<=1000000000000)(v:1<=n:=by omega)(y:n<=1000000:=by omega):Ae Tryz.prog 26 #[.pointer (K ⟨s.S,0,M⟩),Ac Ab n] wr λe g=>∃r:Int,e=.returned (Ac Ab r)/\(0<=r/\r<n)/\Aa (Rg s u g a m c zs (p+1)):=
 have⟨h1,h2,k,l,q⟩:=E.o
 (AA l z v y).mono λe g ⟨r,i,j,h,A,f⟩=>⟨r,h,⟨i,j⟩,h1,BG h2 f.grow (λb t e=>by have:=(h2.lt b t).1;simp only[kK]at e;omega),k,A,q.trans f⟩
theorem Rg.push{s:Ci}{u wr b:Y}{m c g cap:Nat}{zs:List Int}{p t:Int}(E:Aa (Rg s u wr a m c zs p))(v:s.S< ↑u)(l:b.ownsRow u 2 1 (sG g (m+1) cap) (m+1) ((zs++[t]).flatMap Ah))(h:(wr.alloc (.cells #[iZ t] 2)).grownBy b (Z a m c).ownBlock)(q:Ty t):Aa (Rg s u b g (m+1) cap (zs++[t]) p):=
 have⟨h1,h2,j,f,n⟩:=E.o
 ⟨OT h1,l, λz r=>by
  rcases kS.1 r with e|e
  . exact j z e
  rw[lT.1 e];exact q,(f.alloc _).bM (λk i=>h.block k (by have:=(f.alloc (.cells #[iZ t] 2)).lt;omega) (λe=>by have:=(h2.lt k e.symm).1;omega)),(n.trans (.alloc _ _ _)).grown h (λk i=>(h2.lt k i).1)⟩
def Xx(s:Ci)(p m:Int)(k:Nat)(u:Y)(e:Ending)(b:Y):Prop:=∃(a:Option Addr) (c:Nat) (xs:List Int),e=.returned (Z a xs c)/\b.ownsRow u 2 1 (Z a xs c) xs (xs.flatMap Ah)/\ ↑xs<=k/\(∀z∈xs,Ty z)/\Dr s p m u b
theorem FM(u:Y)(s:Ci)(p:Int)(g:DE u s.S s.a s.len s.cap p)(W:p+10<=1000000000000):
 Ae Tryz.prog 45 #[.pointer (K ⟨s.S,0,M⟩)] u (Xx s p 10 15 u):=by
 have f:=Ap g.lt;have E:Aa (Rg s u (u.alloc (.cells #[] 2)) u 0 0 [] p):=⟨rfl,(Rt u).1,(λz N=>by cases N),g.alloc _,.alloc _ _ _⟩;have X:=g.low;clear g;go_enter Tryz.func45,Tryz.ntmps45;go_wp2_with fail;refine(Rg.next E f.o oM).mono ?_;rintro e u1 ⟨O,rfl,h1,E⟩;go_wp2_with fail;go_loopw [3,4,5,6] (λV i _ _ wr=>∃(j m:Nat) (a:Option Addr) (c:Nat) (xs:List Int) (k:Int),V=Z a m c/\i=iZ (j:Int)/\j<=3/\m<=5*(3-j)/\(p<=k/\k<=p+1+2*(3-(j:Int)))/\Aa (Rg s u wr a m c xs k)) (λ_ i _ _ _=>(intOf i).toNat)
 case atStart=>exact⟨O.toNat,0,_,_,_,p+1,rfl,by show _=_;congr 1;omega,oM,oM,oM,E⟩
 obtain⟨j,m,a,c,xs,l,rfl,rfl,T,C,R,E⟩:=hrel;by_cases I:j=0;case pos=>subst I;go_wp2_with fail;go_ret;obtain⟨rfl,h2,v,y⟩:=E.o;exact⟨a,c,xs,rfl,h2,oM,v,l,oM,oM,y⟩
 have U:(j:Int)>0:=oM;go_wp2_with fail;refine(Rg.next E f.o oM).mono ?_;rintro e u3 ⟨P,rfl,v,E⟩;go_wp2_with fail;refine(Rg.next E f.o oM).mono ?_;rintro e u4 ⟨Q,rfl,y,E⟩;obtain⟨t,ht⟩:∃t,1+P=t:=⟨_,rfl⟩;have F:Aa (Ty t):=by show _/\_;omega
 have r:=Ap C;clear C;go_wp2_with fail;go_loopw [3,6] (λV i wr=>∃(q b:Nat) (a:Option Addr) (c:Nat) (zs:List Int),V=Z a b c/\i=iZ (q:Int)/\q<=5/\b<=m+(5-q)/\Aa (Rg s u wr a b c zs (l+1+1))) (λ_ i _=>(intOf i).toNat)
 case atStart=>exact⟨(1+Q).toNat,m,a,c,xs,rfl,by show _=_;congr 1;omega,oM,oM,E⟩
 obtain⟨q,b,a,c,zs,rfl,rfl,hq,ah,E⟩:=hrel;by_cases L:q=0;case pos=>
  subst L;obtain⟨h,rfl⟩:∃h,j=h+1:=⟨j-1,oM⟩;go_wp2_with fail;go_roundw;case rel=>exact⟨h,b,a,c,zs,l+1+1,rfl,by go_num,oM,by have:=r.o;omega,oM,E⟩
  simp[intOf]
 have a8:(q:Int)>0:=oM;have ae:b<=100:=by have:=r.o;omega
 go_wp2_with (first|(at_builtin;refine Wu E.o.2.1 E.o.2.2.2.2.size ?_;intro H G w5 A B;have D:=Rg.push E f.o A B F.o;clear A B)|go_in);obtain⟨n,rfl⟩:∃n,q=n+1:=⟨q-1,oM⟩;go_roundw;case rel=>exact⟨n,b+1,K H,G,zs++[t],rfl,by go_num,oM,oM,D⟩
 simp[intOf]
section
variable {w u u':Y} {s:Ci} {p:Int} {v:VP} {F:List (List Int×J)} {G:List (MF×VF)} {cs:List MC} {ts:List MT} {D:List AB}
theorem Bs.fn(h:Bs w u s p (Al v F cs G ts D)){y:MF×VF}(A:G[q]?=K y):∃gf cf g k al cl b i,v.f=Z (K ⟨gf,0,M⟩) G.length cf/\y.2=⟨Z g y.1.d5.length k,Z al y.1.en.length cl,Z b y.1.ch.length i⟩/\(u.cell? ⟨gf,q*4,M⟩=K (Z g y.1.d5.length k)/\u.cell? ⟨gf,q*4+1,M⟩=K (Ac Ab y.1.gz)/\u.cell? ⟨gf,q*4+2,M⟩=K (Z al y.1.en.length cl)/\u.cell? ⟨gf,q*4+3,M⟩=K (Z b y.1.ch.length i))/\u.ownsRow w.heap.size 2 1 (Z g y.1.d5.length k) y.1.d5.length (y.1.d5.flatMap Ah)/\u.ownsRow w.heap.size 2 1 (Z al y.1.en.length cl) y.1.en.length (y.1.en.flatMap Ah)/\u.ownsRow w.heap.size 60 4 (Z b y.1.ch.length i) y.1.ch.length (y.1.ch.flatMap MI.cells):=by
 have W:=(iV.1 A).1;have m:∀r∈Cn y,r∈Al v F cs G ts D:= λr O=>by have:r∈Br G:=mN.2 ⟨y,i8 A,O⟩;simp[Al,this]
 have B:=h.sep.own _ (m (A7 y.2.p y.1.d5) (by simp[Cn]));have C:=h.sep.own _ (m (A7 y.2.l y.1.en) (by simp[Cn]));have H:=h.sep.own _ (m (BI y.2.c y.1.ch) (by simp[Cn]));obtain⟨f,S,R,Q⟩:=y;obtain⟨g,k,I⟩:∃a c,S=Z a f.d5 c:=CD B;obtain⟨al,cl,L⟩:∃a c,R=Z a f.en c:=CD C;obtain⟨b,i,e3⟩:∃a c,Q=Z a f.ch c:=CD H;subst I L e3;have t:=h.gY.2.2.2.1;rcases Bz t with⟨e,T⟩|⟨gf,cf,e⟩
 . omega
 rw[e]at t;have c0:=lV t (q*4) oM;have c1:=lV t (q*4+1) oM;have c2:=lV t (q*4+2) oM;have c3:=lV t (q*4+3) oM;have z:∀j,j<4->(G.flatMap AX)[q*4+j]?=(AX (f,⟨Z g f.d5 k,Z al f.en cl,Z b f.ch i⟩))[j]?:= λj N=>Cr AX 4 Aq G q j _ A N
 rw[show q*4=q*4+0 from rfl,z 0 oM]at c0;rw[z 1 oM]at c1;rw[z 2 oM]at c2;rw[z 3 oM]at c3;exact⟨gf,cf,g,k,al,cl,b,i,e,rfl,⟨c0,c1,c2,c3⟩,B,C,H⟩
theorem Bs.reg(h:Bs w u s p (Al v F cs G ts D)){y:List Int×J}(b:F[q]?=K y):∃gr cr a c,v.r=Z (K ⟨gr,0,M⟩) F.length cr/\y.2=Z a y.1.length c/\u.cell? ⟨gr,q,M⟩=K (Z a y.1.length c)/\u.ownsRow w.heap.size 2 1 (Z a y.1.length c) y.1.length (y.1.flatMap Ah):=by
 have A:=(iV.1 b).1;have m:A7 y.2 y.1∈Al v F cs G ts D:=by have:A7 y.2 y.1∈BN F:=lK.2 ⟨y,i8 b,rfl⟩;simp[Al,this]
 have j:=h.sep.own _ m;obtain⟨f,t⟩:=y;obtain⟨k,l,n⟩:∃a c,t=Z a f c:=CD j;subst n;have g:=h.gY.2.1;rcases Bz g with⟨e,z⟩|⟨gf,cf,e⟩
 . omega
 rw[e]at g;have c0:=lV g q oM;have i:=Cr AZ 1 AY F q 0 _ b oM;rw[lr,kZ]at i;rw[i]at c0;exact⟨gf,cf,k,l,e,rfl,c0,j⟩
end
section
variable {w u u':Y} {s:Ci} {k:GK} {p left lv:Int} {nt:Nat} {D:List AB}
def Yh(w:Y)(s:Ci)(k:GK)(p left lv:Int)(nt:Nat)(D:List AB)(q:Nat->Prop)(e:Ending)(u':Y):Prop:=∃r a:Int,e=.returned (iZ r)/\(r=-1\/∃b:Nat,r=b/\q b)/\(p<=a/\a<=p+1)/\Aa (GS w u' s k a left lv nt D)
def MkG(w:Y)(s:Ci)(k:GK)(p left lv:Int)(nt:Nat)(D:List AB)(q:Nat->Nat->Prop)(e:Ending)(u':Y):Prop:=∃r f a:Int,e=.returned (.tuple #[iZ r,iZ f])/\(r=-1\/∃b m:Nat,r=b/\f=m/\q b m)/\(p<=a/\a<=p+102)/\Aa (GS w u' s k a left lv nt D)
theorem Wc(E:Aa (GS w u s k p left lv nt D)){a:J}{t:Int}{q:Nat->Prop}(n:Rd u 1 a xs (xs.flatMap Ah))(j:xs.length<=1000)(m:∀b,xs[b]?=K t->q b)(l:p+1<=1000000000000):Ae Tryz.prog 116 #[.pointer (K ⟨s.S,0,M⟩),a,iZ t,iZ 256] u (Yh w s k p left lv nt D q):=(JY u s p t a xs E.o.src l n j).mono λe u' ⟨r,f,h1,y,h2,g,v,i⟩=>⟨r,y,f,h1.imp_right λ⟨b,e,h⟩=>⟨b,e,m b h⟩,⟨h2,g⟩,E.o.draw v i⟩
theorem VE(E:Aa (GS w u s k p left lv nt D))(T:q<3)(z:p+102<=1000000000000:=by omega):∃(gr cr:Nat) (a:Option Addr) (n c:Nat),u.cell? ⟨k.Gb,1,M⟩=K (.pointer (K ⟨k.P,0,M⟩))/\u.cell? ⟨k.P,0,M⟩=K (sG gr 3 cr)/\u.cell? ⟨gr,q,M⟩=K (Z a n c)/\Aa (∀t,Ae Tryz.prog 116 #[.pointer (K ⟨s.S,0,M⟩),Z a n c,iZ t,iZ 256] u (Yh w s k p left lv nt D λb=>Ya k q b t))/\Aa (∀t,Ae Tryz.prog 84 #[.pointer (K ⟨s.S,0,M⟩),Z a n c,iZ t] u (MkG w s k p left lv nt D λb m=>Mk m/\∀j,j<=m->Ya k q (b+j) t)):=by
 obtain⟨v,U,g,h1,h2⟩:=E.o.ex;have B:=E.o.ok;have L:=B.f3;obtain⟨y,f⟩:∃y,k.F[q]?=K y:=⟨_,an oM⟩;obtain⟨gr,cr,a,c,i,R,l,A⟩:=h1.bl.reg f;have H:=B.fr y (i8 f);have z:=h1.ia.1;rw[i,L]at z;exact⟨gr,cr,a,y.1.length,c,h1.cells.2.1,z,l, λt=>Wc E (Rd.gM A) oM (λb h=>⟨y,f,h⟩) oM, λt=>
  (LW u s p t _ y.1 E.o.src oM (UP.own A h1.bl.gG.lo) H).mono λe u' ⟨r,O,i,h1,Q,h2,l,N,G⟩=>⟨r,O,Q,i,h1.imp_right λ⟨b,m,e,C,h⟩=>⟨b,m,e,C,h.1, λj I=>⟨y,f,h.2 j I⟩⟩,⟨h2,l⟩,E.o.draw N G⟩⟩
theorem GS.fn(h:GS w u s k p left lv nt D)(m:q<k.G.length):∃(gf cf:Nat) (xs:List Int) (a:Option Addr) (c:Nat),k.G[q]?.map (λy=>y.1.d5)=K xs/\u.cell? ⟨k.Gb,1,M⟩=K (.pointer (K ⟨k.P,0,M⟩))/\u.cell? ⟨k.P,2,M⟩=K (sG gf k.G cf)/\u.cell? ⟨gf,q*4,M⟩=K (Z a xs c)/\Rd u 1 (Z a xs c) xs (xs.flatMap Ah)/\xs.length<=3/\∀z∈xs,Ty z:=by obtain⟨v,E,g,h1,h2⟩:=h.ex;obtain⟨y,b⟩:∃y,k.G[q]?=K y:=⟨_,an m⟩;obtain⟨gf,cf,i,j,al,cl,r,t,l,A,⟨f0,f1,f2,f3⟩,n,B,C⟩:=h1.bl.fn b;have f:=h1.ia.2.2.1;rw[l]at f;have e:=h.ok.fn y (i8 b);exact⟨gf,cf,y.1.d5,i,j,by rw[b];rfl,h1.cells.2.1,f,f0,Rd.gM n,e.pl,e.pt⟩
abbrev Yo(k:GK)(gf cf:Nat)(f:MF)(a:Option Addr)(b:Nat)(al:Option Addr)(cl:Nat)(e:J)(W:Y):Prop:=W.cell? ⟨k.Gb,1,M⟩=K (.pointer (K ⟨k.P,0,M⟩))/\W.cell? ⟨k.Gb,2,M⟩=K (iZ (k.fi:Int))/\W.cell? ⟨k.P,2,M⟩=K (sG gf k.G cf)/\W.cell? ⟨gf,k.fi*4,M⟩=K (Z a f.d5 b)/\W.cell? ⟨gf,k.fi*4+1,M⟩=K (iZ f.gz)/\W.cell? ⟨gf,k.fi*4+2,M⟩=K (Z al f.en cl)/\W.cell? ⟨gf,k.fi*4+3,M⟩=K e
theorem GS.fc(h:GS w u s k p left lv nt D):∃gf cf f b e al cl i n j,(∃y,k.G[k.fi]?=K y/\y.1=f)/\SZ f/\(k.fi:Int)<(k.G.length:Int)/\Aa (∀W,Ad u.heap.size u W->Yo k gf cf f b e al cl (Z i n j) W/\W.ownsRow w.heap.size 2 1 (Z b f.d5.length e) f.d5.length (f.d5.flatMap Ah)/\W.ownsRow w.heap.size 2 1 (Z al f.en.length cl) f.en.length (f.en.flatMap Ah)):=by obtain⟨v,C,g,h1,h2⟩:=h.ex;have r:=h.ok.fi;obtain⟨y,l⟩:∃y,k.G[k.fi]?=K y:=⟨_,an r⟩;obtain⟨gf,cf,b,e,al,cl,i,j,q,A,⟨f0,f1,f2,f3⟩,t,z,B⟩:=h1.bl.fn l;have m:=h1.ia.2.2.1;rw[q]at m;exact⟨gf,cf,y.1,b,e,al,cl,i,_,j,⟨y,l,rfl⟩,h.ok.fn y (i8 l),oM, λW a=>⟨⟨Ak a h1.cells.2.1,Ak a h1.cells.2.2.1,Ak a m,Ak a f0,Ak a f1,Ak a f2,Ak a f3⟩,Am t a lR,Am z a lR⟩⟩
end
theorem DR{w:Y}{e:Af}{s:J}{k n:Nat}{xs:List J}(h:w.ownsRow base e k s n xs):∃a c,s=Z a n c/\n<=c:=by
 rcases h.2 with⟨rfl,rfl⟩|⟨g,cap,f,rfl,_,_,b,_⟩
 . exact⟨_,_,rfl,Nat.le_refl _⟩
 exact⟨_,_,rfl,b⟩
theorem GE{w:Y}{e:Af}{s:J}{k n:Nat}{xs:List J}(h:w.ownsRow base e k s n xs):FI s:=by
 rcases h.2 with⟨rfl,rfl⟩|⟨g,cap,a,rfl,_⟩
 . exact .inl rfl
 exact .inr ⟨_,_,_,rfl⟩
theorem IP.jD{w:Y}{s:J}{rs:List (List Int)}(h:IP w base s rs):Dm w s rs:=by obtain⟨xs,h1,h2,a⟩:=h;exact⟨xs,h1,Rd.gM h2, λx b=>⟨Rd.gM (a x b),DR (a x b)⟩⟩
theorem KO:(Tryz.prog.info? 36).map (λi=>(i.zero,i.size,i.bytes))=K (K sN,1,24):=kR
theorem EU(n:Nat):(madeCells (Z M 0 0).cells (n*1)).toList=List.replicate n sN:=by rw[Ej (λb:Bool=>[Value.bool b]) [sN] [] n sN 1 rfl rfl oM];simp[CJ,List.flatten_replicate_singleton]
theorem Ca{w a:Y}(b:w.grownBy a M):Ad w w a:=(lQ _ _).grown b lR (λk e=>by cases e)
def IJ(xs:List MI):Prop:=∃r,Bc xs r/\r.ch=0
theorem Bi{w:Y}{t:Af}{a e:J}(h:Ar w b #[a,e,f,g] t):w.cell? b=K a/\w.cell? ⟨b,1,M⟩=K e/\w.cell? ⟨b,2,M⟩=K f/\w.cell? ⟨b,3,M⟩=K g:=⟨h.cell 0,h.cell 1,h.cell 2,h.cell 3⟩
theorem Dq{w:Y}{t:Af}{a e i j:J}(h:Ar w b #[a,e,f,g,i,j] t):w.cell? b=K a/\w.cell? ⟨b,1,M⟩=K e/\w.cell? ⟨b,2,M⟩=K f/\w.cell? ⟨b,3,M⟩=K g/\w.cell? ⟨b,4,M⟩=K i/\w.cell? ⟨b,5,M⟩=K j:=⟨h.cell 0,h.cell 1,h.cell 2,h.cell 3,h.cell 4,h.cell 5⟩
theorem WC{w:Y}{t:Af}{a:Array J}(h:Ar w b a t):w.frozen? b=false/\w.frozen? ⟨b,1,M⟩=false/\w.frozen? ⟨b,2,M⟩=false/\w.frozen? ⟨b,3,M⟩=false/\w.frozen? ⟨b,4,M⟩=false/\w.frozen? ⟨b,5,M⟩=false:=⟨h.frozen 0,h.frozen 1,h.frozen 2,h.frozen 3,h.frozen 4,h.frozen 5⟩
def GJ(p:MP)(a:Int):Prop:=A8 p 0/\0<=a/\∃f,p.cC[a.toNat]?=K f/\IJ f.ch
theorem RX{B:Nat}{w u:Y}(h:Ad B w u)(g i:Nat)(a:B<=g)(x:J):Ad B w (u.setCell ⟨g,i,M⟩ x):=h.setCell a x
theorem Ew.kh{w:Y}{v:VP}{F:List (List Int×J)}{cs:List MC}{G:List (MF×VF)}{ts:List MT}{B:List AB}(h:Ew w base (Al v F cs G ts B)):IM w base v ⟨F.map Prod.fst,cs,G.map Prod.fst,ts⟩:=by
 have h1:=h.own (Cc v.r F) (by simp[Al]);have b:=h.own (BC v.f G) (by simp[Al]);refine⟨⟨F,rfl,by simpa[Cc,AB.own]using h1, λx a=>h.own (A7 x.2 x.1) ?_⟩,h.own (Di v.k cs) (by simp[Al]),⟨G,rfl,by simpa[BC,AB.own]using b, λx a=>⟨h.own (A7 x.2.p x.1.d5) ?_,h.own (A7 x.2.l x.1.en) ?_,h.own (BI x.2.c x.1.ch) ?_⟩⟩,h.own (CN v.t ts) (by simp[Al])⟩
 . have:A7 x.2 x.1∈BN F:=lK.2 ⟨x,a,rfl⟩;simp[Al,this]
 all_goals
  have e:∀r∈Cn x,r∈Br G:= λr g=>mN.2 ⟨x,a,g⟩
 . have:=e (A7 x.2.p x.1.d5) (by simp[Cn]);simp[Al,this]
 . have:=e (A7 x.2.l x.1.en) (by simp[Cn]);simp[Al,this]
 have:=e (BI x.2.c x.1.ch) (by simp[Cn]);simp[Al,this]
abbrev vN:VP:=⟨sN,sN,sN,sN⟩
section
variable {w u u':Y} {s:Ci} {p p':Int} {Ls:List AB} {v:VP} {F:List (List Int×J)} {cs:List MC} {G:List (MF×VF)} {ts:List MT} {P:Nat} {D E:List AB}
theorem Bs.iW(h:Bs w u s p Ls)(e:DE u' s.S s.a s.len s.cap p')(b:AM s.S u u'){r:AB}(i:r.own u' u):Bs w u' s p' (Ls++[r]):=⟨(h.draw e b).sep.snoc (N:=u) (λx j g f=>(h.sep.lt x j g f).2) i h.size,(h.draw e b).gG⟩
theorem Bs.four(h:Bs w u s p Ls)(a:gb P v∈Ls):(u.cell? P=K v.r/\u.cell? ⟨P,1,M⟩=K v.k/\u.cell? ⟨P,2,M⟩=K v.f/\u.cell? ⟨P,3,M⟩=K v.t)/\(u.frozen? P=false/\u.frozen? ⟨P,1,M⟩=false/\u.frozen? ⟨P,2,M⟩=false/\u.frozen? ⟨P,3,M⟩=false):=⟨⟨h.cell a 0 oM,h.cell a 1 oM,h.cell a 2 oM,h.cell a 3 oM⟩,h.frozen a 0,h.frozen a 1,h.frozen a 2,h.frozen a 3⟩
theorem XT(x:Y)(a b c:J):(⟨36,1,sG x 3 3,3,[a,b,c]⟩:AB).own (x.alloc (.cells #[a,b,c] 36)) x:=mQ (base:=x) (e:=36) (size:=1) x #[a,b,c] 3 lR oX rfl
theorem Bs.a7{v3:J}{x1 x2 x3:List Int}(h:Bs w u s p (E++[A7 v1 x1,A7 v2 x2,A7 v3 x3])):Bs w ((u.alloc (.cells #[v1,v2,v3] 36)).alloc (.cells #[sG u 3 3,sN,sN,sN] 28)) s p
 (Al ⟨sG u 3 3,sN,sN,sN⟩ [(x1,v1),(x2,v2),(x3,v3)] [] [] [] (gb ((u:Nat)+1) ⟨sG u 3 3,sN,sN,sN⟩::E)):=by
 have g:=h.row (Ag _ _) (XT u v1 v2 v3);have i:=g.box 28 4 [sG u 3 3,sN,sN,sN] rfl;have a:=((i.nil 105 2).nil 51 4).nil 121 4;simp only[nX,mI,lF,lg]at a;refine a.perm ?_;refine(oL (l₁:=E)).trans ?_;simp only[Al,BN,Cc,AZ,Di,BC,Br,CN,List.map,kX,mM,lF,lg,lh,mD,nA];generalize A7 v1 x1=b;generalize A7 v2 x2=e;generalize A7 v3 x3=f;refine List.Perm.trans ?_ ((oL (l₁:=[b,e,f]) (l₂:=[_])).append_right _);simp only[lF,lg];refine .cons _ (.cons _ (.cons _ (.cons _ ?_)));exact oL (l₁:=[_]) (l₂:=[_,_,_])|>.append_right E
theorem Bs.km{vk:J}(e:vk.ownBlock=M)(h:Bs w u s p (Al {v with k:=vk} F [] G ts D))(V:J)(g:u'.ownsRow w 105 2 V cs (cs.flatMap MC.cells))(b:u.grownBy u' M)(a:V.ownBlock=K u):Bs w u' s p (Al {v with k:=V} F cs G ts D):=by have h1:=Bs.gX (A:=Cc v.r F::BN F) (C:=BC v.f G::Br G++(CN v.t ts::D)) (r:=Di vk []) h (Di V cs) g (by rw[show(Di vk []).v.ownBlock=vk.ownBlock from rfl,e];exact b) (.inr a);exact h1
end
def Om(B:Nat)(pv lv:J)(res:Int):AB:=CH B 51 4 [pv,iZ res,lv,sN]
structure Hn(w u:Y)(s:Ci)(p:Int)(L:List AB)(B:Nat)(pv lv:J)(ps ls:List Int)(res:Int):Prop where
 bl:Bs w u s p (L++[A7 pv ps,A7 lv ls,Om B pv lv res])
section
variable {w u u':Y} {s:Ci} {p p':Int} {L:List AB} {B:Nat} {pv lv:J} {ps ls:List Int} {res:Int}
theorem Hn.bM(h:Hn w u s p L B pv lv ps ls res)(a:Ad u u u'):Hn w u' s p L B pv lv ps ls res:=⟨h.bl.bM a⟩
theorem Hn.draw(h:Hn w u s p L B pv lv ps ls res)(e:DE u' s.S s.a s.len s.cap p')(b:AM s.S u u'):Hn w u' s p' L B pv lv ps ls res:=⟨h.bl.draw e b⟩
theorem Hn.cells(h:Hn w u s p L B pv lv ps ls res):(u.cell? B=K pv/\u.cell? ⟨B,1,M⟩=K (iZ res)/\u.cell? ⟨B,2,M⟩=K lv/\u.cell? ⟨B,3,M⟩=K sN)/\∀i,u.frozen? ⟨B,i,M⟩=false:=
 have m:Om B pv lv res∈L++[A7 pv ps,A7 lv ls,Om B pv lv res]:=sP
 ⟨⟨h.bl.cell m 0 oM,h.bl.cell m 1 oM,h.bl.cell m 2 oM,h.bl.cell m 3 oM⟩, λi=>h.bl.frozen m i⟩
theorem Hn.rows(h:Hn w u s p L B pv lv ps ls res):u.ownsRow w 2 1 pv ps (ps.flatMap Ah)/\u.ownsRow w 2 1 lv ls (ls.flatMap Ah):=⟨h.bl.sep.own (A7 pv ps) sP,h.bl.sep.own (A7 lv ls) sP⟩
theorem Hn.jR(h:Hn w u s p L B pv lv ps ls res)(z:Int)(V:J)(f:u'.ownsRow w 2 1 V (ps.length+1) (ps.flatMap Ah++[iZ z]))(e:u.grownBy u' pv.ownBlock)(b:V.ownBlock=pv.ownBlock\/V.ownBlock=K u):Hn w (u'.setCell B V) s p L B V lv (ps++[z]) ls res/\u'.cell? B=K pv/\u'.frozen? B=false:=by
 have h1:=Bs.gX (A:=L) (C:=[A7 lv ls,Om B pv lv res]) (r:=A7 pv ps) h.bl (A7 V (ps++[z])) (by simpa[AB.own,A7,Ah]using f) e b;have h2:Bs w u' s p ((L++[A7 V (ps++[z]),A7 lv ls])++Om B pv lv res::[]):=by simpa using h1
 have a:=h2.set 0 oM V;exact⟨⟨by simpa[Om]using a⟩,h1.cell (show Om B pv lv res∈_ from sP) 0 oM,h1.frozen (show Om B pv lv res∈_ from sP) 0⟩
theorem Hn.j8(h:Hn w u s p L B pv lv ps ls res)(z:Int)(V:J)(g:u'.ownsRow w 2 1 V (ls.length+1) (ls.flatMap Ah++[iZ z]))(f:u.grownBy u' lv.ownBlock)(e:V.ownBlock=lv.ownBlock\/V.ownBlock=K u):Hn w (u'.setCell ⟨B,2,M⟩ V) s p L B pv V ps (ls++[z]) res/\u'.cell? ⟨B,2,M⟩=K lv/\u'.frozen? ⟨B,2,M⟩=false:=by
 have a:Bs w u s p ((L++[A7 pv ps])++A7 lv ls::[Om B pv lv res]):=by simpa using h.bl
 have h1:=Bs.gX (A:=L++[A7 pv ps]) (C:=[Om B pv lv res]) (r:=A7 lv ls) a (A7 V (ls++[z])) (by simpa[AB.own,A7,Ah]using g) f e;have h2:Bs w u' s p ((L++[A7 pv ps,A7 V (ls++[z])])++Om B pv lv res::[]):=by simpa using h1
 have b:=h2.set 2 oM V;exact⟨⟨by simpa[Om]using b⟩,h2.cell (show Om B pv lv res∈_ from sP) 2 oM,h2.frozen (show Om B pv lv res∈_ from sP) 2⟩
theorem Hn.kr(h:Hn w u s p L B pv lv ps ls res)(z:Int):Hn w (u.setCell ⟨B,1,M⟩ (iZ z)) s p L B pv lv ps ls z:=by
 have h2:Bs w u s p ((L++[A7 pv ps,A7 lv ls])++Om B pv lv res::[]):=by simpa using h.bl
 have a:=h2.set 1 oM (iZ z);exact⟨by simpa[Om]using a⟩
theorem Hn.new(h:Bs w u s p L):Hn w (u.alloc (.cells #[sN,iZ 0,sN,sN] 51)) s p L u sN sN [] [] 0:=by have h1:=((h.nil 2 1).nil 2 1).box 51 4 [sN,iZ 0,sN,sN] rfl;exact⟨by simpa[A7,Om]using h1⟩
end
theorem Hn.done{w u u':Y}{s:Ci}{p:Int}{v:VP}{F:List (List Int×J)}{cs:List MC}{G:List (MF×VF)}{ts:List MT}{P B:Nat}{E:List AB}{pv lv:J}{ps ls:List Int}{res:Int}(h:Hn w u s p (Al v F cs G ts (gb P v::E)) B pv lv ps ls res)(V:J)(i:u'.ownsRow w 51 4 V (G.length+1) (G.flatMap AX++AX (⟨ps,res,ls,[]⟩,⟨pv,lv,sN⟩)))(g:u.grownBy u' v.f.ownBlock)(e:V.ownBlock=v.f.ownBlock\/V.ownBlock=K u):Bs w (u'.setCell ⟨P,2,M⟩ V) s p (Al {v with f:=V} F cs (G++[(⟨ps,res,ls,[]⟩,⟨pv,lv,sN⟩)]) ts (gb P {v with f:=V}::E))/\u'.cell? ⟨P,2,M⟩=K v.f/\u'.frozen? ⟨P,2,M⟩=false:=by
 have b:Bs w u s p (Al v F cs G ts (gb P v::E)++[A7 pv ps,A7 lv ls]):=h.bl.sub (by refine List.Sublist.append_left ?_ _;exact .cons_cons _ (.cons_cons _ (List.nil_sublist _)));have h1:=b.nil 60 4;have h2:Bs w u s p (Al v F cs G ts (gb P v::E)++Cn ((⟨ps,res,ls,[]⟩:MF),(⟨pv,lv,sN⟩:VF))):=by simpa[Cn,BI]using h1
 have a:=h2.j6 V i g e;exact⟨a.gZ (D:=[]) 2 oM V,a.cell (AQ (show gb P v∈_ from sP)) 2 oM,a.frozen (AQ (show gb P v∈_ from sP)) 2⟩
theorem SS(xs:List Int)(m:Nat):(xs.flatMap Ah).take (m*1)=(xs.take m).flatMap Ah:=by
 induction xs generalizing m with
 |nil=>simp
 | cons x r a=>
   cases m with
   |zero=>simp
   | succ m=>rw[List.take_succ_cons,kX,kX,<-a m];rfl
def Yq(w:Y)(s:Ci)(k:GK)(p left f:Int)(g:Nat)(D:List AB)(e:Ending)(h:Y):Prop:=∃(a:Option Addr) (n c:Nat),e=.returned (Z a n c)/\Aa (GS w h s k p left f g D)/\Aa (∀t,Ae Tryz.prog 116 #[.pointer (K ⟨s.S,0,M⟩),Z a n c,iZ t,iZ 256] h (Yh w s k p left f g D λb=>V9 k b t))
theorem XV{w u:Y}{s:Ci}{k:GK}{p left lv:Int}{nt:Nat}{D:List AB}(E:Aa (GS w u s k p left lv nt D))(hp:p+1<=1000000000000:=by omega):
 Ae Tryz.prog 117 #[.pointer (K ⟨k.Gb,0,M⟩)] u (Yq w s k p left lv nt D):=by
 obtain⟨aj,hi,a8,ae,ah⟩:=lU Bt;obtain⟨gf,cf,f,m,q,al,cl,B,n,C,L,Q,aD,A⟩:=E.o.fc;have aE:=Q.lt.1;have aF:=Q.pl;have HY:=Ap L;clear L Q;go_enter Tryz.func117,Tryz.ntmps117;go_upto_region 1 with fail
 refine wp_region_held_drew (S:=Yo k gf cf f m q al cl (Z B n C)) kR (by exact(A.o _ (Aj _)).1) (λr=> ?_);have g:Aa (Ad u u u.drew):=Aj _;generalize u.drew=a at g r⊢;refine AE 0 ?_;refine AE 1 ?_;refine AE 2 ?_;refine AE 3 ?_;refine AE 4 ?_;refine AE 5 ?_;refine AE 6 ?_;refine AE 7 ?_;refine AE 8 ?_;refine AE 9 ?_;refine AE 10 ?_;refine AE 11 ?_;refine AE 12 ?_;refine rdH 13 ?_;intro I i;go_simp;refine i.o _ _ (by exact(A.o _ (Ai g.o lR (Ag _ _))).1) (λr=> ?_);refine rdH 14 ?_;intro I i;go_simp;refine i.o _ _ (by exact(A.o _ (Ai g.o lR (Ag _ _))).1) (λr=> ?_);refine wpAnyH_done kR ?_ _;have l:Aa (Ar (a.alloc (.cells #[Z m f.d5 q,iZ f.gz,Z al f.en cl,Z B n C] 51)) a #[Z m f.d5 q,iZ f.gz,Z al f.en cl,Z B n C] 51/\Ad u u (a.alloc (.cells #[Z m f.d5 q,iZ f.gz,Z al f.en cl,Z B n C] 51))):=⟨Ar.new _ _ _,Ai g.o lR (Ag _ _)⟩
 generalize a.heap.size=X at l⊢;generalize a.alloc (.cells #[Z m f.d5 q,iZ f.gz,Z al f.en cl,Z B n C] 51)=U at l⊢;go_upto_region 2 with fail
 have H:Aa (∀W,Ad U U W->W.cell? X=K (Z m f.d5 q)/\W.cell? ⟨X,2,M⟩=K (Z al f.en cl)):= λW V=>⟨Ak V (l.o.1.cell 0),Ak V (l.o.1.cell 2)⟩
 have aG:IntKind.i64.wrap ((f.en:Int)-3)=((f.en.length-3:Nat):Int):=by rw[mY _ ⟨oM,oM⟩];omega
 obtain⟨F,am,aw⟩:∃F,al=K ⟨F,0,M⟩/\f.en.length<=cl:=by
  have o2:=(A.o _ l.o.2).2.2;rcases o2.2 with⟨e,h0⟩|⟨g5,cap,au,e,_,_,h5,_⟩
  . omega
  simp only[jc]at e;exact⟨g5,e.1,by rw[e.2.2];exact h5⟩
 subst am;have aA:f.en.length<=cl+3:=oM;refine wp_region_held_drew (S:= λW=>W.cell? ⟨X,0,M⟩=K (Z m f.d5.length q)/\W.cell? ⟨X,2,M⟩=K (sG F f.en.length cl)) kR (by exact H.o _ (Aj _)) (λr=> ?_)
 have g:Aa (Ad U U U.drew):=Aj _;generalize U.drew=a at g r⊢;refine AE 1 ?_;refine AE 2 ?_;refine AE 4 ?_;refine AE 5 ?_;refine AE 6 ?_;refine AE 7 ?_;refine AE 8 ?_;refine AE 9 ?_;refine AE 10 ?_;refine rdH 0 ?_;intro I i;go_simp;refine i.o _ _ (by exact H.o _ (Ai g.o lR (Ag _ _))) (λr=> ?_);refine rdH 3 ?_;intro I i;have B1:Aa (Ad u u (a.alloc (.cells #[] 2))):=Ai (Ai l.o.2 lR g.o) lR (Ag _ _);refine Cw rfl (.tmp 17) (.tmp 19) a 36 2 aj (iZ 0) 1 8 rfl Tryz.underlying36 hi a8 ae ah rfl dC (sG a 0 0) 0 [] oE (CM a _ _) (Z m f.d5 q) f.d5 (f.d5.flatMap Ah) oE (Rd.gM (A.o _ B1.o).2.1) (by rw[Au Ah 1 Ao]) (BZ _) oX oM (Ag _ _).size ?_;intro v1 R P N ao;have v:Aa (R.ownsRow a 2 1 v1 f.d5 (f.d5.flatMap Ah)/\Ad a a R):=⟨by simpa using P,(Ag _ _).grown N (Ag _ _).size (λj O=>by cases O;exact Nat.le_refl _)⟩
 refine i.o _ _ (by exact H.o _ (Ai g.o lR v.o.2)) (λr=> ?_);refine rdH 11 ?_;intro I i;have B2:=Ap (Ai (Ai l.o.2 lR g.o) lR v.o.2);have RL:Aa (Rd R 1 (sG F (f.en.length-3) cl) (f.en.length-3) ((f.en.flatMap Ah).take ((f.en.length-3)*1))):=Rd.front (Rd.gM (A.o _ B2.o).2.2) (by rw[Au Ah 1 Ao]) oM cl;refine Cw rfl (.tmp 20) (.tmp 27) a 36 2 aj (iZ 0) 1 8 rfl Tryz.underlying36 hi a8 ae ah rfl dC v1 f.d5 (f.d5.flatMap Ah) (by rfl) v.o.1 (sG F (f.en.length-3) cl) (f.en.length-3) _ (by rfl) RL.o (by rw[lj,Au Ah 1 Ao];omega) (λx hx=>BZ _ x (m6 hx)) oX oM v.o.2.size ?_;intro v2 u2 P N ao;have G:Aa (u2.ownsRow a 2 1 v2 (↑f.d5+(f.en.length-3)) ((f.d5++f.en.take (f.en.length-3)).flatMap Ah)/\Ad a a u2):=⟨by rw[lJ,<-SS];exact P,v.o.2.grown N v.o.2.size (λj O=>(v.o.1.lt j O).1)⟩
 refine i.o _ _ (by exact H.o _ (Ai g.o lR G.o.2)) (λr=> ?_);refine AE 12 ?_;refine wpAnyH_done kR ?_ _;obtain⟨a9,c9,rfl⟩:=CD G.o.1;go_wp2_with fail;go_ret;have aq:(f.d5++f.en.take (f.en.length-3)).length= ↑f.d5+(f.en.length-3):=by rw[kJ,lj];omega
 have T:=Ap (E.o.bM (Ai (Ai l.o.2 lR g.o) lR G.o.2));refine⟨a9,_,c9,rfl,T, λt=>Wc T (xs:=f.d5++f.en.take (f.en.length-3)) (by rw[aq];exact Rd.gM G.o.1) oM (λb z=> ?_) hp⟩;obtain⟨y,L,rfl⟩:=HY.o;refine⟨y,L,?_⟩;unfold Ay;rw[lE oM,kM,lD];rw[List.getElem?_append]at z⊢;split at z
 . rw[lS (by assumption),z];rfl
 rw[lE (by assumption)];rw[List.getElem?_take]at z;split at z
 . rw[z];rfl
 cases z
theorem XK{w u:Y}{s:Ci}{k:GK}{p left U t:Int}{X:Nat}{D:List AB}(E:Aa (GS w u s k p left U X D))(hp:p+1<=1000000000000:=by omega):
 Ae Tryz.prog 82 #[.pointer (K ⟨k.Gb,0,M⟩),iZ t] u (Yh w s k p left U X D λb=>b< ↑k.G):=by
 obtain⟨v,vc,g,h1,h2⟩:=E.o.ex;obtain⟨⟨a1,c1,a2,c2,L,c3,a4,c4,C⟩,_⟩:=h1.bl.gY;have am:=E.o.ok.fi;have ao:=E.o.ok.gl;obtain⟨q0,q1,q2,_,_,_⟩:=h1.cells;obtain⟨_,_,l,_⟩:=h1.ia;rw[C]at l;simp only[]at l;generalize hn:k.G.length=n at*;have HF:Aa (∀j,j<n->∃gf r,L=K ⟨gf,0,M⟩/\u.cell? ⟨gf,j*4+1,M⟩=K (iZ r)):= λj hj=>by obtain⟨y,hy⟩:∃y,k.G[j]?=K y:=⟨_,an oM⟩;obtain⟨gf,cf,ap,cp,al,cl,ac,cc,B,e2,⟨f0,f1,f2,f3⟩,o1,o2,o3⟩:=h1.bl.fn hy;rw[C]at B;simp only[jc]at B;exact⟨gf,_,B.1,f1⟩
 have HU:=Ap E.o.src.lt;have I:Aa (∀W,Ad u u W->W.cell? ⟨k.Gb,0,M⟩=K (.pointer (K ⟨s.S,0,M⟩))/\W.cell? ⟨k.Gb,1,M⟩=K (.pointer (K ⟨k.P,0,M⟩))/\W.cell? ⟨k.Gb,2,M⟩=K (iZ (k.fi:Int))/\W.cell? ⟨k.P,2,M⟩=K (Z L n c3)):= λW h=>⟨Ak h q0,Ak h q1,Ak h q2,Ak h l⟩
 clear h1 h2 q0 q1 q2 l C hn;go_enter Tryz.func82,Tryz.ntmps82;obtain⟨_,_,A,_⟩:=I.o _ (Rt u).2;go_wp2_with fail;clear A;go_loopw [5,6] (λV i wr=>∃(j m:Nat) (f:Option Addr) (zs:List Int) (cV:Nat),j<=n/\V=Z f m cV/\i=iZ j/\m<=j/\Aa (Pk u wr f m cV zs λb=>b<n)) (λ_ i _=>n-(intOf i).toNat)
 case atStart=>exact⟨k.fi+1,0,_,[],_,oM,rfl,by go_num,oM,Pk.zero u _⟩
 obtain⟨j,m,f,zs,cV,hj,rfl,rfl,au,a⟩:=hrel;obtain⟨d0,d1,A,d3⟩:=I.o _ a.o.2.2.1;by_cases h1:j<n;case pos=>
  have ae:(j:Int)<(n:Int):=oM;obtain⟨gf,x,rfl,T⟩:=HF.o j h1;have kz:=Ak a.o.2.2.1 T;clear T;cases hxt:(x==t)
  case false=>go_wp2_with fail;go_roundw;(case rel=>exact⟨j+1,m,f,zs,cV,oM,rfl,by go_num,oM,a⟩);exact oI
  go_wp2_with (first|(at_builtin;refine Wu a.o.2.1 a.o.2.2.1.size ?_;intro g5 a8 w5 N O;have E5:=Ru a N O h1;clear N O)|go_in);clear kz d0 d1 A d3;go_roundw;case rel=>exact⟨j+1,m+1,K g5,zs++[(j:Int)],a8,oM,rfl,by go_num,oM,E5⟩
  exact oI
 have ae:¬(j:Int)<(n:Int):=oM;have q:=Ap (E.o.bM a.o.2.2.1);by_cases ah:m=0;case pos=>subst ah;go_wp2_with fail;go_ret;exact⟨-1,p,rfl,.inl rfl,oM,q⟩
 have aq:((m:Int)==0)=false:=by rw[nD];omega
 go_wp2_with fail;refine(AA q.o.src hp (n:=(m:Int)) oM oM).mono ?_;rintro e u2 ⟨r,h0,aj,rfl,Q,F⟩;obtain⟨rn,rfl⟩:=kU h0;obtain⟨gv,z,R,rfl,c0⟩:=T4 a.o.2.1 F HU.o a.o.1 (show rn<m from oM);have H:=Ap (ji (a.o.2.2.2 z R) (q.o.draw Q F));clear Q F R a;go_wp2_with fail;go_ret;exact⟨z,p+1,rfl,.inr H.o.1,oM,H.o.2⟩
def A6(p:MP)(f:MF)(x:MI)(sh:List Int):Int:=if x.op=29 then(if sh=AV f then 0 else 5)else BJ p f x sh
def Bv(p:MP)(f:MF)(x:MI)(sh:List Int):List Int:=if x.op=29 then[]else BT p f x sh
structure WS where
 c:Nat->Option (List Int)
 t:Nat->List Int
 d:Nat
def CE(T:Nat->List Int)(a:Nat)(sh:List Int):Nat->List Int:= λj=>if j=a then sh else T j
def Fv(C:Nat->Option (List Int))(b:Nat)(sh:List Int):Nat->Option (List Int):= λj=>if j=b then K sh else C j
abbrev Ys:=Sum (Int×Nat) (List Int×(Nat->List Int)×Nat)
def Cv(p:MP)(f:MF):Nat->Nat->List Int->(Nat->List Int)->Nat->Ys
 |0,_,sh,T,D=>.inr (sh,T,D)
 | c+1,a,sh,T,D=>match f.ch[a]? with
   |none=>.inr (sh,T,D)
   |some x=>if A6 p f x sh=0 then Cv p f c (a+1) (Bv p f x sh) (CE T a sh) (max D (Bv p f x sh).length)else .inl (A6 p f x sh,a)
def DX:List Nat->List Int->(Nat->Option (List Int))->Option (Nat->Option (List Int))
 |[],_,C=>K C
 | t::r,sh,C=>match C t with
   |none=>DX r sh (Fv C t sh)
   |some s=>if s=sh then DX r sh C else M
abbrev Kr:=Sum (Int×Nat) WS
def Lg(p:MP)(f:MF)(m:MB)(b:Nat)(s:WS):Kr:=match Cv p f (m.last-m.gK+1).toNat m.gK.toNat ((s.c b).getD []) s.t s.d with
 |.inl e=>.inl e
 | .inr (sh,T,D)=>match DX (m.next.map Int.toNat) sh s.c with
   |none=>.inl (4,m.last.toNat)
   |some C=>.inr ⟨C,T,D⟩
def Ds(p:MP)(f:MF)(a:List MB):List Nat->WS->Kr
 |[],s=>.inr s
 | b ::r,s=>match a[b]? with
   |none=>.inr s
   | some m=>match Lg p f m b s with
     |.inl e=>.inl e
     |.inr s'=>Ds p f a r s'
def Jo:WS:=⟨λb=>if b=0 then K []else M, λ_=>[],0⟩
structure RQ where
 ch:Int
 at_:Int
 depth:Int
 gU:List (List Int)
def Lv(n:Nat):Kr->RQ
 |.inl (c,a)=>⟨c,(a:Int),0,[]⟩
 |.inr s=>⟨0,0,(s.d:Int),(List.range n).map s.t⟩
def IU(p:MP)(a:Int)(y:RQ):Prop:=(¬GJ p a/\y=⟨6,0,0,[]⟩)\/(A8 p 0/\0<=a/\∃f r,p.cC[a.toNat]?=K f/\Bc f.ch r/\r.ch=0/\y=Lv f.ch.length (Ds p f r.ej (r.gJ.map Int.toNat) Jo))
theorem IU.one{p:MP}{g:Int}{y y':RQ}(h:IU p g y)(j:IU p g y'):y=y':=by
 rcases h with⟨a,rfl⟩|⟨m,q,f,r,h1,h2,k,rfl⟩<;>rcases j with⟨a',rfl⟩|⟨n,s,f',t,b,i,l,rfl⟩
 . rfl
 . exact absurd ⟨n,s,f',b,t,i,l⟩ a
 . exact absurd ⟨m,q,f,h1,r,h2,k⟩ a'
 rw[h1]at b;have e:=kN b;subst e;have e:=h2.one i;subst e;rfl
theorem Jv{L:List Nat}(s:L.Pairwise (· < ·))(B:∀x∈L,x<n)(h:(build L n)[b]?=K m)(h1:m.gK<(i:Int))(h2:(i:Int)<=m.last):i∉L:=by
 unfold build at h;rw[my]at h;cases e1:L[b]? with
 |none=>rw[e1]at h;simp at h
 | some a=>
   cases e2:(L.tail++[n])[b]? with
   |none=>rw[e1,e2]at h;simp at h
   | some q=>
     rw[e1,e2]at h;simp only[kK]at h;subst h;simp only[]at h1 h2;intro l;obtain⟨j,p⟩:=lw l;obtain⟨ib,y⟩:=iV.1 e1;obtain⟨g,z⟩:=iV.1 p;have f:=nN.1 s;have A:b<j:=by
      apply ly;intro C;by_cases e:j=b
      . subst e;omega
      have:=f j b g ib oM;omega
     (have k:L[b+1]?=K q:=by rw[<-e2,ld oT];cases L<;>simp);obtain⟨t,e3⟩:=iV.1 k;by_cases e:j=b+1
     . subst e;omega
     have:=f (b+1) j t g oM;omega
theorem Gf{xs:List MI}(h:(At xs)[b]?=K m):∃a,(build (Cs xs xs) xs)[b]?=K a/\m.gK=a.gK/\m.last=a.last:=by unfold At at h;rw[lG]at h;obtain⟨a,h1,rfl⟩:=mK.1 h;rw[Cp]at h1;exact⟨a,h1,rfl,rfl⟩
theorem Pf{xs:List MI}(h:(At xs)[b]?=K m){x:MI}(f:xs[i]?=K x)(h1:m.gK<=(i:Int))(h2:(i:Int)<m.last):x.op≠29:=by obtain⟨p,e0,k,l⟩:=Gf h;obtain⟨a,e,s,t,y,z⟩:=BL h;intro j;have g:i+1<xs.length:=oM;refine Jv (CC _ _) (λx f=>((Cf _ _ _).1 f).1) e0 (i:=i+1) oM oM ?_;rw[Cf];exact⟨g,Hb xs xs i (i+1) x oM f (by simp[Fq,j])⟩
theorem Mi{xs:List MI}{b t:Nat}{l:MB}(h:(At xs)[b]?=K m)(A:(At xs)[t]?=K l)(C:b≠t):¬(m.gK<=l.gK/\l.gK<=m.last):=by
 obtain⟨S,e0,I,N⟩:=Gf h;obtain⟨T,g,L,O⟩:=Gf A;rintro⟨h1,h2⟩;have s:∀{c:Nat} {k:MB},(build (Cs xs xs) xs)[c]?=K k->∃a,(Cs xs xs)[c]?=K a/\k.gK=(a:Int):=by
  intro c k f;unfold build at f;rw[my]at f;cases g:(Cs xs xs)[c]? with
  |none=>rw[g]at f;simp at f
  | some a=>
    cases e2:((Cs xs xs).tail++[xs.length])[c]? with
    |none=>rw[g,e2]at f;simp at f
    | some q=>rw[g,e2]at f;simp only[kK]at f;subst f;exact⟨a,rfl,rfl⟩
 obtain⟨a,B,F⟩:=s e0;obtain⟨a',p,G⟩:=s g;have y:=nN.1 (CC xs xs);obtain⟨ib,H⟩:=iV.1 B;obtain⟨z,Q⟩:=iV.1 p;have R:a≠a':=by
  intro e;rcases Nat.lt_or_gt_of_ne C with j|j
  . have:=y b t ib z j;omega
  have:=y t b z ib j;omega
 exact Jv (CC _ _) (λx D=>((Cf _ _ _).1 D).1) e0 (i:=a') oM oM (i8 p)
end Go.Proofs.YtjnglocdoljgkaaGreat
