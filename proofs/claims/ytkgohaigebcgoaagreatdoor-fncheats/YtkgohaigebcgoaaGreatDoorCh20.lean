import Derived.Test.YtkgohaigebcgoaaGreatDoorCh18
import Derived.Test.YtkgohaigebcgoaaGreatDoorCh10
import Derived.Laws.CopyRow
namespace Go.Proofs.YtkgohaigebcgoaaGreatDoor
open Go.ChangeShapes Go.WideShapes Go.ChangeAt Go.RowKit Go.Proofs.Tryz
set_option linter.unusedVariables false
open Go.Value renaming slice → Z,tuple → Ap,int → Ag,agg → An,bool → Ao
open Option renaming some → K,none → M
open Go renaming Value → J,World → Y,Calls → Ai,TypeId → Aj
open Go.RowKit renaming Hid → Ae,Below → Ah
open Go.Ending renaming returned → Am
open Go.Proofs.Tryz renaming prog → Aq
open Go.World renaming ownsRow → Ab,alloc → Ac,setCell → Aa
open List renaming flatMap → Ad
open Go.Obj renaming cells → Ak
open Go.IntKind renaming i64 → Af
set_option maxHeartbeats 8000000
set_option maxRecDepth 100000
variable {S a n c g b f B k l r A:Nat}{m:MM}{xs:List Int}{P:Program}{Q:Exit->Act->Y->Prop}{d e V a0:J}{s s':MS}{p:MP}{v:VP}{t:Aj}{F:List (MG×J)}{q:Int}{X:VS}{D W:DataW Unit}{R:J->Option (DataW Unit×List MemPlace)}{fs:List MF}{left:Lit->Bool}{H:List (MF×(VF×J))}
def t8(w:Y)(S:Nat)(V:J)(a ts:List Int)(e:J)(c:Int)(b:Y):Prop:=
 (a.length< ↑ts/\c=1/\Ah w w b)\/(ts.length<= ↑a/\CX (a.drop (a.length-↑ts)) ts=false/\c=2/\Ah w w b)\/
 (ts.length<= ↑a/\CX (a.drop (a.length-↑ts)) ts=true/\c=0/\(∃d,Fg b S d (a.take (a.length-↑ts))/\d.ownBlock=V.ownBlock)/\Ab b w 2 1 e ts (Ad At (a.drop (a.length-↑ts)))/\DT (λj=>j=S) w b)
theorem Fg.short{w:Y}{a:Option Addr}{m:Nat}(h:Fg w S (Z a n c) xs)(k:m<= ↑xs)(v:n= ↑xs):Ab w (S+1) 2 1 (Z a m c) m (Ad At (xs.take m)):=by
 subst v;have l:=h.own;have d:m*1<= ↑xs*1:=oM
 refine⟨by rw[AX At 1 AE,nF,Nat.min_eq_left k],?_⟩;rcases l.2 with⟨b,z⟩|⟨g,cap,j,b,r,u,A,s,t,f⟩
 . have y:m=0:=oM;subst y;simp only[lU]at b;obtain⟨rfl,_,rfl⟩:=b;exact .inl ⟨rfl,rfl⟩
 simp only[lU,mj]at b;obtain⟨rfl,rfl⟩:=b;refine .inr ⟨g,c,j,rfl,r,u,oM,s,t,?_⟩;have e:Ad At (xs.take m)=(Ad At xs).take (m*1):=by
  rw[<-f,List.take_take,Nat.min_eq_left d];have p:Ad At xs=Ad At (xs.take m)++Ad At (xs.drop m):=by rw[<-mW,n9]
  have q:j.toList.take (m*1)=(Ad At xs).take (m*1):=by rw[<-f,List.take_take,Nat.min_eq_left d]
  rw[q,p];exact(List.take_left' (by rw[AX At 1 AE,nF,Nat.min_eq_left k])).symm
 rw[e,<-f,List.take_take,Nat.min_eq_left d]
theorem Fg.tail{w:Y}(h:Fg w S (sG g n c) xs)(lo:Nat)(c':Nat)(b:lo<= ↑xs):Rd w 1 (sO g lo (↑xs-lo) c') (↑xs-lo) (Ad At (xs.drop lo)):=by
 refine⟨by rw[AX At 1 AE,m8],.inr ⟨g,lo,c',rfl, λj u a=> ?_⟩⟩;rcases(Rd.eP h.own).2 with⟨e,_,_,l⟩|⟨m,o,c2,e,k⟩
 . have:xs=[]:=mG e;subst this;simp at a
 simp only[lU,lX,ny]at e;obtain⟨⟨rfl,rfl,_⟩,_⟩:=e;have d:Ad At xs=Ad At (xs.take lo)++Ad At (xs.drop lo):=by rw[<-mW,n9]
 have f:(Ad At xs)[lo+j]?=K u:=by rw[d,mg (by rw[AX At 1 AE,nF,Nat.min_eq_left b];omega),AX At 1 AE,nF,Nat.min_eq_left b];rw[show lo+j-lo*1=j from oM];exact a
 have:=k (lo+j) u f;rw[m9]at this;exact this
theorem Fg.shrink{w:Y}{a:Option Addr}{m:Nat}(h:Fg w S (Z a n c) xs)(b:m<= ↑xs)(d:n= ↑xs):Fg (w.setCell S (Z a m c)) S (Z a m c) (xs.take m):=by refine⟨by have:=h.eI.set 0 (Z a m c);simpa using this,?_⟩;rw[nF,Nat.min_eq_left b];exact mY (h.short b d) oS _
theorem XQ(S:Nat)(V Q:J)(b ts:List Int)(w:Y)(h:Fg w S V b)(hw:Rd w 1 Q ts (Ad At ts))(C:b.length<=1048576)(F:ts.length<=1048576):Ai Aq 252 #[.pointer S,Q] w λe w'=>∃I c,e=Am (Ap #[I,iZ c])/\t8 w S V b ts I c w':=by
 obtain⟨a2,c2,rfl⟩:=hw.aD;have H:=Aw (lN h (lN hw (lN C F)));clear h hw;by_cases y:b.length< ↑ts
 . have U:Ae (b.length< ↑ts):=y
   have aF:(b:Int)-(ts:Int)<0:=oM;clear y;go_enter func252,ntmps252;go_wp2_with fail;refine(Ft S V b w H.1).mono ?_;rintro e u ⟨rfl,rfl⟩;go_wp2_with fail;go_ret2;exact⟨_,1,rfl,.inl ⟨U,rfl,mP _ _⟩⟩
 obtain⟨lo,B⟩:∃lo, ↑b=lo+ts.length:=⟨b.length-↑ts,oM⟩
 have k:=Aw B;have aj:¬(lo:Int)<0:=oM;have q:Ae (↑b-↑ts=lo):=by show ↑b-↑ts=lo;omega
 rcases Bf H.1.own with⟨e,L⟩|⟨g,c,e⟩
 . subst e;have aq:b=[]:=mG L;subst aq;have au:ts=[]:=mG (by simp at y;omega);subst au;clear B y aj L k q C F;rw[nT];have c0:=H.1.eI.cell 0;have f0:=H.1.eI.frozen 0;simp only[lQ,lO]at c0;go_enter func252,ntmps252;go_wp2_with fail;refine(Ft S _ [] w H.1).mono ?_;rintro e u ⟨rfl,rfl⟩;rw[nT];go_wp2_with fail;refine(Ku _ 0 [] u oM (λu hu=>by cases hu) ⟨rfl,.inl ⟨rfl,_,_,rfl⟩⟩).mono ?_;rintro e P ⟨A,c3,rfl,z,t⟩;have HO:=Aw (lN z t);clear z t c0 f0;go_wp2_with fail;refine(LO _ _ [] [] P sP sP ⟨rfl,.inl ⟨rfl,_,_,rfl⟩⟩ ⟨rfl,.inl ⟨rfl,_,_,rfl⟩⟩).mono ?_;rintro e p ⟨⟨E,rfl,v⟩,n⟩;have ae:E=true:=v.2 rfl;subst ae;have d:=Aw (lN (AD HO.1 n lR) (Ar HO.2 lR n));clear v n HO;have f:=(H.1.av d.2).eI;have c0:=f.cell 0;have f0:=f.frozen 0;simp only[lQ,lO]at c0;have l:Ae (Fg (p.setCell S (Z M 0 0)) S (Z M 0 0) []/\Ab (p.setCell S (Z M 0 0)) u 2 1 (Z A 0 c3) 0 []/\DT (λj=>j=S) u (p.setCell S (Z M 0 0))):=⟨(H.1.av d.2).shrink (m:=0) sP rfl,mY d.1 H.1.eI.lt _,(DT.of (R:= λj=>j=S) d.2).setCell (.inl rfl) _⟩
   clear f;go_wp2_with fail;go_ret2;exact⟨_,0,rfl,.inr (.inr ⟨Nat.le_refl _,rfl,rfl,⟨sN,l.1,rfl⟩,l.2.1,l.2.2⟩)⟩
 subst e;have N: ↑b<=c:=by
  rcases H.1.own.2 with⟨e,_⟩|⟨g',cap,ax,e,_,_,ai,_⟩
  . cases e
  simp only[lU,lX,ny]at e;obtain⟨_,_,rfl⟩:=e;exact ai
 have c0:=H.1.eI.cell 0;have f0:=H.1.eI.frozen 0;simp only[lQ,lO]at c0;rw[B]at c0 N C;have G:Ae (∀c',Rd w 1 (sO g lo ts c') ts (Ad At (b.drop lo))):= λc'=>by
  have:=H.1.tail lo c' oM;rw[show ↑b-lo= ↑ts from oM]at this
  exact this
 clear B y;generalize O:ts.length=m at c0 N C F G⊢;have r:=Aw O;clear O;have aA:(lo:Int)<=(c:Int):=oM;have aE:(lo:Int)+(m:Int)<=(c:Int):=oM;go_enter func252,ntmps252;go_wp2_with fail;refine(Ft S _ b w H.1).mono ?_;rintro e u ⟨rfl,rfl⟩;rw[k,r];have D:Ae ((b.drop lo).length=m):=by show(b.drop lo).length=m;rw[m8,k.o,r];omega
 go_upto_region 4 with fail
 go_cut [7] (λs T=>∃a c',s=Z a m c'/\Ae (Ab T u 2 1 (Z a m c') m (Ad At (b.drop lo))/\Ah u u T))
 case first=>
  go_wp2_with fail;all_goals
   refine(Ku _ m (Ad At (b.drop lo)) u oM (Cn _) (by
    first
     |exact G.o _
     |exact⟨by rw[AX At 1 AE,D],.inl ⟨oM,_,_,by rw[show m=0 from oM]⟩⟩)).mono ?_
   rintro e P ⟨A,c3,rfl,z,t⟩;have HO:=Aw (lN z t);clear z t;go_wp2_with fail;go_meet;exact⟨_,_,rfl,HO⟩
 case rest=>
  obtain⟨A,c3,rfl,HO⟩:=hcut;clear c0 f0;obtain⟨W1,aa⟩:∃W,W=wc:=⟨_,rfl⟩;subst aa;go_wp2_with fail;refine(LO _ _ (b.drop lo) ts W1 (by rw[D];omega) H.2.2.2 (by rw[D];exact Rd.eP HO.1) (by have:=H.2.1.av HO.2 lR;rw[r]at this⊢;exact this)).mono ?_;rintro e p ⟨⟨E,rfl,v⟩,n⟩;have d:=Aw (lN v (lN (AD HO.1 n lR) (Ar HO.2 lR n)));clear v n HO;cases E
  . have X:Ae (CX (b.drop lo) ts=false):=by
     cases hf:CX (b.drop lo) ts with
     |false=>rfl
     |true=>have:=d.1.2 hf;cases this
    go_wp2_with fail;go_ret2;exact⟨_,2,rfl,.inr (.inl ⟨by have:=k.o;omega,by rw[q];exact X,rfl,d.2.2⟩)⟩
  . have HY:Ae (CX (b.drop lo) ts=true):=d.1.1 rfl;have f:=(H.1.av d.2.2).eI;have c0:=f.cell 0;have f0:=f.frozen 0;simp only[lQ,lO]at c0;rw[k,r]at c0;have l:Ae (Fg (p.setCell S (Z g lo c)) S (Z g lo c) (b.take lo)/\Ab (p.setCell S (Z g lo c)) u 2 1 (Z A m c3) m (Ad At (b.drop lo))/\DT (λj=>j=S) u (p.setCell S (Z g lo c))):=⟨(H.1.av d.2.2).shrink (by have:=k.o;omega) rfl,mY d.2.1 H.1.eI.lt _,(DT.of (R:= λj=>j=S) d.2.2).setCell (.inl rfl) _⟩
    clear f;go_wp2_with fail;go_ret2;refine⟨_,0,rfl,.inr (.inr ⟨by have:=k.o;omega,by rw[q];exact HY,rfl,⟨sG g lo c,?_,rfl⟩,?_,l.2.2⟩)⟩
    . rw[q];exact l.1
    rw[q,r];exact l.2.1
theorem Wo(u:Y)(B:Nat)(t ty e:Aj)(i:TypeInfo)(z:J)(k f:Nat)(s:P.underlying t=K (.slice e))(q:P.info? e=K i)(T:i.zero=K z)(O:i.size=k)(I:i.bytes=f)(U:z.cells.size=k)(S:0<k)(V:J)(n:Nat)(xs:List J)(l:Ab u B e k V n xs)(Vs:J)(m:Nat)(ys:List J)(p:Rd u k Vs m ys)(Q: ↑ys=m*k)(A:∀x∈ys,x.oneCell'=true)(G:n+m<=maxLen)(L:(n+m)*f<=140737488355328)(H:B<= ↑u):∃v' b,(Builtin.append_ #[t,t] ty #[V,Vs]).run P u=.ok v' b/\b.ownsRow B e k v' (n+m) (xs++ys)/\u.grownBy b V.ownBlock/\(v'.ownBlock=V.ownBlock\/v'.ownBlock=K u):=by
 obtain⟨a,c,rfl⟩:=p.aD;cases a with
 | none=>
   have R:m=0:=by
    rcases p.2 with⟨h,_⟩|⟨g,o,c,d,_⟩
    . exact h
    cases d
   subst R;have y:ys=[]:=mG oM;subst y;exact⟨_,_,Fo (P:=P) B t ty e i k s q _ _ _ l c,by simpa using l,⟨rfl,rfl,rfl,Nat.le_refl _, λ_ _ _=>rfl⟩,.inl rfl⟩
 | some ad=>
   have hN:∀j v,ys[j]?=K v->u (ad.add j)=K v:= λj v r=>by
    rcases p.2 with⟨h,_⟩|⟨g,o,c,d,N⟩
    . subst h;have:ys=[]:=mG oM;subst this;simp at r
    simp only[lU,lX]at d;obtain⟨rfl,_⟩:=d;rw[Cq];exact N j v r
   obtain⟨v',b,C,D,E,_,F⟩:=run_append_own_at (P:=P) (w:=u) B t ty e i z k f s q T O I U S V n xs l ad m c ys Q hN A G L H;exact⟨v',b,C,D,E,F⟩
theorem ZY{o:Oper}{a:Act}{K:Act->Y->Prop}{u:Y}(s x:Operand)(B:Nat)(t e:Aj)(i:TypeInfo)(z:J)(k c:Nat)(C:o.op=.call {callee:=.builtin .append,args:=#[s,x],argTypes:=#[t,t]})(G:P.underlying t=some (.slice e))(w:P.info? e=some i)(I:i.zero=some z)(y:i.size=k)(r:i.bytes=c)(L:z.cells.size=k)(F:0<k)(V:J)(n:Nat)(xs:List J)(E:a.eval s=V)(hw:Ab u B e k V n xs)(Vs:J)(m:Nat)(ys:List J)(H:a.eval x=Vs)(D:Rd u k Vs m ys)(A:ys.length=m*k)(d:∀x∈ys,x.oneCell'=true)(l:n+m<=maxLen)(v:(n+m)*c<=140737488355328)(p:B<=u.heap.size)(q:∀v' b,b.ownsRow B e k v' (n+m) (xs++ys)->u.grownBy b V.ownBlock->(v'.ownBlock=V.ownBlock\/v'.ownBlock=some u.heap.size)->K (a.put o.dst v') b):o.wp P a u K Q:=by obtain⟨v',b,f,g,h,j⟩:=Wo (P:=P) u B t o.type e i z k c G w I y r L F V n xs hw Vs m ys D A d l v p;exact Lib.wp_append_run _ s x t t C _ _ E H v' b f (q v' b g h j)
theorem VN{d:Array Oper}{o:Oper}{a:Act}{K:Act->Y->Prop}{E:Prop}{u:Y}(q:o.guard=M)(s x:Operand)(B:Nat)(t e:Aj)(i:TypeInfo)(z:J)(k b:Nat)(y:o.op=.call {callee:=.builtin .append,args:=#[s,x],argTypes:=#[t,t]})(F:P.underlying t=some (.slice e))(r:P.info? e=some i)(I:i.zero=some z)(v:i.size=k)(l:i.bytes=b)(L:z.cells.size=k)(D:0<k)(V:J)(n:Nat)(xs:List J)(C:a.eval s=V)(hw:Ab u B e k V n xs)(Vs:J)(m:Nat)(ys:List J)(H:a.eval x=Vs)(A:Rd u k Vs m ys)(w:ys.length=m*k)(f:∀x∈ys,x.oneCell'=true)(g:n+m<=maxLen)(p:(n+m)*b<=140737488355328)(h:B<=u.heap.size)(j:∀v' c,c.ownsRow B e k v' (n+m) (xs++ys)->u.grownBy c V.ownBlock->(v'.ownBlock=V.ownBlock\/v'.ownBlock=some u.heap.size)->K (a.put o.dst v') c):if Region.wanted o (yielded d a.tmps)=true then Oper.wp P o a u K Q else E:=by
 have G:Region.wanted o (yielded d a.tmps)=true:=by simp[Region.wanted,q]
 rw[mE G];exact ZY s x B t e i z k b y F r I v l L D V n xs C hw Vs m ys H A w f g p h j
section
variable {w u u':Y} {G:Nat} {fc fa:Int} {vb vo vi vl vI vC:J} {bad:Bool} {I:List Nat} {C:List Int}
end
theorem Nd(v:VP)(p:MP)(w:Y)(hs:p.small)(h:Eb w v p)(aq:EZ w v.f p.aC):
 Ai Aq 124 #[An #[v.r,v.k,v.f,v.t]] w λe w'=>AM e (Cw p)/\Ah w w w':=by
 obtain⟨E,D,C,vt⟩:=v;have z:=Aw (lN h.bO (lN hs (lN h aq)));have hn:=hs.bO;obtain⟨a1,c1,e1⟩:∃a c,vt=Z a p.bO c:=h.bO.aD;subst e1;clear h hs aq;have B:Ae _:=OL.of w E D C (Z a1 p.bO c1) 40;generalize aj:p.bO.length=n at*;have I:=Aw aj;clear aj;by_cases q0:64<n
 . (have P:Ae (¬Cw p):= λe=>absurd e.1 (by rw[I];omega));have au:(64:Int)<(n:Int):=oM;clear z;go_enter func124,ntmps124;go_wp2;go_ret;exact⟨.no P,B.cq⟩
 have au:¬(64:Int)<(n:Int):=oM;go_enter func124,ntmps124;go_wp2;go_loopw [12] (λi wr=>∃k:Nat,k<=n/\i=iZ k/\Ae (∀j,j<k->Hd p p.bO j)/\Ae (OL w wr E D C (Z a1 n c1))) (λi _=>n-(intOf i).toNat)
 case atStart=>exact⟨0,oM,rfl, λj hj=>oM,B⟩
 clear B;obtain⟨k,hk,rfl,HT,B⟩:=hrel;by_cases ai:k<n
 . obtain⟨x,N⟩:∃x,p.bO[k]?=K x:=⟨_,an (by rw[I];exact ai)⟩;rcases z.1.2 with⟨e0,_⟩|⟨b,o,c,e1,L⟩
   . omega
   simp only[lU,mj]at e1;obtain⟨rfl,rfl⟩:=e1;have O:=Rd.elem MT.bW L k x N 0 _ rfl;have i1:=Rd.elem MT.bW L k x N 1 _ rfl;have i2:=Rd.elem MT.bW L k x N 2 _ rfl;have i3:=Rd.elem MT.bW L k x N 3 _ rfl;rw[<-B.cq.cell (lT O),mL]at O;rw[<-B.cq.cell (lT i1)]at i1;rw[<-B.cq.cell (lT i2)]at i2;rw[<-B.cq.cell (lT i3)]at i3;have HX:=Aw N;have W:=Aw L;clear L N;obtain⟨m,q,co,s⟩:=x;simp only[]at O i1 i2 i3;have nb:¬b=wr.heap.size:=nZ (lT O);have mb:b<wr.heap.size:=lT O;have ae:Ae (Ah w w (Ac wr (Ak #[m,q,co,Ag .u32 s] 37))/\Kg (Ac wr (Ak #[m,q,co,Ag .u32 s] 37)) w E D C (sO b o n c1)/\Kg (Ac wr (Ak #[m,q,co,Ag .u32 s] 37)) wr m q co (Ag .u32 s)):=⟨Ar B.cq lR (Al _ _),B.prog.alloc _,Kg.new _ _ _ _ _ _⟩
   go_wp2_with fail;generalize Ac wr (Ak #[m,q,co,Ag .u32 s] 37)=A at ae⊢;have l:=Aw ae;clear ae O i1 i2 i3 nb mb B au;obtain⟨p0,p1,p2,p3⟩:=l.2.1;obtain⟨r0,r1,r2,r3⟩:=l.2.2;have inst:=Ax.some A;(have P0:= λn:Ax A=>Ax.cell p0 n);(have P1:= λn:Ax A=>Ax.cell p1 n);(have P2:= λn:Ax A=>Ax.cell p2 n);(have P3:= λn:Ax A=>Ax.cell p3 n);(have R0:= λn:Ax A=>Ax.cell r0 n);(have R1:= λn:Ax A=>Ax.cell r1 n);(have R2:= λn:Ax A=>Ax.cell r2 n);(have R3:= λn:Ax A=>Ax.cell r3 n);by_cases aa:EQ p ⟨m,q,co,s⟩
   . have G:Ae (EQ p ⟨m,q,co,s⟩):=aa;clear aa;by_cases q5:k=0
     . subst q5;(have HA:Ae (Hd p p.bO 0):= λc U=>by rw[HX]at U;obtain rfl:=mD U;exact⟨G, λi d hi=>oM⟩);refine AC kR kR ?_;(repeat(go_big_quiet_step ((first|(go_at_call 160;rename_i g;exact(Eo ⟨E,D,C,sO b o n c1⟩ p m q co s g.u z.2.1 (z.2.2.1.av (Ar l.1 lR g.h) lR) (z.2.2.2.av (Ar l.1 lR g.h) lR)).mono λe y h=>⟨h.1.true G,⟨⟨y,Ar g.h lR h.2⟩,rfl⟩⟩)))));refine wpQuiet_nil ?_;rintro y ⟨g,rfl⟩;have H:Ae (OL w g.u E D C (sO b o n c1)):=⟨Ar l.1 lR g.h,l.2.1.av g.h⟩;go_wp2;go_roundw;(case rel=>exact⟨1,oM,by go_num,LF HA HT,H⟩);exact oI
     obtain⟨i,rfl⟩:∃i,k=i+1:=⟨k-1,oM⟩;obtain⟨d,F⟩:∃d,p.bO[i]?=K d:=⟨_,an (by rw[I];omega)⟩;have y0:=Rd.elem MT.bW W i d F 0 _ rfl;have y1:=Rd.elem MT.bW W i d F 1 _ rfl;have y2:=Rd.elem MT.bW W i d F 2 _ rfl;have y3:=Rd.elem MT.bW W i d F 3 _ rfl;rw[<-l.1.cell (lT y0),mL]at y0;rw[<-l.1.cell (lT y1)]at y1;rw[<-l.1.cell (lT y2)]at y2;rw[<-l.1.cell (lT y3)]at y3;obtain⟨R,S,Q,T⟩:=d;simp only[]at y0 y1 y2 y3;have HD:=Aw F;clear F;(have Y0:= λn:Ax A=>Ax.cell y0 n);(have Y1:= λn:Ax A=>Ax.cell y1 n);(have Y2:= λn:Ax A=>Ax.cell y2 n);(have Y3:= λn:Ax A=>Ax.cell y3 n);have aA:((i+1:Nat):Int)-1=(i:Int):=oM;have aE:(0:Int)<((i+1:Nat):Int):=oM;by_cases V:NO ⟨R,S,Q,T⟩ ⟨m,q,co,s⟩
     . have X:Ae (NO ⟨R,S,Q,T⟩ ⟨m,q,co,s⟩):=V;(have HA:Ae (Hd p p.bO (i+1)):= λc U=>by rw[HX]at U;obtain rfl:=mD U;refine⟨G, λi' d' hi F=> ?_⟩;obtain rfl:i'=i:=oM;rw[HD]at F;obtain rfl:=mD F;exact V);clear V;refine AC kR kR ?_;(repeat(go_big_quiet_step ((first|(go_at_call 160;rename_i g;exact(Eo ⟨E,D,C,sO b o n c1⟩ p m q co s g.u z.2.1 (z.2.2.1.av (Ar l.1 lR g.h) lR) (z.2.2.2.av (Ar l.1 lR g.h) lR)).mono λe y h=>⟨h.1.true G,⟨⟨y,Ar g.h lR h.2⟩,rfl⟩⟩)|(go_at_call 161;rename_i g;exact(Oq ⟨R,S,Q,T⟩ ⟨m,q,co,s⟩ g.u).mono λe y h=>⟨h.1.true X,⟨⟨y,Ar g.h lR h.2⟩,rfl⟩⟩)))));refine wpQuiet_nil ?_;rintro y ⟨g,rfl⟩;have H:Ae (OL w g.u E D C (sO b o n c1)):=⟨Ar l.1 lR g.h,l.2.1.av g.h⟩;go_wp2;go_roundw;(case rel=>exact⟨i+1+1,oM,by go_num,LF HA HT,H⟩);exact oI
     have X:Ae (¬NO ⟨R,S,Q,T⟩ ⟨m,q,co,s⟩):=V;clear V;(have P:Ae (¬Cw p):= λe=>by exact X.o ((e.2 (i+1) (by rw[I];exact ai) _ HX).2 i _ rfl HD));refine AC kR kR ?_;(repeat(go_big_quiet_step ((first|(go_at_call 160;rename_i g;exact(Eo ⟨E,D,C,sO b o n c1⟩ p m q co s g.u z.2.1 (z.2.2.1.av (Ar l.1 lR g.h) lR) (z.2.2.2.av (Ar l.1 lR g.h) lR)).mono λe y h=>⟨h.1.true G,⟨⟨y,Ar g.h lR h.2⟩,rfl⟩⟩)|(go_at_call 161;rename_i g;exact(Oq ⟨R,S,Q,T⟩ ⟨m,q,co,s⟩ g.u).mono λe y h=>⟨h.1.false X,⟨⟨y,Ar g.h lR h.2⟩,rfl⟩⟩)))));refine wpQuiet_nil ?_;rintro y ⟨g,rfl⟩;have H:Ae (OL w g.u E D C (sO b o n c1)):=⟨Ar l.1 lR g.h,l.2.1.av g.h⟩;go_wp2;go_ret;exact⟨.no P,H.cq⟩
   have G:Ae (¬EQ p ⟨m,q,co,s⟩):=aa;clear aa;(have P:Ae (¬Cw p):= λe=>by exact G.o (e.2 k (by rw[I];exact ai) _ HX).1);refine AC kR kR ?_;(repeat(go_big_quiet_step ((first|(go_at_call 160;rename_i g;exact(Eo ⟨E,D,C,sO b o n c1⟩ p m q co s g.u z.2.1 (z.2.2.1.av (Ar l.1 lR g.h) lR) (z.2.2.2.av (Ar l.1 lR g.h) lR)).mono λe y h=>⟨h.1.false G,⟨⟨y,Ar g.h lR h.2⟩,rfl⟩⟩)))));refine wpQuiet_nil ?_;rintro y ⟨g,rfl⟩;have H:Ae (OL w g.u E D C (sO b o n c1)):=⟨Ar l.1 lR g.h,l.2.1.av g.h⟩;go_wp2;go_ret;exact⟨.no P,H.cq⟩
 have ax:n=k:=oM;subst ax;have HY:Ae (Cw p):=⟨by rw[I];omega,by rw[I];exact HT⟩;go_wp2;go_ret;exact⟨.iQ HY,B.cq⟩
structure qo(w:Y)(vf:J)(p:MP)(g o c n:Nat)(f:MF)(z:VF):Prop where
 rows:vf=Z (K ⟨g,o,M⟩) n c
 pos:0<n
 big:n<=1048576
 eq:∃fs,p.aC=f::fs
 i0:w ⟨g,o,M⟩=K z.p
 i1:w ⟨g,o+1,M⟩=K ↑f.cu
 i2:w ⟨g,o+2,M⟩=K z.l
 i3:w ⟨g,o+3,M⟩=K z.c
 rd:FD w z f
 pp:BR z.p
 pl:BR z.l
 small:f.small
 nop:f.aP=[]
theorem qo.of{w:Y}{s:J}(h:EZ w s p.aC)(C:p.small)(y:Bu p.aC):∃g o c n f z,qo w s p g o c n f z:=by
 obtain⟨ys,b,B,v⟩:=h;obtain⟨k,D,E,A⟩:=y;cases hp:p.aC with
 |nil=>exact absurd (by rw[hp];rfl) k
 | cons f fs=>
   cases ys with
   |nil=>rw[hp]at b;cases b
   | cons a ys=>
     obtain⟨d,z⟩:=a;rw[hp]at b;simp only[nh,ov]at b;obtain⟨rfl,b⟩:=b;rcases B.2 with⟨t,_⟩|⟨g,o,c,u,e⟩
     . exact absurd t k
     have l:=Rd.elem AK e 0 _ rfl 0 _ rfl;have m:=Rd.elem AK e 0 _ rfl 1 _ rfl;have q:=Rd.elem AK e 0 _ rfl 2 _ rfl;have r:=Rd.elem AK e 0 _ rfl 3 _ rfl;simp only[Nat.zero_mul,mL]at l m q r;have j:=v (d,z) sP;exact⟨g,o,c,p.aC,d,z,u,Nat.pos_of_ne_zero k,oM,⟨fs,hp⟩,l,m,q,r,j.1,j.2.1,j.2.2,C.func d (by rw[hp];simp),mG (A d (by rw[hp];rfl)).1⟩
theorem qo.av{w u:Y}{b:J}{g o c n:Nat}{f:MF}{z:VF}(h:qo w b p g o c n f z)(a:Ah w w u):qo u b p g o c n f z:=⟨h.rows,h.pos,h.big,h.eq,Ew a h.i0,Ew a h.i1,Ew a h.i2,Ew a h.i3,h.rd.av a lR,h.pp,h.pl,h.small,h.nop⟩
theorem GT{u:Y}{e:Aj}{v:J}{xs:List J}{d:Array J}(c:Ab u B e k v n xs)(f:Ay u b d 48)(g:e≠48)(i:Nat)(z:J):Ab (Aa u ⟨b,i,M⟩ z) B e k v n xs:=mR c (a:=⟨b,i,M⟩) (λe=>Bi c f g _ e rfl) z
theorem YC{u:Y}{x y:Nat}{a b:Array J}{s:Aj}(h:Ay u x a s)(c:Ay u y b t)(d:s≠t):y≠x:= λe=>by subst e;unfold Ay at h c;rw[h]at c;simp only[lX,nz]at c;exact d c.2.1
theorem Co.iW{u:Y}{L:List (J×List MC)}{a:Array J}(h:Co u B L)(c:Ay u b a 48)(i:Nat)(z:J):Co (Aa u ⟨b,i,M⟩ z) B L:=⟨λx d=>GT (h.own x d) c dC i z,h.sep⟩
theorem AB.iW{u:Y}{v:VS}{C:List (J×List MC)}{K:List MC}{c:Array J}(h:AB u B v C K F)(a:Ay u b c 48)(i:Nat)(z:J):AB (Aa u ⟨b,i,M⟩ z) B v C K F:=⟨GT h.cells a dC i z,GT h.dk a dC i z,h.fg.iW a i z⟩
theorem Ws{t z:Int}(h:EL t=true)(b:RT z):Jf (G5 t z)/\(G5 t z).type=t:=by
 have c:=Wk b;unfold G5;by_cases e:t=1
 . subst e;rw[mE rfl];have:=Ic (decide (¬z=0));exact⟨Jf.of rfl this.1 oM (λ_=>this.2),rfl⟩
 exact⟨Jf.of h (by simp[e];omega) (by simp[e];omega) (λa=>absurd a e),rfl⟩
theorem JP{ts b:List Int}(h:ts.all EL=true)(c:b.length= ↑ts)(hw:∀z∈b,RT z):Dy (A9 ts b) ts/\∀v∈A9 ts b,v.wf:=by
 induction ts generalizing b with
 |nil=>exact⟨⟨rfl, λv a=>by simp[A9]at a⟩, λv a=>by simp[A9]at a⟩
 | cons t r j=>
   cases b with
   |nil=>simp at c
   | cons z q=>
     simp only[List.all_cons,mu]at h;obtain⟨d,g⟩:=j h.2 (by simpa using c) (λy f=>hw y (by simp[f]));obtain⟨c1,c2⟩:=Ws h.1 (hw z sP);have e:A9 (t::r) (z::q)=G5 t z::A9 r q:=rfl;rw[e];refine⟨⟨by rw[nh,d.1,c2], λv a=> ?_⟩, λv a=> ?_⟩
     . rcases lW.1 a with rfl|a
       . exact c1.1
       exact d.2 v a
     rcases lW.1 a with rfl|a
     . exact c1.2
     exact g v a
theorem Ga.going(h:Ga p m s)(u:m.wf):(s.trap=0/\s.done=false/\PZ p 0 s)\/(s.trap≠0/\s=Ks):=by
 rcases h with⟨b,N,O,P,f,fs,j,w,rfl⟩|⟨b,rfl⟩
 . refine .inl ⟨rfl,rfl,?_⟩;have y:AY p 0:=b.1;obtain⟨H,I,L⟩:=(CT.iff b.1 j).1 b;have q:=y.parts;have l:=q.1.2;rw[j]at l;have Q:=(l 0 sP N rfl).2;have R:=(l 1 sP O rfl).2;have S:=(l 2 sP P rfl).2;obtain⟨A,B⟩:=JP Q H u.ins;obtain⟨C,D⟩:=JP R I.1 u.outs;obtain⟨c1,c2⟩:=JP S L.1 u.keeps;(have n:p.aC[0]?=K f:=by rw[w];rfl);have E:Cb f:=q.2.2.1.2.2.1 0 (by rw[w];simp) f n;have F:f.aP=[]:=mG (q.2.2.1.2.2.2 f n).1;(have z:∀v∈A8 f.aB,Jf v:= λv b=>by obtain⟨t,G,rfl⟩:=mV.1 b;exact Jf.of (nV.1 E.lt t G) oM oM (λ_=>oM));refine⟨⟨y,⟨by simp[BU],by simp[BU]⟩,⟨by simp[BU],by simp[BU]⟩,by simp[BU,j],?_,by simp[BU],by simp[BU],by simp[BU],by simp[BU],?_,by simp[BU,Ck]⟩,⟨DB (by simp[BU]) (by simp[BU]),DB (by simp[BU]) (by simp[BU]),DB (by simp[BU]) (by simp[BU]),?_,by simp[BU],?_⟩,by simp[BU],by simp[BU]⟩
   . intro i c r d a;rw[j]at a;match i with
     |0=>simp[BU]at d a;rw[<-d,<-a];exact A
     |1=>simp[BU]at d a;rw[<-d,<-a];exact C
     |2=>simp[BU]at d a;rw[<-d,<-a];exact c1
     |k+3=>simp at a
   . intro g e;simp only[BU,mK]at e;subst e;refine⟨sP,⟨f,n,?_, λv b=>(z v b).1⟩,by simp[BU]⟩;rw[F,nO];simp[A8,Function.comp_def]
   . intro r a;simp only[BU,lW,lZ,mS]at a;rcases a with rfl|rfl|rfl
     . exact B
     . exact D
     exact c2
   intro g e;simp only[BU,mK]at e;subst e;exact⟨DB sP sP,DB sP sP,DB sP sP, λv b=>(z v b).2⟩
 exact .inr ⟨by simp[Ks],rfl⟩
theorem T5{q:Prop}(h:q:=by rintro U E1;clear E0;have i0:=E1.ib.cell 0;have i1:=E1.ib.cell 1;have i2:=E1.ib.cell 2;have i3:=E1.ib.cell 3;have s0:=E1.sb.cell 0;have s1:=E1.sb.cell 1;have s2:=E1.sb.cell 2;have s3:=E1.sb.cell 3;have s4:=E1.sb.cell 4;have s5:=E1.sb.cell 5;have s6:=E1.sb.cell 6;have s7:=E1.sb.cell 7;simp only[lQ,lO,lS]at i0 i1 i2 i3 s0 s1 s2 s3 s4 s5 s6 s7;go_wp2_with fail;refine(Ht ⟨Z r1 p.az r3,Z k1 p.b8 k3,Z f1 p.aC f3,Z t1 p.bO t3⟩ ⟨Z g1 f.aP g3,Z g4 f.aB g6,Z g7 f.aU g9⟩ f q tt U hs (HR.av E1.cq lR) hq).mono ?_;rintro e u1 ⟨rfl,b1⟩;have HB:=Aw (Ar E1.cq lR b1);clear b1;go_wp2_with fail;go_ret;exact GX HB [tt] 1 1 rfl):q:=h
theorem ZU(v:VP)(p:MP)(g:VF)(f:MF)(q:Nat)(tt b c:Int)(w:Y)(hs:f.small)(E:p.small)(d:Eb w v p)(h:FD w g f)(hq:(f.aP++f.aB)[q]?=K tt):Ai Aq 114 #[An #[v.r,v.k,v.f,v.t,g.p,f.cu,g.l,g.c],An #[iZ 3,q,b,c]] w (DI w [tt]):=by
 obtain⟨r1,r3,A⟩:=(show∃a c,v.r=Z a p.az c from by obtain⟨_,_,j,_⟩:=d.az;exact j.aD);obtain⟨k1,k3,z⟩:=d.b8.aD;obtain⟨t1,t3,et⟩:=d.bO.aD;obtain⟨f1,f3,m⟩:=(show∃a c,v.f=Z a p.aC c from by obtain⟨_,_,j,_⟩:=d.aC;exact j.aD);obtain⟨g1,g3,n⟩:=h.1.aD;obtain⟨g4,g6,s⟩:=h.2.1.aD;obtain⟨g7,g9,y⟩:=h.2.2.aD;obtain⟨D,C,gc⟩:=g;obtain⟨H,G,F,I⟩:=v;simp only[]at A z et m n s y;subst A z et m n s y;have B:=Aw d;have HR:=Aw h;clear d h;have E0:=Aw (Im.of w ⟨Z r1 p.az r3,Z k1 p.b8 k3,Z f1 p.aC f3,Z t1 p.bO t3⟩ ⟨Z g1 f.aP g3,Z g4 f.aB g6,Z g7 f.aU g9⟩ f 3 (q:Int) b c);go_enter func114,ntmps114;go_upto_region 1 with fail
 refine Av (λu=>Ae (Im w u ⟨Z r1 p.az r3,Z k1 p.b8 k3,Z f1 p.aC f3,Z t1 p.bO t3⟩ ⟨Z g1 f.aP g3,Z g4 f.aB g6,Z g7 f.aU g9⟩ f 3 (q:Int) b c)) E0 ?_;exact T5
theorem PL{q:Prop}(h:q:=by rintro e u1 ⟨rfl,b1⟩;have HB:=Aw (Ar E1.cq lR b1);clear b1;go_wp2_with fail;go_ret;exact GX HB [tt] 1 1 rfl):q:=h
theorem ZV(v:VP)(p:MP)(g:VF)(f:MF)(q:Nat)(z:Nat)(r:List Int)(tt c:Int)(w:Y)(hs:f.small)(S:p.small)(b:Eb w v p)(d:FD w g f)(T:p.az[q]?=K r)(V:r[z]?=K tt):Ai Aq 114 #[An #[v.r,v.k,v.f,v.t,g.p,f.cu,g.l,g.c],An #[iZ 5,q,z,c]] w (DI w [tt]):=by
 obtain⟨D,E,Q⟩:=(show∃a c,v.r=Z a p.az c from by obtain⟨_,_,A,_⟩:=b.az;exact A.aD);obtain⟨B,C,P⟩:=b.b8.aD;obtain⟨F,G,et⟩:=b.bO.aD;obtain⟨f1,f3,I⟩:=(show∃a c,v.f=Z a p.aC c from by obtain⟨_,_,A,_⟩:=b.aC;exact A.aD);obtain⟨h,j,L⟩:=d.1.aD;obtain⟨m,n,N⟩:=d.2.1.aD;obtain⟨s,y,O⟩:=d.2.2.aD;obtain⟨gp,gl,gc⟩:=g;obtain⟨vr,vk,vf,vt⟩:=v;simp only[]at Q P et I L N O;subst Q P et I L N O;have R:=Aw b;have HR:=Aw d;clear b d;have H:=Aw (Im.of w ⟨Z D p.az E,Z B p.b8 C,Z f1 p.aC f3,Z F p.bO G⟩ ⟨Z h f.aP j,Z m f.aB n,Z s f.aU y⟩ f 5 (q:Int) (z:Int) c);go_enter func114,ntmps114;go_upto_region 1 with fail
 refine Av (λu=>Ae (Im w u ⟨Z D p.az E,Z B p.b8 C,Z f1 p.aC f3,Z F p.bO G⟩ ⟨Z h f.aP j,Z m f.aB n,Z s f.aU y⟩ f 5 (q:Int) (z:Int) c)) H ?_;rintro U E1;clear H;have W:=E1.ib.cell 0;have X:=E1.ib.cell 1;have i2:=E1.ib.cell 2;have i3:=E1.ib.cell 3;have s0:=E1.sb.cell 0;have s1:=E1.sb.cell 1;have s2:=E1.sb.cell 2;have s3:=E1.sb.cell 3;have s4:=E1.sb.cell 4;have s5:=E1.sb.cell 5;have s6:=E1.sb.cell 6;have s7:=E1.sb.cell 7;simp only[lQ,lO,lS]at W X i2 i3 s0 s1 s2 s3 s4 s5 s6 s7;go_wp2_with fail;refine(Fb ⟨Z D p.az E,Z B p.b8 C,Z f1 p.aC f3,Z F p.bO G⟩ p ⟨Z h f.aP j,Z m f.aB n,Z s f.aU y⟩ f 5 c q z r tt U S (R.av E1.cq lR).az T V).mono ?_;exact PL
theorem ZW(v:VP)(p:MP)(g:VF)(f:MF)(q:Nat)(z:Nat)(r:List Int)(j c:Int)(w:Y)(hs:f.small)(X:p.small)(d:Eb w v p)(h:FD w g f)(hq:p.az[q]?=K r)(hz:r[z]?=K j):Ai Aq 114 #[An #[v.r,v.k,v.f,v.t,g.p,f.cu,g.l,g.c],An #[iZ 7,q,z,c]] w (DI w [3,j]):=by
 obtain⟨F,G,T⟩:=(show∃a c,v.r=Z a p.az c from by obtain⟨_,_,C,_⟩:=d.az;exact C.aD);obtain⟨D,E,S⟩:=d.b8.aD;obtain⟨H,I,et⟩:=d.bO.aD;obtain⟨f1,f3,O⟩:=(show∃a c,v.f=Z a p.aC c from by obtain⟨_,_,C,_⟩:=d.aC;exact C.aD);obtain⟨m,n,P⟩:=h.1.aD;obtain⟨s,y,Q⟩:=h.2.1.aD;obtain⟨A,B,R⟩:=h.2.2.aD;obtain⟨gp,gl,gc⟩:=g;obtain⟨vr,vk,vf,vt⟩:=v;simp only[]at T S et O P Q R;subst T S et O P Q R;have W:=Aw d;have HR:=Aw h;clear d h;have L:=Aw (Im.of w ⟨Z F p.az G,Z D p.b8 E,Z f1 p.aC f3,Z H p.bO I⟩ ⟨Z m f.aP n,Z s f.aB y,Z A f.aU B⟩ f 7 (q:Int) (z:Int) c);go_enter func114,ntmps114;go_upto_region 1 with fail
 refine Av (λu=>Ae (Im w u ⟨Z F p.az G,Z D p.b8 E,Z f1 p.aC f3,Z H p.bO I⟩ ⟨Z m f.aP n,Z s f.aB y,Z A f.aU B⟩ f 7 (q:Int) (z:Int) c)) L ?_;rintro U b;clear L;have i0:=b.ib.cell 0;have i1:=b.ib.cell 1;have i2:=b.ib.cell 2;have i3:=b.ib.cell 3;have s0:=b.sb.cell 0;have s1:=b.sb.cell 1;have s2:=b.sb.cell 2;have s3:=b.sb.cell 3;have s4:=b.sb.cell 4;have s5:=b.sb.cell 5;have s6:=b.sb.cell 6;have s7:=b.sb.cell 7;simp only[lQ,lO,lS]at i0 i1 i2 i3 s0 s1 s2 s3 s4 s5 s6 s7;go_wp2_with fail;refine(Fb ⟨Z F p.az G,Z D p.b8 E,Z f1 p.aC f3,Z H p.bO I⟩ p ⟨Z m f.aP n,Z s f.aB y,Z A f.aU B⟩ f 7 c q z r j U X (W.av b.cq lR).az hq hz).mono ?_;rintro e u1 ⟨rfl,N⟩;have V:=Aw (Ar b.cq lR N);clear N;go_wp2_with fail;go_ret;exact GX V [3,j] 2 2 rfl
theorem Yf(v:VP)(p:MP)(g:VF)(f:MF)(q:Nat)(a b c:Int)(w:Y)(hs:f.small)(aa:p.small)(h:Eb w v p)(j:FD w g f):Ai Aq 114 #[An #[v.r,v.k,v.f,v.t,g.p,f.cu,g.l,g.c],An #[iZ 29,a,b,c]] w (DI w (Bn f)):=by
 obtain⟨R,S,O⟩:=(show∃a c,v.r=Z a p.az c from by obtain⟨_,_,C,_⟩:=h.az;exact C.aD);obtain⟨P,Q,N⟩:=h.b8.aD;obtain⟨T,V,et⟩:=h.bO.aD;obtain⟨f1,f3,G⟩:=(show∃a c,v.f=Z a p.aC c from by obtain⟨_,_,C,_⟩:=h.aC;exact C.aD);obtain⟨m,n,H⟩:=j.1.aD;obtain⟨y,z,I⟩:=j.2.1.aD;obtain⟨A,B,L⟩:=j.2.2.aD;obtain⟨gp,gl,gc⟩:=g;obtain⟨vr,vk,vf,vt⟩:=v;simp only[]at O N et G H I L;subst O N et G H I L;have HP:=Aw h;have HR:=Aw j;clear h j;have E:=Aw (Im.of w ⟨Z R p.az S,Z P p.b8 Q,Z f1 p.aC f3,Z T p.bO V⟩ ⟨Z m f.aP n,Z y f.aB z,Z A f.aU B⟩ f 29 a b c);go_enter func114,ntmps114;go_upto_region 1 with fail
 refine Av (λu=>Ae (Im w u ⟨Z R p.az S,Z P p.b8 Q,Z f1 p.aC f3,Z T p.bO V⟩ ⟨Z m f.aP n,Z y f.aB z,Z A f.aU B⟩ f 29 a b c)) E ?_;rintro U d;clear E;have X:=d.ib.cell 0;have i1:=d.ib.cell 1;have i2:=d.ib.cell 2;have i3:=d.ib.cell 3;have s0:=d.sb.cell 0;have s1:=d.sb.cell 1;have s2:=d.sb.cell 2;have s3:=d.sb.cell 3;have s4:=d.sb.cell 4;have s5:=d.sb.cell 5;have s6:=d.sb.cell 6;have s7:=d.sb.cell 7;simp only[lQ,lO,lS]at X i1 i2 i3 s0 s1 s2 s3 s4 s5 s6 s7;go_wp2_with fail;refine(Ro ⟨Z m f.aP n,Z y f.aB z,Z A f.aU B⟩ f U).mono ?_;rintro e u1 ⟨s,rfl,D,F⟩;have W:Ae (DI w (Bn f) (Am s) u1):=⟨s,rfl,D,Ar d.cq lR F⟩;obtain⟨sa,sc,rfl⟩:=D.aD;clear D F;go_wp2_with fail;go_ret;exact W
theorem Y4(v:VP)(p:MP)(g:VF)(f:MF)(q:Nat)(tt b c:Int)(w:Y)(hs:f.small)(E:p.small)(d:Eb w v p)(h:FD w g f)(hq:(f.aP++f.aB)[q]?=K tt):Ai Aq 119 #[An #[v.r,v.k,v.f,v.t,g.p,f.cu,g.l,g.c],An #[iZ 2,q,b,c]] w (DI w [tt]):=by
 obtain⟨r1,r3,A⟩:=(show∃a c,v.r=Z a p.az c from by obtain⟨_,_,j,_⟩:=d.az;exact j.aD);obtain⟨k1,k3,z⟩:=d.b8.aD;obtain⟨t1,t3,et⟩:=d.bO.aD;obtain⟨f1,f3,m⟩:=(show∃a c,v.f=Z a p.aC c from by obtain⟨_,_,j,_⟩:=d.aC;exact j.aD);obtain⟨g1,g3,n⟩:=h.1.aD;obtain⟨g4,g6,s⟩:=h.2.1.aD;obtain⟨g7,g9,y⟩:=h.2.2.aD;obtain⟨D,C,gc⟩:=g;obtain⟨H,G,F,I⟩:=v;simp only[]at A z et m n s y;subst A z et m n s y;have B:=Aw d;have HR:=Aw h;clear d h;have E0:=Aw (Im.of w ⟨Z r1 p.az r3,Z k1 p.b8 k3,Z f1 p.aC f3,Z t1 p.bO t3⟩ ⟨Z g1 f.aP g3,Z g4 f.aB g6,Z g7 f.aU g9⟩ f 2 (q:Int) b c);go_enter func119,ntmps119;go_upto_region 1 with fail
 refine Av (λu=>Ae (Im w u ⟨Z r1 p.az r3,Z k1 p.b8 k3,Z f1 p.aC f3,Z t1 p.bO t3⟩ ⟨Z g1 f.aP g3,Z g4 f.aB g6,Z g7 f.aU g9⟩ f 2 (q:Int) b c)) E0 ?_;exact T5
theorem Y5(v:VP)(p:MP)(g:VF)(f:MF)(q:Nat)(z:Nat)(r:List Int)(tt c:Int)(w:Y)(hs:f.small)(S:p.small)(b:Eb w v p)(d:FD w g f)(T:p.az[q]?=K r)(V:r[z]?=K tt):Ai Aq 119 #[An #[v.r,v.k,v.f,v.t,g.p,f.cu,g.l,g.c],An #[iZ 4,q,z,c]] w (DI w [tt]):=by
 obtain⟨D,E,Q⟩:=(show∃a c,v.r=Z a p.az c from by obtain⟨_,_,A,_⟩:=b.az;exact A.aD);obtain⟨B,C,P⟩:=b.b8.aD;obtain⟨F,G,et⟩:=b.bO.aD;obtain⟨f1,f3,I⟩:=(show∃a c,v.f=Z a p.aC c from by obtain⟨_,_,A,_⟩:=b.aC;exact A.aD);obtain⟨h,j,L⟩:=d.1.aD;obtain⟨m,n,N⟩:=d.2.1.aD;obtain⟨s,y,O⟩:=d.2.2.aD;obtain⟨gp,gl,gc⟩:=g;obtain⟨vr,vk,vf,vt⟩:=v;simp only[]at Q P et I L N O;subst Q P et I L N O;have R:=Aw b;have HR:=Aw d;clear b d;have H:=Aw (Im.of w ⟨Z D p.az E,Z B p.b8 C,Z f1 p.aC f3,Z F p.bO G⟩ ⟨Z h f.aP j,Z m f.aB n,Z s f.aU y⟩ f 4 (q:Int) (z:Int) c);go_enter func119,ntmps119;go_upto_region 1 with fail
 refine Av (λu=>Ae (Im w u ⟨Z D p.az E,Z B p.b8 C,Z f1 p.aC f3,Z F p.bO G⟩ ⟨Z h f.aP j,Z m f.aB n,Z s f.aU y⟩ f 4 (q:Int) (z:Int) c)) H ?_;rintro U E1;clear H;have W:=E1.ib.cell 0;have X:=E1.ib.cell 1;have i2:=E1.ib.cell 2;have i3:=E1.ib.cell 3;have s0:=E1.sb.cell 0;have s1:=E1.sb.cell 1;have s2:=E1.sb.cell 2;have s3:=E1.sb.cell 3;have s4:=E1.sb.cell 4;have s5:=E1.sb.cell 5;have s6:=E1.sb.cell 6;have s7:=E1.sb.cell 7;simp only[lQ,lO,lS]at W X i2 i3 s0 s1 s2 s3 s4 s5 s6 s7;go_wp2_with fail;refine(Fb ⟨Z D p.az E,Z B p.b8 C,Z f1 p.aC f3,Z F p.bO G⟩ p ⟨Z h f.aP j,Z m f.aB n,Z s f.aU y⟩ f 4 c q z r tt U S (R.av E1.cq lR).az T V).mono ?_;exact PL
theorem Y6(v:VP)(p:MP)(g:VF)(f:MF)(q:Nat)(z:Nat)(r:List Int)(tt c:Int)(w:Y)(hs:f.small)(S:p.small)(b:Eb w v p)(d:FD w g f)(T:p.az[q]?=K r)(V:r[z]?=K tt):Ai Aq 119 #[An #[v.r,v.k,v.f,v.t,g.p,f.cu,g.l,g.c],An #[iZ 6,q,z,c]] w (DI w [tt]):=by
 obtain⟨D,E,Q⟩:=(show∃a c,v.r=Z a p.az c from by obtain⟨_,_,A,_⟩:=b.az;exact A.aD);obtain⟨B,C,P⟩:=b.b8.aD;obtain⟨F,G,et⟩:=b.bO.aD;obtain⟨f1,f3,I⟩:=(show∃a c,v.f=Z a p.aC c from by obtain⟨_,_,A,_⟩:=b.aC;exact A.aD);obtain⟨h,j,L⟩:=d.1.aD;obtain⟨m,n,N⟩:=d.2.1.aD;obtain⟨s,y,O⟩:=d.2.2.aD;obtain⟨gp,gl,gc⟩:=g;obtain⟨vr,vk,vf,vt⟩:=v;simp only[]at Q P et I L N O;subst Q P et I L N O;have R:=Aw b;have HR:=Aw d;clear b d;have H:=Aw (Im.of w ⟨Z D p.az E,Z B p.b8 C,Z f1 p.aC f3,Z F p.bO G⟩ ⟨Z h f.aP j,Z m f.aB n,Z s f.aU y⟩ f 6 (q:Int) (z:Int) c);go_enter func119,ntmps119;go_upto_region 1 with fail
 refine Av (λu=>Ae (Im w u ⟨Z D p.az E,Z B p.b8 C,Z f1 p.aC f3,Z F p.bO G⟩ ⟨Z h f.aP j,Z m f.aB n,Z s f.aU y⟩ f 6 (q:Int) (z:Int) c)) H ?_;rintro U E1;clear H;have W:=E1.ib.cell 0;have X:=E1.ib.cell 1;have i2:=E1.ib.cell 2;have i3:=E1.ib.cell 3;have s0:=E1.sb.cell 0;have s1:=E1.sb.cell 1;have s2:=E1.sb.cell 2;have s3:=E1.sb.cell 3;have s4:=E1.sb.cell 4;have s5:=E1.sb.cell 5;have s6:=E1.sb.cell 6;have s7:=E1.sb.cell 7;simp only[lQ,lO,lS]at W X i2 i3 s0 s1 s2 s3 s4 s5 s6 s7;go_wp2_with fail;refine(Fb ⟨Z D p.az E,Z B p.b8 C,Z f1 p.aC f3,Z F p.bO G⟩ p ⟨Z h f.aP j,Z m f.aB n,Z s f.aU y⟩ f 6 c q z r tt U S (R.av E1.cq lR).az T V).mono ?_;exact PL
def Hl(n:Int):J:=if n=0 then .nilIface else .iface 190 n
def C9(e:Ending)(p:MP):Prop:=∃n,e=Am (Hl n)/\AY p n
theorem C9.f1(h:¬A7 p.az):C9 (Am (.iface 190 (iZ 1))) p:=⟨1,rfl,.inl ⟨rfl,h⟩⟩
theorem C9.f2(a:A7 p.az)(h:¬Bz p.b8):C9 (Am (.iface 190 (iZ 2))) p:=⟨2,rfl,.inr (.inl ⟨rfl,a,h⟩)⟩
theorem C9.f3(a:A7 p.az/\Bz p.b8)(h:¬Bu p.aC):C9 (Am (.iface 190 (iZ 3))) p:=⟨3,rfl,.inr (.inr (.inl ⟨rfl,a.1,a.2,h⟩))⟩
theorem C9.f4(a:A7 p.az/\Bz p.b8)(b:Bu p.aC)(h:¬DU p):C9 (Am (.iface 190 (iZ 4))) p:=⟨4,rfl,.inr (.inr (.inr (.inl ⟨rfl,a.1,a.2,b,h⟩)))⟩
theorem C9.f5(a:A7 p.az/\Bz p.b8)(b:Bu p.aC)(c:DU p)(h:¬Cw p):C9 (Am (.iface 190 (iZ 5))) p:=⟨5,rfl,.inr (.inr (.inr (.inr (.inl ⟨rfl,a.1,a.2,b,c,h⟩))))⟩
theorem C9.f0(a:A7 p.az/\Bz p.b8)(b:Bu p.aC)(c:DU p)(h:Cw p):C9 (Am .nilIface) p:=⟨0,rfl,.inr (.inr (.inr (.inr (.inr ⟨rfl,a.1,a.2,b,c,h⟩))))⟩
theorem Dc(v:VP)(p:MP)(w:Y)(Q:p.small)(hw:p.wf)(h:Eb w v p)(O:D8 w v.r p.az)(P:EZ w v.f p.aC):
 Ai Aq 50 #[An #[v.r,v.k,v.f,v.t]] w λe w'=>C9 e p/\Ah w w w':=by
 have H:=Aw (lN Q (lN hw (lN h (lN O P))));clear Q hw h O P;have s:Ae _:=OL.of w v.r v.k v.f v.t 40;go_enter func50,ntmps50;go_wp2_with fail;refine(K6 v.r p.az _ H.1.az H.1.region (H.2.2.1.az.av s.cq lR)).mono ?_;rintro e u1 ⟨⟨S,rfl,y⟩,rfl⟩;cases S
 . (have a:Ae (¬A7 p.az):= λe=>by simp[e]at y);clear y;go_wp2;go_ret;exact⟨.f1 a,s.cq⟩
 have F:=Aw (y.1 rfl);clear y;go_wp2_with fail;refine(LK v.k p.b8 _ H.1.b8 (λc X=>(JN (H.2.1.b8 c X).2).1) (H.2.2.1.b8.av s.cq lR)).mono ?_;rintro e u2 ⟨⟨T,rfl,z⟩,G⟩;have u:=Aw (s.av G);clear G;cases T
 . (have a:Ae (¬Bz p.b8):= λe=>by simp[e]at z);clear z;go_wp2;go_ret;exact⟨.f2 F a,u.cq⟩
 have g:=Aw (lN F.o (z.1 rfl));clear z;obtain⟨j,l,m,n⟩:=u.prog;go_wp2_with fail;refine(Nl v.f p.aC _ H.1.aC H.1.func (H.2.2.1.aC.av u.cq lR)).mono ?_;rintro e u3 ⟨⟨U,rfl,A⟩,I⟩;have b:=Aw (u.av I);clear I j l m n;cases U
 . (have a:Ae (¬Bu p.aC):= λe=>by simp[e]at A);clear A;go_wp2;go_ret;exact⟨.f3 g a,b.cq⟩
 have q:=Aw (A.1 rfl);clear A;obtain⟨j,l,m,n⟩:=b.prog;go_wp2_with fail;refine(Nh v p _ H.1 H.2.1 g.1 q (H.2.2.1.av b.cq lR) (H.2.2.2.1.av b.cq lR)).mono ?_;rintro e u4 ⟨⟨V,rfl,B⟩,L⟩;have d:=Aw (b.av L);clear L j l m n;cases V
 . (have a:Ae (¬DU p):= λe=>by simp[e]at B);clear B;go_wp2;go_ret;exact⟨.f4 g q a,d.cq⟩
 have D:=Aw (B.1 rfl);clear B;obtain⟨j,l,m,n⟩:=d.prog;go_wp2_with fail;refine(Nd v p _ H.1 (H.2.2.1.av d.cq lR) (H.2.2.2.2.av d.cq lR)).mono ?_;rintro e u5 ⟨⟨W,rfl,C⟩,N⟩;have E:=Aw (Ar d.cq lR N);clear N j l m n;cases W
 . (have a:Ae (¬Cw p):= λe=>by simp[e]at C);clear C;go_wp2;go_ret;exact⟨.f5 g q D a,E⟩
 have R:Ae (Cw p):=C.1 rfl;clear C;go_wp2;go_ret;exact⟨.f0 g q D R,E⟩
theorem Ay.low{u c:Y}{a:Array J}(h:Ay u b a t)(d:Ah B u c)(e:b<B):Ay c b a t:=by unfold Ay at*;rw[d.block b e];exact h
theorem Bb.small(h:Bb p s s')(b:IF p s)(a:s.small):s'.small:=by
 cases h with
 |jump=>exact⟨a.cells,a.cell,a.stack,a.dk,a.frame⟩
 |trap=>exact⟨a.cells,a.cell,a.stack,a.dk,a.frame⟩
 |does=>exact UB b.prog ⟨a.cells,a.cell,a.stack,a.dk,a.frame⟩ b.jy b.deep
structure Gf(p:MP)(m:MM)(k:Nat)(s:MS):Prop where
 steps:∃s0,Ga p m s0/\Do p k s0 s
 going:s.trap=0->s.done=false->PZ p k s
 small:s.small
theorem Gf.next(h:Gf p m k s)(n:p.wf)(l:k<=1048576)(b:s.trap=0)(c:s.done=false)(a:Bb p s s'):Gf p m (k+1) s':=by obtain⟨q,g,j⟩:=h.steps;have d:=h.going b c;exact⟨⟨q,g,.next j b c a⟩, λe f=>d.next n l b a e f,a.small d.sh h.small⟩
theorem Ga.sml(h:Ga p m s)(d:p.small):s.small:=by
 rcases h with⟨l,n,q,t,f,fs,j,k,rfl⟩|⟨l,rfl⟩
 . (have c:∀(r e:List Int),r∈p.az->(A9 r e).length<=1048576:= λr e a=>by have:=d.region r a;simp only[A9,List.length_zipWith];omega);rw[j]at c;refine⟨by simp[BU],?_,by simp[BU],by simp[BU],?_⟩
   . intro r a;simp only[BU,lW,lZ,mS]at a;rcases a with rfl|rfl|rfl<;>exact c _ _ sP
   intro g b;simp only[BU,lW,lZ,mS]at b;subst b;show(A8 f.aB).length<=1048576;rw[FY];exact(d.func f (by rw[k];simp)).2.1
 . exact⟨by simp[Ks],by simp[Ks],by simp[Ks],by simp[Ks],by simp[Ks]⟩
theorem Gf.of(h:Ga p m s)(c:p.small)(d:m.wf):Gf p m 0 s:=by
 refine⟨⟨s,h,.zero⟩, λb e=> ?_,h.sml c⟩;rcases h.going d with⟨_,_,a⟩|⟨a,_⟩
 . exact a
 exact absurd b a
def Il(p:MP)(m:MM)(n:Nat)(s':MS):Prop:=∃s,Ga p m s/\Tv p n s s'
theorem Il.one{a b:MS}(h:Il p m n a)(e:Il p m n b):a=b:=by obtain⟨s,f,g⟩:=h;obtain⟨s',c,d⟩:=e;obtain rfl:=f.one c;exact g.one d
theorem Gf.ends(h:Gf p m k s)(f:k<=n)(c:k=n\/s.trap≠0\/s.done=true):Il p m n s:=by
 obtain⟨d,a,b⟩:=h.steps;refine⟨d,a,k,b,?_⟩;by_cases e:k=n
 . exact .inl e
 exact .inr ⟨oM,c.resolve_left e⟩
def qw(w:Y)(p:MP)(m:MM)(nn:Nat)(e:Ending)(a:Y):Prop:=∃(t:Int) (d:Bool) (c n:Int) (X:VS) (C:List (J×List MC)) (K:List MC) (F:List (MG×J)),e=Am (An #[t,d,c,n,X.c,X.k,X.f])/\AB a w X C K F/\Il p m nn (A3 t d c n C K F)/\(A3 t d c n C K F).small/\Ah w w a
structure Ub(w u:Y)(v:VP)(vm:VM)(B N:Nat)(t:Int)(d:Bool)(c n:Int)(X:VS)(C:List (J×List MC))(K:List MC)(F:List (MG×J)):Prop where
 at_:JH w u v vm
 sb:Ay u N #[t,d,c,n,X.c,X.k,X.f] 48
 own:AB u B X C K F
 hB:B<= ↑u
 low: ↑w+1+1<B
 hN:B<=N
theorem JH.low{w u b:Y}{c:VM}(h:JH w u v c)(a:Ah B u b)(d: ↑w+1+1<B):JH w b v c:=⟨h.pb.low a oM,h.mb.low a oM,h.rb.low a d,h.cq.trans (a.mono oM)⟩
theorem Ub.av{w u b:Y}{e:VM}{N:Nat}{t c n:Int}{d:Bool}{C:List (J×List MC)}{K:List MC}(h:Ub w u v e B N t d c n X C K F)(a:Ah u u b):Ub w b v e B N t d c n X C K F:=⟨h.at_.av a,h.sb.av a,h.own.grow a,mC h.hB a.size,h.low,h.hN⟩
theorem AQ.jc{w c:Y}{row:Option Nat}(h:AQ w b a D)(d:w.grownBy c row)(e:K b≠row):AQ c b a D:=World.ownsMap.kept h d e
theorem GW{w:Y}{base k n b d:Nat}{e:Aj}{v:J}{xs:List J}(h:Ab w base e k v n xs)(j:w.ownsMap Aq 2 R b d D):K b≠v.ownBlock:=by
 obtain⟨p,l,f,_⟩:=j;intro a;rcases h.2 with⟨rfl,_⟩|⟨g,cap,m,rfl,_,c,_⟩
 . cases a
 simp only[Value.ownBlock,lX]at a;subst a;rw[f]at c;cases c
theorem DH.to{u d:Y}{c:Nat->Nat}{e:List Int}(h:DH u b a k c e W)(f:d.ownsMap Aq 2 Cy b a W):DH d b a k c e W:=⟨f,h.has,h.at_,h.size⟩
structure OX(w u:Y)(fs:List MF)(mb cnt:Nat)(Bk:Nat->Nat)(zm:List Int)(W:DataW Unit)(live:Nat->Bool)(dn:Nat->List Int)(zo:List Int)(V:J):Prop where
 map:DH u mb cnt fs Bk zm W
 iO:Di u fs w mb fs Bk live dn
 o:Ab u w 2 1 V zo (Ad At zo)
 cq:Ah w w u
 jN: ↑w<=mb
def OW(w u:Y)(fs:List MF)(d c:Nat)(b:Nat->Nat)(a:List Int)(W:DataW Unit)(V:J):Prop:=OX w u fs d c b a W (λi=> !a.contains (i:Int)) (λ_=>a) a V
theorem OX.av{w u g:Y}{b:Nat->Nat}{j k:List Int}{e:Nat->Bool}{d:Nat->List Int}(h:OX w u fs f c b j W e d k V)(a:Ah u u g):OX w g fs f c b j W e d k V:=⟨h.map.to (h.map.own.kept (DX a) sP),h.iO.kept (λi m l D q=>q.av a),AD h.o a lR,Ar h.cq lR a,h.jN⟩
theorem OX.jt{w u c:Y}{d:Nat->Nat}{m a:List Int}{k:Nat->Bool}{g:Nat->List Int}(h:OX w u fs l f d m W k g a V)(b:u.grownBy c V.ownBlock)(p:Ab c w 2 1 e (a.length+1) (Ad At a++[iZ q])):OX w c fs l f d m W k g (a++[q]) e:=⟨h.map.to (h.map.own.kept b (GW h.o h.map.own)),h.iO.kept (λi s r D q=>q.jc b (GW h.o q)),by rw[mB,mT,mW];exact p,h.cq.grown b h.cq.size (λj n=>(h.o.lt j n).1),h.jN⟩
theorem OX.del{w u f:Y}{q:Nat}{g:Nat->Nat}{a:List Int}(h:OX w u fs b c g a W (λi=> !a.contains (i:Int)) (λ_=>a) (a++[(q:Int)]) V)(v:q< ↑fs)(y:a.contains (q:Int)=false)(t:f.ownsMap Aq 2 Cy b c (W.del (.int Af (q:Int))))(d:u.grownBy f (K b)):OX w f fs b c g (a++[(q:Int)]) (W.del (.int Af (q:Int))) (λi=> !(a++[(q:Int)]).contains (i:Int)) (λ_=>a) (a++[(q:Int)]) V:=by refine⟨h.map.del v y t,⟨λi k l=> ?_,h.iO.inj,h.iO.ne⟩,h.o.kept d (Or.inr (GW h.o h.map.own).symm),h.cq.grown d h.cq.size (λj s=>by cases s;exact h.jN),h.jN⟩;rw[Fe,Bool.not_or,mu]at l;obtain⟨m,D,n,p,r⟩:=h.iO.set i k l.1;exact⟨m,D,n,p.jc d (λe=>(h.iO.ne i k).2 (mD e)),r⟩
theorem Hr{w:Y}{d:DataW Unit}(h:w.ranges Aq 2 R b r n D left g)(k:AQ w c f d):K c≠K r:=by
 obtain⟨p,l,t,s,c0,_,_,_,_,a,_⟩:=h;obtain⟨q,m,j,_⟩:=k;intro e;cases e
 rw[j]at a;cases a
def KY(a:List Int)(q:Int)(left:Lit->Bool)(i:Nat):List Int:=if left (.int Af (i:Int))=true then a else a++[q]
theorem OX.step{w u d:Y}{p:Nat}{e:Nat->Nat}{l m:List Int}{k:Nat->Bool}{f:Nat->List Int}{y:Lit->Bool}{c':Nat}(h:OX w u fs a b e l W k f m V)(g:u.ranges Aq 2 Cy a r n W left p)(v:d.ranges Aq 2 Cy a r b W y c')(c:u.grownBy d (K r))(s: ↑w<=r):OX w d fs a b e l W k f m V:=⟨h.map.to v.owns,h.iO.kept (λi A z D q=>q.jc c (Hr g q)),h.o.kept c (Or.inr (Go.row_ne_iter h.o g).symm),h.cq.grown c h.cq.size (λj t=>by cases t;exact s),h.jN⟩
theorem OX.start{w u:Y}{e:Nat}{b:Nat->Nat}{a:List Int}(h:OX w u fs e c b (a++[q]) W (λi=> !(a++[q]).contains (i:Int)) (λ_=>a) (a++[q]) V):OX w u fs e c b (a++[q]) W (λi=> !(a++[q]).contains (i:Int)) (KY a q (Go.Maps.has W)) (a++[q]) V:=by
 refine⟨h.map,⟨λi g d=> ?_,h.iO.inj,h.iO.ne⟩,h.o,h.cq,h.jN⟩;have:Go.Maps.has W (.int Af (i:Int))=true:=by
  rw[h.map.has,d];have f:(0<=(i:Int)/\(i:Int)<(fs:Int)):=oM
  simp only[f,and_self,decide_true,Bool.and_true]
 unfold KY;rw[mE this];exact h.iO.set i g d
theorem OX.done{w u:Y}{d:Nat}{b:Nat->Nat}{a:List Int}(h:OX w u fs d c b (a++[q]) W (λi=> !(a++[q]).contains (i:Int)) (KY a q left) (a++[q]) V)(f:∀kl,left kl=false):OW w u fs d c b (a++[q]) W V:=by refine⟨h.map,⟨λi e g=> ?_,h.iO.inj,h.iO.ne⟩,h.o,h.cq,h.jN⟩;have:=h.iO.set i e g;unfold KY at this;rw[f]at this;exact this
theorem OX.meets{w u:Y}{b:Nat->Nat}{a:List Int}{x:Int}(h:OX w u fs n l b (a++[q]) W (λi=> !(a++[q]).contains (i:Int)) (KY a q left) (a++[q]) V)(m:left (.int Af x)=true)(k:∀p,W.atKey (.int Af x) p=.lit (.int Af (c:Int))):∃i:Nat,x=(i:Int)/\i< ↑fs/\c=b i/\∃g D,g<=1048576/\AQ u c g D/\∀z,Go.Maps.has D (.int Af z)=Es fs a i z:=by
 have d:=Go.Maps.has_true_of_atKey k;rw[h.map.has]at d;simp only[mu,mo]at d;obtain⟨⟨r,s⟩,j⟩:=d;obtain⟨i,rfl⟩:∃i:Nat,x=(i:Int):=⟨x.toNat,oM⟩;have f:i<fs.length:=oM;have e:=(k (.agg [])).symm.trans (h.map.at_ i f (by simpa using j) (.agg []));obtain rfl:c=b i:=by
  injection e with e
  injection e with _ e
  omega
 have:=h.iO.set i f j;unfold KY at this;rw[mE m]at this;exact⟨i,rfl,f,rfl,this⟩
theorem OX.told{w u k:Y}{m i:Nat}{b:Nat->Nat}{a:List Int}(h:OX w u fs m l b (a++[q]) W (λi=> !(a++[q]).contains (i:Int)) (KY a q left) (a++[q]) V)(g:i< ↑fs)(A:c<=1048576)(y:∀z,Go.Maps.has D (.int Af z)=Es fs a i z)(C:AQ u (b i) c D)(B:AQ k (b i) c (D.del (.int Af q)))(d:u.grownBy k (K (b i))):OX w k fs m l b (a++[q]) W (λi=> !(a++[q]).contains (i:Int)) (KY a q (λz=>left z&& !z.sameKey (.int Af (i:Int)))) (a++[q]) V:=by
 refine⟨h.map.to (h.map.own.kept d (λe=>(h.iO.ne i g).2 (mD e).symm)),⟨λj f E=> ?_,h.iO.inj,h.iO.ne⟩,h.o.kept d (Or.inr (GW h.o C).symm),h.cq.grown d h.cq.size (λj f=>by cases f;exact(h.iO.ne i g).1),h.jN⟩;by_cases e:j=i
 . subst e;refine⟨c,_,A,B, λz=> ?_⟩;unfold KY;rw[lY (by simp[DP]),QQ,y,XW]
 obtain⟨p,n,s,t,v⟩:=h.iO.set j f E;refine⟨p,n,s,t.jc d (λr=>e (h.iO.inj j i f g (mD r))), λz=> ?_⟩;rw[v];have:¬(j:Int)=(i:Int):=oM;unfold KY;simp[DP,this]
theorem Nq(v:VP)(p:MP)(w:Y)(hs:p.small)(hw:p.wf)(h:Eb w v p)(bt:D8 w v.r p.az)(bx:EZ w v.f p.aC):
 Ai Aq 51 #[.agg #[v.r,v.k,v.f,v.t]] w λe w'=>∃V b,e=Am V/\Ab w' w.heap.size 2 1 V b.length (b.flatMap At)/\Yv p b/\Ah w.heap.size w w':=by
 obtain⟨k0,hk,dj,dm,dq⟩:=nE Ct;have H:=Aw (lN hs (lN hw (lN h (lN bt bx))));clear hs hw h bt bx;have dA:= @run_makeMap Aq;have E:Ae (Kg (Ac w (Ak #[v.r,v.k,v.f,v.t] 40)) w v.r v.k v.f v.t/\Ah w w (Ac w (Ak #[v.r,v.k,v.f,v.t] 40))):=⟨Kg.new w _ _ _ _ _,Al _ _⟩
 go_enter func51,ntmps51;obtain⟨X,q1,q2,q3⟩:=E.o.1;go_wp2_with fail;refine(Dc v p _ H.o.1 H.o.2.1 (H.o.2.2.1.av E.o.2 lR) (H.o.2.2.2.1.av E.o.2 lR) (H.o.2.2.2.2.av E.o.2 lR)).mono ?_;rintro e A ⟨⟨nf,rfl,ax⟩,b1⟩;have F:=Aw (lN (E.o.1.av b1) (Ar E.o.2 lR b1));clear b1 E X q1 q2 q3;by_cases X:nf=0
 . subst X;have HF:=Aw ax;clear ax;rw[show Hl 0=.nilIface from rfl];obtain⟨ys,cI,aQ,bu⟩:=H.o.2.2.1.aC;obtain⟨vr,vk,vf,vt⟩:=v;obtain⟨af,cf,ef⟩:∃a c,vf=Z a p.aC c:=aQ.aD;subst ef;have de:=(QI HF.o).1.2.1;have bI:=(QI HF.o).1.1;have Q:=Aw (lN cI (lN aQ bu));clear cI aQ bu;generalize br:p.aC.length=n at de bI Q F;have G:=Aw br;clear br;obtain⟨gf,of,rfl,ae⟩:∃gf of,af=K ⟨gf,of,M⟩/\Ae (∀j u,(Ad GH ys)[j]?=K u->w.cell? ⟨gf,of+j,M⟩=K u):=by
    rcases Q.o.2.1.2 with⟨e0,_⟩|⟨gf,of,c',e1,cU⟩
    . exact absurd e0 bI
    simp only[lU,mj]at e1;exact⟨gf,of,e1.1,cU⟩
   obtain⟨p0,p1,p2,p3⟩:=F.o.1.alloc (.map #[] 0);obtain⟨r0,r1,r2,r3⟩:=F.o.1;have aj:Ae (DH (Ac A (.map #[] 0)) A 0 0 (λ_=>0) [] (.map [])/\Ah w w (Ac A (.map #[] 0))/\(w:Nat)<= ↑A):=⟨DH.start (World.ownsMap_made _ _ _ _),Ar F.o.2 lR (Al _ _),F.o.2.size⟩
   go_wp2;clear p0 p1 p2 p3 r0 r1 r2 r3;have aE:=Aw aj.o.2.2;have aI:Ae (∃d W,DH (Ac A (.map #[] 0)) A 0 0 d [] W/\Di (Ac A (.map #[] 0)) p.aC w A 0 d (λ_=>true) (λ_=>[])/\Ah w w (Ac A (.map #[] 0))):=⟨_,_,aj.o.1,Di.start,aj.o.2.1⟩
   clear aj F;generalize A.heap.size=g at aI aE⊢;go_loopw [18] (λi wr=>∃k:Nat,k<=n/\i=iZ k/\Ae (∃d W,DH wr g k k d [] W/\Di wr p.aC w g k d (λ_=>true) (λ_=>[])/\Ah w w wr)) (λi _=>n-(intOf i).toNat)
   (case atStart=>exact⟨0,oM,rfl,aI⟩);clear aI;obtain⟨k,dy,rfl,aZ⟩:=hrel;obtain⟨d,W,hM,hS,hB⟩:=aZ.o;have s:=Aw (lN hM (lN hS hB));clear hM hS hB aZ;by_cases d9:k<n
   . have dx:(k:Int)<(n:Int):=oM;obtain⟨⟨f,z⟩,N⟩:∃y,ys[k]?=K y:=⟨_,an (by have:=congrArg List.length Q.o.1;rw[mQ,G.o]at this;omega)⟩;have aq:=FU Q.o.1 N;have O:=Q.o.2.2 _ (lP N);simp only[]at O;obtain⟨zp,zl,zc⟩:=z;obtain⟨ap,cp,ep⟩:∃a c,zp=Z a f.aP c:=O.1.aD;obtain⟨al,cl,el⟩:∃a c,zl=Z a f.aB c:=O.2.1.aD;obtain⟨ac,cc,ec⟩:∃a c,zc=Z a f.aU c:=O.2.2.aD;subst ep el ec;have S:=Aw (lN O (lN (H.o.1.func f (lP aq)) (lN aq ((H.o.2.1.aC f (lP aq)).aU))));have i0:=FJ s.o.2.2 (Rd.elem AK ae.o k _ N 0 _ rfl);have i1:=FJ s.o.2.2 (Rd.elem AK ae.o k _ N 1 _ rfl);have i2:=FJ s.o.2.2 (Rd.elem AK ae.o k _ N 2 _ rfl);have i3:=FJ s.o.2.2 (Rd.elem AK ae.o k _ N 3 _ rfl);rw[mL]at i0;clear N aq O;(go_upto_region 7 with fail);refine Av (λu=>Ae (DH u g k k d [] W/\Di u p.aC w g k d (λ_=>true) (λ_=>[])/\Ah w w u/\Ay u wr #[Z ap f.aP cp,iZ f.cu,Z al f.aB cl,Z ac f.aU cc] 34)) ⟨s.o.1.to (s.o.1.own.alloc _),s.o.2.1.kept (λi C B D q=>q.av (Al _ _)),Ar s.o.2.2 lR (Al _ _),Ay.new _ _ _⟩ ?_
     intro U1 l;clear i0 i1 i2 i3;obtain⟨a0,a1,a2,a3⟩:=pm l.o.2.2.2;go_wp2_with fail;refine(Na _ f.aU U1 S.o.2.1.2.2 S.o.2.2.2 (S.o.1.2.2.av l.o.2.2.1 lR)).mono ?_;rintro e u4 ⟨rfl,⟨cs,DS,aK,bV,ce⟩,b4⟩;have I:=Aw (lN bV (lN ce (lN ((by have:=S.o.2.1.2.2;omega):cs<=1048576) b4)));have L:=l.o.1.own.kept (DX b4) sP;clear bV ce aK b4 a0 a1 a2 a3;have HR:Ae (∃d W,DH u4 g k k d [] W/\Di u4 p.aC w g k d (λ_=>true) (λ_=>[])):=⟨d,W,l.o.1.to L,l.o.2.1.kept (λi C B D q=>q.av I.o.2.2.2)⟩
     have di:Fa (k:Int):=Jb oM oM;go_wp2_with (at_mapUpdate;refine wpList_mapUpdate_own _ rfl _ _ _ 205 rfl 2 164 EX underlying205 Cy g k W rfl L oX _ _ _ rfl rfl (og underlying2 di) (.lit (.int Af (U1:Int))) [] rfl ?_;intro w5 bQ au);have HN:Ae (∃d W,DH w5 g (k+1) (k+1) d [] W/\Di w5 p.aC w g (k+1) d (λ_=>true) (λ_=>[])/\Ah w w w5):=by
      have dz:=oL l.o.1.own;(have cY:∀i,i<k->∀B D,AQ U1 (d i) B D->AQ w5 (d i) B D:= λi C B D q=>(q.av I.o.2.2.2).jc au (λe=>(l.o.2.1.ne i C).2 (mD e)));refine⟨_,_,l.o.1.put bQ,l.o.2.1.put cY (λi C e=> ?_) ⟨l.o.2.2.1.size,oM⟩ ⟨cs,DS,I.o.2.2.1,I.o.1.jc au (λe=>by have:=mD e;omega), λz=> ?_⟩,?_⟩
      . obtain⟨B,D,_,q,_⟩:=l.o.2.1.set i C rfl;have:=oL q;omega
      . rw[I.o.2.1 z,mm lR];unfold Es;rw[S.o.2.2.1];simp
      exact(Ar l.o.2.2.1 lR I.o.2.2.2).grown au (Ar l.o.2.2.1 lR I.o.2.2.2).size (λj hj=>by cases hj;exact aE.o)
     clear bQ au L;go_wp2;go_roundw;(case rel=>exact⟨k+1,oM,by go_num,HN⟩);exact oI
   obtain rfl:k=n:=oM;have bf:Ae (OW w wr p.aC g k d [] W sN):=⟨by rw[G.o];exact s.o.1,by rw[G.o];exact s.o.2.1,⟨rfl,.inl ⟨rfl,rfl⟩⟩,s.o.2.2,aE.o⟩;have bi:=Aw (lN bf.o ((by unfold Dk;rw[G.o];rfl):Ej p.aC (k-([]:List Int).length) []=Dk p.aC));clear s bf;obtain⟨W0,cQ⟩:∃W0,W0=W:=⟨_,rfl⟩;subst cQ;go_wp2;go_loopw [6] (λV wr=>∃(b:List Int) (W:DataW Unit), ↑b<=k/\(∃a c,V=Z a b c)/\Ae (OW w wr p.aC g k d b W V/\Ej p.aC (k-↑b) b=Dk p.aC)) (λV _=>k-tC V)
   (case atStart=>exact⟨[],_,sP,⟨_,_,rfl⟩,bi⟩);clear bi;obtain⟨b,W,dF,⟨aV,cV,rfl⟩,m⟩:=hrel;have aO:=m.o.1.map.own;have dh:=m.o.1.map.size;rw[G.o]at dh;by_cases d9: ↑b<k
   . have dB:(0:Int)<((Go.Maps.size W:Nat):Int):=oM;go_wp2_with (first
      |(at_len;refine wpList_len_own _ rfl _ 205 rfl 2 164 underlying205 _ g k _ rfl aO ?_)
      |fail)
     refine(Rh g k W (I6 p.aC b) _ oM m.o.1.map.own (Te m.o.1.iO m.o.1.map)).mono ?_;rintro e u9 ⟨g9,du,rs,rfl,aY,bZ,bH,b9⟩;have aA:=Aw (lN (m.o.1.av b9) b9);have cW:=Ri (by rw[G.o];omega) m.o.1.map.has bZ bH;clear aO b9 bZ bH;rcases cW with⟨rfl,bJ⟩|⟨q,r,rfl,hq,bT,bG⟩
     . have HO:Ae (Dk p.aC=[]):=by
        show _=_;rw[<-m.o.2,show k-↑b=(k-↑b-1)+1 from oM]
        simp only[Ej];rw[bJ]
       clear bJ aY;go_wp2;go_ret;exact⟨_,[],rfl,⟨rfl,.inl ⟨rfl,rfl⟩⟩,.inl ⟨HF.o,HO.o.symm⟩,aA.o.1.cq⟩
     . have HO:Ae (Ej p.aC (k-(b++[(q:Int)]).length) (b++[(q:Int)])=Dk p.aC):=by
        show _=_;rw[<-m.o.2,show k-↑b=(k-↑b-1)+1 from oM]
        simp only[Ej];rw[bG,mB,mT,Nat.sub_add_eq]
       have c9:=aY.cellAt 0 sP;rw[show((Ad At ((q:Int)::r))[0]?=K (iZ (q:Int)))from rfl]at c9;have HQ:=Aw (lN hq bT);clear hq bT bG aY;have cH:Fa (q:Int):=Jb oM (by have:=HQ.o.1;have:=G.o;omega);have aa:Ae (OW w (Ac u9 (Ak #[iZ (q:Int)] 2)) p.aC g k d b W (Z aV b cV)):=aA.o.1.av (Al _ _);have dD:(r:Int)+1>0:=oM;go_wp2_with (first
        |(at_builtin;refine wpList_append_lies _ rfl _ _ 27 rfl w 2 k0 (iZ 0) 1 8 underlying27 hk dj dm dq rfl dC _ b (b.flatMap At) rfl aa.o.o u9 1 1 [iZ (q:Int)] rfl rfl (Vd u9 (q:Int)) (λu hu=>by simp at hu;subst hu;rfl) oM oX oM aa.o.cq.size _ rfl ?_;intro U T w3 bP bC cT dd;have aF:Ae (OX w w3 p.aC g k d b W (λi=> !b.contains (i:Int)) (λ_=>b) (b++[(q:Int)]) (sG U (b.length+1) T)):=aa.o.jt bC bP;have cJ:=aF.o.map.own;clear bP bC cT dd)
        |(at_delete;refine wpList_delete_own _ rfl _ _ 205 2 rfl 164 EX underlying205 _ g k W rfl cJ _ _ rfl (og underlying2 cH) ?_;intro w4 L cj;have aG:Ae (OX w w4 p.aC g k d (b++[(q:Int)]) (W.del (.int Af (q:Int))) (λi=> !(b++[(q:Int)]).contains (i:Int)) (λ_=>b) (b++[(q:Int)]) (Z U (b.length+1) T)):=aF.o.del HQ.o.1 HQ.o.2 L cj.grown;clear cj cJ)
        |(at_range;refine wpList_range_own _ rfl _ 205 rfl 2 164 EX underlying205 _ g k _ rfl L ?_;intro w5 aS bB dg)
        |go_in)
       go_frame;have ai:=Aw (lN ((aG.o.av ((mP _ _).grown bB lR (λj hj=>by cases hj))).start) aG.o.cq.size);have bj:=Aw ai.o.2;clear bB dg L c9 aG aF aa aA;generalize w4.heap.size=it at aS bj ai⊢;go_loopw [10] (λ_ wr=>∃(left:Lit->Bool) (B:Nat),wr.ranges Aq 2 Cy g it k (W.del (.int Af (q:Int))) left B/\Ae (OX w wr p.aC g k d (b++[(q:Int)]) (W.del (.int Af (q:Int))) (λi=> !(b++[(q:Int)]).contains (i:Int)) (KY b (q:Int) left) (b++[(q:Int)]) (Z U (b.length+1) T))) (λ_ wr=>wr.rangeLeft g it)
       (case atStart=>exact⟨_,_,aS,ai.o.1⟩);clear ai aS;obtain⟨left,B,P,R⟩:=hrel;go_wp2_with (first
        |(at_next;refine wpList_next_ranges _ rfl _ rfl 2 EX Cy (Value.int Af) (λ(c:Nat)=>Value.map (K c)) (λdG kl hk=>by obtain⟨x,hx,_⟩:=Go.Maps.keyOf_int_inv underlying2 hk;exact⟨x,hx⟩) (λv y hv=>by obtain⟨c,rfl,_⟩:=FM hv;exact⟨c,rfl⟩) g it k _ _ _ rfl P ?_ ?_)
        |go_in)
       . intro dv cZ;have HD:=Aw (R.o.done cZ);clear P R;go_wp2;go_roundw;(case rel=>exact⟨b++[(q:Int)],_,by simp only[mB,mT];omega,⟨K U,T,by rw[mB,mT]⟩,⟨HD.o,HO.o⟩⟩);simp only[tC];omega
       intro x c kl y ps w2 bq cX d8 hv cR aR db aM df dw;obtain⟨x',ex,rfl,dE⟩:=Go.Maps.keyOf_int_inv underlying2 cX;(obtain rfl:x=x':=by cases ex;rfl);obtain⟨c',ec,ey⟩:=FM hv;obtain⟨rfl,rfl⟩:=Prod.mk.inj ey;clear ey;(obtain rfl:c=c':=by cases ec;rfl);obtain⟨i,rfl,C,rfl,cs,DS,aK,aT,cM⟩:=R.o.meets d8 cR;have aW:AQ w2 (d i) cs DS:=aT.jc aM (Hr P aT);have aJ:=Aw (lN (R.o.step P aR aM bj.o) P.left_eq);have bY:=aW;unfold AQ at bY;clear df R P aM aT;go_wp2_with (first
        |(at_delete;refine wpList_delete_own _ rfl _ _ 164 2 rfl 89 EX underlying164 _ (d i) cs DS rfl bY _ _ rfl (og underlying2 cH) ?_;intro w6 bS aX;have aH:Ae (OX w w6 p.aC g k d (b++[(q:Int)]) (W.del (.int Af (q:Int))) (λi=> !(b++[(q:Int)]).contains (i:Int)) (KY b (q:Int) (λz=>left z&& !z.sameKey (.int Af (i:Int)))) (b++[(q:Int)]) (Z U (b.length+1) T)/\w6.ranges Aq 2 Cy g it k (W.del (.int Af (q:Int))) (λz=>left z&& !z.sameKey (.int Af (i:Int))) bq):=⟨aJ.o.1.told C aK cM aW bS aX.grown,aR.kept aX.grown (λe=>(aJ.o.1.iO.ne i C).2 (mD e).symm) (Hr aR aW).symm⟩;clear bS aX)
        |go_in)
       go_frame;go_roundw;(case rel=>exact⟨_,bq,aH.o.2,aH.o.1⟩);rw[aH.o.2.left_eq,aJ.o.2];exact db
   have hz: ↑b=k:=oM
   have dt:Go.Maps.size W=0:=oM;(have HO:Ae (b=Dk p.aC):=by have:=m.o.2;rw[hz,pG]at this;exact this);have bg:=Aw (lN m.o.1.o m.o.1.cq);go_wp2_with (first
    |(at_len;refine wpList_len_own _ rfl _ 205 rfl 2 164 underlying205 _ g k _ rfl aO ?_;rw[dt])
    |go_in)
   go_ret;refine⟨Z aV b cV,b,?_,bg.o.1,.inl ⟨HF.o,HO.o⟩,bg.o.2⟩;rw[hz];rfl
 have HN:Ae (¬AY p 0):= λe=>X (AY.one ax e)
 have cK:=Aw F.o.2;rw[show Hl nf=.iface 190 (iZ nf)from lY X];clear ax;go_wp2;go_ret;exact⟨_,[],rfl,⟨rfl,.inl ⟨rfl,rfl⟩⟩,.inr ⟨HN.o,rfl⟩,cK.o⟩
theorem Yn{z:MC}(h:z.wf):0<=z.word:=by
 have a:=h.2;have b:0<=z.word/\z.word<=4294967295:=by simpa[RT,Lit.wf,IntKind.min,IntKind.max,IntKind.signed,IntKind.bits]using a
 exact b.1
theorem SN:(Tryz.prog.info? 27).map (λi=>(i.zero,i.size,i.bytes))=K (K sN,1,24):=kR
theorem H8(n:Nat):(madeCells (Z M 0 0).cells (n*1)).toList=List.replicate n sN:=by rw[DM (λb:Bool=>[b]) [sN] [] n sN 1 rfl rfl oM];simp[CK,List.flatten_replicate_singleton]
theorem BS{w a:Y}(b:w.grownBy a M):Ah w w a:=(mP _ _).grown b lR (λk c=>by cases c)
def Wd(xs:List MI):Prop:=∃r,Ba xs r/\r.aU=0
theorem Cv{w:Y}{a c:J}(h:Ay w b #[a0,a,c,d] t):w b=K a0/\w ⟨b,1,M⟩=K a/\w ⟨b,2,M⟩=K c/\w ⟨b,3,M⟩=K d:=⟨h.cell 0,h.cell 1,h.cell 2,h.cell 3⟩
theorem IL{w:Y}{a c f:J}(h:Ay w b #[a0,a,c,d,e,f] t):w b=K a0/\w ⟨b,1,M⟩=K a/\w ⟨b,2,M⟩=K c/\w ⟨b,3,M⟩=K d/\w ⟨b,4,M⟩=K e/\w ⟨b,5,M⟩=K f:=⟨h.cell 0,h.cell 1,h.cell 2,h.cell 3,h.cell 4,h.cell 5⟩
theorem rk{w:Y}{a:Array J}(h:Ay w b a t):w.frozen? b=false/\w.frozen? ⟨b,1,M⟩=false/\w.frozen? ⟨b,2,M⟩=false/\w.frozen? ⟨b,3,M⟩=false/\w.frozen? ⟨b,4,M⟩=false/\w.frozen? ⟨b,5,M⟩=false:=⟨h.frozen 0,h.frozen 1,h.frozen 2,h.frozen 3,h.frozen 4,h.frozen 5⟩
def PY(p:MP)(a:Int):Prop:=AY p 0/\0<=a/\∃f,p.aC[a.toNat]?=K f/\Wd f.aU
theorem Uk{w u:Y}(h:Ah B w u)(g i:Nat)(a:B<=g)(x:J):Ah B w (Aa u ⟨g,i,M⟩ x):=h.setCell a x
theorem JE{d:Array Oper}{rest:List Oper}{o:Oper}{a:Act}{w:Y}(l:o.guard=M)(ty:Aj)(x y:Operand)(m:o.op=.store ty x y)
 (g off:Nat) (cells:Array J) (r:a.eval x=.pointer (some ⟨g,off,M⟩)) (s:a.eval y=An cells)
 (t:Aj) (b:Array J) (k:w.heap[g]?=some (Ak b t (0,0))) (c:(P.info? ty).map (·.size)=some cells.size)
 (j:off+cells.size<=b.size) (e:cells.all (·.oneCell')=true)
 (h:wpList P d Q rest (a.put o.dst undef) (w.setRow g (b.toList.take off++cells.toList++b.toList.drop (off+cells.size)).toArray)):wpList P d Q (o::rest) a w:=
 wpList_plain l λK f=>by
  have p:(storeVar ty ⟨g,off,M⟩ (An cells)).run P w=.ok () (w.setRow g (b.toList.take off++cells.toList++b.toList.drop (off+cells.size)).toArray):=by
   have:=run_storeCells_at P g off t cells.toList 0 b w k (by simpa using j) (λv q=>(Array.all_eq_true_iff_forall_mem.1 e) v (by simpa using q));cases hq:P.info? ty with
   |none=>simp[hq]at c
   | some i=>(have n:cells.size=i.size:=by simp[hq]at c;omega);simp[storeVar,sizeOf,typeInfo,hq,Value.cells,n]at this⊢;exact this
  unfold Oper.wp execOp;simp only[m,r,s,Instr.storeAt,Instr.sureAddr,Sem.run_bind,Sem.run_pure,Result.andThen_ok,p];exact f _ _ h
def Cj(v:VP)(r:MF×(VF×J)):List J:=[v.r,v.k,v.f,v.t,r.2.1.p,r.1.cu,r.2.1.l,r.2.1.c,r.2.2]
theorem BJ(v:VP)(r:MF×(VF×J)):(Cj v r).length=9:=rfl
def BM(u:Y)(A B:Nat)(v:VP)(fs:List MF)(b:J)(H:List (MF×(VF×J))):Prop:=H.map Prod.fst=fs/\Ab u A 138 9 b H (H.flatMap (Cj v))/\∀r∈H,(∀a,Ah B u a->FD a r.2.1 r.1)/\Ab u A 2 1 r.2.2 (r.1.aP.length+ ↑r.1.aB) (Ad At (r.1.aP++r.1.aB))
def Fl(u:Y)(B:Nat)(v:VP)(p:MP)(a:J):Prop:=∃H,BM u B B v p.aC a H
theorem BM.av{u e:Y}(h:BM u A B v fs d H)(j:B<= ↑u)(a:Ah u u e):BM e A B v fs d H:=by obtain⟨f,g,b⟩:=h;exact⟨f,AD g a lR, λr c=>⟨λl k=>(b r c).1 l ((a.mono j).trans k),AD (b r c).2 a lR⟩⟩
theorem BM.ji{u:Y}(h:BM u A B v fs e H){f:Array J}(c:Ay u a f 87)(k:B<=a)(i:Nat)(z:J):BM (Aa u ⟨a,i,M⟩ z) A B v fs e H:=by obtain⟨g,j,b⟩:=h;exact⟨g,TN j c dC, λr d=>⟨λm l=>(b r d).1 m (((mP B u).setCell k z).trans l),TN (b r d).2 c dC⟩⟩
theorem BM.push{u a d:Y}{D b:J}(h:BM u A B v fs D H)(G:B<=A)(j:B<= ↑u)(l:Ah u u a){x:MF×(VF×J)}(R:∀E,Ah B u E->FD E x.2.1 x.1)(P:Ab a A 2 1 x.2.2 (x.1.aP.length+ ↑x.1.aB) (Ad At (x.1.aP++x.1.aB)))(z:a.grownBy d D.ownBlock)(Q:Ab d A 138 9 b (H.length+1) (H.flatMap (Cj v)++Cj v x)):BM d A B v (fs++[x.1]) b (H++[x]):=by
 obtain⟨F,w,y⟩:=h.av j l;have I:B<=a.heap.size:=mC j l.size;have t:Ah B a d:=(mP B a).grown z I (λk O=>mC G (w.lt k O).1);have q:∀{s:J} {n:Nat} {xs:List J},Ab a A 2 1 s n xs->Ab d A 2 1 s n xs:= λ{s n xs} C=>C6 C z (λg N e=>by
  rcases w.2 with⟨f,_⟩|⟨T,cap,S,f,_,L,_⟩
  . rw[f]at e;cases e
  rw[f]at e;simp only[Value.ownBlock,lX]at e;subst e;exact Bi C L dC g N rfl)
 refine⟨by rw[nS,F];rfl,?_, λr c=> ?_⟩
 . rw[mB,mW];simpa using Q
 simp only[mA,mK]at c;rcases c with c|rfl
 . exact⟨λp m=>(y r c).1 p (t.trans m),q (y r c).2⟩
 exact⟨λp m=>R p (((l.mono j).trans t).trans m),q P⟩
theorem BM.base{u:Y}(h:BM u A B v fs d H)(b:a<=A):BM u a B v fs d H:=⟨h.1,Bm h.2.1 b, λr c=>⟨(h.2.2 r c).1,Bm (h.2.2 r c).2 b⟩⟩
theorem BM.row{u:Y}{j:J}(h:BM u A B v fs j H){p:Array J}(D:Ay u a p 87)(y:B<=a)(cs:Array J):BM (u.setRow a cs) A B v fs j H:=by
 obtain⟨q,t,f⟩:=h;have l:∀{e:Aj} {k n:Nat} {s:J} {xs:List J},Ab u A e k s n xs->e≠87->Ab (u.setRow a cs) A e k s n xs:= λ{e k n s xs} c E=>by
  refine⟨c.1,?_⟩;rcases c.2 with w|⟨g,cap,m,d,z,C,b⟩
  . exact .inl w
  refine .inr ⟨g,cap,m,d,z,?_,b⟩;rw[setRow_other u a g cs (λe=>Bi c D E g (by rw[d];rfl) e)];exact C
 exact⟨q,l t dC, λr b=>⟨λG F=>(f r b).1 G ((below_setRow (mP B u) y cs).trans F),l (f r b).2 dC⟩⟩
structure V7(cur:Array J)(t:Int)(d:Bool)(c n:Int)(X:VS)(hv:J):Prop where
 c0:cur[0]?=K (Ag Af t)
 c1:cur[1]?=K (Ao d)
 c2:cur[2]?=K (Ag Af c)
 c3:cur[3]?=K (Ag Af n)
 c4:cur[4]?=K X.c
 c5:cur[5]?=K X.k
 c6:cur[6]?=K X.f
 c7:cur[7]?=K hv
 rows:∀k v,BP[k]?=K v->cur[8+k]?=K v
 size:cur.size=158
def BF(t:Int)(d:Bool)(c n:Int)(X:VS):Array J:=#[Ag Af t,Ao d,Ag Af c,Ag Af n,X.c,X.k,X.f,Z M 0 0]++BP++JG
theorem Jx:BP.size=120:=kR
theorem NK:JG.size=30:=kR
theorem Io(a:Nat):(BT a).size=30:=kR
theorem V7.start(t:Int)(d:Bool)(c n:Int)(X:VS):V7 (BF t d c n X) t d c n X (Z M 0 0):=by
 have b:=Jx;have e:=NK;refine⟨?_,?_,?_,?_,?_,?_,?_,?_, λk v a=> ?_,by simp[BF,b,e]⟩;all_goals try(unfold BF;rw[Array.append_assoc,Array.getElem?_append_left sP];rfl)
 have f:k<120:=by have:=(mH.1 a).1;omega
 unfold BF;rw[Array.append_assoc,Array.getElem?_append_right sP,Array.getElem?_append_left oT];simpa using a
theorem V7.k7{b:Array J}{t:Int}{d:Bool}{c n:Int}{l:J}(h:V7 b t d c n X l)(z:J):V7 (b.setIfInBounds 7 z) t d c n X z:=by
 have e:=h.size;have a:∀{j:Nat} {v:J},7≠j->b[j]?=K v->(b.setIfInBounds 7 z)[j]?=K v:= λ{j v} f h=>by rw[Array.getElem?_setIfInBounds_ne f];exact h
 exact⟨a oM h.c0,a oM h.c1,a oM h.c2,a oM h.c3,a oM h.c4,a oM h.c5,a oM h.c6,by simp[e], λk v g=>a oM (h.rows k v g),by simp[e]⟩
theorem V7.ju{a:Array J}{t:Int}{d:Bool}{c n:Int}{l:J}(h:V7 a t d c n X l)(b:Nat):V7 (a.toList.take 128++(BT b).toList++a.toList.drop (128+(BT b).size)).toArray t d c n X l/\∀k,k<30->((a.toList.take 128++(BT b).toList++a.toList.drop (128+(BT b).size)).toArray)[128+k]?=(BT b)[k]?:=by
 have g:=h.size;have f:=Io b;have lo:∀{j:Nat} {v:J},j<128->a[j]?=K v->((a.toList.take 128++(BT b).toList++a.toList.drop (128+(BT b).size)).toArray)[j]?=K v:= λ{j v} m h=>by rw[lQ,nD,mq oT,pW m];simpa using h
 refine⟨⟨lo oM h.c0,lo oM h.c1,lo oM h.c2,lo oM h.c3,lo oM h.c4,lo oM h.c5,lo oM h.c6,lo oM h.c7, λk v e=>lo (by have:=(mH.1 e).1;rw[Jx]at this;omega) (h.rows k v e),by simp[f,g]⟩, λk e=> ?_⟩;have p:(a.toList.take 128).length=128:=by rw[nF,Array.length_toList,g];rfl
 rw[lQ,nD,mg oM,p,oV,mq (by rw[Array.length_toList,f];exact e)];simp
end Go.Proofs.YtkgohaigebcgoaaGreatDoor
