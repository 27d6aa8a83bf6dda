import Derived.Test.YtkgohaigebcgoaaGreatDoorLo18
import Derived.Test.YtkgohaigebcgoaaGreatDoorLo10
import Derived.Laws.CopyRow
namespace Go.Proofs.YtkgohaigebcgoaaGreatDoor
open Go.ChangeShapes Go.WideShapes Go.ChangeAt Go.RowKit Go.Proofs.Tryz
set_option linter.unusedVariables false
open Go.Value renaming slice → Z,tuple → Ap,int → Ag,agg → An,bool → Ao
open Option renaming some → K,none → M
open Go renaming Value → J,World → Y,Calls → Ai,TypeId → Aj
open Go.RowKit renaming Hid → Ae,Below → Ah
open Go.Ending renaming returned → Am
open Go.Proofs.Tryz renaming prog → Aq
open Go.World renaming ownsRow → Ab,alloc → Ac,setCell → Aa
open List renaming flatMap → Ad
open Go.Obj renaming cells → Ak
open Go.IntKind renaming i64 → Af
set_option maxHeartbeats 8000000
set_option maxRecDepth 100000
variable {S a n c g r b f B k l A:Nat}{m:MM}{xs:List J}{P:Program}{Q:Exit->Act->Y->Prop}{d V i a0:J}{p:MP}{e t:Aj}{v:VP}{s s':MS}{F:List (MG×J)}{q:Int}{X:VS}{fs:List MF}{D W:DataW Unit}{R:J->Option (DataW Unit×List MemPlace)}{left:Lit->Bool}{H:List (MF×(VF×J))}
def qR(w:Y)(S:Nat)(V:J)(a ts:List Int)(e:J)(c:Int)(b:Y):Prop:=
 (a.length< ↑ts/\c=1/\Ah w w b)\/(ts.length<= ↑a/\CZ (a.drop (a.length-↑ts)) ts=false/\c=2/\Ah w w b)\/
 (ts.length<= ↑a/\CZ (a.drop (a.length-↑ts)) ts=true/\c=0/\(∃d,Fj b S d (a.take (a.length-↑ts))/\d.ownBlock=V.ownBlock)/\Ab b w 2 1 e ts (Ad As (a.drop (a.length-↑ts)))/\DX (λj=>j=S) w b)
theorem Fj.short{w:Y}{a:Option Addr}{m:Nat}{xs:List Int}(h:Fj w S (Z a n c) xs)(i:m<= ↑xs)(t:n= ↑xs):Ab w (S+1) 2 1 (Z a m c) m (Ad As (xs.take m)):=by
 subst t;have j:=h.own;have d:m*1<= ↑xs*1:=oM
 refine⟨by rw[AV As 1 AE,kp,Nat.min_eq_left i],?_⟩;rcases j.2 with⟨b,v⟩|⟨g,cap,f,b,p,s,x,q,r,ht⟩
 . have u:m=0:=oM;subst u;simp only[i8]at b;obtain⟨rfl,_,rfl⟩:=b;exact .inl ⟨rfl,rfl⟩
 simp only[i8,kW]at b;obtain⟨rfl,rfl⟩:=b;refine .inr ⟨g,c,f,rfl,p,s,oM,q,r,?_⟩;have e:Ad As (xs.take m)=(Ad As xs).take (m*1):=by
  rw[<-ht,List.take_take,Nat.min_eq_left d];have k:Ad As xs=Ad As (xs.take m)++Ad As (xs.drop m):=by rw[<-kJ,lS]
  have l:f.toList.take (m*1)=(Ad As xs).take (m*1):=by rw[<-ht,List.take_take,Nat.min_eq_left d]
  rw[l,k];exact(List.take_left' (by rw[AV As 1 AE,kp,Nat.min_eq_left i])).symm
 rw[e,<-ht,List.take_take,Nat.min_eq_left d]
theorem Fj.tail{w:Y}{xs:List Int}(h:Fj w S (sG g n c) xs)(lo:Nat)(c':Nat)(b:lo<= ↑xs):Rd w 1 (sO g lo (↑xs-lo) c') (↑xs-lo) (Ad As (xs.drop lo)):=by
 refine⟨by rw[AV As 1 AE,kZ],.inr ⟨g,lo,c',rfl, λj u a=> ?_⟩⟩;rcases(Rd.eS h.own).2 with⟨e,_,_,k⟩|⟨l,o,c2,e,i⟩
 . have:xs=[]:=jR e;subst this;simp at a
 simp only[i8,jJ,lT]at e;obtain⟨⟨rfl,rfl,_⟩,_⟩:=e;have d:Ad As xs=Ad As (xs.take lo)++Ad As (xs.drop lo):=by rw[<-kJ,lS]
 have f:(Ad As xs)[lo+j]?=K u:=by rw[d,jX (by rw[AV As 1 AE,kp,Nat.min_eq_left b];omega),AV As 1 AE,kp,Nat.min_eq_left b];rw[show lo+j-lo*1=j from oM];exact a
 have:=i (lo+j) u f;rw[kT]at this;exact this
theorem Fj.shrink{w:Y}{a:Option Addr}{m:Nat}{xs:List Int}(h:Fj w S (Z a n c) xs)(b:m<= ↑xs)(d:n= ↑xs):Fj (w.setCell S (Z a m c)) S (Z a m c) (xs.take m):=by refine⟨by have:=h.eP.set 0 (Z a m c);simpa using this,?_⟩;rw[kp,Nat.min_eq_left b];exact kQ (h.short b d) oS _
theorem Yf(S:Nat)(V O:J)(b ts:List Int)(w:Y)(h:Fj w S V b)(hw:Rd w 1 O ts (Ad As ts))(A:b.length<=1048576)(D:ts.length<=1048576):Ai Aq 252 #[.pointer S,O] w λe w'=>∃F c,e=Am (Ap #[F,iZ c])/\qR w S V b ts F c w':=by
 obtain⟨a2,c2,rfl⟩:=hw.aP;have H:=Aw (fd h (fd hw (fd A D)));clear h hw;by_cases v:b.length< ↑ts
 . have Q:Ae (b.length< ↑ts):=v
   have aF:(b:Int)-(ts:Int)<0:=oM;clear v;go_enter func252,ntmps252;go_wp2_with fail;refine(Fy S V b w H.1).mono ?_;rintro e u ⟨rfl,rfl⟩;go_wp2_with fail;go_ret2;exact⟨_,1,rfl,.inl ⟨Q,rfl,jZ _ _⟩⟩
 obtain⟨lo,z⟩:∃lo, ↑b=lo+ts.length:=⟨b.length-↑ts,oM⟩
 have i:=Aw z;have aj:¬(lo:Int)<0:=oM;have p:Ae (↑b-↑ts=lo):=by show ↑b-↑ts=lo;omega
 rcases Bi H.1.own with⟨e,G⟩|⟨g,c,e⟩
 . subst e;have aq:b=[]:=jR G;subst aq;have au:ts=[]:=jR (by simp at v;omega);subst au;clear z v aj G i p A D;rw[lH];have c0:=H.1.eP.cell 0;have f0:=H.1.eP.frozen 0;simp only[i5,f8]at c0;go_enter func252,ntmps252;go_wp2_with fail;refine(Fy S _ [] w H.1).mono ?_;rintro e u ⟨rfl,rfl⟩;rw[lH];go_wp2_with fail;refine(KH _ 0 [] u oM (λu hu=>by cases hu) ⟨rfl,.inl ⟨rfl,_,_,rfl⟩⟩).mono ?_;rintro e N ⟨y,c3,rfl,x,r⟩;have HO:=Aw (fd x r);clear x r c0 f0;go_wp2_with fail;refine(L5 _ _ [] [] N sP sP ⟨rfl,.inl ⟨rfl,_,_,rfl⟩⟩ ⟨rfl,.inl ⟨rfl,_,_,rfl⟩⟩).mono ?_;rintro e n ⟨⟨C,rfl,t⟩,l⟩;have ae:C=true:=t.2 rfl;subst ae;have d:=Aw (fd (AC HO.1 l lR) (Ar HO.2 lR l));clear t l HO;have f:=(H.1.av d.2).eP;have c0:=f.cell 0;have f0:=f.frozen 0;simp only[i5,f8]at c0;have k:Ae (Fj (n.setCell S (Z M 0 0)) S (Z M 0 0) []/\Ab (n.setCell S (Z M 0 0)) u 2 1 (Z y 0 c3) 0 []/\DX (λj=>j=S) u (n.setCell S (Z M 0 0))):=⟨(H.1.av d.2).shrink (m:=0) sP rfl,kQ d.1 H.1.eP.lt _,(DX.of (R:= λj=>j=S) d.2).setCell (.inl rfl) _⟩
   clear f;go_wp2_with fail;go_ret2;exact⟨_,0,rfl,.inr (.inr ⟨Nat.le_refl _,rfl,rfl,⟨sN,k.1,rfl⟩,k.2.1,k.2.2⟩)⟩
 subst e;have I: ↑b<=c:=by
  rcases H.1.own.2 with⟨e,_⟩|⟨g',cap,ax,e,_,_,ai,_⟩
  . cases e
  simp only[i8,jJ,lT]at e;obtain⟨_,_,rfl⟩:=e;exact ai
 have c0:=H.1.eP.cell 0;have f0:=H.1.eP.frozen 0;simp only[i5,f8]at c0;rw[z]at c0 I A;have E:Ae (∀c',Rd w 1 (sO g lo ts c') ts (Ad As (b.drop lo))):= λc'=>by
  have:=H.1.tail lo c' oM;rw[show ↑b-lo= ↑ts from oM]at this
  exact this
 clear z v;generalize L:ts.length=m at c0 I A D E⊢;have q:=Aw L;clear L;have aA:(lo:Int)<=(c:Int):=oM;have aE:(lo:Int)+(m:Int)<=(c:Int):=oM;go_enter func252,ntmps252;go_wp2_with fail;refine(Fy S _ b w H.1).mono ?_;rintro e u ⟨rfl,rfl⟩;rw[i,q];have B:Ae ((b.drop lo).length=m):=by show(b.drop lo).length=m;rw[kZ,i.o,q];omega
 go_upto_region 4 with fail
 go_cut [7] (λs P=>∃a c',s=Z a m c'/\Ae (Ab P u 2 1 (Z a m c') m (Ad As (b.drop lo))/\Ah u u P))
 case first=>
  go_wp2_with fail;all_goals
   refine(KH _ m (Ad As (b.drop lo)) u oM (Ct _) (by
    first
     |exact E.o _
     |exact⟨by rw[AV As 1 AE,B],.inl ⟨oM,_,_,by rw[show m=0 from oM]⟩⟩)).mono ?_
   rintro e N ⟨y,c3,rfl,x,r⟩;have HO:=Aw (fd x r);clear x r;go_wp2_with fail;go_meet;exact⟨_,_,rfl,HO⟩
 case rest=>
  obtain⟨y,c3,rfl,HO⟩:=hcut;clear c0 f0;obtain⟨X,aa⟩:∃W,W=wc:=⟨_,rfl⟩;subst aa;go_wp2_with fail;refine(L5 _ _ (b.drop lo) ts X (by rw[B];omega) H.2.2.2 (by rw[B];exact Rd.eS HO.1) (by have:=H.2.1.av HO.2 lR;rw[q]at this⊢;exact this)).mono ?_;rintro e n ⟨⟨C,rfl,t⟩,l⟩;have d:=Aw (fd t (fd (AC HO.1 l lR) (Ar HO.2 lR l)));clear t l HO;cases C
  . have T:Ae (CZ (b.drop lo) ts=false):=by
     cases hf:CZ (b.drop lo) ts with
     |false=>rfl
     |true=>have:=d.1.2 hf;cases this
    go_wp2_with fail;go_ret2;exact⟨_,2,rfl,.inr (.inl ⟨by have:=i.o;omega,by rw[p];exact T,rfl,d.2.2⟩)⟩
  . have U:Ae (CZ (b.drop lo) ts=true):=d.1.1 rfl;have f:=(H.1.av d.2.2).eP;have c0:=f.cell 0;have f0:=f.frozen 0;simp only[i5,f8]at c0;rw[i,q]at c0;have k:Ae (Fj (n.setCell S (Z g lo c)) S (Z g lo c) (b.take lo)/\Ab (n.setCell S (Z g lo c)) u 2 1 (Z y m c3) m (Ad As (b.drop lo))/\DX (λj=>j=S) u (n.setCell S (Z g lo c))):=⟨(H.1.av d.2.2).shrink (by have:=i.o;omega) rfl,kQ d.2.1 H.1.eP.lt _,(DX.of (R:= λj=>j=S) d.2.2).setCell (.inl rfl) _⟩
    clear f;go_wp2_with fail;go_ret2;refine⟨_,0,rfl,.inr (.inr ⟨by have:=i.o;omega,by rw[p];exact U,rfl,⟨sG g lo c,?_,rfl⟩,?_,k.2.2⟩)⟩
    . rw[p];exact k.1
    rw[p,q];exact k.2.1
theorem WG(u:Y)(B:Nat)(t ty e:Aj)(i:TypeInfo)(z:J)(k f:Nat)(ht:P.underlying t=K (.slice e))(q:P.info? e=K i)(S:i.zero=K z)(N:i.size=k)(H:i.bytes=f)(T:z.cells.size=k)(R:0<k)(V:J)(n:Nat)(xs:List J)(l:Ab u B e k V n xs)(Vs:J)(m:Nat)(ys:List J)(p:Rd u k Vs m ys)(O: ↑ys=m*k)(y:∀x∈ys,x.oneCell'=true)(F:n+m<=maxLen)(I:(n+m)*f<=140737488355328)(G:B<= ↑u):∃v' b,(Builtin.append_ #[t,t] ty #[V,Vs]).run P u=.ok v' b/\b.ownsRow B e k v' (n+m) (xs++ys)/\u.grownBy b V.ownBlock/\(v'.ownBlock=V.ownBlock\/v'.ownBlock=K u):=by
 obtain⟨a,c,rfl⟩:=p.aP;cases a with
 | none=>
   have Q:m=0:=by
    rcases p.2 with⟨h,_⟩|⟨g,o,c,d,_⟩
    . exact h
    cases d
   subst Q;have s:ys=[]:=jR oM;subst s;exact⟨_,_,Ft (P:=P) B t ty e i k ht q _ _ _ l c,by simpa using l,⟨rfl,rfl,rfl,Nat.le_refl _, λ_ _ _=>rfl⟩,.inl rfl⟩
 | some ad=>
   have hN:∀j v,ys[j]?=K v->u (ad.add j)=K v:= λj v r=>by
    rcases p.2 with⟨h,_⟩|⟨g,o,c,d,L⟩
    . subst h;have:ys=[]:=jR oM;subst this;simp at r
    simp only[i8,jJ]at d;obtain⟨rfl,_⟩:=d;rw[Cx];exact L j v r
   obtain⟨v',b,A,C,D,_,E⟩:=run_append_own_at (P:=P) (w:=u) B t ty e i z k f ht q S N H T R V n xs l ad m c ys O hN y F I G;exact⟨v',b,A,C,D,E⟩
theorem nj{o:Oper}{a:Act}{K:Act->Y->Prop}{u:Y}(s x:Operand)(B:Nat)(t e:Aj)(i:TypeInfo)(z:J)(k c:Nat)(C:o.op=.call {callee:=.builtin .append,args:=#[s,x],argTypes:=#[t,t]})(ht:P.underlying t=some (.slice e))(w:P.info? e=some i)(H:i.zero=some z)(y:i.size=k)(r:i.bytes=c)(I:z.cells.size=k)(F:0<k)(V:J)(n:Nat)(xs:List J)(E:a.eval s=V)(hw:Ab u B e k V n xs)(Vs:J)(m:Nat)(ys:List J)(G:a.eval x=Vs)(D:Rd u k Vs m ys)(A:ys.length=m*k)(d:∀x∈ys,x.oneCell'=true)(l:n+m<=maxLen)(v:(n+m)*c<=140737488355328)(p:B<=u.heap.size)(q:∀v' b,b.ownsRow B e k v' (n+m) (xs++ys)->u.grownBy b V.ownBlock->(v'.ownBlock=V.ownBlock\/v'.ownBlock=some u.heap.size)->K (a.put o.dst v') b):o.wp P a u K Q:=by obtain⟨v',b,f,g,h,j⟩:=WG (P:=P) u B t o.type e i z k c ht w H y r I F V n xs hw Vs m ys D A d l v p;exact Lib.wp_append_run _ s x t t C _ _ E G v' b f (q v' b g h j)
theorem Wb{d:Array Oper}{o:Oper}{a:Act}{K:Act->Y->Prop}{E:Prop}{u:Y}(q:o.guard=M)(s x:Operand)(B:Nat)(t e:Aj)(i:TypeInfo)(z:J)(k b:Nat)(y:o.op=.call {callee:=.builtin .append,args:=#[s,x],argTypes:=#[t,t]})(ht:P.underlying t=some (.slice e))(r:P.info? e=some i)(H:i.zero=some z)(v:i.size=k)(l:i.bytes=b)(I:z.cells.size=k)(D:0<k)(V:J)(n:Nat)(xs:List J)(C:a.eval s=V)(hw:Ab u B e k V n xs)(Vs:J)(m:Nat)(ys:List J)(G:a.eval x=Vs)(A:Rd u k Vs m ys)(w:ys.length=m*k)(f:∀x∈ys,x.oneCell'=true)(g:n+m<=maxLen)(p:(n+m)*b<=140737488355328)(h:B<=u.heap.size)(j:∀v' c,c.ownsRow B e k v' (n+m) (xs++ys)->u.grownBy c V.ownBlock->(v'.ownBlock=V.ownBlock\/v'.ownBlock=some u.heap.size)->K (a.put o.dst v') c):if Region.wanted o (yielded d a.tmps)=true then Oper.wp P o a u K Q else E:=by
 have F:Region.wanted o (yielded d a.tmps)=true:=by simp[Region.wanted,q]
 rw[jP F];exact nj s x B t e i z k b y ht r H v l I D V n xs C hw Vs m ys G A w f g p h j
section
variable {w u u':Y} {G:Nat} {fc fa:Int} {vb vo vi vl vI vC:J} {bad:Bool} {I:List Nat} {C:List Int}
end
theorem Ni(v:VP)(p:MP)(w:Y)(hs:p.small)(h:ET w v p)(aq:FZ w v.f p.aB):
 Ai Aq 124 #[An #[v.r,v.k,v.f,v.t]] w λe w'=>AM e (CX p)/\Ah w w w':=by
 obtain⟨E,D,C,vt⟩:=v;have z:=Aw (fd h.bO (fd hs (fd h aq)));have hn:=hs.bO;obtain⟨a1,c1,e1⟩:∃a c,vt=Z a p.bO c:=h.bO.aP;subst e1;clear h hs aq;have B:Ae _:=OQ.of w E D C (Z a1 p.bO c1) 40;generalize aj:p.bO.length=n at*;have I:=Aw aj;clear aj;by_cases q0:64<n
 . (have O:Ae (¬CX p):= λe=>absurd e.1 (by rw[I];omega));have au:(64:Int)<(n:Int):=oM;clear z;go_enter func124,ntmps124;go_wp2;go_ret;exact⟨.no O,B.cq⟩
 have au:¬(64:Int)<(n:Int):=oM;go_enter func124,ntmps124;go_wp2;go_loopw [12] (λi wr=>∃k:Nat,k<=n/\i=iZ k/\Ae (∀j,j<k->IL p p.bO j)/\Ae (OQ w wr E D C (Z a1 n c1))) (λi _=>n-(intOf i).toNat)
 case atStart=>exact⟨0,oM,rfl, λj hj=>oM,B⟩
 clear B;obtain⟨k,hk,rfl,HT,B⟩:=hrel;by_cases ai:k<n
 . obtain⟨x,N⟩:∃x,p.bO[k]?=K x:=⟨_,an (by rw[I];exact ai)⟩;rcases z.1.2 with⟨e0,_⟩|⟨b,o,c,e1,L⟩
   . omega
   simp only[i8,kW]at e1;obtain⟨rfl,rfl⟩:=e1;have i0:=Rd.elem MT.bW L k x N 0 _ rfl;have i1:=Rd.elem MT.bW L k x N 1 _ rfl;have i2:=Rd.elem MT.bW L k x N 2 _ rfl;have i3:=Rd.elem MT.bW L k x N 3 _ rfl;rw[<-B.cq.cell (i7 i0),jV]at i0;rw[<-B.cq.cell (i7 i1)]at i1;rw[<-B.cq.cell (i7 i2)]at i2;rw[<-B.cq.cell (i7 i3)]at i3;have X:=Aw N;have V:=Aw L;clear L N;obtain⟨m,q,co,s⟩:=x;simp only[]at i0 i1 i2 i3;have nb:¬b=wr.heap.size:=lL (i7 i0);have mb:b<wr.heap.size:=i7 i0;have ae:Ae (Ah w w (Ac wr (Ak #[m,q,co,Ag .u32 s] 37))/\Kr (Ac wr (Ak #[m,q,co,Ag .u32 s] 37)) w E D C (sO b o n c1)/\Kr (Ac wr (Ak #[m,q,co,Ag .u32 s] 37)) wr m q co (Ag .u32 s)):=⟨Ar B.cq lR (Al _ _),B.prog.alloc _,Kr.new _ _ _ _ _ _⟩
   go_wp2_with fail;generalize Ac wr (Ak #[m,q,co,Ag .u32 s] 37)=A at ae⊢;have l:=Aw ae;clear ae i0 i1 i2 i3 nb mb B au;obtain⟨p0,p1,p2,p3⟩:=l.2.1;obtain⟨r0,r1,r2,r3⟩:=l.2.2;have inst:=Ax.some A;(have P0:= λn:Ax A=>Ax.cell p0 n);(have P1:= λn:Ax A=>Ax.cell p1 n);(have P2:= λn:Ax A=>Ax.cell p2 n);(have P3:= λn:Ax A=>Ax.cell p3 n);(have R0:= λn:Ax A=>Ax.cell r0 n);(have R1:= λn:Ax A=>Ax.cell r1 n);(have R2:= λn:Ax A=>Ax.cell r2 n);(have R3:= λn:Ax A=>Ax.cell r3 n);by_cases aa:FX p ⟨m,q,co,s⟩
   . have G:Ae (FX p ⟨m,q,co,s⟩):=aa;clear aa;by_cases q5:k=0
     . subst q5;(have HA:Ae (IL p p.bO 0):= λc T=>by rw[X]at T;obtain rfl:=jM T;exact⟨G, λi d hi=>oM⟩);refine AD kR kR ?_;(repeat(go_big_quiet_step ((first|(go_at_call 160;rename_i g;exact(Ev ⟨E,D,C,sO b o n c1⟩ p m q co s g.u z.2.1 (z.2.2.1.av (Ar l.1 lR g.h) lR) (z.2.2.2.av (Ar l.1 lR g.h) lR)).mono λe y h=>⟨h.1.true G,⟨⟨y,Ar g.h lR h.2⟩,rfl⟩⟩)))));refine wpQuiet_nil ?_;rintro y ⟨g,rfl⟩;have H:Ae (OQ w g.u E D C (sO b o n c1)):=⟨Ar l.1 lR g.h,l.2.1.av g.h⟩;go_wp2;go_roundw;(case rel=>exact⟨1,oM,by go_num,LR HA HT,H⟩);exact oI
     obtain⟨i,rfl⟩:∃i,k=i+1:=⟨k-1,oM⟩;obtain⟨d,F⟩:∃d,p.bO[i]?=K d:=⟨_,an (by rw[I];omega)⟩;have y0:=Rd.elem MT.bW V i d F 0 _ rfl;have y1:=Rd.elem MT.bW V i d F 1 _ rfl;have y2:=Rd.elem MT.bW V i d F 2 _ rfl;have y3:=Rd.elem MT.bW V i d F 3 _ rfl;rw[<-l.1.cell (i7 y0),jV]at y0;rw[<-l.1.cell (i7 y1)]at y1;rw[<-l.1.cell (i7 y2)]at y2;rw[<-l.1.cell (i7 y3)]at y3;obtain⟨Q,R,P,S⟩:=d;simp only[]at y0 y1 y2 y3;have HD:=Aw F;clear F;(have Y0:= λn:Ax A=>Ax.cell y0 n);(have Y1:= λn:Ax A=>Ax.cell y1 n);(have Y2:= λn:Ax A=>Ax.cell y2 n);(have Y3:= λn:Ax A=>Ax.cell y3 n);have aA:((i+1:Nat):Int)-1=(i:Int):=oM;have aE:(0:Int)<((i+1:Nat):Int):=oM;by_cases U:NR ⟨Q,R,P,S⟩ ⟨m,q,co,s⟩
     . have W:Ae (NR ⟨Q,R,P,S⟩ ⟨m,q,co,s⟩):=U;(have HA:Ae (IL p p.bO (i+1)):= λc T=>by rw[X]at T;obtain rfl:=jM T;refine⟨G, λi' d' hi F=> ?_⟩;obtain rfl:i'=i:=oM;rw[HD]at F;obtain rfl:=jM F;exact U);clear U;refine AD kR kR ?_;(repeat(go_big_quiet_step ((first|(go_at_call 160;rename_i g;exact(Ev ⟨E,D,C,sO b o n c1⟩ p m q co s g.u z.2.1 (z.2.2.1.av (Ar l.1 lR g.h) lR) (z.2.2.2.av (Ar l.1 lR g.h) lR)).mono λe y h=>⟨h.1.true G,⟨⟨y,Ar g.h lR h.2⟩,rfl⟩⟩)|(go_at_call 161;rename_i g;exact(Oy ⟨Q,R,P,S⟩ ⟨m,q,co,s⟩ g.u).mono λe y h=>⟨h.1.true W,⟨⟨y,Ar g.h lR h.2⟩,rfl⟩⟩)))));refine wpQuiet_nil ?_;rintro y ⟨g,rfl⟩;have H:Ae (OQ w g.u E D C (sO b o n c1)):=⟨Ar l.1 lR g.h,l.2.1.av g.h⟩;go_wp2;go_roundw;(case rel=>exact⟨i+1+1,oM,by go_num,LR HA HT,H⟩);exact oI
     have W:Ae (¬NR ⟨Q,R,P,S⟩ ⟨m,q,co,s⟩):=U;clear U;(have O:Ae (¬CX p):= λe=>by exact W.o ((e.2 (i+1) (by rw[I];exact ai) _ X).2 i _ rfl HD));refine AD kR kR ?_;(repeat(go_big_quiet_step ((first|(go_at_call 160;rename_i g;exact(Ev ⟨E,D,C,sO b o n c1⟩ p m q co s g.u z.2.1 (z.2.2.1.av (Ar l.1 lR g.h) lR) (z.2.2.2.av (Ar l.1 lR g.h) lR)).mono λe y h=>⟨h.1.true G,⟨⟨y,Ar g.h lR h.2⟩,rfl⟩⟩)|(go_at_call 161;rename_i g;exact(Oy ⟨Q,R,P,S⟩ ⟨m,q,co,s⟩ g.u).mono λe y h=>⟨h.1.false W,⟨⟨y,Ar g.h lR h.2⟩,rfl⟩⟩)))));refine wpQuiet_nil ?_;rintro y ⟨g,rfl⟩;have H:Ae (OQ w g.u E D C (sO b o n c1)):=⟨Ar l.1 lR g.h,l.2.1.av g.h⟩;go_wp2;go_ret;exact⟨.no O,H.cq⟩
   have G:Ae (¬FX p ⟨m,q,co,s⟩):=aa;clear aa;(have O:Ae (¬CX p):= λe=>by exact G.o (e.2 k (by rw[I];exact ai) _ X).1);refine AD kR kR ?_;(repeat(go_big_quiet_step ((first|(go_at_call 160;rename_i g;exact(Ev ⟨E,D,C,sO b o n c1⟩ p m q co s g.u z.2.1 (z.2.2.1.av (Ar l.1 lR g.h) lR) (z.2.2.2.av (Ar l.1 lR g.h) lR)).mono λe y h=>⟨h.1.false G,⟨⟨y,Ar g.h lR h.2⟩,rfl⟩⟩)))));refine wpQuiet_nil ?_;rintro y ⟨g,rfl⟩;have H:Ae (OQ w g.u E D C (sO b o n c1)):=⟨Ar l.1 lR g.h,l.2.1.av g.h⟩;go_wp2;go_ret;exact⟨.no O,H.cq⟩
 have ax:n=k:=oM;subst ax;have HY:Ae (CX p):=⟨by rw[I];omega,by rw[I];exact HT⟩;go_wp2;go_ret;exact⟨.fk HY,B.cq⟩
structure oe(w:Y)(vf:J)(p:MP)(g o c n:Nat)(f:MF)(z:VF):Prop where
 rows:vf=Z (K ⟨g,o,M⟩) n c
 pos:0<n
 big:n<=1048576
 eq:∃fs,p.aB=f::fs
 i0:w ⟨g,o,M⟩=K z.p
 i1:w ⟨g,o+1,M⟩=K ↑f.cu
 i2:w ⟨g,o+2,M⟩=K z.l
 i3:w ⟨g,o+3,M⟩=K z.c
 rd:FH w z f
 pp:BP z.p
 pl:BP z.l
 small:f.small
 nop:f.aD=[]
theorem oe.of{w:Y}{r:J}(h:FZ w r p.aB)(A:p.small)(v:Bz p.aB):∃g o c n f z,oe w r p g o c n f z:=by
 obtain⟨ys,b,y,u⟩:=h;obtain⟨j,B,C,x⟩:=v;cases hp:p.aB with
 |nil=>exact absurd (by rw[hp];rfl) j
 | cons f fs=>
   cases ys with
   |nil=>rw[hp]at b;cases b
   | cons a ys=>
     obtain⟨d,z⟩:=a;rw[hp]at b;simp only[lM,mK]at b;obtain⟨rfl,b⟩:=b;rcases y.2 with⟨s,_⟩|⟨g,o,c,t,e⟩
     . exact absurd s j
     have k:=Rd.elem AK e 0 _ rfl 0 _ rfl;have l:=Rd.elem AK e 0 _ rfl 1 _ rfl;have m:=Rd.elem AK e 0 _ rfl 2 _ rfl;have q:=Rd.elem AK e 0 _ rfl 3 _ rfl;simp only[Nat.zero_mul,jV]at k l m q;have i:=u (d,z) sP;exact⟨g,o,c,p.aB,d,z,t,Nat.pos_of_ne_zero j,oM,⟨fs,hp⟩,k,l,m,q,i.1,i.2.1,i.2.2,A.func d (by rw[hp];simp),jR (x d (by rw[hp];rfl)).1⟩
theorem oe.av{w u:Y}{b:J}{g o c n:Nat}{f:MF}{z:VF}(h:oe w b p g o c n f z)(a:Ah w w u):oe u b p g o c n f z:=⟨h.rows,h.pos,h.big,h.eq,EJ a h.i0,EJ a h.i1,EJ a h.i2,EJ a h.i3,h.rd.av a lR,h.pp,h.pl,h.small,h.nop⟩
theorem G6{u:Y}{v:J}{d:Array J}(c:Ab u B e k v n xs)(f:Ay u b d 48)(g:e≠48)(i:Nat)(z:J):Ab (Aa u ⟨b,i,M⟩ z) B e k v n xs:=kK c (a:=⟨b,i,M⟩) (λe=>Bn c f g _ e rfl) z
theorem Y4{u:Y}{x y:Nat}{a b:Array J}{s:Aj}(h:Ay u x a s)(c:Ay u y b t)(d:s≠t):y≠x:= λe=>by subst e;unfold Ay at h c;rw[h]at c;simp only[jJ,lQ]at c;exact d c.2.1
theorem Cv.fy{u:Y}{L:List (J×List MC)}{a:Array J}(h:Cv u B L)(c:Ay u b a 48)(i:Nat)(z:J):Cv (Aa u ⟨b,i,M⟩ z) B L:=⟨λx d=>G6 (h.own x d) c dC i z,h.sep⟩
theorem AB.fy{u:Y}{v:VS}{C:List (J×List MC)}{K:List MC}{c:Array J}(h:AB u B v C K F)(a:Ay u b c 48)(i:Nat)(z:J):AB (Aa u ⟨b,i,M⟩ z) B v C K F:=⟨G6 h.cells a dC i z,G6 h.dk a dC i z,h.eT.fy a i z⟩
theorem WL{t z:Int}(h:Fd t=true)(b:Ql z):Jj (Hc t z)/\(Hc t z).type=t:=by
 have c:=WB b;unfold Hc;by_cases e:t=1
 . subst e;rw[jP rfl];have:=Im (decide (¬z=0));exact⟨Jj.of rfl this.1 oM (λ_=>this.2),rfl⟩
 exact⟨Jj.of h (by simp[e];omega) (by simp[e];omega) (λa=>absurd a e),rfl⟩
theorem J6{ts b:List Int}(h:ts.all Fd=true)(c:b.length= ↑ts)(hw:∀z∈b,Ql z):DC (Ba ts b) ts/\∀v∈Ba ts b,v.wf:=by
 induction ts generalizing b with
 |nil=>exact⟨⟨rfl, λv a=>by simp[Ba]at a⟩, λv a=>by simp[Ba]at a⟩
 | cons t r i=>
   cases b with
   |nil=>simp at c
   | cons z q=>
     simp only[List.all_cons,ky]at h;obtain⟨d,g⟩:=i h.2 (by simpa using c) (λy f=>hw y (by simp[f]));obtain⟨c1,c2⟩:=WL h.1 (hw z sP);have e:Ba (t::r) (z::q)=Hc t z::Ba r q:=rfl;rw[e];refine⟨⟨by rw[lM,d.1,c2], λv a=> ?_⟩, λv a=> ?_⟩
     . rcases jK.1 a with rfl|a
       . exact c1.1
       exact d.2 v a
     rcases jK.1 a with rfl|a
     . exact c1.2
     exact g v a
theorem Gg.going(h:Gg p m s)(u:m.wf):(s.trap=0/\s.done=false/\Qe p 0 s)\/(s.trap≠0/\s=KA):=by
 rcases h with⟨b,I,L,N,f,fs,j,w,rfl⟩|⟨b,rfl⟩
 . refine .inl ⟨rfl,rfl,?_⟩;have x:AX p 0:=b.1;obtain⟨F,G,H⟩:=(CS.iff b.1 j).1 b;have q:=x.parts;have l:=q.1.2;rw[j]at l;have O:=(l 0 sP I rfl).2;have P:=(l 1 sP L rfl).2;have Q:=(l 2 sP N rfl).2;obtain⟨z,A⟩:=J6 O F u.ins;obtain⟨B,C⟩:=J6 P G.1 u.outs;obtain⟨c1,c2⟩:=J6 Q H.1 u.keeps;(have n:p.aB[0]?=K f:=by rw[w];rfl);have D:Cj f:=q.2.2.1.2.2.1 0 (by rw[w];simp) f n;have E:f.aD=[]:=jR (q.2.2.1.2.2.2 f n).1;(have y:∀v∈A9 f.a7,Jj v:= λv b=>by obtain⟨t,ht,rfl⟩:=kI.1 b;exact Jj.of (lX.1 D.lt t ht) oM oM (λ_=>oM));refine⟨⟨x,⟨by simp[Ca],by simp[Ca]⟩,⟨by simp[Ca],by simp[Ca]⟩,by simp[Ca,j],?_,by simp[Ca],by simp[Ca],by simp[Ca],by simp[Ca],?_,by simp[Ca,Cp]⟩,⟨C9 (by simp[Ca]) (by simp[Ca]),C9 (by simp[Ca]) (by simp[Ca]),C9 (by simp[Ca]) (by simp[Ca]),?_,by simp[Ca],?_⟩,by simp[Ca],by simp[Ca]⟩
   . intro i c r d a;rw[j]at a;match i with
     |0=>simp[Ca]at d a;rw[<-d,<-a];exact z
     |1=>simp[Ca]at d a;rw[<-d,<-a];exact B
     |2=>simp[Ca]at d a;rw[<-d,<-a];exact c1
     |k+3=>simp at a
   . intro g e;simp only[Ca,jU]at e;subst e;refine⟨sP,⟨f,n,?_, λv b=>(y v b).1⟩,by simp[Ca]⟩;rw[E,k7];simp[A9,Function.comp_def]
   . intro r a;simp only[Ca,jK,jO,kM]at a;rcases a with rfl|rfl|rfl
     . exact A
     . exact C
     exact c2
   intro g e;simp only[Ca,jU]at e;subst e;exact⟨C9 sP sP,C9 sP sP,C9 sP sP, λv b=>(y v b).2⟩
 exact .inr ⟨by simp[KA],rfl⟩
theorem Ue{q:Prop}(h:q:=by rintro U E1;clear E0;have i0:=E1.ib.cell 0;have i1:=E1.ib.cell 1;have i2:=E1.ib.cell 2;have i3:=E1.ib.cell 3;have s0:=E1.sb.cell 0;have s1:=E1.sb.cell 1;have s2:=E1.sb.cell 2;have s3:=E1.sb.cell 3;have s4:=E1.sb.cell 4;have s5:=E1.sb.cell 5;have s6:=E1.sb.cell 6;have s7:=E1.sb.cell 7;simp only[i5,f8,i6]at i0 i1 i2 i3 s0 s1 s2 s3 s4 s5 s6 s7;go_wp2_with fail;refine(H1 ⟨Z r1 p.az r3,Z k1 p.b8 k3,Z f1 p.aB f3,Z t1 p.bO t3⟩ ⟨Z g1 f.aD g3,Z g4 f.a7 g6,Z g7 f.aU g9⟩ f q tt U hs (HR.av E1.cq lR) hq).mono ?_;rintro e u1 ⟨rfl,b1⟩;have HB:=Aw (Ar E1.cq lR b1);clear b1;go_wp2_with fail;go_ret;exact G9 HB [tt] 1 1 rfl):q:=h
theorem Z8(v:VP)(p:MP)(g:VF)(f:MF)(q:Nat)(tt b c:Int)(w:Y)(hs:f.small)(C:p.small)(d:ET w v p)(h:FH w g f)(hq:(f.aD++f.a7)[q]?=K tt):Ai Aq 114 #[An #[v.r,v.k,v.f,v.t,g.p,f.cu,g.l,g.c],An #[iZ 3,q,b,c]] w (DM w [tt]):=by
 obtain⟨r1,r3,y⟩:=(show∃a c,v.r=Z a p.az c from by obtain⟨_,_,i,_⟩:=d.az;exact i.aP);obtain⟨k1,k3,x⟩:=d.b8.aP;obtain⟨t1,t3,et⟩:=d.bO.aP;obtain⟨f1,f3,j⟩:=(show∃a c,v.f=Z a p.aB c from by obtain⟨_,_,i,_⟩:=d.aB;exact i.aP);obtain⟨g1,g3,m⟩:=h.1.aP;obtain⟨g4,g6,n⟩:=h.2.1.aP;obtain⟨g7,g9,s⟩:=h.2.2.aP;obtain⟨B,A,gc⟩:=g;obtain⟨F,E,D,vt⟩:=v;simp only[]at y x et j m n s;subst y x et j m n s;have z:=Aw d;have HR:=Aw h;clear d h;have E0:=Aw (Iu.of w ⟨Z r1 p.az r3,Z k1 p.b8 k3,Z f1 p.aB f3,Z t1 p.bO t3⟩ ⟨Z g1 f.aD g3,Z g4 f.a7 g6,Z g7 f.aU g9⟩ f 3 (q:Int) b c);go_enter func114,ntmps114;go_upto_region 1 with fail
 refine Av (λu=>Ae (Iu w u ⟨Z r1 p.az r3,Z k1 p.b8 k3,Z f1 p.aB f3,Z t1 p.bO t3⟩ ⟨Z g1 f.aD g3,Z g4 f.a7 g6,Z g7 f.aU g9⟩ f 3 (q:Int) b c)) E0 ?_;exact Ue
theorem PX{q:Prop}(h:q:=by rintro e u1 ⟨rfl,b1⟩;have HB:=Aw (Ar E1.cq lR b1);clear b1;go_wp2_with fail;go_ret;exact G9 HB [tt] 1 1 rfl):q:=h
theorem Z9(v:VP)(p:MP)(g:VF)(f:MF)(q:Nat)(z:Nat)(r:List Int)(tt c:Int)(w:Y)(hs:f.small)(Q:p.small)(b:ET w v p)(d:FH w g f)(R:p.az[q]?=K r)(S:r[z]?=K tt):Ai Aq 114 #[An #[v.r,v.k,v.f,v.t,g.p,f.cu,g.l,g.c],An #[iZ 5,q,z,c]] w (DM w [tt]):=by
 obtain⟨B,C,O⟩:=(show∃a c,v.r=Z a p.az c from by obtain⟨_,_,x,_⟩:=b.az;exact x.aP);obtain⟨y,A,N⟩:=b.b8.aP;obtain⟨D,E,et⟩:=b.bO.aP;obtain⟨f1,f3,G⟩:=(show∃a c,v.f=Z a p.aB c from by obtain⟨_,_,x,_⟩:=b.aB;exact x.aP);obtain⟨h,i,H⟩:=d.1.aP;obtain⟨j,m,I⟩:=d.2.1.aP;obtain⟨n,s,L⟩:=d.2.2.aP;obtain⟨gp,gl,gc⟩:=g;obtain⟨vr,vk,vf,vt⟩:=v;simp only[]at O N et G H I L;subst O N et G H I L;have P:=Aw b;have HR:=Aw d;clear b d;have F:=Aw (Iu.of w ⟨Z B p.az C,Z y p.b8 A,Z f1 p.aB f3,Z D p.bO E⟩ ⟨Z h f.aD i,Z j f.a7 m,Z n f.aU s⟩ f 5 (q:Int) (z:Int) c);go_enter func114,ntmps114;go_upto_region 1 with fail
 refine Av (λu=>Ae (Iu w u ⟨Z B p.az C,Z y p.b8 A,Z f1 p.aB f3,Z D p.bO E⟩ ⟨Z h f.aD i,Z j f.a7 m,Z n f.aU s⟩ f 5 (q:Int) (z:Int) c)) F ?_;rintro U E1;clear F;have i0:=E1.ib.cell 0;have T:=E1.ib.cell 1;have V:=E1.ib.cell 2;have W:=E1.ib.cell 3;have X:=E1.sb.cell 0;have s1:=E1.sb.cell 1;have s2:=E1.sb.cell 2;have s3:=E1.sb.cell 3;have s4:=E1.sb.cell 4;have s5:=E1.sb.cell 5;have s6:=E1.sb.cell 6;have s7:=E1.sb.cell 7;simp only[i5,f8,i6]at i0 T V W X s1 s2 s3 s4 s5 s6 s7;go_wp2_with fail;refine(Fg ⟨Z B p.az C,Z y p.b8 A,Z f1 p.aB f3,Z D p.bO E⟩ p ⟨Z h f.aD i,Z j f.a7 m,Z n f.aU s⟩ f 5 c q z r tt U Q (P.av E1.cq lR).az R S).mono ?_;exact PX
theorem nh(v:VP)(p:MP)(g:VF)(f:MF)(q:Nat)(z:Nat)(r:List Int)(h c:Int)(w:Y)(hs:f.small)(T:p.small)(b:ET w v p)(d:FH w g f)(V:p.az[q]?=K r)(W:r[z]?=K h):Ai Aq 114 #[An #[v.r,v.k,v.f,v.t,g.p,f.cu,g.l,g.c],An #[iZ 7,q,z,c]] w (DM w [3,h]):=by
 obtain⟨C,D,Q⟩:=(show∃a c,v.r=Z a p.az c from by obtain⟨_,_,y,_⟩:=b.az;exact y.aP);obtain⟨A,B,P⟩:=b.b8.aP;obtain⟨E,F,et⟩:=b.bO.aP;obtain⟨f1,f3,I⟩:=(show∃a c,v.f=Z a p.aB c from by obtain⟨_,_,y,_⟩:=b.aB;exact y.aP);obtain⟨i,j,L⟩:=d.1.aP;obtain⟨m,n,N⟩:=d.2.1.aP;obtain⟨s,x,O⟩:=d.2.2.aP;obtain⟨gp,gl,gc⟩:=g;obtain⟨vr,vk,vf,vt⟩:=v;simp only[]at Q P et I L N O;subst Q P et I L N O;have S:=Aw b;have HR:=Aw d;clear b d;have G:=Aw (Iu.of w ⟨Z C p.az D,Z A p.b8 B,Z f1 p.aB f3,Z E p.bO F⟩ ⟨Z i f.aD j,Z m f.a7 n,Z s f.aU x⟩ f 7 (q:Int) (z:Int) c);go_enter func114,ntmps114;go_upto_region 1 with fail
 refine Av (λu=>Ae (Iu w u ⟨Z C p.az D,Z A p.b8 B,Z f1 p.aB f3,Z E p.bO F⟩ ⟨Z i f.aD j,Z m f.a7 n,Z s f.aU x⟩ f 7 (q:Int) (z:Int) c)) G ?_;rintro U E1;clear G;have i0:=E1.ib.cell 0;have X:=E1.ib.cell 1;have i2:=E1.ib.cell 2;have i3:=E1.ib.cell 3;have s0:=E1.sb.cell 0;have s1:=E1.sb.cell 1;have s2:=E1.sb.cell 2;have s3:=E1.sb.cell 3;have s4:=E1.sb.cell 4;have s5:=E1.sb.cell 5;have s6:=E1.sb.cell 6;have s7:=E1.sb.cell 7;simp only[i5,f8,i6]at i0 X i2 i3 s0 s1 s2 s3 s4 s5 s6 s7;go_wp2_with fail;refine(Fg ⟨Z C p.az D,Z A p.b8 B,Z f1 p.aB f3,Z E p.bO F⟩ p ⟨Z i f.aD j,Z m f.a7 n,Z s f.aU x⟩ f 7 c q z r h U T (S.av E1.cq lR).az V W).mono ?_;rintro e u1 ⟨rfl,H⟩;have R:=Aw (Ar E1.cq lR H);clear H;go_wp2_with fail;go_ret;exact G9 R [3,h] 2 2 rfl
theorem YG(v:VP)(p:MP)(g:VF)(f:MF)(q:Nat)(a b c:Int)(w:Y)(hs:f.small)(aa:p.small)(d:ET w v p)(h:FH w g f):Ai Aq 114 #[An #[v.r,v.k,v.f,v.t,g.p,f.cu,g.l,g.c],An #[iZ 29,a,b,c]] w (DM w (Bj f)):=by
 obtain⟨O,P,I⟩:=(show∃a c,v.r=Z a p.az c from by obtain⟨_,_,z,_⟩:=d.az;exact z.aP);obtain⟨L,N,H⟩:=d.b8.aP;obtain⟨Q,R,et⟩:=d.bO.aP;obtain⟨f1,f3,D⟩:=(show∃a c,v.f=Z a p.aB c from by obtain⟨_,_,z,_⟩:=d.aB;exact z.aP);obtain⟨i,j,E⟩:=h.1.aP;obtain⟨m,n,F⟩:=h.2.1.aP;obtain⟨x,y,G⟩:=h.2.2.aP;obtain⟨gp,gl,gc⟩:=g;obtain⟨vr,vk,vf,vt⟩:=v;simp only[]at I H et D E F G;subst I H et D E F G;have HP:=Aw d;have HR:=Aw h;clear d h;have B:=Aw (Iu.of w ⟨Z O p.az P,Z L p.b8 N,Z f1 p.aB f3,Z Q p.bO R⟩ ⟨Z i f.aD j,Z m f.a7 n,Z x f.aU y⟩ f 29 a b c);go_enter func114,ntmps114;go_upto_region 1 with fail
 refine Av (λu=>Ae (Iu w u ⟨Z O p.az P,Z L p.b8 N,Z f1 p.aB f3,Z Q p.bO R⟩ ⟨Z i f.aD j,Z m f.a7 n,Z x f.aU y⟩ f 29 a b c)) B ?_;rintro U E1;clear B;have i0:=E1.ib.cell 0;have T:=E1.ib.cell 1;have V:=E1.ib.cell 2;have W:=E1.ib.cell 3;have X:=E1.sb.cell 0;have s1:=E1.sb.cell 1;have s2:=E1.sb.cell 2;have s3:=E1.sb.cell 3;have s4:=E1.sb.cell 4;have s5:=E1.sb.cell 5;have s6:=E1.sb.cell 6;have s7:=E1.sb.cell 7;simp only[i5,f8,i6]at i0 T V W X s1 s2 s3 s4 s5 s6 s7;go_wp2_with fail;refine(RD ⟨Z i f.aD j,Z m f.a7 n,Z x f.aU y⟩ f U).mono ?_;rintro e u1 ⟨s,rfl,A,C⟩;have S:Ae (DM w (Bj f) (Am s) u1):=⟨s,rfl,A,Ar E1.cq lR C⟩;obtain⟨sa,sc,rfl⟩:=A.aP;clear A C;go_wp2_with fail;go_ret;exact S
theorem Zo(v:VP)(p:MP)(g:VF)(f:MF)(q:Nat)(tt b c:Int)(w:Y)(hs:f.small)(C:p.small)(d:ET w v p)(h:FH w g f)(hq:(f.aD++f.a7)[q]?=K tt):Ai Aq 119 #[An #[v.r,v.k,v.f,v.t,g.p,f.cu,g.l,g.c],An #[iZ 2,q,b,c]] w (DM w [tt]):=by
 obtain⟨r1,r3,y⟩:=(show∃a c,v.r=Z a p.az c from by obtain⟨_,_,i,_⟩:=d.az;exact i.aP);obtain⟨k1,k3,x⟩:=d.b8.aP;obtain⟨t1,t3,et⟩:=d.bO.aP;obtain⟨f1,f3,j⟩:=(show∃a c,v.f=Z a p.aB c from by obtain⟨_,_,i,_⟩:=d.aB;exact i.aP);obtain⟨g1,g3,m⟩:=h.1.aP;obtain⟨g4,g6,n⟩:=h.2.1.aP;obtain⟨g7,g9,s⟩:=h.2.2.aP;obtain⟨B,A,gc⟩:=g;obtain⟨F,E,D,vt⟩:=v;simp only[]at y x et j m n s;subst y x et j m n s;have z:=Aw d;have HR:=Aw h;clear d h;have E0:=Aw (Iu.of w ⟨Z r1 p.az r3,Z k1 p.b8 k3,Z f1 p.aB f3,Z t1 p.bO t3⟩ ⟨Z g1 f.aD g3,Z g4 f.a7 g6,Z g7 f.aU g9⟩ f 2 (q:Int) b c);go_enter func119,ntmps119;go_upto_region 1 with fail
 refine Av (λu=>Ae (Iu w u ⟨Z r1 p.az r3,Z k1 p.b8 k3,Z f1 p.aB f3,Z t1 p.bO t3⟩ ⟨Z g1 f.aD g3,Z g4 f.a7 g6,Z g7 f.aU g9⟩ f 2 (q:Int) b c)) E0 ?_;exact Ue
theorem Zp(v:VP)(p:MP)(g:VF)(f:MF)(q:Nat)(z:Nat)(r:List Int)(tt c:Int)(w:Y)(hs:f.small)(Q:p.small)(b:ET w v p)(d:FH w g f)(R:p.az[q]?=K r)(S:r[z]?=K tt):Ai Aq 119 #[An #[v.r,v.k,v.f,v.t,g.p,f.cu,g.l,g.c],An #[iZ 4,q,z,c]] w (DM w [tt]):=by
 obtain⟨B,C,O⟩:=(show∃a c,v.r=Z a p.az c from by obtain⟨_,_,x,_⟩:=b.az;exact x.aP);obtain⟨y,A,N⟩:=b.b8.aP;obtain⟨D,E,et⟩:=b.bO.aP;obtain⟨f1,f3,G⟩:=(show∃a c,v.f=Z a p.aB c from by obtain⟨_,_,x,_⟩:=b.aB;exact x.aP);obtain⟨h,i,H⟩:=d.1.aP;obtain⟨j,m,I⟩:=d.2.1.aP;obtain⟨n,s,L⟩:=d.2.2.aP;obtain⟨gp,gl,gc⟩:=g;obtain⟨vr,vk,vf,vt⟩:=v;simp only[]at O N et G H I L;subst O N et G H I L;have P:=Aw b;have HR:=Aw d;clear b d;have F:=Aw (Iu.of w ⟨Z B p.az C,Z y p.b8 A,Z f1 p.aB f3,Z D p.bO E⟩ ⟨Z h f.aD i,Z j f.a7 m,Z n f.aU s⟩ f 4 (q:Int) (z:Int) c);go_enter func119,ntmps119;go_upto_region 1 with fail
 refine Av (λu=>Ae (Iu w u ⟨Z B p.az C,Z y p.b8 A,Z f1 p.aB f3,Z D p.bO E⟩ ⟨Z h f.aD i,Z j f.a7 m,Z n f.aU s⟩ f 4 (q:Int) (z:Int) c)) F ?_;rintro U E1;clear F;have i0:=E1.ib.cell 0;have T:=E1.ib.cell 1;have V:=E1.ib.cell 2;have W:=E1.ib.cell 3;have X:=E1.sb.cell 0;have s1:=E1.sb.cell 1;have s2:=E1.sb.cell 2;have s3:=E1.sb.cell 3;have s4:=E1.sb.cell 4;have s5:=E1.sb.cell 5;have s6:=E1.sb.cell 6;have s7:=E1.sb.cell 7;simp only[i5,f8,i6]at i0 T V W X s1 s2 s3 s4 s5 s6 s7;go_wp2_with fail;refine(Fg ⟨Z B p.az C,Z y p.b8 A,Z f1 p.aB f3,Z D p.bO E⟩ p ⟨Z h f.aD i,Z j f.a7 m,Z n f.aU s⟩ f 4 c q z r tt U Q (P.av E1.cq lR).az R S).mono ?_;exact PX
theorem Zq(v:VP)(p:MP)(g:VF)(f:MF)(q:Nat)(z:Nat)(r:List Int)(tt c:Int)(w:Y)(hs:f.small)(Q:p.small)(b:ET w v p)(d:FH w g f)(R:p.az[q]?=K r)(S:r[z]?=K tt):Ai Aq 119 #[An #[v.r,v.k,v.f,v.t,g.p,f.cu,g.l,g.c],An #[iZ 6,q,z,c]] w (DM w [tt]):=by
 obtain⟨B,C,O⟩:=(show∃a c,v.r=Z a p.az c from by obtain⟨_,_,x,_⟩:=b.az;exact x.aP);obtain⟨y,A,N⟩:=b.b8.aP;obtain⟨D,E,et⟩:=b.bO.aP;obtain⟨f1,f3,G⟩:=(show∃a c,v.f=Z a p.aB c from by obtain⟨_,_,x,_⟩:=b.aB;exact x.aP);obtain⟨h,i,H⟩:=d.1.aP;obtain⟨j,m,I⟩:=d.2.1.aP;obtain⟨n,s,L⟩:=d.2.2.aP;obtain⟨gp,gl,gc⟩:=g;obtain⟨vr,vk,vf,vt⟩:=v;simp only[]at O N et G H I L;subst O N et G H I L;have P:=Aw b;have HR:=Aw d;clear b d;have F:=Aw (Iu.of w ⟨Z B p.az C,Z y p.b8 A,Z f1 p.aB f3,Z D p.bO E⟩ ⟨Z h f.aD i,Z j f.a7 m,Z n f.aU s⟩ f 6 (q:Int) (z:Int) c);go_enter func119,ntmps119;go_upto_region 1 with fail
 refine Av (λu=>Ae (Iu w u ⟨Z B p.az C,Z y p.b8 A,Z f1 p.aB f3,Z D p.bO E⟩ ⟨Z h f.aD i,Z j f.a7 m,Z n f.aU s⟩ f 6 (q:Int) (z:Int) c)) F ?_;rintro U E1;clear F;have i0:=E1.ib.cell 0;have T:=E1.ib.cell 1;have V:=E1.ib.cell 2;have W:=E1.ib.cell 3;have X:=E1.sb.cell 0;have s1:=E1.sb.cell 1;have s2:=E1.sb.cell 2;have s3:=E1.sb.cell 3;have s4:=E1.sb.cell 4;have s5:=E1.sb.cell 5;have s6:=E1.sb.cell 6;have s7:=E1.sb.cell 7;simp only[i5,f8,i6]at i0 T V W X s1 s2 s3 s4 s5 s6 s7;go_wp2_with fail;refine(Fg ⟨Z B p.az C,Z y p.b8 A,Z f1 p.aB f3,Z D p.bO E⟩ p ⟨Z h f.aD i,Z j f.a7 m,Z n f.aU s⟩ f 6 c q z r tt U Q (P.av E1.cq lR).az R S).mono ?_;exact PX
def KL(n:Int):J:=if n=0 then .nilIface else .iface 190 n
def Dg(e:Ending)(p:MP):Prop:=∃n,e=Am (KL n)/\AX p n
theorem Dg.f1(h:¬A7 p.az):Dg (Am (.iface 190 (iZ 1))) p:=⟨1,rfl,.inl ⟨rfl,h⟩⟩
theorem Dg.f2(a:A7 p.az)(h:¬BC p.b8):Dg (Am (.iface 190 (iZ 2))) p:=⟨2,rfl,.inr (.inl ⟨rfl,a,h⟩)⟩
theorem Dg.f3(a:A7 p.az/\BC p.b8)(h:¬Bz p.aB):Dg (Am (.iface 190 (iZ 3))) p:=⟨3,rfl,.inr (.inr (.inl ⟨rfl,a.1,a.2,h⟩))⟩
theorem Dg.f4(a:A7 p.az/\BC p.b8)(b:Bz p.aB)(h:¬DY p):Dg (Am (.iface 190 (iZ 4))) p:=⟨4,rfl,.inr (.inr (.inr (.inl ⟨rfl,a.1,a.2,b,h⟩)))⟩
theorem Dg.f5(a:A7 p.az/\BC p.b8)(b:Bz p.aB)(c:DY p)(h:¬CX p):Dg (Am (.iface 190 (iZ 5))) p:=⟨5,rfl,.inr (.inr (.inr (.inr (.inl ⟨rfl,a.1,a.2,b,c,h⟩))))⟩
theorem Dg.f0(a:A7 p.az/\BC p.b8)(b:Bz p.aB)(c:DY p)(h:CX p):Dg (Am .nilIface) p:=⟨0,rfl,.inr (.inr (.inr (.inr (.inr ⟨rfl,a.1,a.2,b,c,h⟩))))⟩
theorem Ej(v:VP)(p:MP)(w:Y)(O:p.small)(hw:p.wf)(h:ET w v p)(L:EY w v.r p.az)(N:FZ w v.f p.aB):
 Ai Aq 50 #[An #[v.r,v.k,v.f,v.t]] w λe W=>Dg e p/\Ah w w W:=by
 have H:=Aw (fd O (fd hw (fd h (fd L N))));clear O hw h L N;have q:Ae _:=OQ.of w v.r v.k v.f v.t 40;go_enter func50,ntmps50;go_wp2_with fail;refine(Lk v.r p.az _ H.1.az H.1.region (H.2.2.1.az.av q.cq lR)).mono ?_;rintro e X ⟨⟨Q,rfl,u⟩,rfl⟩;cases Q
 . (have a:Ae (¬A7 p.az):= λe=>by simp[e]at u);clear u;go_wp2;go_ret;exact⟨.f1 a,q.cq⟩
 have D:=Aw (u.1 rfl);clear u;go_wp2_with fail;refine(LU v.k p.b8 _ H.1.b8 (λc V=>(JY (H.2.1.b8 c V).2).1) (H.2.2.1.b8.av q.cq lR)).mono ?_;rintro e u2 ⟨⟨R,rfl,x⟩,E⟩;have s:=Aw (q.av E);clear E;cases R
 . (have a:Ae (¬BC p.b8):= λe=>by simp[e]at x);clear x;go_wp2;go_ret;exact⟨.f2 D a,s.cq⟩
 have g:=Aw (fd D.o (x.1 rfl));clear x;obtain⟨i,j,l,m⟩:=s.prog;go_wp2_with fail;refine(Nn v.f p.aB _ H.1.aB H.1.func (H.2.2.1.aB.av s.cq lR)).mono ?_;rintro e u3 ⟨⟨S,rfl,y⟩,F⟩;have b:=Aw (s.av F);clear F i j l m;cases S
 . (have a:Ae (¬Bz p.aB):= λe=>by simp[e]at y);clear y;go_wp2;go_ret;exact⟨.f3 g a,b.cq⟩
 have n:=Aw (y.1 rfl);clear y;obtain⟨i,j,l,m⟩:=b.prog;go_wp2_with fail;refine(Nj v p _ H.1 H.2.1 g.1 n (H.2.2.1.av b.cq lR) (H.2.2.2.1.av b.cq lR)).mono ?_;rintro e u4 ⟨⟨T,rfl,z⟩,G⟩;have d:=Aw (b.av G);clear G i j l m;cases T
 . (have a:Ae (¬DY p):= λe=>by simp[e]at z);clear z;go_wp2;go_ret;exact⟨.f4 g n a,d.cq⟩
 have B:=Aw (z.1 rfl);clear z;obtain⟨i,j,l,m⟩:=d.prog;go_wp2_with fail;refine(Ni v p _ H.1 (H.2.2.1.av d.cq lR) (H.2.2.2.2.av d.cq lR)).mono ?_;rintro e u5 ⟨⟨U,rfl,A⟩,I⟩;have C:=Aw (Ar d.cq lR I);clear I i j l m;cases U
 . (have a:Ae (¬CX p):= λe=>by simp[e]at A);clear A;go_wp2;go_ret;exact⟨.f5 g n B a,C⟩
 have P:Ae (CX p):=A.1 rfl;clear A;go_wp2;go_ret;exact⟨.f0 g n B P,C⟩
theorem Ay.low{u c:Y}{a:Array J}(h:Ay u b a t)(d:Ah B u c)(e:b<B):Ay c b a t:=by unfold Ay at*;rw[d.block b e];exact h
theorem Bf.small(h:Bf p s s')(b:IP p s)(a:s.small):s'.small:=by
 cases h with
 |jump=>exact⟨a.cells,a.cell,a.stack,a.dk,a.frame⟩
 |trap=>exact⟨a.cells,a.cell,a.stack,a.dk,a.frame⟩
 |does=>exact UH b.prog ⟨a.cells,a.cell,a.stack,a.dk,a.frame⟩ b.fS b.deep
structure Gl(p:MP)(m:MM)(k:Nat)(s:MS):Prop where
 steps:∃s0,Gg p m s0/\Cs p k s0 s
 going:s.trap=0->s.done=false->Qe p k s
 small:s.small
theorem Gl.next(h:Gl p m k s)(j:p.wf)(i:k<=1048576)(ht:s.trap=0)(b:s.done=false)(a:Bf p s s'):Gl p m (k+1) s':=by obtain⟨l,f,g⟩:=h.steps;have c:=h.going ht b;exact⟨⟨l,f,.next g ht b a⟩, λd e=>c.next j i ht a d e,a.small c.sh h.small⟩
theorem Gg.sml(h:Gg p m s)(d:p.small):s.small:=by
 rcases h with⟨k,l,n,q,f,fs,i,j,rfl⟩|⟨k,rfl⟩
 . (have c:∀(r e:List Int),r∈p.az->(Ba r e).length<=1048576:= λr e a=>by have:=d.region r a;simp only[Ba,List.length_zipWith];omega);rw[i]at c;refine⟨by simp[Ca],?_,by simp[Ca],by simp[Ca],?_⟩
   . intro r a;simp only[Ca,jK,jO,kM]at a;rcases a with rfl|rfl|rfl<;>exact c _ _ sP
   intro g b;simp only[Ca,jK,jO,kM]at b;subst b;show(A9 f.a7).length<=1048576;rw[Gf];exact(d.func f (by rw[j];simp)).2.1
 . exact⟨by simp[KA],by simp[KA],by simp[KA],by simp[KA],by simp[KA]⟩
theorem Gl.of(h:Gg p m s)(c:p.small)(d:m.wf):Gl p m 0 s:=by
 refine⟨⟨s,h,.zero⟩, λb e=> ?_,h.sml c⟩;rcases h.going d with⟨_,_,a⟩|⟨a,_⟩
 . exact a
 exact absurd b a
def FO(p:MP)(m:MM)(n:Nat)(s':MS):Prop:=∃s,Gg p m s/\TC p n s s'
theorem FO.one{a b:MS}(h:FO p m n a)(e:FO p m n b):a=b:=by obtain⟨s,f,g⟩:=h;obtain⟨s',c,d⟩:=e;obtain rfl:=f.one c;exact g.one d
theorem Gl.ends(h:Gl p m k s)(f:k<=n)(c:k=n\/s.trap≠0\/s.done=true):FO p m n s:=by
 obtain⟨d,a,b⟩:=h.steps;refine⟨d,a,k,b,?_⟩;by_cases e:k=n
 . exact .inl e
 exact .inr ⟨oM,c.resolve_left e⟩
def ov(w:Y)(p:MP)(m:MM)(nn:Nat)(e:Ending)(a:Y):Prop:=∃(t:Int) (d:Bool) (c n:Int) (X:VS) (C:List (J×List MC)) (K:List MC) (F:List (MG×J)),e=Am (An #[t,d,c,n,X.c,X.k,X.f])/\AB a w X C K F/\FO p m nn (A3 t d c n C K F)/\(A3 t d c n C K F).small/\Ah w w a
structure Uj(w u:Y)(v:VP)(vm:VM)(B N:Nat)(t:Int)(d:Bool)(c n:Int)(X:VS)(C:List (J×List MC))(K:List MC)(F:List (MG×J)):Prop where
 at_:JP w u v vm
 sb:Ay u N #[t,d,c,n,X.c,X.k,X.f] 48
 own:AB u B X C K F
 hB:B<= ↑u
 low: ↑w+1+1<B
 hN:B<=N
theorem JP.low{w u b:Y}{c:VM}(h:JP w u v c)(a:Ah B u b)(d: ↑w+1+1<B):JP w b v c:=⟨h.pb.low a oM,h.mb.low a oM,h.rb.low a d,h.cq.trans (a.mono oM)⟩
theorem Uj.av{w u b:Y}{e:VM}{N:Nat}{t c n:Int}{d:Bool}{C:List (J×List MC)}{K:List MC}(h:Uj w u v e B N t d c n X C K F)(a:Ah u u b):Uj w b v e B N t d c n X C K F:=⟨h.at_.av a,h.sb.av a,h.own.grow a,jN h.hB a.size,h.low,h.hN⟩
theorem X9{w:Y}{base:Nat}{s:J}(h:Ab w base e k s n xs):∃a c,s=Z a n c/\n<=c:=by
 rcases h.2 with⟨rfl,rfl⟩|⟨g,cap,d,rfl,_,_,b,_⟩
 . exact⟨_,_,rfl,Nat.le_refl _⟩
 exact⟨_,_,rfl,b⟩
theorem MH{w:Y}{base:Nat}{s:J}(h:Ab w base e k s n xs):BP s:=by
 rcases h.2 with⟨rfl,rfl⟩|⟨g,cap,a,rfl,_⟩
 . exact .inl rfl
 exact .inr ⟨_,_,_,rfl⟩
theorem FN.fT{w:Y}{base:Nat}{s:J}(h:FN w base s fs):FZ w s fs:=by obtain⟨xs,c,d,a⟩:=h;exact⟨xs,c,Rd.eS d, λx b=>⟨(a x b).rd,MH (a x b).1,MH (a x b).2.1⟩⟩
theorem AP.fB{w c:Y}{row:Option Nat}(h:AP w b a D)(d:w.grownBy c row)(e:K b≠row):AP c b a D:=World.ownsMap.kept h d e
theorem G8{w:Y}{base k n b d:Nat}{v:J}(h:Ab w base e k v n xs)(i:w.ownsMap Aq 2 R b d D):K b≠v.ownBlock:=by
 obtain⟨m,j,f,_⟩:=i;intro a;rcases h.2 with⟨rfl,_⟩|⟨g,cap,l,rfl,_,c,_⟩
 . cases a
 simp only[Value.ownBlock,jJ]at a;subst a;rw[f]at c;cases c
theorem DL.to{u d:Y}{c:Nat->Nat}{e:List Int}(h:DL u b a k c e W)(f:d.ownsMap Aq 2 CA b a W):DL d b a k c e W:=⟨f,h.has,h.at_,h.size⟩
structure OX(w u:Y)(fs:List MF)(mb cnt:Nat)(Bk:Nat->Nat)(zm:List Int)(W:DataW Unit)(live:Nat->Bool)(dn:Nat->List Int)(zo:List Int)(V:J):Prop where
 map:DL u mb cnt fs Bk zm W
 fg:Dp u fs w mb fs Bk live dn
 o:Ab u w 2 1 V zo (Ad As zo)
 cq:Ah w w u
 gK: ↑w<=mb
def OW(w u:Y)(fs:List MF)(d c:Nat)(b:Nat->Nat)(a:List Int)(W:DataW Unit)(V:J):Prop:=OX w u fs d c b a W (λi=> !a.contains (i:Int)) (λ_=>a) a V
theorem OX.av{w u g:Y}{b:Nat->Nat}{j k:List Int}{e:Nat->Bool}{d:Nat->List Int}(h:OX w u fs f c b j W e d k V)(a:Ah u u g):OX w g fs f c b j W e d k V:=⟨h.map.to (h.map.own.kept (D9 a) sP),h.fg.kept (λi m l D q=>q.av a),AC h.o a lR,Ar h.cq lR a,h.gK⟩
theorem OX.fK{w u c:Y}{d:Nat->Nat}{m a:List Int}{k:Nat->Bool}{g:Nat->List Int}{e:J}(h:OX w u fs l f d m W k g a V)(b:u.grownBy c V.ownBlock)(p:Ab c w 2 1 e (a.length+1) (Ad As a++[iZ q])):OX w c fs l f d m W k g (a++[q]) e:=⟨h.map.to (h.map.own.kept b (G8 h.o h.map.own)),h.fg.kept (λi s r D q=>q.fB b (G8 h.o q)),by rw[jI,kE,kJ];exact p,h.cq.grown b h.cq.size (λj n=>(h.o.lt j n).1),h.gK⟩
theorem OX.del{w u f:Y}{q:Nat}{g:Nat->Nat}{a:List Int}(h:OX w u fs b c g a W (λi=> !a.contains (i:Int)) (λ_=>a) (a++[(q:Int)]) V)(v:q< ↑fs)(x:a.contains (q:Int)=false)(t:f.ownsMap Aq 2 CA b c (W.del (.int Af (q:Int))))(d:u.grownBy f (K b)):OX w f fs b c g (a++[(q:Int)]) (W.del (.int Af (q:Int))) (λi=> !(a++[(q:Int)]).contains (i:Int)) (λ_=>a) (a++[(q:Int)]) V:=by refine⟨h.map.del v x t,⟨λi k l=> ?_,h.fg.inj,h.fg.ne⟩,h.o.kept d (Or.inr (G8 h.o h.map.own).symm),h.cq.grown d h.cq.size (λj s=>by cases s;exact h.gK),h.gK⟩;rw[Fi,Bool.not_or,ky]at l;obtain⟨m,D,n,p,r⟩:=h.fg.set i k l.1;exact⟨m,D,n,p.fB d (λe=>(h.fg.ne i k).2 (jM e)),r⟩
theorem Hx{w:Y}{d:DataW Unit}(h:w.ranges Aq 2 R b r n D left g)(j:AP w c f d):K c≠K r:=by
 obtain⟨m,k,s,q,c0,_,_,_,_,a,_⟩:=h;obtain⟨p,l,i,_⟩:=j;intro e;cases e
 rw[i]at a;cases a
def Ld(a:List Int)(q:Int)(left:Lit->Bool)(i:Nat):List Int:=if left (.int Af (i:Int))=true then a else a++[q]
theorem OX.step{w u d:Y}{p:Nat}{e:Nat->Nat}{l m:List Int}{k:Nat->Bool}{f:Nat->List Int}{x:Lit->Bool}{c':Nat}(h:OX w u fs a b e l W k f m V)(g:u.ranges Aq 2 CA a r n W left p)(v:d.ranges Aq 2 CA a r b W x c')(c:u.grownBy d (K r))(s: ↑w<=r):OX w d fs a b e l W k f m V:=⟨h.map.to v.owns,h.fg.kept (λi z y D q=>q.fB c (Hx g q)),h.o.kept c (Or.inr (Go.row_ne_iter h.o g).symm),h.cq.grown c h.cq.size (λj t=>by cases t;exact s),h.gK⟩
theorem OX.start{w u:Y}{e:Nat}{b:Nat->Nat}{a:List Int}(h:OX w u fs e c b (a++[q]) W (λi=> !(a++[q]).contains (i:Int)) (λ_=>a) (a++[q]) V):OX w u fs e c b (a++[q]) W (λi=> !(a++[q]).contains (i:Int)) (Ld a q (Go.Maps.has W)) (a++[q]) V:=by
 refine⟨h.map,⟨λi g d=> ?_,h.fg.inj,h.fg.ne⟩,h.o,h.cq,h.gK⟩;have:Go.Maps.has W (.int Af (i:Int))=true:=by
  rw[h.map.has,d];have f:(0<=(i:Int)/\(i:Int)<(fs:Int)):=oM
  simp only[f,and_self,decide_true,Bool.and_true]
 unfold Ld;rw[jP this];exact h.fg.set i g d
theorem OX.done{w u:Y}{d:Nat}{b:Nat->Nat}{a:List Int}(h:OX w u fs d c b (a++[q]) W (λi=> !(a++[q]).contains (i:Int)) (Ld a q left) (a++[q]) V)(f:∀kl,left kl=false):OW w u fs d c b (a++[q]) W V:=by refine⟨h.map,⟨λi e g=> ?_,h.fg.inj,h.fg.ne⟩,h.o,h.cq,h.gK⟩;have:=h.fg.set i e g;unfold Ld at this;rw[f]at this;exact this
theorem OX.meets{w u:Y}{b:Nat->Nat}{a:List Int}{x:Int}(h:OX w u fs n l b (a++[q]) W (λi=> !(a++[q]).contains (i:Int)) (Ld a q left) (a++[q]) V)(m:left (.int Af x)=true)(k:∀p,W.atKey (.int Af x) p=.lit (.int Af (c:Int))):∃i:Nat,x=(i:Int)/\i< ↑fs/\c=b i/\∃g D,g<=1048576/\AP u c g D/\∀z,Go.Maps.has D (.int Af z)=Ey fs a i z:=by
 have d:=Go.Maps.has_true_of_atKey k;rw[h.map.has]at d;simp only[ky,lC]at d;obtain⟨⟨r,s⟩,j⟩:=d;obtain⟨i,rfl⟩:∃i:Nat,x=(i:Int):=⟨x.toNat,oM⟩;have f:i<fs.length:=oM;have e:=(k (.agg [])).symm.trans (h.map.at_ i f (by simpa using j) (.agg []));obtain rfl:c=b i:=by
  injection e with e
  injection e with _ e
  omega
 have:=h.fg.set i f j;unfold Ld at this;rw[jP m]at this;exact⟨i,rfl,f,rfl,this⟩
theorem OX.told{w u k:Y}{m i:Nat}{b:Nat->Nat}{a:List Int}(h:OX w u fs m l b (a++[q]) W (λi=> !(a++[q]).contains (i:Int)) (Ld a q left) (a++[q]) V)(g:i< ↑fs)(y:c<=1048576)(x:∀z,Go.Maps.has D (.int Af z)=Ey fs a i z)(B:AP u (b i) c D)(A:AP k (b i) c (D.del (.int Af q)))(d:u.grownBy k (K (b i))):OX w k fs m l b (a++[q]) W (λi=> !(a++[q]).contains (i:Int)) (Ld a q (λz=>left z&& !z.sameKey (.int Af (i:Int)))) (a++[q]) V:=by
 refine⟨h.map.to (h.map.own.kept d (λe=>(h.fg.ne i g).2 (jM e).symm)),⟨λj f C=> ?_,h.fg.inj,h.fg.ne⟩,h.o.kept d (Or.inr (G8 h.o B).symm),h.cq.grown d h.cq.size (λj f=>by cases f;exact(h.fg.ne i g).1),h.gK⟩;by_cases e:j=i
 . subst e;refine⟨c,_,y,A, λz=> ?_⟩;unfold Ld;rw[jH (by simp[DT]),Q2,x,Yl]
 obtain⟨p,n,s,t,v⟩:=h.fg.set j f C;refine⟨p,n,s,t.fB d (λr=>e (h.fg.inj j i f g (jM r))), λz=> ?_⟩;rw[v];have:¬(j:Int)=(i:Int):=oM;unfold Ld;simp[DT,this]
theorem Nr(v:VP)(p:MP)(w:Y)(hs:p.small)(hw:p.wf)(h:ET w v p)(bt:EY w v.r p.az)(bx:FZ w v.f p.aB):
 Ai Aq 51 #[.agg #[v.r,v.k,v.f,v.t]] w λe w'=>∃V b,e=Am V/\Ab w' w.heap.size 2 1 V b.length (b.flatMap As)/\YU p b/\Ah w.heap.size w w':=by
 obtain⟨k0,hk,di,dj,dm⟩:=km Cy;have H:=Aw (fd hs (fd hw (fd h (fd bt bx))));clear hs hw h bt bx;have dz:= @run_makeMap Aq;have E:Ae (Kr (Ac w (Ak #[v.r,v.k,v.f,v.t] 40)) w v.r v.k v.f v.t/\Ah w w (Ac w (Ak #[v.r,v.k,v.f,v.t] 40))):=⟨Kr.new w _ _ _ _ _,Al _ _⟩
 go_enter func51,ntmps51;obtain⟨X,q1,q2,q3⟩:=E.o.1;go_wp2_with fail;refine(Ej v p _ H.o.1 H.o.2.1 (H.o.2.2.1.av E.o.2 lR) (H.o.2.2.2.1.av E.o.2 lR) (H.o.2.2.2.2.av E.o.2 lR)).mono ?_;rintro e A ⟨⟨nf,rfl,ax⟩,b1⟩;have F:=Aw (fd (E.o.1.av b1) (Ar E.o.2 lR b1));clear b1 E X q1 q2 q3;by_cases X:nf=0
 . subst X;have HF:=Aw ax;clear ax;rw[show KL 0=.nilIface from rfl];obtain⟨ys,cH,aQ,bu⟩:=H.o.2.2.1.aB;obtain⟨vr,vk,vf,vt⟩:=v;obtain⟨af,cf,ef⟩:∃a c,vf=Z a p.aB c:=aQ.aP;subst ef;have dd:=(QV HF.o).1.2.1;have bI:=(QV HF.o).1.1;have Q:=Aw (fd cH (fd aQ bu));clear cH aQ bu;generalize br:p.aB.length=n at dd bI Q F;have G:=Aw br;clear br;obtain⟨gf,of,rfl,ae⟩:∃gf of,af=K ⟨gf,of,M⟩/\Ae (∀j u,(Ad DF ys)[j]?=K u->w.cell? ⟨gf,of+j,M⟩=K u):=by
    rcases Q.o.2.1.2 with⟨e0,_⟩|⟨gf,of,c',e1,cT⟩
    . exact absurd e0 bI
    simp only[i8,kW]at e1;exact⟨gf,of,e1.1,cT⟩
   obtain⟨p0,p1,p2,p3⟩:=F.o.1.alloc (.map #[] 0);obtain⟨r0,r1,r2,r3⟩:=F.o.1;have aj:Ae (DL (Ac A (.map #[] 0)) A 0 0 (λ_=>0) [] (.map [])/\Ah w w (Ac A (.map #[] 0))/\(w:Nat)<= ↑A):=⟨DL.start (World.ownsMap_made _ _ _ _),Ar F.o.2 lR (Al _ _),F.o.2.size⟩
   go_wp2;clear p0 p1 p2 p3 r0 r1 r2 r3;have aE:=Aw aj.o.2.2;have aI:Ae (∃d W,DL (Ac A (.map #[] 0)) A 0 0 d [] W/\Dp (Ac A (.map #[] 0)) p.aB w A 0 d (λ_=>true) (λ_=>[])/\Ah w w (Ac A (.map #[] 0))):=⟨_,_,aj.o.1,Dp.start,aj.o.2.1⟩
   clear aj F;generalize A.heap.size=g at aI aE⊢;go_loopw [18] (λi wr=>∃k:Nat,k<=n/\i=iZ k/\Ae (∃d W,DL wr g k k d [] W/\Dp wr p.aB w g k d (λ_=>true) (λ_=>[])/\Ah w w wr)) (λi _=>n-(intOf i).toNat)
   (case atStart=>exact⟨0,oM,rfl,aI⟩);clear aI;obtain⟨k,dx,rfl,aZ⟩:=hrel;obtain⟨d,W,hM,hS,hB⟩:=aZ.o;have s:=Aw (fd hM (fd hS hB));clear hM hS hB aZ;by_cases d8:k<n
   . have dw:(k:Int)<(n:Int):=oM;obtain⟨⟨f,z⟩,N⟩:∃y,ys[k]?=K y:=⟨_,an (by have:=congrArg List.length Q.o.1;rw[kC,G.o]at this;omega)⟩;have aq:=Ga Q.o.1 N;have O:=Q.o.2.2 _ (hC N);simp only[]at O;obtain⟨zp,zl,zc⟩:=z;obtain⟨ap,cp,ep⟩:∃a c,zp=Z a f.aD c:=O.1.aP;obtain⟨al,cl,el⟩:∃a c,zl=Z a f.a7 c:=O.2.1.aP;obtain⟨ac,cc,ec⟩:∃a c,zc=Z a f.aU c:=O.2.2.aP;subst ep el ec;have S:=Aw (fd O (fd (H.o.1.func f (hC aq)) (fd aq ((H.o.2.1.aB f (hC aq)).aU))));have i0:=FP s.o.2.2 (Rd.elem AK ae.o k _ N 0 _ rfl);have i1:=FP s.o.2.2 (Rd.elem AK ae.o k _ N 1 _ rfl);have i2:=FP s.o.2.2 (Rd.elem AK ae.o k _ N 2 _ rfl);have i3:=FP s.o.2.2 (Rd.elem AK ae.o k _ N 3 _ rfl);rw[jV]at i0;clear N aq O;(go_upto_region 7 with fail);refine Av (λu=>Ae (DL u g k k d [] W/\Dp u p.aB w g k d (λ_=>true) (λ_=>[])/\Ah w w u/\Ay u wr #[Z ap f.aD cp,iZ f.cu,Z al f.a7 cl,Z ac f.aU cc] 34)) ⟨s.o.1.to (s.o.1.own.alloc _),s.o.2.1.kept (λi C B D q=>q.av (Al _ _)),Ar s.o.2.2 lR (Al _ _),Ay.new _ _ _⟩ ?_
     intro U1 l;clear i0 i1 i2 i3;obtain⟨a0,a1,a2,a3⟩:=nO l.o.2.2.2;go_wp2_with fail;refine(Nf _ f.aU U1 S.o.2.1.2.2 S.o.2.2.2 (S.o.1.2.2.av l.o.2.2.1 lR)).mono ?_;rintro e u4 ⟨rfl,⟨cs,DS,aK,bV,ce⟩,b4⟩;have I:=Aw (fd bV (fd ce (fd ((by have:=S.o.2.1.2.2;omega):cs<=1048576) b4)));have L:=l.o.1.own.kept (D9 b4) sP;clear bV ce aK b4 a0 a1 a2 a3;have HR:Ae (∃d W,DL u4 g k k d [] W/\Dp u4 p.aB w g k d (λ_=>true) (λ_=>[])):=⟨d,W,l.o.1.to L,l.o.2.1.kept (λi C B D q=>q.av I.o.2.2.2)⟩
     have dh:Fb (k:Int):=Je oM oM;go_wp2_with (at_mapUpdate;refine wpList_mapUpdate_own _ rfl _ _ _ 205 rfl 2 164 Fe underlying205 CA g k W rfl L oX _ _ _ rfl rfl (mE underlying2 dh) (.lit (.int Af (U1:Int))) [] rfl ?_;intro w5 bQ au);have HN:Ae (∃d W,DL w5 g (k+1) (k+1) d [] W/\Dp w5 p.aB w g (k+1) d (λ_=>true) (λ_=>[])/\Ah w w w5):=by
      have dy:=lg l.o.1.own;(have cX:∀i,i<k->∀B D,AP U1 (d i) B D->AP w5 (d i) B D:= λi C B D q=>(q.av I.o.2.2.2).fB au (λe=>(l.o.2.1.ne i C).2 (jM e)));refine⟨_,_,l.o.1.put bQ,l.o.2.1.put cX (λi C e=> ?_) ⟨l.o.2.2.1.size,oM⟩ ⟨cs,DS,I.o.2.2.1,I.o.1.fB au (λe=>by have:=jM e;omega), λz=> ?_⟩,?_⟩
      . obtain⟨B,D,_,q,_⟩:=l.o.2.1.set i C rfl;have:=lg q;omega
      . rw[I.o.2.1 z,kP lR];unfold Ey;rw[S.o.2.2.1];simp
      exact(Ar l.o.2.2.1 lR I.o.2.2.2).grown au (Ar l.o.2.2.1 lR I.o.2.2.2).size (λj hj=>by cases hj;exact aE.o)
     clear bQ au L;go_wp2;go_roundw;(case rel=>exact⟨k+1,oM,by go_num,HN⟩);exact oI
   obtain rfl:k=n:=oM;have bf:Ae (OW w wr p.aB g k d [] W sN):=⟨by rw[G.o];exact s.o.1,by rw[G.o];exact s.o.2.1,⟨rfl,.inl ⟨rfl,rfl⟩⟩,s.o.2.2,aE.o⟩;have bi:=Aw (fd bf.o ((by unfold CV;rw[G.o];rfl):Db p.aB (k-([]:List Int).length) []=CV p.aB));clear s bf;obtain⟨W0,cM⟩:∃W0,W0=W:=⟨_,rfl⟩;subst cM;go_wp2;go_loopw [6] (λV wr=>∃(b:List Int) (W:DataW Unit), ↑b<=k/\(∃a c,V=Z a b c)/\Ae (OW w wr p.aB g k d b W V/\Db p.aB (k-↑b) b=CV p.aB)) (λV _=>k-qB V)
   (case atStart=>exact⟨[],_,sP,⟨_,_,rfl⟩,bi⟩);clear bi;obtain⟨b,W,dE,⟨aV,cV,rfl⟩,m⟩:=hrel;have aO:=m.o.1.map.own;have dg:=m.o.1.map.size;rw[G.o]at dg;by_cases d8: ↑b<k
   . have dA:(0:Int)<((Go.Maps.size W:Nat):Int):=oM;go_wp2_with (first
      |(at_len;refine wpList_len_own _ rfl _ 205 rfl 2 164 underlying205 _ g k _ rfl aO ?_)
      |fail)
     refine(Rx g k W (I9 p.aB b) _ oM m.o.1.map.own (Tm m.o.1.fg m.o.1.map)).mono ?_;rintro e u9 ⟨g9,dt,rs,rfl,aY,bZ,bH,b9⟩;have aA:=Aw (fd (m.o.1.av b9) b9);have cU:=Ry (by rw[G.o];omega) m.o.1.map.has bZ bH;clear aO b9 bZ bH;rcases cU with⟨rfl,bJ⟩|⟨q,r,rfl,hq,bT,bG⟩
     . have HO:Ae (CV p.aB=[]):=by
        show _=_;rw[<-m.o.2,show k-↑b=(k-↑b-1)+1 from oM]
        simp only[Db];rw[bJ]
       clear bJ aY;go_wp2;go_ret;exact⟨_,[],rfl,⟨rfl,.inl ⟨rfl,rfl⟩⟩,.inl ⟨HF.o,HO.o.symm⟩,aA.o.1.cq⟩
     . have HO:Ae (Db p.aB (k-(b++[(q:Int)]).length) (b++[(q:Int)])=CV p.aB):=by
        show _=_;rw[<-m.o.2,show k-↑b=(k-↑b-1)+1 from oM]
        simp only[Db];rw[bG,jI,kE,Nat.sub_add_eq]
       have c9:=aY.cellAt 0 sP;rw[show((Ad As ((q:Int)::r))[0]?=K (iZ (q:Int)))from rfl]at c9;have HQ:=Aw (fd hq bT);clear hq bT bG aY;have cj:Fb (q:Int):=Je oM (by have:=HQ.o.1;have:=G.o;omega);have aa:Ae (OW w (Ac u9 (Ak #[iZ (q:Int)] 2)) p.aB g k d b W (Z aV b cV)):=aA.o.1.av (Al _ _);have dB:(r:Int)+1>0:=oM;go_wp2_with (first
        |(at_builtin;refine wpList_append_lies _ rfl _ _ 27 rfl w 2 k0 (iZ 0) 1 8 underlying27 hk di dj dm rfl dC _ b (b.flatMap As) rfl aa.o.o u9 1 1 [iZ (q:Int)] rfl rfl (Vy u9 (q:Int)) (λu hu=>by simp at hu;subst hu;rfl) oM oX oM aa.o.cq.size _ rfl ?_;intro U T w3 bP bC cR db;have aF:Ae (OX w w3 p.aB g k d b W (λi=> !b.contains (i:Int)) (λ_=>b) (b++[(q:Int)]) (sG U (b.length+1) T)):=aa.o.fK bC bP;have cI:=aF.o.map.own;clear bP bC cR db)
        |(at_delete;refine wpList_delete_own _ rfl _ _ 205 2 rfl 164 Fe underlying205 _ g k W rfl cI _ _ rfl (mE underlying2 cj) ?_;intro w4 L cg;have aG:Ae (OX w w4 p.aB g k d (b++[(q:Int)]) (W.del (.int Af (q:Int))) (λi=> !(b++[(q:Int)]).contains (i:Int)) (λ_=>b) (b++[(q:Int)]) (Z U (b.length+1) T)):=aF.o.del HQ.o.1 HQ.o.2 L cg.grown;clear cg cI)
        |(at_range;refine wpList_range_own _ rfl _ 205 rfl 2 164 Fe underlying205 _ g k _ rfl L ?_;intro w5 aS bB df)
        |go_in)
       go_frame;have ai:=Aw (fd ((aG.o.av ((jZ _ _).grown bB lR (λj hj=>by cases hj))).start) aG.o.cq.size);have bj:=Aw ai.o.2;clear bB df L c9 aG aF aa aA;generalize w4.heap.size=it at aS bj ai⊢;go_loopw [10] (λ_ wr=>∃(left:Lit->Bool) (B:Nat),wr.ranges Aq 2 CA g it k (W.del (.int Af (q:Int))) left B/\Ae (OX w wr p.aB g k d (b++[(q:Int)]) (W.del (.int Af (q:Int))) (λi=> !(b++[(q:Int)]).contains (i:Int)) (Ld b (q:Int) left) (b++[(q:Int)]) (Z U (b.length+1) T))) (λ_ wr=>wr.rangeLeft g it)
       (case atStart=>exact⟨_,_,aS,ai.o.1⟩);clear ai aS;obtain⟨left,B,P,R⟩:=hrel;go_wp2_with (first
        |(at_next;refine wpList_next_ranges _ rfl _ rfl 2 Fe CA (Value.int Af) (λ(c:Nat)=>Value.map (K c)) (λdF kl hk=>by obtain⟨x,hx,_⟩:=Go.Maps.keyOf_int_inv underlying2 hk;exact⟨x,hx⟩) (λv y hv=>by obtain⟨c,rfl,_⟩:=FR hv;exact⟨c,rfl⟩) g it k _ _ _ rfl P ?_ ?_)
        |go_in)
       . intro du cY;have HD:=Aw (R.o.done cY);clear P R;go_wp2;go_roundw;(case rel=>exact⟨b++[(q:Int)],_,by simp only[jI,kE];omega,⟨K U,T,by rw[jI,kE]⟩,⟨HD.o,HO.o⟩⟩);simp only[qB];omega
       intro x c kl y ps w2 bq cW cZ hv cQ aR d9 aM de dv;obtain⟨x',ex,rfl,dD⟩:=Go.Maps.keyOf_int_inv underlying2 cW;(obtain rfl:x=x':=by cases ex;rfl);obtain⟨c',ec,ey⟩:=FR hv;obtain⟨rfl,rfl⟩:=Prod.mk.inj ey;clear ey;(obtain rfl:c=c':=by cases ec;rfl);obtain⟨i,rfl,C,rfl,cs,DS,aK,aT,cK⟩:=R.o.meets cZ cQ;have aW:AP w2 (d i) cs DS:=aT.fB aM (Hx P aT);have aJ:=Aw (fd (R.o.step P aR aM bj.o) P.left_eq);have bY:=aW;unfold AP at bY;clear de R P aM aT;go_wp2_with (first
        |(at_delete;refine wpList_delete_own _ rfl _ _ 164 2 rfl 89 Fe underlying164 _ (d i) cs DS rfl bY _ _ rfl (mE underlying2 cj) ?_;intro w6 bS aX;have aH:Ae (OX w w6 p.aB g k d (b++[(q:Int)]) (W.del (.int Af (q:Int))) (λi=> !(b++[(q:Int)]).contains (i:Int)) (Ld b (q:Int) (λz=>left z&& !z.sameKey (.int Af (i:Int)))) (b++[(q:Int)]) (Z U (b.length+1) T)/\w6.ranges Aq 2 CA g it k (W.del (.int Af (q:Int))) (λz=>left z&& !z.sameKey (.int Af (i:Int))) bq):=⟨aJ.o.1.told C aK cK aW bS aX.grown,aR.kept aX.grown (λe=>(aJ.o.1.fg.ne i C).2 (jM e).symm) (Hx aR aW).symm⟩;clear bS aX)
        |go_in)
       go_frame;go_roundw;(case rel=>exact⟨_,bq,aH.o.2,aH.o.1⟩);rw[aH.o.2.left_eq,aJ.o.2];exact d9
   have hz: ↑b=k:=oM
   have dq:Go.Maps.size W=0:=oM;(have HO:Ae (b=CV p.aB):=by have:=m.o.2;rw[hz,mM]at this;exact this);have bg:=Aw (fd m.o.1.o m.o.1.cq);go_wp2_with (first
    |(at_len;refine wpList_len_own _ rfl _ 205 rfl 2 164 underlying205 _ g k _ rfl aO ?_;rw[dq])
    |go_in)
   go_ret;refine⟨Z aV b cV,b,?_,bg.o.1,.inl ⟨HF.o,HO.o⟩,bg.o.2⟩;rw[hz];rfl
 have HN:Ae (¬AX p 0):= λe=>X (AX.one ax e)
 have cJ:=Aw F.o.2;rw[show KL nf=.iface 190 (iZ nf)from jH X];clear ax;go_wp2;go_ret;exact⟨_,[],rfl,⟨rfl,.inl ⟨rfl,rfl⟩⟩,.inr ⟨HN.o,rfl⟩,cJ.o⟩
theorem YM{z:MC}(h:z.wf):0<=z.word:=by
 have a:=h.2;have b:0<=z.word/\z.word<=4294967295:=by simpa[Ql,Lit.wf,IntKind.min,IntKind.max,IntKind.signed,IntKind.bits]using a
 exact b.1
theorem SR:(Tryz.prog.info? 27).map (λi=>(i.zero,i.size,i.bytes))=K (K sN,1,24):=kR
theorem Ii(n:Nat):(madeCells (Z M 0 0).cells (n*1)).toList=List.replicate n sN:=by rw[DP (λb:Bool=>[b]) [sN] [] n sN 1 rfl rfl oM];simp[CK,List.flatten_replicate_singleton]
theorem BW{w a:Y}(b:w.grownBy a M):Ah w w a:=(jZ _ _).grown b lR (λk c=>by cases c)
def Wt(xs:List MI):Prop:=∃r,Bl xs r/\r.aU=0
theorem CP{w:Y}{a c:J}(h:Ay w b #[a0,a,c,d] t):w b=K a0/\w ⟨b,1,M⟩=K a/\w ⟨b,2,M⟩=K c/\w ⟨b,3,M⟩=K d:=⟨h.cell 0,h.cell 1,h.cell 2,h.cell 3⟩
theorem Ut{w:Y}{a c e f:J}(h:Ay w b #[a0,a,c,d,e,f] t):w b=K a0/\w ⟨b,1,M⟩=K a/\w ⟨b,2,M⟩=K c/\w ⟨b,3,M⟩=K d/\w ⟨b,4,M⟩=K e/\w ⟨b,5,M⟩=K f:=⟨h.cell 0,h.cell 1,h.cell 2,h.cell 3,h.cell 4,h.cell 5⟩
def qc(p:MP)(a:Int):Prop:=AX p 0/\0<=a/\∃f,p.aB[a.toNat]?=K f/\Wt f.aU
theorem JL{e:Array Oper}{rest:List Oper}{o:Oper}{a:Act}{w:Y}(m:o.guard=M)(ty:Aj)(x y:Operand)(n:o.op=.store ty x y)
 (g b:Nat) (cells:Array J) (s:a.eval x=.pointer (some ⟨g,b,M⟩)) (u:a.eval y=An cells)
 (t:Aj) (c:Array J) (l:w.heap[g]?=some (Ak c t (0,0))) (d:(P.info? ty).map (·.size)=some cells.size)
 (k:b+cells.size<=c.size) (f:cells.all (·.oneCell')=true)
 (h:wpList P e Q rest (a.put o.dst undef) (w.setRow g (c.toList.take b++cells.toList++c.toList.drop (b+cells.size)).toArray)):wpList P e Q (o::rest) a w:=
 wpList_plain m λK j=>by
  have q:(storeVar ty ⟨g,b,M⟩ (An cells)).run P w=.ok () (w.setRow g (c.toList.take b++cells.toList++c.toList.drop (b+cells.size)).toArray):=by
   have:=run_storeCells_at P g b t cells.toList 0 c w l (by simpa using k) (λv r=>(Array.all_eq_true_iff_forall_mem.1 f) v (by simpa using r));cases hq:P.info? ty with
   |none=>simp[hq]at d
   | some i=>(have p:cells.size=i.size:=by simp[hq]at d;omega);simp[storeVar,sizeOf,typeInfo,hq,Value.cells,p]at this⊢;exact this
  unfold Oper.wp execOp;simp only[n,s,u,Instr.storeAt,Instr.sureAddr,Sem.run_bind,Sem.run_pure,Result.andThen_ok,q];exact j _ _ h
def Co(v:VP)(r:MF×(VF×J)):List J:=[v.r,v.k,v.f,v.t,r.2.1.p,r.1.cu,r.2.1.l,r.2.1.c,r.2.2]
theorem BN(v:VP)(r:MF×(VF×J)):(Co v r).length=9:=rfl
def BO(u:Y)(A B:Nat)(v:VP)(fs:List MF)(b:J)(H:List (MF×(VF×J))):Prop:=H.map Prod.fst=fs/\Ab u A 138 9 b H (H.flatMap (Co v))/\∀r∈H,(∀a,Ah B u a->FH a r.2.1 r.1)/\Ab u A 2 1 r.2.2 (r.1.aD.length+ ↑r.1.a7) (Ad As (r.1.aD++r.1.a7))
def Fr(u:Y)(B:Nat)(v:VP)(p:MP)(a:J):Prop:=∃H,BO u B B v p.aB a H
theorem BO.av{u e:Y}(h:BO u A B v fs d H)(i:B<= ↑u)(a:Ah u u e):BO e A B v fs d H:=by obtain⟨f,g,b⟩:=h;exact⟨f,AC g a lR, λr c=>⟨λk j=>(b r c).1 k ((a.mono i).trans j),AC (b r c).2 a lR⟩⟩
theorem BO.fJ{u:Y}{e:J}(h:BO u A B v fs e H){f:Array J}(c:Ay u a f 87)(k:B<=a)(i:Nat)(z:J):BO (Aa u ⟨a,i,M⟩ z) A B v fs e H:=by obtain⟨g,j,b⟩:=h;exact⟨g,TX j c dC, λr d=>⟨λm l=>(b r d).1 m (((jZ B u).setCell k z).trans l),TX (b r d).2 c dC⟩⟩
theorem BO.push{u a d:Y}{C b:J}(h:BO u A B v fs C H)(F:B<=A)(i:B<= ↑u)(j:Ah u u a){x:MF×(VF×J)}(Q:∀D,Ah B u D->FH D x.2.1 x.1)(O:Ab a A 2 1 x.2.2 (x.1.aD.length+ ↑x.1.a7) (Ad As (x.1.aD++x.1.a7)))(y:a.grownBy d C.ownBlock)(P:Ab d A 138 9 b (H.length+1) (H.flatMap (Co v)++Co v x)):BO d A B v (fs++[x.1]) b (H++[x]):=by
 obtain⟨E,t,w⟩:=h.av i j;have G:B<=a.heap.size:=jN i j.size;have q:Ah B a d:=(jZ B a).grown y G (λk N=>jN F (t.lt k N).1);have p:∀{s:J} {n:Nat} {xs:List J},Ab a A 2 1 s n xs->Ab d A 2 1 s n xs:= λ{s n xs} z=>Dc z y (λg L e=>by
  rcases t.2 with⟨f,_⟩|⟨S,cap,R,f,_,I,_⟩
  . rw[f]at e;cases e
  rw[f]at e;simp only[Value.ownBlock,jJ]at e;subst e;exact Bn z I dC g L rfl)
 refine⟨by rw[k8,E];rfl,?_, λr c=> ?_⟩
 . rw[jI,kJ];simpa using P
 simp only[jL,jU]at c;rcases c with c|rfl
 . exact⟨λm l=>(w r c).1 m (q.trans l),p (w r c).2⟩
 exact⟨λm l=>Q m (((j.mono i).trans q).trans l),p O⟩
theorem BO.base{u:Y}(h:BO u A B v fs d H)(b:a<=A):BO u a B v fs d H:=⟨h.1,Bt h.2.1 b, λr c=>⟨(h.2.2 r c).1,Bt (h.2.2 r c).2 b⟩⟩
theorem BO.row{u:Y}(h:BO u A B v fs i H){m:Array J}(z:Ay u a m 87)(w:B<=a)(cs:Array J):BO (u.setRow a cs) A B v fs i H:=by
 obtain⟨p,q,f⟩:=h;have j:∀{e:Aj} {k n:Nat} {s:J} {xs:List J},Ab u A e k s n xs->e≠87->Ab (u.setRow a cs) A e k s n xs:= λ{e k n s xs} c C=>by
  refine⟨c.1,?_⟩;rcases c.2 with t|⟨g,cap,l,d,x,y,b⟩
  . exact .inl t
  refine .inr ⟨g,cap,l,d,x,?_,b⟩;rw[setRow_other u a g cs (λe=>Bn c z C g (by rw[d];rfl) e)];exact y
 exact⟨p,j q dC, λr b=>⟨λE D=>(f r b).1 E ((below_setRow (jZ B u) w cs).trans D),j (f r b).2 dC⟩⟩
structure Wm(cur:Array J)(t:Int)(d:Bool)(c n:Int)(X:VS)(hv:J):Prop where
 c0:cur[0]?=K (Ag Af t)
 c1:cur[1]?=K (Ao d)
 c2:cur[2]?=K (Ag Af c)
 c3:cur[3]?=K (Ag Af n)
 c4:cur[4]?=K X.c
 c5:cur[5]?=K X.k
 c6:cur[6]?=K X.f
 c7:cur[7]?=K hv
 rows:∀k v,BS[k]?=K v->cur[8+k]?=K v
 size:cur.size=158
def BH(t:Int)(d:Bool)(c n:Int)(X:VS):Array J:=#[Ag Af t,Ao d,Ag Af c,Ag Af n,X.c,X.k,X.f,Z M 0 0]++BS++JN
theorem JC:BS.size=120:=kR
theorem NN:JN.size=30:=kR
theorem Iv(a:Nat):(B9 a).size=30:=kR
theorem Wm.start(t:Int)(d:Bool)(c n:Int)(X:VS):Wm (BH t d c n X) t d c n X (Z M 0 0):=by
 have b:=JC;have e:=NN;refine⟨?_,?_,?_,?_,?_,?_,?_,?_, λk v a=> ?_,by simp[BH,b,e]⟩;all_goals try(unfold BH;rw[Array.append_assoc,Array.getElem?_append_left sP];rfl)
 have f:k<120:=by have:=(jS.1 a).1;omega
 unfold BH;rw[Array.append_assoc,Array.getElem?_append_right sP,Array.getElem?_append_left oT];simpa using a
theorem Wm.iN{b:Array J}{t:Int}{d:Bool}{c n:Int}(h:Wm b t d c n X i)(z:J):Wm (b.setIfInBounds 7 z) t d c n X z:=by
 have e:=h.size;have a:∀{j:Nat} {v:J},7≠j->b[j]?=K v->(b.setIfInBounds 7 z)[j]?=K v:= λ{j v} f h=>by rw[Array.getElem?_setIfInBounds_ne f];exact h
 exact⟨a oM h.c0,a oM h.c1,a oM h.c2,a oM h.c3,a oM h.c4,a oM h.c5,a oM h.c6,by simp[e], λk v g=>a oM (h.rows k v g),by simp[e]⟩
theorem Wm.fN{a:Array J}{t:Int}{d:Bool}{c n:Int}(h:Wm a t d c n X i)(b:Nat):Wm (a.toList.take 128++(B9 b).toList++a.toList.drop (128+(B9 b).size)).toArray t d c n X i/\∀k,k<30->((a.toList.take 128++(B9 b).toList++a.toList.drop (128+(B9 b).size)).toArray)[128+k]?=(B9 b)[k]?:=by
 have g:=h.size;have f:=Iv b;have lo:∀{j:Nat} {v:J},j<128->a[j]?=K v->((a.toList.take 128++(B9 b).toList++a.toList.drop (128+(B9 b).size)).toArray)[j]?=K v:= λ{j v} l h=>by rw[i5,kS,kL oT,m9 l];simpa using h
 refine⟨⟨lo oM h.c0,lo oM h.c1,lo oM h.c2,lo oM h.c3,lo oM h.c4,lo oM h.c5,lo oM h.c6,lo oM h.c7, λk v e=>lo (by have:=(jS.1 e).1;rw[JC]at this;omega) (h.rows k v e),by simp[f,g]⟩, λk e=> ?_⟩;have m:(a.toList.take 128).length=128:=by rw[kp,Array.length_toList,g];rfl
 rw[i5,kS,jX oM,m,lO,kL (by rw[Array.length_toList,f];exact e)];simp
end Go.Proofs.YtkgohaigebcgoaaGreatDoor
