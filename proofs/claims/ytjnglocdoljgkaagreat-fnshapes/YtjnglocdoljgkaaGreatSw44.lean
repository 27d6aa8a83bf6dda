import Derived.Test.YtjnglocdoljgkaaGreatSw43
namespace Go.Proofs.YtjnglocdoljgkaaGreat
open Go.ChangeShapes Go.WideShapes Go.ChangeAt Go.RowKit
set_option linter.unusedVariables false
open Go.Value renaming slice → Z,int → Ac
open Option renaming some → K,none → M
open Go renaming World → Y,Calls → Ae,Value → J,TypeId → Af
open Go.RowKit renaming Hid → Aa,Below → Ad
open Go.IntKind renaming i64 → Ab
set_option maxHeartbeats 4000000
set_option maxRecDepth 100000
variable {u U w:Y}{a:Act}{B n GS GF c b X:Nat}{V l g m p z3 q i j row:J}{sh:List Int}{f:MF}{r:Fy}{k:List J}{s:WS}{v:VP}{o:Oper}{Q:Exit->Act->Y->Prop}{x:MI}{e:List (List Int)}{ad:Addr}
theorem Jd(g:VF)(f:MF)(w:Y)(q:Dt w g f):
 Ae Tryz.prog 18 #[.agg #[g.p,Ac Ab f.gz,g.l,g.c]] w (Dp w (AV f)):=by
 obtain⟨a,b,e,i,j,m,rfl⟩:=C5 q;by_cases h:f.gz=0
 . (have h2:(f.gz==0)=true:=by simpa using h);have n:Aa (AV f=[]):=lS h;clear h;go_enter Tryz.func18,Tryz.ntmps18;go_wp2_with fail;rw[n.o];have k:=EO (Ag w (.cells #[Z a f.d5 b,Ac Ab f.gz,Z e f.en i,Z j f.ch m] 51)) [] 0 0 rfl;rw[show(w.alloc (.cells #[Z a f.d5 b,Ac Ab f.gz,Z e f.en i,Z j f.ch m] 51)).heap.size= ↑w+1 from sP]at k
   exact kY (v:=Z (K ⟨(w:Nat)+1,0,M⟩) 0 0) (by simp[results,Tryz.results18,go_sem]) rfl k
 have h2:(f.gz==0)=false:=by simpa using h
 have n:Aa (AV f=[f.gz]):=lE h;clear h;go_enter Tryz.func18,Tryz.ntmps18;go_wp2_with fail;rw[n.o];have k:=EO (Ag w (.cells #[Z a f.d5 b,Ac Ab f.gz,Z e f.en i,Z j f.ch m] 51)) [f.gz] 1 1 rfl;rw[show(w.alloc (.cells #[Z a f.d5 b,Ac Ab f.gz,Z e f.en i,Z j f.ch m] 51)).heap.size= ↑w+1 from sP]at k
 exact kY (v:=Z (K ⟨(w:Nat)+1,0,M⟩) 1 1) (by simp[results,Tryz.results18,go_sem]) rfl k
def Cm(u:Y)(B:Nat)(V:J)(sh:List Int):Prop:=u.ownsRow B 2 1 V sh (sh.flatMap Ah)
theorem Cm.bM{a:Y}(h:Cm u B V sh)(b:Ad u u a):Cm a B V sh:=Am h b lR
theorem Cm.set(h:Cm u B V sh){a:Addr}(b:a.block<B)(x:J):Cm (u.setCell a x) B V sh:=lL h b x
theorem Cm.nil(u:Y)(B:Nat):Cm u B sN []:=lq _ _ _ _
structure TyB(FB OB GS GC GF B:Nat):Prop where
 h3:FB<GS
 h4:GS<OB
 h5:OB<GC
 h6:GC<GF
 h7:GF<B
structure Hp(U u:Y)(n:Nat)(OB GS GC GF B:Nat)(r:Fy)(z1 z2 z3 z4:J)(RS RF:List J)(s:WS):Prop where
 lb:Ar u U #[iZ r.ch,iZ r.at_,z1,z2,z3,z4] 45
 ob:Ar u OB #[iZ 0,iZ 0,iZ (s.d:Int),sG GS n n] 32
 sa:u.ownsRow U 36 1 (sG GS n n) n RS
 ca:u.ownsRow U 4 1 (sG GC r.ej r.ej) r.ej ((List.range r.ej).map λb=>Value.bool (s.c b).isSome)
 fa:u.ownsRow U 36 1 (sG GF r.ej r.ej) r.ej RF
 sl: ↑RS=n
 fl:RF.length= ↑r.ej
 rs:∀(j:Nat) (V:J),RS[j]?=K V->Cm u B V (s.t j)
 jI:∀(b:Nat) (V:J),RF[b]?=K V->Cm u B V ((s.c b).getD [])
 gG:Ad U U u
 tb:TyB U OB GS GC GF B
 sz:B<= ↑u
theorem Hp.bM{l:Y}{g f:Nat}{i:List J}(h:Hp U u n g GS f GF B r m p z3 q k i s)(a:Ad u u l):Hp U l n g GS f GF B r m p z3 q k i s:=⟨h.lb.bM a,h.ob.bM a,Am h.sa a lR,Am h.ca a lR,Am h.fa a lR,h.sl,h.fl, λj V e=>(h.rs j V e).bM a, λb V e=>(h.jI b V e).bM a,Ai h.gG lR a,h.tb,kT h.sz a.size⟩
theorem Fm(u:Y)(a:Addr)(x:J):(u.setCell a x).heap.size=u.heap.size:=sP
theorem Hp.jf{k g:Nat}{a l:List J}(h:Hp U u n k GS g GF B r m p z3 q a l s){j:Nat}(v:Cm u B V sh):Hp U (u.setCell ⟨GS,j,M⟩ V) n k GS g GF B r m p z3 q (a.set j V) l ⟨s.c,CE s.t j sh,s.d⟩:=by
 have z:=h.tb.h3;have A:=h.tb.h4;have C:=h.tb.h5;have D:=h.tb.h6;have E:=h.tb.h7;refine⟨h.lb.other oS V,h.ob.other oS V,(h.sa.stored j V).1,kO h.ca (by simp[Value.ownBlock];omega) V,kO h.fa (by simp[Value.ownBlock];omega) V,by rw[mU];exact h.sl,h.fl, λi W e=> ?_, λb W e=>(h.jI b W e).set oS V,h.gG.setCell oS V,h.tb,by rw[Fm];exact h.sz⟩;simp only[CE];by_cases f:i=j
 . subst f;(have y:i<a.length:=by have:=(iV.1 e).1;rw[mU]at this;exact this);rw[mG y]at e;(cases e);rw[lS rfl];exact v.set oS V
 rw[mC (λe=>f e.symm)]at e;rw[lE f];exact(h.rs i W e).set oS V
theorem Hp.jq{a f:Nat}{j g:List J}(h:Hp U u n a GS f GF B r l m z3 p j g s)(d:Nat):Hp U (u.setCell ⟨a,2,M⟩ (iZ (d:Int))) n a GS f GF B r l m z3 p j g ⟨s.c,s.t,d⟩:=by have q:=h.tb.h3;have v:=h.tb.h4;have y:=h.tb.h5;have z:=h.tb.h6;have A:=h.tb.h7;have k:=h.ob.set 2 (iZ (d:Int));simp only[kV,lI,lM]at k;exact⟨h.lb.other oS _,k,kO h.sa (by simp[Value.ownBlock];omega) _,kO h.ca (by simp[Value.ownBlock];omega) _,kO h.fa (by simp[Value.ownBlock];omega) _,h.sl,h.fl, λi W e=>(h.rs i W e).set oS _, λb W e=>(h.jI b W e).set oS _,h.gG.setCell oS _,h.tb,by rw[Fm];exact h.sz⟩
theorem Hp.ix{l j:Nat}{v:J}{m:List J}(h:Hp U u n l GS j GF B r p q z3 v m k s){t:Nat}(y:Cm u B V sh):Hp U ((u.setCell ⟨j,t,M⟩ (.bool true)).setCell ⟨GF,t,M⟩ V) n l GS j GF B r p q z3 v m (k.set t V) ⟨Fv s.c t sh,s.t,s.d⟩:=by
 have A:=h.tb.h3;have C:=h.tb.h4;have D:=h.tb.h5;have E:=h.tb.h6;have F:=h.tb.h7;have c1:=(h.ca.stored t (.bool true)).1;have f1:=kO h.fa (a:=⟨j,t,M⟩) (by simp[Value.ownBlock];omega) (.bool true);have z:=kO h.sa (a:=⟨j,t,M⟩) (by simp[Value.ownBlock];omega) (.bool true);refine⟨(h.lb.other oS _).other oS _,(h.ob.other oS _).other oS _,kO z (by simp[Value.ownBlock];omega) _,?_,(f1.stored t V).1,h.sl,by rw[mU];exact h.fl, λi W e=>((h.rs i W e).set oS _).set oS _, λb W e=> ?_,(h.gG.setCell oS _).setCell oS _,h.tb,by rw[Fm,Fm];exact h.sz⟩
 . have c2:=kO c1 (a:=⟨GF,t,M⟩) (by simp[Value.ownBlock];omega) V;have e:(((List.range r.ej).map λb=>Value.bool (s.c b).isSome).set t (.bool true))=(List.range r.ej).map λb=>Value.bool (Fv s.c t sh b).isSome:=by
    apply mV;intro i;by_cases f:i=t
    . subst f;by_cases g:i< ↑r.ej
      . rw[mG (by simpa using g)];simp[Fv,g]
      rw[lB oT,lB oT]
    rw[mC (λe=>f e.symm)];simp only[lG];by_cases g:i< ↑r.ej
    . simp[Fv,g,f]
    simp[g]
   rw[<-e];exact c2
 simp only[Fv];by_cases f:b=t
 . subst f;(have g:b<k.length:=by have:=(iV.1 e).1;rw[mU]at this;exact this);rw[mG g]at e;(cases e);rw[lS rfl];exact(y.set oS _).set oS _
 rw[mC (λe=>f e.symm)]at e;rw[lE f];exact((h.jI b W e).set oS _).set oS _
theorem Tm(ty:Af)(u:Y)(B l:Nat)(V:J)(sh:List Int)(h:Cm u B V sh)(p:l<= ↑u)(O:sh.length<=1048576):∃v' b,(Builtin.append_ #[36,36] ty #[sG u 0 0,V]).run Tryz.prog (u.alloc (.cells #[] 2))=.ok v' b/\Cm b l v' sh/\Ad u u b:=by
 obtain⟨y,s,H,I,L⟩:=lU Bt;have k:(u.alloc (.cells #[] 2)).ownsRow u 2 1 (sG u 0 0) 0 []:=⟨rfl,.inr ⟨u,0,#[],rfl,Nat.le_refl _,nJ _ _,Nat.le_refl _,mu _,rfl,sP⟩⟩;obtain⟨a,c,rfl⟩:=Az h;have t:=(Rd.gM h);cases a with
 | none=>
   have G:sh.length=0:=by
    rcases t.2 with⟨e0,_⟩|⟨g,o,c,f,_⟩
    . exact e0
    cases f
   have z:sh=[]:=lP G;subst z;refine⟨_,_,Db (P:=Tryz.prog) u 36 ty 2 y 1 Tryz.underlying36 s _ _ _ k c,?_,Ag _ _⟩;exact Bb k p
 | some ad=>
   have C:∀j v,(sh.flatMap Ah)[j]?=K v->(u.alloc (.cells #[] 2)).cell? (ad.add j)=K v:= λj v i=>by
    rcases t.2 with⟨e0,_⟩|⟨g,o,c,f,D⟩
    . have:sh=[]:=lP e0;subst this;simp at i
    simp only[jc,kK]at f;obtain⟨rfl,_⟩:=f;have:=D j v i;rw[Da,(Ag u (.cells #[] 2)).cell (jC this)];exact this
   obtain⟨v',b,F,h2,A,N⟩:=run_append_own (P:=Tryz.prog) (u.alloc (.cells #[] 2)) u 36 ty 2 y (iZ 0) 1 8 Tryz.underlying36 s H I L rfl dC _ 0 [] k ad sh c (sh.flatMap Ah) (by rw[Au Ah 1 Ao]) C (BZ _) oX oM (Ag _ _).size;refine⟨v',b,F,Bb (by simpa using h2) p,(Ag u (.cells #[] 2)).grown A (Ag _ _).size (λj i=>(k.lt j i).1)⟩
theorem RI{f:Act->Y->Prop}(s x:Operand)(k:o.op=.call {callee:=.builtin .append,args:=#[s,x],argTypes:=#[36,36]})(u:Y)(B e:Nat)(V:J)(sh:List Int)(m:a.eval s=sG u 0 0)(n:a.eval x=V)(h:Cm u B V sh)(g:e<= ↑u)(j:sh.length<=1048576)(i:∀v' b,Cm b e v' sh->Ad u u b->f (a.put o.dst v') b):o.wp Tryz.prog a (u.alloc (.cells #[] 2)) f Q:=by obtain⟨v',b,l,h1,h2⟩:=Tm o.type u B e V sh h g j;exact Lib.wp_append_run _ s x 36 36 k _ _ m n v' b l (i v' b h1 h2)
theorem Ps{f:Array Oper}{rest:List Oper}(k:o.guard=M)(s x:Operand)(m:o.op=.call {callee:=.builtin .append,args:=#[s,x],argTypes:=#[36,36]})(u:Y)(B e:Nat)(V:J)(sh:List Int)(n:a.eval s=sG u 0 0)(p:a.eval x=V)(h:Cm u B V sh)(g:e<= ↑u)(l:sh.length<=1048576)(i:∀v' b,Cm b e v' sh->Ad u u b->wpList Tryz.prog f Q rest (a.put o.dst v') b):wpList Tryz.prog f Q (o::rest) a (u.alloc (.cells #[] 2)):=wpList_plain k λ_ j=>RI s x m u B e V sh n p h g l λv' b h1 h2=>j _ _ (i v' b h1 h2)
theorem SQ{g:Array Oper}{f:Act->Y->Prop}{E:Prop}(k:o.guard=M)(s x:Operand)(m:o.op=.call {callee:=.builtin .append,args:=#[s,x],argTypes:=#[36,36]})(u:Y)(B b:Nat)(V:J)(sh:List Int)(n:a.eval s=sG u 0 0)(q:a.eval x=V)(h:Cm u B V sh)(i:b<= ↑u)(l:sh.length<=1048576)(j:∀v' e,Cm e b v' sh->Ad u u e->f (a.put o.dst v') e):if Region.wanted o (yielded g a.tmps)=true then Oper.wp Tryz.prog o a (u.alloc (.cells #[] 2)) f Q else E:=by
 have p:Region.wanted o (yielded g a.tmps)=true:=by simp[Region.wanted,k]
 rw[lS p];exact RI s x m u B b V sh n q h i l j
theorem Nf{a:Option Addr}{p:List MB}(h:Ic u (Z a n c) p){k:Nat}{m:MB}(l:p[k]?=K m):∃g o b f,a=K ⟨g,o,M⟩/\u.cell? ⟨g,o+k*3,M⟩=K (iZ m.gK)/\u.cell? ⟨g,o+k*3+1,M⟩=K (iZ m.last)/\u.cell? ⟨g,o+k*3+2,M⟩=K (Z b m.next f)/\UO u (Z b m.next f) m:=by
 obtain⟨xs,h1,h2,y⟩:=h;have D:=(iV.1 l).1;obtain⟨⟨E,F⟩,i,r⟩:∃x,xs[k]?=K x/\x.1=m:=by rw[<-h1,lG]at l;exact mK.1 l
 simp only[]at r;subst r;have q:=y _ (i8 i);obtain⟨b,f,t⟩:=Rd.fu q;simp only[]at t;subst t;rcases h2.2 with⟨e,_⟩|⟨v,B,C,e,j⟩
 . omega
 simp only[jc]at e;have s:=Rd.elem Bh j k _ i 0 _ rfl;have z:=Rd.elem Bh j k _ i 1 _ rfl;have A:=Rd.elem Bh j k _ i 2 _ rfl;rw[kZ]at s;exact⟨v,B,b,f,e.1,s,z,A,q⟩
theorem VC{f:J}(h:Dg w f j i g r):∃v1 p c1 v2 s c2 v3 t c3 b y c4,f=Z v1 p c1/\j=Z v2 s c2/\i=Z v3 t c3/\g=Z b y c4:=by
 obtain⟨v1,c1,k⟩:∃a c,f=Z a r.ej c:=by obtain⟨_,_,h2,_⟩:=h.ej;exact h2.fu
 obtain⟨v2,c2,l⟩:=h.gJ.fu;obtain⟨v3,c3,e3⟩:=h.gS.fu;obtain⟨b,c4,e4⟩:∃a c,g=Z a r.gI c:=by obtain⟨_,_,h2,_⟩:=h.gI;exact h2.fu
 exact⟨v1,_,c1,v2,_,c2,v3,_,c3,b,_,c4,k,l,e3,e4⟩
theorem Mn(c a:Int)(b e f g:Option Addr)(h c1 i c2 j c3 k c4:Nat)(W:Y):(Instr.field 45 (.agg #[Ac Ab c,Ac Ab a,Z b h c1,Z e i c2,Z f j c3,Z g k c4]) 0).run Tryz.prog W=.ok (Ac Ab c) W:=kR
theorem QU(f:MF):(AV f).length<=1048576:=by unfold AV;split<;>simp
theorem Hv:AR x=true↔FZ x.op:=by unfold FZ;simp[AR,or_assoc]
structure VV(w u:World)(v:VP)(g:VF)(f:MF)(Y:Nat)(shv:J)(shs:List (List Int)):Prop where
 pb:Ar u w #[v.r,v.k,v.f,v.t] 28
 fb:Ar u Y #[g.p,Ac Ab f.gz,g.l,g.c] 51
 rf:Dt u g f
 rs:Dm u shv shs
 gG:Ad w w u
theorem VV.bM{j:Y}{g:VF}(h:VV w u v g f b i e)(a:Ad u u j):VV w j v g f b i e:=⟨h.pb.bM a,h.fb.bM a,h.rf.bM a lR,h.rs.bM a lR,Ai h.gG lR a⟩
structure Q8(w u:World)(v:VP)(g:VF)(f:MF)(Y:Nat)(shv:J)(shs:List (List Int))(X:Nat)(x:MI)(ad:Addr)(row:J)(sh:List Int):Prop where
 sp:VV w u v g f Y shv shs
 xb:Ar u X #[Ac Ab x.op,Ac Ab x.a,Ac Ab x.b,Ac Ab x.c] 60
 at_:u.cell? ad=K row
 rd:Rd u 1 row sh (sh.flatMap Ah)
theorem Q8.bM{j:Y}{g:VF}(h:Q8 w u v g f b i e X x ad row sh)(a:Ad u u j):Q8 w j v g f b i e X x ad row sh:=⟨h.sp.bM a,h.xb.bM a,AS a h.at_,h.rd.bM a lR⟩
theorem Q8.jO{e b:J}{a:Nat}{i:List (List Int)}(h:Q8 w u v ⟨g,e,b⟩ f a j i X x ad row sh):u.cell? ad=K row/\u.cell? a=K g/\u.cell? ⟨a,1,M⟩=K (Ac Ab f.gz)/\u.cell? ⟨a,2,M⟩=K e/\u.cell? ⟨a,3,M⟩=K b:=⟨h.at_,h.sp.fb.cell 0,h.sp.fb.cell 1,h.sp.fb.cell 2,h.sp.fb.cell 3⟩
theorem Q8.args{vk k:J}{e:Nat}{n:List (List Int)}(h:Q8 w u ⟨l,vk,k,m⟩ ⟨j,i,g⟩ f e p n X x ad row sh):u.cell? ad=K row/\u.cell? e=K j/\u.cell? ⟨e,1,M⟩=K (Ac Ab f.gz)/\u.cell? ⟨e,2,M⟩=K i/\u.cell? ⟨e,3,M⟩=K g/\u.cell? w=K l/\u.cell? ⟨w,1,M⟩=K vk/\u.cell? ⟨w,2,M⟩=K k/\u.cell? ⟨w,3,M⟩=K m/\u.cell? X=K (Ac Ab x.op)/\u.cell? ⟨X,1,M⟩=K (Ac Ab x.a)/\u.cell? ⟨X,2,M⟩=K (Ac Ab x.b)/\u.cell? ⟨X,3,M⟩=K (Ac Ab x.c):=⟨h.at_,h.sp.fb.cell 0,h.sp.fb.cell 1,h.sp.fb.cell 2,h.sp.fb.cell 3,h.sp.pb.cell 0,h.sp.pb.cell 1,h.sp.pb.cell 2,h.sp.pb.cell 3,h.xb.cell 0,h.xb.cell 1,h.xb.cell 2,h.xb.cell 3⟩
theorem Ea{a:Option Addr}{p:List (List Int)}(h:Dm u (Z a n c) p)(B:n= ↑p){i:Nat}(b:p[i]?=K sh):∃j k l g,a=K ⟨j,k,M⟩/\u.cell? ⟨j,k+i,M⟩=K (Z l sh g)/\Rd u 1 (Z l sh g) sh (sh.flatMap Ah)/\ ↑sh<=g:=by
 obtain⟨xs,h1,h2,s⟩:=h;have A:=(iV.1 b).1;obtain⟨x,f,y⟩:∃x,xs[i]?=K x/\x.1=sh:=by
  rw[<-h1,lG]at b;cases f:xs[i]? with
  |none=>rw[f]at b;cases b
  |some x=>rw[f]at b;exact⟨x,rfl,kN b⟩
 subst y;rcases h2.2 with⟨e,_⟩|⟨j,k,z,e,t⟩
 . omega
 simp only[jc]at e;have m:=Rd.elem AY t i _ f 0 _ rfl;rw[lr,kZ]at m;obtain⟨q,l,g,r,v⟩:=s x (i8 f);rw[r]at m q;exact⟨j,k,l,g,e.1,m,q,v⟩
theorem LB{q:Prop}(h:q:=by go_wp2_with fail;go_ret;exact⟨⟨false,rfl, λe=>(by cases e), λe=>absurd e HN.o⟩,E5.o.gG⟩):q:=h
theorem LC{q:Prop}(h:q:=by go_wp2_with fail;go_ret;exact⟨⟨false,rfl, λe=>(by cases e), λe=>absurd e HN.o⟩,E2.o.2⟩):q:=h
theorem PP{q:Prop}(h:q:=by go_wp2_with fail;go_ret;exact⟨⟨false,rfl, λe=>(by cases e), λe=>absurd e HN.o⟩,HI.o.2.gG⟩):q:=h
theorem Lu (v : VP) (p : MP)(fi:Int)(bp:J)(j:List (List Int))(w:Y)(hs:p.small)(hw:p.wf)(bK:CO fi)(h:Cz w v p)(hl:j.length<=1048576)(bO:∀r∈j,r.length<=1048576)(hr:Dm w bp j):
 Ae Tryz.prog 8 #[.agg #[v.r,v.k,v.f,v.t],Ac Ab fi,bp] w λe F=>AC e (B8 p fi j)/\Ad w w F:=by
 obtain⟨A,C,z,l,D,E,f1,f3,rfl⟩:=h.sl;obtain⟨ha,hc,rfl⟩:∃a c,bp=Z a j c:=by obtain⟨_,_,h2,_⟩:=hr;exact h2.fu
 have H:Aa (p.small/\p.wf/\CO fi/\Cz w ⟨Z A p.a7 C,Z z p.aC l,Z f1 p.cC f3,Z D p.dr E⟩ p/\Dm w (Z ha j hc) j/\j.length<=1048576/\∀r∈j,r.length<=1048576):=⟨hs,hw,bK,h,hr,hl,bO⟩
 clear hs hw bK h hr hl bO;have b0:=Ag w (.cells #[Z A p.a7 C,Z z p.aC l,Z f1 p.cC f3,Z D p.dr E] 28);have E0:Aa (Ar (w.alloc (.cells #[Z A p.a7 C,Z z p.aC l,Z f1 p.cC f3,Z D p.dr E] 28)) w #[Z A p.a7 C,Z z p.aC l,Z f1 p.cC f3,Z D p.dr E] 28/\Ad w w (w.alloc (.cells #[Z A p.a7 C,Z z p.aC l,Z f1 p.cC f3,Z D p.dr E] 28))):=⟨Ar.new _ _ _,b0⟩
 clear b0;go_enter Tryz.func8,Tryz.ntmps8;go_upto_region 1 with fail
 refine An (λu=>Aa (Ar u w #[Z A p.a7 C,Z z p.aC l,Z f1 p.cC f3,Z D p.dr E] 28/\Ad w w u)) E0 ?_
 rintro U0 E1;clear E0;have p0:=E1.o.1.cell 0;have p1:=E1.o.1.cell 1;have p2:=E1.o.1.cell 2;have p3:=E1.o.1.cell 3;simp only[kL,jt,kI]at p0 p1 p2 p3;go_wp2_with fail;refine(CZ ⟨Z A p.a7 C,Z z p.aC l,Z f1 p.cC f3,Z D p.dr E⟩ p U0 H.o.1 H.o.2.1 (H.o.2.2.2.1.bM E1.o.2 lR)).mono ?_;rintro e u1 ⟨⟨n,rfl,hn⟩,b1⟩;have E2:Aa (Ar u1 w #[Z A p.a7 C,Z z p.aC l,Z f1 p.cC f3,Z D p.dr E] 28/\Ad w w u1):=⟨E1.o.1.bM b1,Ai E1.o.2 lR b1⟩
 clear b1 E1 p0 p1 p2 p3;clear U0;have p2:=E2.o.1.cell 2;simp only[kL,jt,kI]at p2;by_cases bf:n=0
 . subst bf;have aG:Aa (A8 p 0):=hn;clear hn;by_cases cI:fi<0
   . (have HN:Aa (¬B8 p fi j):= λe=>absurd e.2.1 oM);(have cY:decide (fi<0)=true:=by simpa using cI);exact LC
   by_cases cZ:(p.cC:Int)<=fi
   . (have HN:Aa (¬B8 p fi j):= λe=>by obtain⟨f,hf,_⟩:=e.2.2;have:=(iV.1 hf).1;omega);exact LC
   . obtain ⟨q, rfl⟩ := kU (show 0<=fi from oM);obtain⟨f,hf⟩:∃f,p.cC[q]?=K f:=⟨_,an oM⟩;have bC:=(H.o.2.2.2.1.bM E2.o.2 lR).cC;obtain⟨gk,ok,ck,bH,g,bi,m0,m1,m2,m3⟩:=GO bC hf;simp only[jc,lO]at bH;obtain⟨rfl,rfl⟩:=bH;obtain⟨Q,R,S,T,g7,P,rfl⟩:=C5 bi;have d9:(q:Int)<(p.cC:Int):=oM;have HF:Aa (p.cC[q]?=K f/\f.small/\Cd f/\f.wf):=⟨hf,H.o.1.func f (i8 hf),aG.o.parts.2.2.1.2.2.1 q (iV.1 hf).1 f hf,H.o.2.1.cC f (i8 hf)⟩
     (have E3:Aa (VV w (u1.alloc (.cells #[Z Q f.d5 R,Ac Ab f.gz,Z S f.en T,Z g7 f.ch P] 51)) ⟨Z A p.a7 C,Z z p.aC l,Z (K ⟨gk,ok,M⟩) p.cC f3,Z D p.dr E⟩ ⟨Z Q f.d5 R,Z S f.en T,Z g7 f.ch P⟩ f u1 (Z ha j hc) j):=by have b2:=Ag u1 (.cells #[Z Q f.d5 R,Ac Ab f.gz,Z S f.en T,Z g7 f.ch P] 51);exact⟨E2.o.1.bM b2,Ar.new _ _ _,bi.bM b2 lR,(H.o.2.2.2.2.1.bM E2.o.2 lR).bM b2 lR,Ai E2.o.2 lR b2⟩);clear bC bi hf;(go_upto_region 4 with fail);generalize u1.heap.size=N at E3⊢;refine An (λu=>Aa (VV w u ⟨Z A p.a7 C,Z z p.aC l,Z (K ⟨gk,ok,M⟩) p.cC f3,Z D p.dr E⟩ ⟨Z Q f.d5 R,Z S f.en T,Z g7 f.ch P⟩ f N (Z ha j hc) j)) E3 ?_;rintro U E4;clear E3 E2 m0 m1 m2 m3 p2;clear u1;have y3:=E4.o.fb.cell 3;simp only[kL,jt,kI]at y3;go_wp2_with fail;refine(DT (Z g7 f.ch P) f.ch U HF.o.2.1.2.2 E4.o.rf.2.2).mono ?_;rintro e u2 ⟨r,vb,vo,vi,vl,rfl,aY,bS,b2⟩;obtain⟨v1,n1,c1,v2,n2,c2,v3,n3,c3,v4,n4,c4,rfl,rfl,rfl,rfl⟩:=VC bS;have cJ:=Mn r.ch r.at_ v1 v2 v3 v4 n1 c1 n2 c2 n3 c3 n4 c4;clear bS;have E5:Aa (VV w u2 ⟨Z A p.a7 C,Z z p.aC l,Z (K ⟨gk,ok,M⟩) p.cC f3,Z D p.dr E⟩ ⟨Z Q f.d5 R,Z S f.en T,Z g7 f.ch P⟩ f N (Z ha j hc) j):=E4.o.bM b2;clear b2 E4 y3;clear U;by_cases aw:r.ch=0
     . have cM := Mn 0 r.at_ v1 v2 v3 v4 n1 c1 n2 c2 n3 c3 n4 c4;have bY:Aa (IJ f.ch):=⟨r,aY,aw⟩;clear aY;(have cG:(r.ch != 0)=false:=by simpa using aw);by_cases aZ:j.length= ↑f.ch
       . (have bR : 0 < j.length:=by have:=HF.o.2.2.1.iG;omega);obtain⟨aT,bj⟩:∃s,j[0]?=K s:=⟨_,an bR⟩;obtain⟨V,oo,sa,sc,cj,j0,aR,_⟩:=Ea E5.o.rs rfl bj;subst cj;rw[kZ]at j0;have bF:Aa (j[0]?=K aT):=bj;have cU:(0:Int)<(j:Int):=oM;have bP:((j:Int) != (f.ch:Int))=false:=oT;have aq:Aa (j.length= ↑f.ch/\0<j.length):=⟨aZ,bR⟩
         clear bj aR aZ;by_cases hz:aT.length=0
         . (have bT : ((aT :Int) != 0)=false:=by simp;exact lP hz);(have HZ:Aa (j[0]?=K []):=by have:=bF.o;rw[lP hz]at this;exact this);go_wp2_with fail;clear j0 hz bT cJ cM bP cU;go_loopw [9,10,11,12] (λi _ _ _ wr=>∃k:Nat,k<= ↑f.ch/\i=Ac Ab (k:Int)/\Aa ((∀(i:Nat) x sh,i<k->f.ch[i]?=K x->j[i]?=K sh->C7 p f j i x sh)/\VV w wr ⟨Z A p.a7 C,Z z p.aC l,Z (K ⟨gk,ok,M⟩) p.cC f3,Z D p.dr E⟩ ⟨Z Q f.d5 R,Z S f.en T,Z g7 f.ch P⟩ f N (Z (K ⟨V,oo,M⟩) j hc) j)) (λi _ _ _ _=> ↑f.ch-(intOf i).toNat)
           (case atStart=>exact⟨0,oM,rfl, λi x sh hi=>absurd hi oM,E5.o⟩);clear E5;obtain⟨k,hk,rfl,HI⟩:=hrel;by_cases cT:k< ↑f.ch
           . obtain ⟨x, hx⟩:∃x,f.ch[k]?=K x:=⟨_,an cT⟩;obtain⟨sh,aS⟩:∃s,j[k]?=K s:=⟨_,an (by have:=aq.o.1;omega)⟩;obtain⟨bI,bV,ae,a8,e',j0,aR,bJ⟩:=Ea HI.o.2.rs rfl aS;simp only[kK,mA,mg]at e';obtain⟨rfl,rfl⟩:=e';obtain⟨gi,oi,ci,ei,i0,i1,i2,i3⟩:=KL HI.o.2.rf.2.2 hx;simp only[jc,lO]at ei;obtain⟨rfl,rfl⟩:=ei;have L:Aa (f.ch[k]?=K x/\j[k]?=K sh):=⟨hx,aS⟩
             have HR:Aa (Rd wr 1 (Z ae sh a8) sh (sh.flatMap Ah)/\ ↑sh<=a8/\sh.length<=1048576):=⟨aR,bJ,H.o.2.2.2.2.2.2 sh (i8 aS)⟩
             have d6:(k:Int)<(f.ch:Int):=oM;have cX:f.ch.length<=1024:=HF.o.2.2.1.js;(have d7:(k:Int)<(j:Int):=by have:=aq.o.1;omega);clear hx aS aR bJ;have y3:=HI.o.2.fb.cell 3;simp only[kL,jt,kI]at y3;go_wp2_with fail;refine(FE (Z ae sh a8) sh wr HR.o.2.2 HR.o.1).mono ?_;rintro e u9 ⟨rfl,rfl⟩;cases hty:sh.all DC with
             | false=>(have HN:Aa (¬B8 p q j):= λe=>by obtain⟨f',m,_,h5⟩:=e.2.2;rw[kM,HF.o.1]at m;obtain rfl:=kN m;have h6:=h5.all k x sh L.o.1 L.o.2;exact absurd (hty.symm.trans h6.types) dC);exact PP
             | true =>
               have bG:Aa (sh.all DC=true):=hty;by_cases cD:64<sh.length
               . have cE:(64:Int)<(sh:Int):=oM;(have HN:Aa (¬B8 p q j):= λe=>by obtain⟨f',m,_,h5⟩:=e.2.2;rw[kM,HF.o.1]at m;obtain rfl:=kN m;have h6:=h5.all k x sh L.o.1 L.o.2;have:=h6.j4;omega);exact PP
               have cE:¬(64:Int)<(sh:Int):=oM;(have bq:Aa (sh.length<=64):=by show sh.length<=64;omega);clear cD hty;(go_upto_region 13 with fail);(have E6:Aa (Q8 w (u9.alloc (.cells #[Ac Ab x.op,Ac Ab x.a,Ac Ab x.b,Ac Ab x.c] 60)) ⟨Z A p.a7 C,Z z p.aC l,Z (K ⟨gk,ok,M⟩) p.cC f3,Z D p.dr E⟩ ⟨Z Q f.d5 R,Z S f.en T,Z (K ⟨gi,oi,M⟩) f.ch P⟩ f N (Z (K ⟨V,oo,M⟩) j hc) j u9 x ⟨V,oo+k,M⟩ (Z ae sh a8) sh):=by have b3:=Ag u9 (.cells #[Ac Ab x.op,Ac Ab x.a,Ac Ab x.b,Ac Ab x.c] 60);exact⟨HI.o.2.bM b3,Ar.new _ _ _,AS b3 j0,HR.o.1.bM b3 lR⟩);have bz:Aa (∀(i:Nat) x sh,i<k->f.ch[i]?=K x->j[i]?=K sh->C7 p f j i x sh):=HI.o.1;have aU:Aa (↑sh<=a8/\sh.length<=1048576):=HR.o.2
               clear HI HR j0 i0 i1 i2 i3 y3;generalize u9.heap.size=X at E6⊢;refine An (λu=>Aa (Q8 w u ⟨Z A p.a7 C,Z z p.aC l,Z (K ⟨gk,ok,M⟩) p.cC f3,Z D p.dr E⟩ ⟨Z Q f.d5 R,Z S f.en T,Z (K ⟨gi,oi,M⟩) f.ch P⟩ f N (Z (K ⟨V,oo,M⟩) j hc) j X x ⟨V,oo+k,M⟩ (Z ae sh a8) sh)) E6 ?_;rintro U G;clear E6;have x0:=G.o.xb.cell 0;simp only[kL,jt]at x0;by_cases aE:x.op=29
               . (have cA:(x.op==29)=true:=by simpa using aE);have ao:Aa (x.op=29):=aE;clear aE;(go_upto_region 14 with fail);have D1:Aa (Ad U U U):=lQ _ _;have D0:Aa (Ad U U U.drew):=Aj _;have KS:=(G.o.bM (Aj _)).jO;go_region_held3 (λF=>F.cell? ⟨V,oo+k,M⟩=K (Z ae sh a8)/\F.cell? N=K (Z Q f.d5 R)/\F.cell? ⟨N,1,M⟩=K (Ac Ab f.gz)/\F.cell? ⟨N,2,M⟩=K (Z S f.en T)/\F.cell? ⟨N,3,M⟩=K (Z (K ⟨gi,oi,M⟩) f.ch P)) (first|with_reducible exact KS|exact(G.o.bM (by(repeat' (first|with_reducible exact Hid.o (by assumption)|(with_reducible refine Ai ?_ lR (Ag _ _))|(with_reducible refine Ai ?_ lR (Aj _)))))).jO) (first
                  |(go_at_call 18;refine(Jd ⟨Z Q f.d5 R,Z S f.en T,Z (K ⟨gi,oi,M⟩) f.ch P⟩ f _ ?_).mono ?_;exact G.o.sp.rf.bM (B:=U) (by(repeat' (first|with_reducible exact Hid.o (by assumption)|(with_reducible refine Ai ?_ lR (Ag _ _))|(with_reducible refine Ai ?_ lR (Aj _))))) lR;rintro e l ⟨s5,rfl,bg,aH⟩;obtain⟨a5,c5,rfl⟩:=bg.fu;have B3:Aa (Ad U U l):=Ai (by(repeat' (first|with_reducible exact Hid.o (by assumption)|(with_reducible refine Ai ?_ lR (Ag _ _))|(with_reducible refine Ai ?_ lR (Aj _))))) lR aH;have O3:Aa (Rd l 1 (Z a5 (AV f).length c5) (AV f).length ((AV f).flatMap Ah)):=bg;have KS:=(G.o.bM B3.o).jO;clear bg aH)
                  |(go_at_call 17;have hh:=B3;clear hh;refine(Dv (Z ae sh a8) (Z a5 (AV f).length c5) sh (AV f) _ aU.o.2 (QU f) ?_ ?_).mono ?_;exact G.o.rd.bM (B:=U) (by(repeat' (first|with_reducible exact Hid.o (by assumption)|(with_reducible refine Ai ?_ lR (Ag _ _))|(with_reducible refine Ai ?_ lR (Aj _))))) lR;exact O3.o;rintro e k4 ⟨⟨O,rfl,au⟩,cW⟩;have ah:Aa (O=true↔sh=AV f):=au;obtain⟨m4,rfl⟩:=cW;have B4:Aa (Ad U U (l.drewN m4)):=B3.o.trans (As _ _ _);clear au))
                 all_goals
                  clear KS D0 D1;cases O
                  . (have HN:Aa (¬B8 p q j):= λe=>by obtain⟨f',m,_,h5⟩:=e.2.2;rw[kM,HF.o.1]at m;obtain rfl:=kN m;have h6:=h5.all k x sh L.o.1 L.o.2;have:=ah.o.2 (h6.ret ao.o);cases this);go_wp2_with fail;go_ret;exact⟨⟨false,rfl, λe=>(by cases e), λe=>absurd e HN.o⟩,(G.o.bM B4.o).sp.gG⟩
                  . have HK:Aa (∀(i:Nat) x sh,i<k+1->f.ch[i]?=K x->j[i]?=K sh->C7 p f j i x sh):= λi y t hi hy ht=>by
                     by_cases e:i=k
                     . subst e;rw[L.o.1]at hy;rw[L.o.2]at ht;obtain rfl:=kN hy;obtain rfl:=kN ht;exact⟨bG.o,bq.o, λ_=>ah.o.1 rfl, λe=>absurd ao.o e, λe=>absurd ao.o e, λe=>by have h7:=ao.o;unfold FZ at e;omega⟩
                     exact bz.o i y t oM hy ht
                    have E8:Aa _:=(G.o.bM B4.o).sp;clear G;go_wp2;go_roundw;(case rel=>exact⟨k+1,oM,by go_num,HK.o,E8.o⟩);exact oI
               (have cA:(x.op==29)=false:=by simpa using aE);have ao:Aa (¬x.op=29):=aE;clear aE;(go_upto_region 16 with fail);have D1:Aa (Ad U U U):=lQ _ _;have D0:Aa (Ad U U U.drew):=Aj _;have KS:=(G.o.bM (Aj _)).args;have aP:Aa (AK p f x/\x.wf):=⟨aG.o.jk HF.o.1 L.o.1,HF.o.2.2.2.ch x (i8 L.o.1)⟩
               have bu:Aa ((∀t∈Aw p f x,t=0->0<(Ax p f x).length)/\(Aw p f x).length<=2):=Ja aG.o aP.o.1
               go_region_held3 (λF=>F.cell? ⟨V,oo+k,M⟩=K (Z ae sh a8)/\F.cell? N=K (Z Q f.d5 R)/\F.cell? ⟨N,1,M⟩=K (Ac Ab f.gz)/\F.cell? ⟨N,2,M⟩=K (Z S f.en T)/\F.cell? ⟨N,3,M⟩=K (Z (K ⟨gi,oi,M⟩) f.ch P)/\F.cell? w=K (Z A p.a7 C)/\F.cell? ⟨w,1,M⟩=K (Z z p.aC l)/\F.cell? ⟨w,2,M⟩=K (Z (K ⟨gk,ok,M⟩) p.cC f3)/\F.cell? ⟨w,3,M⟩=K (Z D p.dr E)/\F.cell? X=K (Ac Ab x.op)/\F.cell? ⟨X,1,M⟩=K (Ac Ab x.a)/\F.cell? ⟨X,2,M⟩=K (Ac Ab x.b)/\F.cell? ⟨X,3,M⟩=K (Ac Ab x.c)) (first|with_reducible exact KS|exact(G.o.bM (by(repeat' (first|with_reducible exact Hid.o (by assumption)|(with_reducible refine Ai ?_ lR (Ag _ _))|(with_reducible refine Ai ?_ lR (Aj _)))))).args) (first
                |(go_at_call 19;refine(KU ⟨Z A p.a7 C,Z z p.aC l,Z (K ⟨gk,ok,M⟩) p.cC f3,Z D p.dr E⟩ p ⟨Z Q f.d5 R,Z S f.en T,Z (K ⟨gi,oi,M⟩) f.ch P⟩ f x (Z ae sh a8) sh _ H.o.1 aG.o.parts.1.1 HF.o.2.1 aP.o.2 ?_ ?_ aP.o.1 ?_ aU.o.2 (λa c e=>(by simp only[jc,lO]at e;obtain⟨_,rfl⟩:=e;exact aU.o.1)) bu.o.1 bu.o.2).mono ?_;exact H.o.2.2.2.1.bM (G.o.sp.gG.trans ((show Ad U U _ from(by(repeat' (first|with_reducible exact Hid.o (by assumption)|(with_reducible refine Ai ?_ lR (Ag _ _))|(with_reducible refine Ai ?_ lR (Aj _)))))).mono G.o.sp.gG.size)) lR;exact G.o.sp.rf.bM (B:=U) (by(repeat' (first|with_reducible exact Hid.o (by assumption)|(with_reducible refine Ai ?_ lR (Ag _ _))|(with_reducible refine Ai ?_ lR (Aj _))))) lR;exact G.o.rd.bM (B:=U) (by(repeat' (first|with_reducible exact Hid.o (by assumption)|(with_reducible refine Ai ?_ lR (Ag _ _))|(with_reducible refine Ai ?_ lR (Aj _))))) lR;rintro e z3 ⟨V6,rfl,bQ,aH⟩;have B3:Aa (Ad U U z3):=Ai (by(repeat' (first|with_reducible exact Hid.o (by assumption)|(with_reducible refine Ai ?_ lR (Ag _ _))|(with_reducible refine Ai ?_ lR (Aj _))))) lR aH;have O3:Aa (BJ p f x sh=0->∃B,z3.ownsRow B 2 1 V6 (BT p f x sh).length ((BT p f x sh).flatMap Ah)):=(λe=>⟨_,bQ e⟩);have KS:=(G.o.bM B3.o).args;clear bQ aH))
               all_goals
                clear KS D0 D1 x0;by_cases aQ:BJ p f x sh=0
                . obtain ⟨B6,ho⟩:=O3.o aQ;obtain⟨oa,oc,rfl⟩:=Az ho;have br:Aa (BJ p f x sh=0):=aQ;have E8:Aa (Q8 w z3 ⟨Z A p.a7 C,Z z p.aC l,Z (K ⟨gk,ok,M⟩) p.cC f3,Z D p.dr E⟩ ⟨Z Q f.d5 R,Z S f.en T,Z (K ⟨gi,oi,M⟩) f.ch P⟩ f N (Z (K ⟨V,oo,M⟩) j hc) j X x ⟨V,oo+k,M⟩ (Z ae sh a8) sh/\Rd z3 1 (Z oa (BT p f x sh).length oc) (BT p f x sh).length ((BT p f x sh).flatMap Ah)):=⟨G.o.bM B3.o,Rd.gM ho⟩
                  have bB:Aa ((BT p f x sh).length<=1048576):=by
                   have h8:=br.o;unfold BJ at h8;split at h8
                   . cases h8
                   split at h8
                   . cases h8
                   split at h8
                   . cases h8
                   show(BT p f x sh).length<=1048576;omega
                  clear ho G O3 B3;(go_upto_region 19 with fail);clear aQ;have x0:=E8.o.1.xb.cell 0;simp only[kL,jt]at x0;go_cut [119] (λs wx=>∃O:Bool,s=.bool O/\Aa (O=true↔¬(x.op≠25->j[k+1]?=K (BT p f x sh)))/\Aa (Q8 w wx ⟨Z A p.a7 C,Z z p.aC l,Z (K ⟨gk,ok,M⟩) p.cC f3,Z D p.dr E⟩ ⟨Z Q f.d5 R,Z S f.en T,Z (K ⟨gi,oi,M⟩) f.ch P⟩ f N (Z (K ⟨V,oo,M⟩) j hc) j X x ⟨V,oo+k,M⟩ (Z ae sh a8) sh/\Rd wx 1 (Z oa (BT p f x sh).length oc) (BT p f x sh).length ((BT p f x sh).flatMap Ah)))
                  case first=>
                   by_cases aD:x.op=25
                   . (have cu:(x.op != 25)=false:=by simpa using aD);have aJ:Aa (x.op=25):=aD;clear aD;go_wp2_with fail;go_meet;exact⟨false,rfl,⟨λe=>(by cases e), λe=>absurd (λe2=>absurd aJ.o e2) e⟩,E8⟩
                   (have cu:(x.op != 25)=true:=by simpa using aD);have aJ:Aa (¬x.op=25):=aD;clear aD;by_cases bL:k+1= ↑f.ch
                   . have cR:((k:Int)+1==(f.ch:Int))=true:=oT;have bZ:Aa (j[k+1]?=M):=lB (by have:=aq.o.1;omega);clear bL;go_wp2_with fail;go_meet;exact⟨true,rfl,⟨λ_ e=>(by have h9:=e aJ.o;rw[bZ.o]at h9;cases h9), λ_=>rfl⟩,E8⟩
                   have cR:((k:Int)+1==(f.ch:Int))=false:=oT;obtain⟨I,am⟩:∃s,j[k+1]?=K s:=⟨_,an (by have:=aq.o.1;omega)⟩;obtain⟨bI,bV,sb,sd,e',j1,aI,aX⟩:=Ea E8.o.1.sp.rs rfl am;simp only[kK,mA,mg]at e';obtain⟨rfl,rfl⟩:=e';(have cQ:(k:Int)+1<(j:Int):=by have:=aq.o.1;omega);have aj:Aa (j[k+1]?=K I/\I.length<=1048576/\Rd z3 1 (Z sb I sd) I (I.flatMap Ah)):=⟨am,H.o.2.2.2.2.2.2 I (i8 am),aI⟩
                   clear am aI aX bL;go_wp2_with fail;refine(Dv (Z sb I sd) (Z oa (BT p f x sh).length oc) I (BT p f x sh) z3 aj.o.2.1 bB.o aj.o.2.2 E8.o.2).mono ?_;rintro e z4 ⟨⟨O,rfl,au⟩,m4,rfl⟩;have aF:Aa (O=true↔I=BT p f x sh):=au;have b4:=As z3 z3 m4;have E9:Aa (Q8 w (z3.drewN m4) ⟨Z A p.a7 C,Z z p.aC l,Z (K ⟨gk,ok,M⟩) p.cC f3,Z D p.dr E⟩ ⟨Z Q f.d5 R,Z S f.en T,Z (K ⟨gi,oi,M⟩) f.ch P⟩ f N (Z (K ⟨V,oo,M⟩) j hc) j X x ⟨V,oo+k,M⟩ (Z ae sh a8) sh/\Rd (z3.drewN m4) 1 (Z oa (BT p f x sh).length oc) (BT p f x sh).length ((BT p f x sh).flatMap Ah)):=⟨E8.o.1.bM b4,E8.o.2.bM b4 lR⟩
                   clear au b4;cases O
                   . go_wp2_with fail;go_meet;exact⟨true,rfl,⟨λ_ e=>(by have h9:=e aJ.o;rw[aj.o.1]at h9;have:=aF.o.2 (kN h9);cases this), λ_=>rfl⟩,E9⟩
                   go_wp2_with fail;go_meet;exact⟨false,rfl,⟨λe=>(by cases e), λe=>absurd (λ_=>by rw[aj.o.1,aF.o.1 (by first|rfl|trivial)]) e⟩,E9⟩
                  case rest=>
                   obtain⟨O,rfl,ah,E9⟩:=hcut;clear E8 x0;cases O
                   . (have cg:Aa (x.op≠25->j[k+1]?=K (BT p f x sh)):=ly λe=>by have:=ah.o.2 e;cases this);clear ah;obtain⟨z5,hN⟩:∃W,W=wc:=⟨_,rfl⟩;subst hN;(go_upto_region 21 with fail);have x0:=E9.o.1.xb.cell 0;have x3:=E9.o.1.xb.cell 3;simp only[kL,jt,kI]at x0 x3;go_cut [132] (λs wx=>∃O:Bool,s=.bool O/\Aa (O=true↔¬(FZ x.op->j[x.c.toNat]?=K (BT p f x sh)))/\Aa (Q8 w wx ⟨Z A p.a7 C,Z z p.aC l,Z (K ⟨gk,ok,M⟩) p.cC f3,Z D p.dr E⟩ ⟨Z Q f.d5 R,Z S f.en T,Z (K ⟨gi,oi,M⟩) f.ch P⟩ f N (Z (K ⟨V,oo,M⟩) j hc) j X x ⟨V,oo+k,M⟩ (Z ae sh a8) sh/\Rd wx 1 (Z oa (BT p f x sh).length oc) (BT p f x sh).length ((BT p f x sh).flatMap Ah)))
                     case first=>
                      go_wp2_with fail;refine(Co x z5).mono ?_;rintro e z6 ⟨rfl,rfl⟩;cases hgb:AR x with
                      | false=>(have aM:Aa (¬FZ x.op):= λe=>by have:=Hv.2 e;rw[hgb]at this;cases this);go_wp2_with fail;go_meet;exact⟨false,rfl,⟨λe=>(by cases e), λe=>absurd (λe2=>absurd e2 aM.o) e⟩,E9⟩
                      | true=>
                        have aM:Aa (FZ x.op):=Hv.1 hgb;obtain⟨aw,cH⟩:=aP.o.1.target aM.o;obtain⟨cn,aW⟩:=kU aw;obtain⟨I,am⟩:∃s,j[cn]?=K s:=⟨_,an (by have:=aq.o.1;omega)⟩;obtain⟨bI,bV,sb,sd,e',j1,aI,aX⟩:=Ea E9.o.1.sp.rs rfl am;simp only[kK,mA,mg]at e';obtain⟨rfl,rfl⟩:=e';(have cQ:(cn:Int)<(j:Int):=by have:=aq.o.1;omega);have bt:Aa (x.c=(cn:Int)):=aW;have aj:Aa (j[cn]?=K I/\I.length<=1048576/\Rd z6 1 (Z sb I sd) I (I.flatMap Ah)):=⟨am,H.o.2.2.2.2.2.2 I (i8 am),aI⟩
                        rw[aW]at x3;clear am aI aX aW aw cH;go_wp2_with fail;refine(Dv (Z sb I sd) (Z oa (BT p f x sh).length oc) I (BT p f x sh) z6 aj.o.2.1 bB.o aj.o.2.2 E9.o.2).mono ?_;rintro e z4 ⟨⟨O,rfl,au⟩,m4,rfl⟩;have aF:Aa (O=true↔I=BT p f x sh):=au;have b4:=As z6 z6 m4;have aA:Aa (Q8 w (z6.drewN m4) ⟨Z A p.a7 C,Z z p.aC l,Z (K ⟨gk,ok,M⟩) p.cC f3,Z D p.dr E⟩ ⟨Z Q f.d5 R,Z S f.en T,Z (K ⟨gi,oi,M⟩) f.ch P⟩ f N (Z (K ⟨V,oo,M⟩) j hc) j X x ⟨V,oo+k,M⟩ (Z ae sh a8) sh/\Rd (z6.drewN m4) 1 (Z oa (BT p f x sh).length oc) (BT p f x sh).length ((BT p f x sh).flatMap Ah)):=⟨E9.o.1.bM b4,E9.o.2.bM b4 lR⟩
                        clear au b4;cases O
                        . go_wp2_with fail;go_meet;exact⟨true,rfl,⟨λ_ e=>(by have h9:=e aM.o;rw[bt.o,kM,aj.o.1]at h9;have:=aF.o.2 (kN h9);cases this), λ_=>rfl⟩,aA⟩
                        go_wp2_with fail;go_meet;exact⟨false,rfl,⟨λe=>(by cases e), λe=>absurd (λ_=>by rw[bt.o,kM,aj.o.1,aF.o.1 (by first|rfl|trivial)]) e⟩,aA⟩
                     case rest=>
                      obtain⟨O,rfl,ah,aA⟩:=hcut;clear E9 x0 x3;cases O
                      . (have ce:Aa (FZ x.op->j[x.c.toNat]?=K (BT p f x sh)):=ly λe=>by have:=ah.o.2 e;cases this);have HK:Aa (∀(i:Nat) x sh,i<k+1->f.ch[i]?=K x->j[i]?=K sh->C7 p f j i x sh):= λi y t hi hy ht=>by
                         by_cases e:i=k
                         . subst e;rw[L.o.1]at hy;rw[L.o.2]at ht;obtain rfl:=kN hy;obtain rfl:=kN ht;exact⟨bG.o,bq.o, λe=>absurd e ao.o, λ_=>br.o, λ_ e=>cg.o e,ce.o⟩
                         exact bz.o i y t oM hy ht
                        have bX:Aa _:=aA.o.1.sp;clear aA ah;go_wp2;go_roundw;(case rel=>exact⟨k+1,oM,by go_num,HK.o,bX.o⟩);exact oI
                      (have HN:Aa (¬B8 p q j):= λe=>by obtain⟨f',m,_,h5⟩:=e.2.2;rw[kM,HF.o.1]at m;obtain rfl:=kN m;have h6:=h5.all k x sh L.o.1 L.o.2;exact ah.o.1 rfl h6.named);go_wp2_with fail;go_ret;exact⟨⟨false,rfl, λe=>(by cases e), λe=>absurd e HN.o⟩,aA.o.1.sp.gG⟩
                   (have HN:Aa (¬B8 p q j):= λe=>by obtain⟨f',m,_,h5⟩:=e.2.2;rw[kM,HF.o.1]at m;obtain rfl:=kN m;have h6:=h5.all k x sh L.o.1 L.o.2;exact ah.o.1 rfl (λe=>h6.next ao.o e));go_wp2_with fail;go_ret;exact⟨⟨false,rfl, λe=>(by cases e), λe=>absurd e HN.o⟩,E9.o.1.sp.gG⟩
                (have HN:Aa (¬B8 p q j):= λe=>by obtain⟨f',m,_,h5⟩:=e.2.2;rw[kM,HF.o.1]at m;obtain rfl:=kN m;have h6:=h5.all k x sh L.o.1 L.o.2;exact aQ (h6.ch ao.o));go_wp2_with fail;go_ret;exact⟨⟨false,rfl, λe=>(by cases e), λe=>absurd e HN.o⟩,(G.o.bM B3.o).sp.gG⟩
           obtain rfl:k=f.ch.length:=oM;have HY:Aa (B8 p q j):=⟨aG.o,oM,f,by rw[kM];exact HF.o.1,bY.o,⟨aq.o.1,HZ.o, λi x sh hx hs=>HI.o.1 i x sh (iV.1 hx).1 hx hs⟩⟩;go_wp2_with fail;go_ret;exact⟨⟨true,rfl, λ_=>HY.o, λ_=>rfl⟩,HI.o.2.gG⟩
         (have HN:Aa (¬B8 p q j):= λe=>by obtain⟨f',m,_,h5⟩:=e.2.2;have h6:=h5.gK;rw[bF.o]at h6;exact hz (by rw[kN h6];rfl));(have bT:((aT:Int) != 0)=true:=by simp;exact λe=>hz (by rw[e];rfl));exact LB
       (have HN:Aa (¬B8 p q j):= λe=>by obtain⟨f',m,_,h5⟩:=e.2.2;rw[kM,HF.o.1]at m;obtain rfl:=kN m;exact aZ h5.len);have bP:((j:Int) != (f.ch:Int))=true:=oT;exact LB
     (have HN:Aa (¬B8 p q j):= λe=>by obtain⟨f',m,⟨r',h6,h7⟩,_⟩:=e.2.2;rw[kM,HF.o.1]at m;obtain rfl:=kN m;exact aw (by rw[aY.one h6];exact h7));(have cG:(r.ch != 0)=true:=by simpa using aw);exact LB
 have HN:Aa (¬B8 p fi j):= λe=>bf (hn.one e.1)
 have d8:(n != 0)=true:=by simpa using bf
 clear hn;exact LC
end Go.Proofs.YtjnglocdoljgkaaGreat
