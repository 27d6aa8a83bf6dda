import Derived.Test.YtjpobijiblcgaaaGreatFw0
import Derived.Test.YtjpobijiblcgaaaGreatFw30
import Derived.Test.YtjpobijiblcgaaaGreatFw13
import Derived.Test.YtjpobijiblcgaaaGreatFw1
import Derived.Test.YtjpobijiblcgaaaGreatFw3
import Derived.Test.YtjpobijiblcgaaaGreatFw2
import Derived.Test.YtjpobijiblcgaaaGreatFw26
import Derived.Test.YtjpobijiblcgaaaGreatFw27
import Derived.Test.YtjpobijiblcgaaaGreatFw19
import Derived.Test.YtjpobijiblcgaaaGreatFw15
import Derived.Test.YtjpobijiblcgaaaGreatFw18
import Derived.Test.YtjpobijiblcgaaaGreatFw20
import Derived.Test.YtjpobijiblcgaaaGreatFw23
import Derived.Test.YtjpobijiblcgaaaGreatFw22
import Derived.Test.YtjpobijiblcgaaaGreatFw24
import Derived.Test.YtjpobijiblcgaaaGreatFw12
namespace Go.Proofs.YtjpobijiblcgaaaGreat
open Go.ChangeShapes Go.WideShapes Go.ChangeAt Go.RowKit
set_option linter.unusedVariables false
theorem Pe{xs:List MI}(hg:AD xs):∃S:Nat->Nat,S 0=0/\S (Ap xs).length=xs.length/\∀(b:Nat) (m:MB),(Ap xs)[b]?=some m->m.first=(S b:Int)/\m.last=(S (b+1):Int)-1/\S b<S (b+1)/\S (b+1)<=xs.length:=by
 have hne:=Gt xs xs.length hg.1;have hs:=C8 xs xs.length;have hlt:∀x∈CA xs xs.length,x<xs.length:=fun x hx=>((Co _ _ _).1 hx).1
 have hz:0∈CA xs xs.length:=(Co _ _ _).2 ⟨hg.1,Fh _ _⟩;have hlen:(Ap xs).length=(CA xs xs.length).length:=by unfold Ap;rw[aj,BI]
 have hsp:∀(b:Nat) (m:MB),(Ap xs)[b]?=some m->∃m0:MB,(build (CA xs xs.length) xs.length)[b]?=some m0/\m.first=m0.first/\m.last=m0.last:=fun b m h=>by
  unfold Ap at h;rw[a7,Cb]at h;obtain⟨m0,h1,rfl⟩:=cS.1 h;exact⟨m0,h1,rfl,rfl⟩
 generalize CA xs xs.length=L at*;refine⟨fun b=>((L++[xs.length])[b]?).getD 0,?_,?_,fun b m h=> ?_⟩
 . cases L with
   |nil=>exact absurd rfl hne
   | cons a r=>
     simp only[ah,aM,eE];rcases aX.1 hz with e|e
     . exact e.symm
     . have:=(bi.1 hs).1 0 e
       omega
 . rw[hlen]
   simp
 . obtain⟨m0,h1,e1,e2⟩:=hsp b m h
   have hb:b<L.length:=by rw[<-GG L xs.length];exact(aD.1 h1).1
   have hpw:(L++[xs.length]).Pairwise (· < ·):=cG.2 ⟨hs,fA _ _,fun x hx y hy=>by rw[am.1 hy];exact hlt x hx⟩;have hl2:(L++[xs.length]).length=L.length+1:=by simp
   have ht:(L.tail++[xs.length])[b]?=(L++[xs.length])[b+1]?:=by
    cases L with
    |nil=>exact absurd rfl hne
    |cons a r=>simp
   have g1:(L++[xs.length])[b]?=some ((L++[xs.length])[b]'(by omega)):=aA _
   have g2:(L++[xs.length])[b+1]?=some ((L++[xs.length])[b+1]'(by omega)):=aA _
   have g0:L[b]?=some ((L++[xs.length])[b]'(by omega)):=by rw[<-g1,bW hb]
   have hlt':=(dd.1 hpw) b (b+1) (by omega) (by omega) (by omega);unfold build at h1;rw[dS,ht,g0,g2]at h1;simp only[aJ]at h1;rw[<-h1]at e1 e2;simp only[g1,g2,eE];refine⟨e1,e2,hlt',?_⟩;rcases aS.1 (bq (l:=L++[xs.length]) (n:=b+1) (by omega))with h|h
   . exact dr (hlt _ h)
   . rw[am.1 h]
     exact Nat.le_refl _
theorem Mg{E:Nat->List Nat}{D:Nat->Nat->Bool}{n h y:Nat}(hD:∀d b,D d b=true↔DA E d b)(hy:Dh E D n h y)(hne:y≠h):DA E h y:=by
 rcases hy with e|⟨t,ht,hr⟩
 . exact absurd e hne
 . have h1:=(hD _ _).1 ((FP E D n h t).1 ht).2.2
   intro h0
   have:∀y,CX (Bc E n) (· ≠h) t y->CX E (· ≠h) 0 y->CX E (· ≠h) 0 t:=fun y hr=>by
    induction hr with
    |here _=>exact fun q=>q
    |step h2 h3 _ ih=>exact fun q=>ih (.step q ((Du E n _ _).1 h3).2 h2.okb)
   exact h1 (this y hr h0)
structure Oa(r:F7)(k n:Nat)(E:Nat->List Nat)(S:Nat->Nat):Prop where
 bl:r.blocks.length=n
 n1:0<n
 n2:n<=1024
 s0:S 0=0
 sn:S n=k
 cut:∀(b:Nat) (m:MB),r.blocks[b]?=some m->m.first=(S b:Int)/\m.last=(S (b+1):Int)-1/\S b<S (b+1)/\S (b+1)<=k
 elt:∀b,b<n->∀x∈E b,x<n
 e2:∀b,(E b).length<=2
 ol:r.order.length=n
 o0:r.order[0]?=some 0
 il:r.idom.length=n
 i0:r.idom[0]?=some (-1)
 idm:∀b,0<b->b<n->∃c,c<n/\c≠b/\r.idom[b]?=some (c:Int)/\¬CX E (fun y=>(y:Int)≠(c:Int)) 0 b/\CX E (fun y=>(y:Int)≠ -1) 0 b/\∀k:Nat,k≠c->k≠b->¬CX E (fun y=>(y:Int)≠(k:Int)) 0 b->¬CX E (fun y=>(y:Int)≠(k:Int)) 0 c
 ll:r.loops.length<=n
 lp:∀(i:Nat) (l:ML),r.loops[i]?=some l->0<l.back.length/\(0<l.blocks.length/\l.blocks.length<=n)/\∃h:Nat,h<n/\l.head=(h:Int)/\∀(k:Nat) (y:Int),l.blocks[k]?=some y->∃b:Nat,y=(b:Int)/\b<n/\¬CX E (fun y=>(y:Int)≠(h:Int)) 0 b
 lr:∀(i:Nat) (l l':ML),r.loops[i]?=some l->r.loops[i+1]?=some l'->l.head<l'.head
theorem Kb{E:Nat->List Nat}{d b:Nat}:CX E (fun y=>(y:Int)≠(d:Int)) 0 b↔CX E (· ≠d) 0 b:=⟨fun h=>h.mono fun x hx e=>hx (by rw[e]),fun h=>h.mono fun x hx e=>hx (by omega)⟩
theorem Jy{E:Nat->List Nat}{D L:Nat->Nat->Bool}{n j:Nat}{l:ML}(h:l∈Bh E D L n j):∃h:Nat,h<j/\Au E D n h≠[]/\l=⟨(h:Int),ints (Au E D n h),ints ((List.range n).filter (L h))⟩:=by
 unfold Bh at h;obtain⟨h0,h1,h2⟩:=List.mem_filterMap.1 h;by_cases e:Au E D n h0=[]
 . rw[cD e]at h2
   cases h2
 . rw[bu e]at h2
   exact⟨h0,c6.1 h1,e,(bC h2).symm⟩
theorem Mv(E:Nat->List Nat)(D L:Nat->Nat->Bool)(n j:Nat):(Bh E D L n j).Pairwise (fun a b=>a.head<b.head):=by
 unfold Bh;refine List.pairwise_filterMap.2 (dt.imp fun{a a'} hlt b hb b' hb'=> ?_)
 have f:∀{x:Nat} {y:ML},(if Au E D n x=[]then none else some (⟨(x:Int),ints (Au E D n x),ints ((List.range n).filter (L x))⟩:ML))=some y->y.head=(x:Int):=fun{x y} h=>by
  by_cases e:Au E D n x=[]
  . rw[cD e]at h
    cases h
  . rw[bu e]at h
    rw[<-bC h]
 rw[f hb,f hb'];omega
theorem Bm.law{xs:List MI}{r:F7}(h:Bm xs r):(r.code≠0/\r.blocks=[])\/r.code=0/\AD xs/\r.blocks=Ap xs/\∃n S,Oa r xs.length n (nx (Ap xs)) S:=by
 cases h with
 |none _=>exact .inl ⟨by simp[Dl],rfl⟩
 |off _ _ _=>exact .inl ⟨by simp[Dl],rfl⟩
 |lost _ _ _ _ _ _ _ _=>exact .inl ⟨by simp[Dl],rfl⟩
 |two _ _ _ _ _ _ _ _=>exact .inl ⟨by simp[Dl],rfl⟩
 | @good x S O D L I g x1 o1 v1 s1 d1 f1 i1 l1=>
   refine .inr ⟨rfl,g,rfl,?_⟩;obtain⟨S0,hs0,hsn,hcut⟩:=Pe g;have hp:=Ee g;have hE:=JB g;obtain⟨hP,hnd,hol,hom,ho0⟩:=De hp hE v1 s1;have hrch:=(LF hp hE v1).2.2.2
   have hll:∀l∈Bh (nx (Ap xs)) D L (Ap xs).length (Ap xs).length,l.blocks.length<=(Ap xs).length:=fun l hl=>by
    obtain⟨h,_,_,rfl⟩:=Jy hl;rw[Az];have:=cj (L h) (List.range (Ap xs).length);simpa using this
   refine⟨(Ap xs).length,S0,⟨rfl,hp,DG g,hs0,hsn,hcut,hE,FK _ (DT xs),by rw[Az,bg,hol],?_,by simp,?_,fun b hb0 hb=> ?_,?_,fun i l hi=> ?_,fun i l l' hi hi'=> ?_⟩⟩
   . unfold ints
     rw[a7,ho0];rfl
   . rw[a7,eh hp]
     rcases i1 0 hp with⟨_,e⟩|⟨e,_⟩
     . simp[e]
     . exact absurd rfl e
   . rcases i1 b hb with⟨e,_⟩|⟨_,c,hc,e,hi⟩
     . omega
     . refine⟨c,hc,hi.1,?_,fun q=>hi.2.1 (Kb.1 q),(hrch b ((hom b).2 hb)).mono fun x _=>by omega,fun k hk hkb hr q=> ?_⟩
       . rw[a7,eh hb]
         simp[e]
       . exact hi.2.2 k hkb (fun q'=>hr (Kb.2 q')) (Kb.1 q)
   . have:=fC (fun h=>if Au (nx (Ap xs)) D (Ap xs).length h=[]then Option.none else some (⟨(h:Int),ints (Au (nx (Ap xs)) D (Ap xs).length h),ints ((List.range (Ap xs).length).filter (L h))⟩:ML)) (List.range (Ap xs).length)
     simpa[Bh]using this
   . have hm:=aE hi
     have hbl:=hll l hm;obtain⟨h,hlt,hb,rfl⟩:=Jy hm;refine⟨by rw[Az];exact dN.2 hb,⟨?_,hbl⟩,h,hlt,rfl,fun k y hy=> ?_⟩
     . rw[Az]
       exact dN.2 (List.ne_nil_of_mem (db.2 ⟨c6.2 hlt,(l1 h h).2 (.inl rfl)⟩))
     . have hy':=aE hy
       obtain⟨b,hbm,rfl⟩:=bJ.1 hy';obtain⟨hb1,hb2⟩:=db.1 hbm;exact⟨b,rfl,c6.1 hb1,fun q=>if e:b=h then q.okb (by rw[e])else Mg d1 ((l1 h b).1 hb2) e (Kb.1 q)⟩
   . obtain⟨h1,e1⟩:=aD.1 hi
     obtain⟨h2,e2⟩:=aD.1 hi';rw[<-e1,<-e2];exact(dd.1 (Mv (nx (Ap xs)) D L (Ap xs).length (Ap xs).length)) i (i+1) h1 h2 (by omega)
def N9(xs:List MI):Prop:=∃r,Bm xs r/\r.code=0
theorem Bu{w:World}{b:Nat}{t:TypeId}{a0 a1 a2 a3:Value}(h:An w b #[a0,a1,a2,a3] t):w.cell? ⟨b,0,none⟩=some a0/\w.cell? ⟨b,1,none⟩=some a1/\w.cell? ⟨b,2,none⟩=some a2/\w.cell? ⟨b,3,none⟩=some a3:=⟨h.cell 0,h.cell 1,h.cell 2,h.cell 3⟩
theorem Ek{w:World}{b:Nat}{t:TypeId}{a0 a1 a2 a3 a4 a5:Value}(h:An w b #[a0,a1,a2,a3,a4,a5] t):w.cell? ⟨b,0,none⟩=some a0/\w.cell? ⟨b,1,none⟩=some a1/\w.cell? ⟨b,2,none⟩=some a2/\w.cell? ⟨b,3,none⟩=some a3/\w.cell? ⟨b,4,none⟩=some a4/\w.cell? ⟨b,5,none⟩=some a5:=⟨h.cell 0,h.cell 1,h.cell 2,h.cell 3,h.cell 4,h.cell 5⟩
def Km(p:MP)(fi:Int):Prop:=Bj p 0/\0<=fi/\∃f,p.funcs[fi.toNat]?=some f/\N9 f.code
def EU(p:MP)(fi:Int)(l:ML):Prop:=Bj p 0/\0<=fi/\∃f r,p.funcs[fi.toNat]?=some f/\Bm f.code r/\r.code=0/\l∈r.loops
def Qb(p:MP)(fi:Int)(l:ML)(f:MF)(r:F7):Prop:=Bj p 0/\0<=fi/\p.funcs[fi.toNat]?=some f/\Bm f.code r/\r.code=0/\l∈r.loops
def Ry(p:MP)(fi:Int)(l:ML)(n:Int):Prop:=(¬EU p fi l/\n=7)\/∃f r,Qb p fi l f r/\Cf p fi f.code r.blocks l n
theorem Fe{xs:List MI}{r:F7}(h:Bm xs r):r.loops.length<=1024/\∀m∈r.loops,m.back.length<=1048576/\m.blocks.length<=1048576:=by
 by_cases h0:r.code=0
 . have q:=h.inn h0
   exact⟨q.nl,fun m hm=>⟨by have:=(q.loop m hm).2.2.2;omega,by have:=(q.loop m hm).2.2.1;omega⟩⟩
 . cases h with
   |none _=>exact⟨by simp[Dl],fun m hm=>by cases hm⟩
   |off _ _ _=>exact⟨by simp[Dl],fun m hm=>by cases hm⟩
   |lost _ _ _ _ _ _ _ _=>exact⟨by simp[Dl],fun m hm=>by cases hm⟩
   |two _ _ _ _ _ _ _ _=>exact⟨by simp[Dl],fun m hm=>by cases hm⟩
   |good _ _ _ _ _ _ _ _ _=>exact absurd rfl h0
theorem Cf.c1{p:MP}{fi:Int}{xs:List MI}{bs:List MB}{l:ML}{hb:MB}(h:bs[l.head.toNat]?=some hb)(h1:C7 p.certs fi hb.first=none):Cf p fi xs bs l 1:=⟨hb,h,.inl ⟨h1,rfl⟩⟩
structure Nn(p:MP)(fi:Int)(xs:List MI)(bs:List MB)(l:ML)(hb:MB)(c:MT)(g:MI):Prop where
 is_:bs[l.head.toNat]?=some hb
 cert:C7 p.certs fi hb.first=some c
 at_:xs[hb.first.toNat]?=some g
theorem Cf.c2{p:MP}{fi:Int}{xs:List MI}{bs:List MB}{l:ML}{hb:MB}{c:MT}{g:MI}(h:Nn p fi xs bs l hb c g)(h2:¬(g.op=27/\g.a=c.counter)):Cf p fi xs bs l 2:=⟨hb,h.is_,.inr ⟨c,g,h.cert,h.at_,.inl ⟨h2,rfl⟩⟩⟩
theorem Cf.c3{p:MP}{fi:Int}{xs:List MI}{bs:List MB}{l:ML}{hb:MB}{c:MT}{g:MI}(h:Nn p fi xs bs l hb c g)(h2:g.op=27/\g.a=c.counter)(h3:Gj bs l.blocks g.c):Cf p fi xs bs l 3:=⟨hb,h.is_,.inr ⟨c,g,h.cert,h.at_,.inr ⟨h2,.inl ⟨h3,rfl⟩⟩⟩⟩
theorem Cf.c4{p:MP}{fi:Int}{xs:List MI}{bs:List MB}{l:ML}{hb:MB}{c:MT}{g:MI}(h:Nn p fi xs bs l hb c g)(h2:g.op=27/\g.a=c.counter)(h3:¬Gj bs l.blocks g.c)(h4:∃a,Gj bs l.blocks a/\a≠hb.first/\LO xs c.counter a):Cf p fi xs bs l 4:=⟨hb,h.is_,.inr ⟨c,g,h.cert,h.at_,.inr ⟨h2,.inr ⟨h3,.inl ⟨h4,rfl⟩⟩⟩⟩⟩
theorem Cf.c5{p:MP}{fi:Int}{xs:List MI}{bs:List MB}{l:ML}{hb:MB}{c:MT}{g:MI}(h:Nn p fi xs bs l hb c g)(h2:g.op=27/\g.a=c.counter)(h3:¬Gj bs l.blocks g.c)(h4:¬∃a,Gj bs l.blocks a/\a≠hb.first/\LO xs c.counter a)(h5:l.head=0\/Jj p.consts xs bs l c):Cf p fi xs bs l 5:=⟨hb,h.is_,.inr ⟨c,g,h.cert,h.at_,.inr ⟨h2,.inr ⟨h3,.inr ⟨h4,.inl ⟨h5,rfl⟩⟩⟩⟩⟩⟩
theorem Cf.c0{p:MP}{fi:Int}{xs:List MI}{bs:List MB}{l:ML}{hb:MB}{c:MT}{g:MI}(h:Nn p fi xs bs l hb c g)(h2:g.op=27/\g.a=c.counter)(h3:¬Gj bs l.blocks g.c)(h4:¬∃a,Gj bs l.blocks a/\a≠hb.first/\LO xs c.counter a)(h5:¬(l.head=0\/Jj p.consts xs bs l c)):Cf p fi xs bs l 0:=⟨hb,h.is_,.inr ⟨c,g,h.cert,h.at_,.inr ⟨h2,.inr ⟨h3,.inr ⟨h4,.inr ⟨h5,rfl⟩⟩⟩⟩⟩⟩
theorem M5{u:World}{a:Option Addr}{n c:Nat}{ls:List ML}(h:Ko u (.slice a n c) ls){k:Nat}{m:ML}(hk:ls[k]?=some m):∃g o a1 e1 a2 e2,a=some ⟨g,o,none⟩/\u.cell? ⟨g,o+k*3,none⟩=some (.int .i64 m.head)/\u.cell? ⟨g,o+k*3+1,none⟩=some (.slice a1 m.back.length e1)/\u.cell? ⟨g,o+k*3+2,none⟩=some (.slice a2 m.blocks.length e2)/\Pt u (m,.slice a1 m.back.length e1,.slice a2 m.blocks.length e2):=by
 obtain⟨xs,h1,h2,h3⟩:=h;have hi:=(aD.1 hk).1
 obtain⟨⟨m',w1,w2⟩,hx,hx1⟩:∃x,xs[k]?=some x/\x.1=m:=by
  rw[<-h1,a7]at hk;exact cS.1 hk
 simp only[]at hx1;subst hx1;have hr:=h3 _ (aE hx);obtain⟨a1,e1,q1⟩:=Rd.is_slice hr.1;obtain⟨a2,e2,q2⟩:=Rd.is_slice hr.2;simp only[]at q1 q2;subst q1 q2;rcases h2.2 with⟨e,_⟩|⟨gg,oo,cc,e,hc⟩
 . omega
 . simp only[aI]at e
   have j0:=Rd.elem Bo hc k _ hx 0 _ rfl;have j1:=Rd.elem Bo hc k _ hx 1 _ rfl;have j2:=Rd.elem Bo hc k _ hx 2 _ rfl;rw[aw]at j0;exact⟨gg,oo,a1,e1,a2,e2,e.1,j0,j1,j2,hr⟩
theorem Fw{u:World}{a:Option Addr}{n c:Nat}{bs:List MB}(h:Ha u (.slice a n c) bs){k:Nat}{m:MB}(hk:bs[k]?=some m):∃g o a1 e1,a=some ⟨g,o,none⟩/\u.cell? ⟨g,o+k*3,none⟩=some (.int .i64 m.first)/\u.cell? ⟨g,o+k*3+1,none⟩=some (.int .i64 m.last)/\u.cell? ⟨g,o+k*3+2,none⟩=some (.slice a1 m.next.length e1)/\Ps u (.slice a1 m.next.length e1) m:=by
 obtain⟨xs,h1,h2,h3⟩:=h;have hi:=(aD.1 hk).1
 obtain⟨⟨m',w1⟩,hx,hx1⟩:∃x,xs[k]?=some x/\x.1=m:=by
  rw[<-h1,a7]at hk;exact cS.1 hk
 simp only[]at hx1;subst hx1;have hr:=h3 _ (aE hx);obtain⟨a1,e1,q1⟩:=Rd.is_slice hr;simp only[]at q1;subst q1;rcases h2.2 with⟨e,_⟩|⟨gg,oo,cc,e,hc⟩
 . omega
 . simp only[aI]at e
   have j0:=Rd.elem AQ hc k _ hx 0 _ rfl;have j1:=Rd.elem AQ hc k _ hx 1 _ rfl;have j2:=Rd.elem AQ hc k _ hx 2 _ rfl;rw[aw]at j0;exact⟨gg,oo,a1,e1,e.1,j0,j1,j2,hr⟩
theorem Dt.keepL{w w':World}{vb vo vi vl:Value}{r:F7}(h:Dt w vb vo vi vl r){B:Nat}(hb:Below B w w')(hB:w.heap.size<=B):Dt w' vb vo vi vl r:=⟨h.blocks.keep hb hB,h.order.keep hb hB,h.idom.keep hb hB,h.loops.keep hb hB⟩
theorem IP{w:World}{vb vo vi vl:Value}{r:F7}(h:Dt w vb vo vi vl r):∃v1 c1 v2 c2 v3 c3 v4 c4,vb=.slice v1 r.blocks.length c1/\vo=.slice v2 r.order.length c2/\vi=.slice v3 r.idom.length c3/\vl=.slice v4 r.loops.length c4:=by
 obtain⟨v1,c1,e1⟩:∃a c,vb=.slice a r.blocks.length c:=by obtain⟨_,_,h2,_⟩:=h.blocks;exact h2.is_slice
 obtain⟨v2,c2,e2⟩:=h.order.is_slice;obtain⟨v3,c3,e3⟩:=h.idom.is_slice;obtain⟨v4,c4,e4⟩:∃a c,vl=.slice a r.loops.length c:=by obtain⟨_,_,h2,_⟩:=h.loops;exact h2.is_slice
 exact⟨v1,c1,v2,c2,v3,c3,v4,c4,e1,e2,e3,e4⟩
structure LR(w u:World)(v:VP)(lv:VL)(l:ML)(FB:Nat)(r:F7)(z1 z2 z3 z4:Value):Prop where
 pb:An u w.heap.size #[v.r,v.k,v.f,v.t] 65
 lb:An u (w.heap.size+1) #[.int .i64 l.head,lv.b,lv.k] 35
 fb:An u FB #[.int .i64 r.code,.int .i64 r.at_,z1,z2,z3,z4] 29
 rf:Dt u z1 z2 z3 z4 r
 bel:Below w.heap.size w u
theorem LR.keep{w u u':World}{v:VP}{lv:VL}{l:ML}{FB:Nat}{r:F7}{z1 z2 z3 z4:Value}(h:LR w u v lv l FB r z1 z2 z3 z4)(hb:Below u.heap.size u u'):LR w u' v lv l FB r z1 z2 z3 z4:=⟨h.pb.keep hb,h.lb.keep hb,h.fb.keep hb,h.rf.keepL hb lR,Af h.bel lR hb⟩
theorem Qg{bs:List MB}{ls:List Int}{j b:Nat}{z:Int}{m:MB}{a:Int}(hz:ls[j]?=some z)(hb:z=(b:Int))(hm:bs[b]?=some m)(h1:m.first<=a)(h2:a<=m.last):Gj bs ls a:=⟨z,aE hz,m,by rw[hb,ao];exact hm,h1,h2⟩
theorem JA{bs:List MB}{ls:List Int}{P:Int->Prop}(h:∀(j:Nat) (z:Int) (m:MB),ls[j]?=some z->bs[z.toNat]?=some m->∀a,m.first<=a->a<=m.last->¬P a):¬∃a,Gj bs ls a/\P a:=by
 rintro⟨a,⟨z,hz,m,hm,h1,h2⟩,hp⟩;obtain⟨j,hj⟩:=cH hz;exact h j z m hj hm a h1 h2 hp
def Ga(p:MP)(f:MF)(x:MI)(sh:List Int):Int:=if x.op=29 then(if sh=BS f then 0 else 5)else CL p f x sh
def Lq(p:MP)(f:MF)(x:MI)(sh:List Int):List Int:=if x.op=29 then[]else Hk p f x sh
structure WS where
 c:Nat->Option (List Int)
 t:Nat->List Int
 d:Nat
def G7(T:Nat->List Int)(a:Nat)(sh:List Int):Nat->List Int:=fun j=>if j=a then sh else T j
def H0(C:Nat->Option (List Int))(b:Nat)(sh:List Int):Nat->Option (List Int):=fun j=>if j=b then some sh else C j
abbrev Rz:=Sum (Int×Nat) (List Int×(Nat->List Int)×Nat)
def Fq(p:MP)(f:MF):Nat->Nat->List Int->(Nat->List Int)->Nat->Rz
 |0,_,sh,T,D=>.inr (sh,T,D)
 | c+1,a,sh,T,D=>match f.code[a]? with
   |none=>.inr (sh,T,D)
   |some x=>if Ga p f x sh=0 then Fq p f c (a+1) (Lq p f x sh) (G7 T a sh) (max D (Lq p f x sh).length)else .inl (Ga p f x sh,a)
def GX:List Nat->List Int->(Nat->Option (List Int))->Option (Nat->Option (List Int))
 |[],_,C=>some C
 | t::r,sh,C=>match C t with
   |none=>GX r sh (H0 C t sh)
   |some s=>if s=sh then GX r sh C else none
abbrev Im:=Sum (Int×Nat) WS
def Pb(p:MP)(f:MF)(m:MB)(b:Nat)(s:WS):Im:=match Fq p f (m.last-m.first+1).toNat m.first.toNat ((s.c b).getD []) s.t s.d with
 |.inl e=>.inl e
 | .inr (sh,T,D)=>match GX (m.next.map Int.toNat) sh s.c with
   |none=>.inl (4,m.last.toNat)
   |some C=>.inr ⟨C,T,D⟩
def F5(p:MP)(f:MF)(bs:List MB):List Nat->WS->Im
 |[],s=>.inr s
 | b ::r,s=>match bs[b]? with
   |none=>.inr s
   | some m=>match Pb p f m b s with
     |.inl e=>.inl e
     |.inr s'=>F5 p f bs r s'
def Nk:WS:=⟨fun b=>if b=0 then some []else none,fun _=>[],0⟩
structure Q1 where
 code:Int
 at_:Int
 depth:Int
 shapes:List (List Int)
def QT(n:Nat):Im->Q1
 |.inl (c,a)=>⟨c,(a:Int),0,[]⟩
 |.inr s=>⟨0,0,(s.d:Int),(List.range n).map s.t⟩
def Of(p:MP)(fi:Int)(y:Q1):Prop:=(¬Km p fi/\y=⟨6,0,0,[]⟩)\/(Bj p 0/\0<=fi/\∃f r,p.funcs[fi.toNat]?=some f/\Bm f.code r/\r.code=0/\y=QT f.code.length (F5 p f r.blocks (r.order.map Int.toNat) Nk))
theorem Ns{L:List Nat}{n b:Nat}{m:MB}(hs:L.Pairwise (· < ·))(hl:∀x∈L,x<n)(h:(build L n)[b]?=some m){i:Nat}(h1:m.first<(i:Int))(h2:(i:Int)<=m.last):i∉L:=by
 unfold build at h;rw[dS]at h;cases e1:L[b]? with
 |none=>rw[e1]at h;simp at h
 | some a=>
   cases e2:(L.tail++[n])[b]? with
   |none=>rw[e1,e2]at h;simp at h
   | some q=>
     rw[e1,e2]at h;simp only[aJ]at h;subst h;simp only[]at h1 h2;intro hi;obtain⟨j,hj⟩:=cH hi;obtain⟨ib,eb⟩:=aD.1 e1;obtain⟨ij,ej⟩:=aD.1 hj;have hp:=dd.1 hs
     have hbj:b<j:=by
      apply de;intro hn;by_cases e:j=b
      . subst e
        omega
      . have:=hp j b ij ib (by omega)
        omega
     have h3:L[b+1]?=some q:=by
      rw[<-e2,bW (by simp;omega)];cases L<;>simp
     obtain⟨i3,e3⟩:=aD.1 h3;by_cases e:j=b+1
     . subst e
       omega
     . have:=hp (b+1) j i3 ij (by omega)
       omega
theorem NY{xs:List MI}{b:Nat}{m:MB}(h:(Ap xs)[b]?=some m):∃m0,(build (CA xs xs.length) xs.length)[b]?=some m0/\m.first=m0.first/\m.last=m0.last:=by
 unfold Ap at h;rw[a7]at h;obtain⟨m0,h1,rfl⟩:=cS.1 h;rw[Cb]at h1;exact⟨m0,h1,rfl,rfl⟩
theorem O9{xs:List MI}{b:Nat}{m:MB}(h:(Ap xs)[b]?=some m){i:Nat}{x:MI}(hx:xs[i]?=some x)(h1:m.first<=(i:Int))(h2:(i:Int)<m.last):x.op≠29:=by
 obtain⟨m0,e0,ef,el⟩:=NY h;obtain⟨a,e,q1,q2,q3,q4⟩:=Hx h;intro hop;have hi:i+1<xs.length:=by omega
 refine Ns (C8 _ _) (fun x hx=>((Co _ _ _).1 hx).1) e0 (i:=i+1) (by omega) (by omega) ?_;rw[Co];exact⟨hi,GT xs xs.length i (i+1) x (by omega) hx (by simp[Ef,hop])⟩
theorem Ii.rdF{w:World}{base:Nat}{vb vo vi vl:Value}{F:List (MB×Value)}{ys:List (ML×Value×Value)}{r:F7}(h:Ii w base vb vo vi vl F ys r):Dt w vb vo vi vl r:=by
 have hbl:F.length=r.blocks.length:=by rw[<-h.eb,aj]
 have hll:ys.length=r.loops.length:=by rw[<-h.el,aj]
 refine⟨⟨F,h.eb,?_,fun x hx=> ?_⟩,Rd.of_own (h.fam.own (vo,r.order) (by simp)),Rd.of_own (h.fam.own (vi,r.idom) (by simp)),⟨ys,h.el,?_,fun y hy=> ?_⟩⟩
 . rw[<-hbl]
   exact Rd.of_own h.brow
 . exact Rd.of_own (h.fam.own (x.2,x.1.next) (by
  refine aS.2 (.inl ?_);unfold Dm;exact eY (f:=fun x=>(x.2,x.1.next)) hx))
 . rw[<-hll]
   exact Rd.of_own h.lrow
 . have h1:(y.2.1,y.1.back)∈DK ys:=cE.2 ⟨y,hy,by simp⟩
   have h2:(y.2.2,y.1.blocks)∈DK ys:=cE.2 ⟨y,hy,by simp⟩;exact⟨Rd.of_own (h.fam.own (y.2.1,y.1.back) (aS.2 (.inr (by simp[h1])))),Rd.of_own (h.fam.own (y.2.2,y.1.blocks) (aS.2 (.inr (by simp[h2]))))⟩
theorem Dt.keepF{w w':World}{vb vo vi vl:Value}{r:F7}(h:Dt w vb vo vi vl r)(hb:Below w.heap.size w w'):Dt w' vb vo vi vl r:=⟨h.blocks.keep hb lR,h.order.keep hb lR,h.idom.keep hb lR,h.loops.keep hb lR⟩
theorem Dt.slF{w:World}{vb vo vi vl:Value}{r:F7}(h:Dt w vb vo vi vl r):∃a1 c1 a2 c2 a3 c3 a4 c4,vb=.slice a1 r.blocks.length c1/\vo=.slice a2 r.order.length c2/\vi=.slice a3 r.idom.length c3/\vl=.slice a4 r.loops.length c4:=by
 obtain⟨_,_,h1,_⟩:=h.blocks;obtain⟨_,_,h4,_⟩:=h.loops;obtain⟨a1,c1,e1⟩:=h1.is_slice;obtain⟨a2,c2,e2⟩:=h.order.is_slice;obtain⟨a3,c3,e3⟩:=h.idom.is_slice;obtain⟨a4,c4,e4⟩:=h4.is_slice;exact⟨a1,c1,a2,c2,a3,c3,a4,c4,e1,e2,e3,e4⟩
theorem Rd.intAt{w:World}{g o n c:Nat}{l:List Int}(h:Rd w 1 (sO g o n c) l.length (l.flatMap Ab)){k:Nat}{z:Int}(hk:l[k]?=some z):w.cell? ⟨g,o+k,none⟩=some (iZ z):=by
 rcases h.2 with⟨e0,_⟩|⟨g1,o1,c1,e1,hc⟩
 . have:=(aD.1 hk).1
   omega
 . simp only[aI,aJ,bf,cg]at e1
   obtain⟨⟨rfl,rfl⟩,_⟩:=e1;have:=Rd.elem Aq hc k z hk 0 (iZ z) rfl;simpa using this
theorem Rd.addr{w:World}{a:Option Addr}{k n c:Nat}{xs:List Value}(h:Rd w k (.slice a n c) n xs)(hn:0<n):∃g o,a=some ⟨g,o,none⟩:=by
 rcases h.2 with⟨e0,_⟩|⟨g1,o1,c1,e1,hc⟩
 . omega
 . simp only[aI]at e1
   exact⟨g1,o1,e1.1⟩
structure Lw(w U:World)(X gb ob cb go oo co gi oi ci:Nat)(al:Option Addr)(cl:Nat)(r:F7)(n:Nat)(E:Nat->List Nat):Prop where
 blk:An U X #[iZ r.code,iZ r.at_,sO gb ob n cb,sO go oo n co,sO gi oi n ci,.slice al r.loops.length cl] 29
 rd:Dt U (sO gb ob n cb) (sO go oo n co) (sO gi oi n ci) (.slice al r.loops.length cl) r
 gr:Ft U gb ob n E
 bel:Below w.heap.size w U
section
variable {w U U':World} {X gb ob cb go oo co gi oi ci:Nat} {al:Option Addr} {cl:Nat} {r:F7} {n:Nat} {E:Nat->List Nat}
theorem Lw.keep(h:Lw w U X gb ob cb go oo co gi oi ci al cl r n E)(hb:Below U.heap.size U U'):Lw w U' X gb ob cb go oo co gi oi ci al cl r n E:=
 ⟨h.blk.keep hb,h.rd.keepF hb,h.gr.keep hb,h.bel.trans (hb.mono h.bel.size)⟩
theorem Lw.box(h:Lw w U X gb ob cb go oo co gi oi ci al cl r n E):U.cell? ⟨X,0,none⟩=some (iZ r.code)/\U.cell? ⟨X,2,none⟩=some (sO gb ob n cb)/\U.cell? ⟨X,3,none⟩=some (sO go oo n co)/\U.cell? ⟨X,4,none⟩=some (sO gi oi n ci)/\U.cell? ⟨X,5,none⟩=some (.slice al r.loops.length cl):=
 ⟨h.blk.cell 0,h.blk.cell 2,h.blk.cell 3,h.blk.cell 4,h.blk.cell 5⟩
theorem Lw.block(h:Lw w U X gb ob cb go oo co gi oi ci al cl r n E){b:Nat}{m:MB}(hb:r.blocks[b]?=some m):U.cell? ⟨gb,ob+b*3,none⟩=some (iZ m.first)/\U.cell? ⟨gb,ob+b*3+1,none⟩=some (iZ m.last):=by
 obtain⟨ys,h1,h2,_⟩:=h.rd.blocks;rw[<-h1,a7]at hb;obtain⟨y,hy,rfl⟩:=cS.1 hb;rcases h2.2 with⟨e0,_⟩|⟨g1,o1,c1,e1,hc⟩
 . have:=(aD.1 hy).1
   rw[<-h1,aj]at e0;omega
 . simp only[aI,aJ,bf,cg]at e1
   obtain⟨⟨rfl,rfl⟩,_⟩:=e1;exact⟨Rd.elem AQ hc b y hy 0 _ rfl,Rd.elem AQ hc b y hy 1 _ rfl⟩
theorem Lw.loop(h:Lw w U X gb ob cb go oo co gi oi ci al cl r n E){i:Nat}{l:ML}(hi:r.loops[i]?=some l):∃gl ol,al=some ⟨gl,ol,none⟩/\∃a1 c1 a2 c2,U.cell? ⟨gl,ol+i*3,none⟩=some (iZ l.head)/\U.cell? ⟨gl,ol+i*3+1,none⟩=some (.slice a1 l.back.length c1)/\U.cell? ⟨gl,ol+i*3+2,none⟩=some (.slice a2 l.blocks.length c2)/\Rd U 1 (.slice a2 l.blocks.length c2) l.blocks.length (l.blocks.flatMap Ab):=by
 obtain⟨ys,h1,h2,h3⟩:=h.rd.loops;rw[<-h1,a7]at hi;obtain⟨y,hy,rfl⟩:=cS.1 hi;obtain⟨a1,c1,e2⟩:=(h3 y (aE hy)).1.is_slice;obtain⟨a2,c2,e3⟩:=(h3 y (aE hy)).2.is_slice;rcases h2.2 with⟨e0,_⟩|⟨g1,o1,c1',e1,hc⟩
 . have:=(aD.1 hy).1
   rw[<-h1,aj]at e0;omega
 . simp only[aI]at e1
   refine⟨g1,o1,e1.1,a1,c1,a2,c2,Rd.elem Bo hc i y hy 0 _ rfl,?_,?_,?_⟩
   . rw[<-e2]
     exact Rd.elem Bo hc i y hy 1 _ rfl
   . rw[<-e3]
     exact Rd.elem Bo hc i y hy 2 _ rfl
   . rw[<-e3]
     exact(h3 y (aE hy)).2
theorem Lw.reach{k:Nat}{S:Nat->Nat}(h:Lw w U X gb ob cb go oo co gi oi ci al cl r n E)(G:Oa r k n E S){t:Nat}(ht:t<n)(z:Int):Calls Tryz.prog 7 #[sO gb ob n cb,iZ 0,iZ (t:Int),iZ z] U fun e U'=>∃b:Bool,e=.returned (.bool b)/\(b=true↔CX E (fun y=>(y:Int)≠z) 0 t)/\Below U.heap.size U U':=
 Lk gb ob cb n 0 t z E U (by have:=G.n2;omega) G.elt G.e2 G.n1 ht h.gr
theorem Lw.start{xs:List MI}{S:Nat->Nat}{a1 a2 a3:Option Addr}(hrf:Dt U (.slice a1 r.blocks.length cb) (.slice a2 r.order.length co) (.slice a3 r.idom.length ci) (.slice al r.loops.length cl) r)(hblk:An U X #[iZ r.code,iZ r.at_,.slice a1 r.blocks.length cb,.slice a2 r.order.length co,.slice a3 r.idom.length ci,.slice al r.loops.length cl] 29)(hg:AD xs)(hbs:r.blocks=Ap xs)(G:Oa r xs.length n (nx (Ap xs)) S)(hbel:Below w.heap.size w U):∃gb ob go oo gi oi,a1=some ⟨gb,ob,none⟩/\a2=some ⟨go,oo,none⟩/\a3=some ⟨gi,oi,none⟩/\Lw w U X gb ob cb go oo co gi oi ci al cl r n (nx (Ap xs)):=by
 have hn:=G.n1;obtain⟨go,oo,e2⟩:=hrf.order.addr (by rw[G.ol];exact hn);obtain⟨gi,oi,e3⟩:=hrf.idom.addr (by rw[G.il];exact hn);have hb:Ha U (.slice a1 r.blocks.length cb) (Ap xs):=by rw[<-hbs];exact hrf.blocks
 obtain⟨gb,ob,c',e1,hgr,_⟩:=hb.graph hg;simp only[aI]at e1;have hl:(Ap xs).length=n:=by rw[<-hbs,G.bl]
 obtain⟨e1,_,_⟩:=e1;subst e1 e2 e3;rw[hl]at hgr;rw[G.bl,G.ol,G.il]at hrf hblk;exact⟨gb,ob,go,oo,gi,oi,rfl,rfl,rfl,hblk,hrf,hgr,hbel⟩
end
theorem JI{p:MP}{f:MF}{x:MI}{d me:Nat}{sh:List Int}{T:Nat->List Int}{D:Nat}(hx:f.code[d]?=some x)(hd:d<=me):Fq p f (me+1-d) d sh T D=if Ga p f x sh=0 then Fq p f (me+1-(d+1)) (d+1) (Lq p f x sh) (G7 T d sh) (max D (Lq p f x sh).length)else .inl (Ga p f x sh,d):=by
 have e:me+1-d=(me+1-(d+1))+1:=by omega
 rw[e,Fq,hx]
theorem LC{p:MP}{f:MF}{me d:Nat}{sh:List Int}{T:Nat->List Int}{D:Nat}(hd:d=me+1):Fq p f (me+1-d) d sh T D=.inr (sh,T,D):=by
 have e:me+1-d=0:=by omega
 rw[e,Fq]
theorem MX{α:Type}{l:List α}{k:Nat}{x:α}(h:l[k]?=some x):l.drop k=x::l.drop (k+1):=by
 obtain⟨i,rfl⟩:=aD.1 h;exact dJ i
theorem Nc{p:MP}{f:MF}{bs:List MB}{order:List Int}{k b:Nat}{z:Int}{m:MB}{s:WS}{RUN:Im}(h:F5 p f bs ((order.map Int.toNat).drop k) s=RUN)(hz:order[k]?=some z)(ez:z=(b:Int))(hm:bs[b]?=some m):(match Pb p f m b s with|.inl e=>Sum.inl e|.inr s'=>F5 p f bs ((order.map Int.toNat).drop (k+1)) s')=RUN:=by
 have e:(order.map Int.toNat)[k]?=some b:=by rw[a7,hz,ez];simp
 rw[MX e,F5,hm]at h;exact h
def G9(p:MP)(f:MF)(bs:List MB)(rest:List Nat)(me:Nat)(nx:List Nat)(sh:List Int)(C:Nat->Option (List Int))(T:Nat->List Int)(D:Nat)(RUN:Im):Prop:=(match GX nx sh C with|none=>Sum.inl (4,me)|some C'=>F5 p f bs rest ⟨C',T,D⟩)=RUN
theorem Na{p:MP}{f:MF}{m:MB}{b ma me:Nat}{s:WS}(h1:m.first=(ma:Int))(h2:m.last=(me:Int)):Pb p f m b s=(match Fq p f (me+1-ma) ma ((s.c b).getD []) s.t s.d with|.inl e=>.inl e|.inr (sh,T,D)=>match GX (m.next.map Int.toNat) sh s.c with|none=>.inl (4,me)|some C=>.inr ⟨C,T,D⟩):=by
 unfold Pb;have e:(m.last-m.first+1).toNat=me+1-ma:=by omega
 rw[e,h1,h2,ao,ao]<;>rfl
theorem G9.bad{p:MP}{f:MF}{bs:List MB}{order:List Int}{k b ma me:Nat}{z:Int}{m:MB}{s:WS}{RUN:Im}{e:Int×Nat}(h:F5 p f bs ((order.map Int.toNat).drop k) s=RUN)(hz:order[k]?=some z)(ez:z=(b:Int))(hm:bs[b]?=some m)(h1:m.first=(ma:Int))(h2:m.last=(me:Int))(hr:Fq p f (me+1-ma) ma ((s.c b).getD []) s.t s.d=.inl e):RUN=.inl e:=by
 have:=Nc h hz ez hm;rw[Na h1 h2,hr]at this;exact this.symm
theorem G9.of{p:MP}{f:MF}{bs:List MB}{order:List Int}{k b ma me:Nat}{z:Int}{m:MB}{s:WS}{RUN:Im}{sh sh':List Int}{T:Nat->List Int}{D:Nat}(h:F5 p f bs ((order.map Int.toNat).drop k) s=RUN)(hz:order[k]?=some z)(ez:z=(b:Int))(hm:bs[b]?=some m)(h1:m.first=(ma:Int))(h2:m.last=(me:Int))(hr:Fq p f (me+1-ma) ma ((s.c b).getD []) s.t s.d=.inr (sh',T,D))(hs:sh'=sh\/m.next=[]):G9 p f bs ((order.map Int.toNat).drop (k+1)) me (m.next.map Int.toNat) sh s.c T D RUN:=by
 have h3:=Nc h hz ez hm;rw[Na h1 h2,hr]at h3;unfold G9;rcases hs with e|e
 . subst e
   rw[<-h3];simp only[];cases GX (m.next.map Int.toNat) sh' s.c<;>rfl
 . rw[e]at h3⊢
   exact h3
theorem G9.none_{p:MP}{f:MF}{bs:List MB}{rest nx:List Nat}{me t:Nat}{sh s':List Int}{C:Nat->Option (List Int)}{T:Nat->List Int}{D:Nat}{RUN:Im}(h:G9 p f bs rest me (t::nx) sh C T D RUN)(hc:C t=some s')(hs:¬s'=sh):RUN=.inl (4,me):=by
 unfold G9 at h;rw[GX,hc]at h;simp only[bu hs]at h;exact h.symm
theorem G9.same{p:MP}{f:MF}{bs:List MB}{rest nx:List Nat}{me t:Nat}{sh s':List Int}{C:Nat->Option (List Int)}{T:Nat->List Int}{D:Nat}{RUN:Im}(h:G9 p f bs rest me (t::nx) sh C T D RUN)(hc:C t=some s')(hs:s'=sh):G9 p f bs rest me nx sh C T D RUN:=by
 unfold G9 at h⊢;rw[GX,hc]at h;simp only[cD hs]at h;exact h
theorem G9.new{p:MP}{f:MF}{bs:List MB}{rest nx:List Nat}{me t:Nat}{sh:List Int}{C:Nat->Option (List Int)}{T:Nat->List Int}{D:Nat}{RUN:Im}(h:G9 p f bs rest me (t::nx) sh C T D RUN)(hc:C t=none):G9 p f bs rest me nx sh (H0 C t sh) T D RUN:=by
 unfold G9 at h⊢;rw[GX,hc]at h;exact h
theorem G9.some_{p:MP}{f:MF}{bs:List MB}{rest:List Nat}{me:Nat}{sh:List Int}{C:Nat->Option (List Int)}{T:Nat->List Int}{D:Nat}{RUN:Im}(h:G9 p f bs rest me [] sh C T D RUN):F5 p f bs rest ⟨C,T,D⟩=RUN:=h
theorem KD{p:MP}{f:MF}{x:MI}{sh:List Int}(h:CL p f x sh=0):(Hk p f x sh).length<=64:=by
 unfold CL at h;by_cases h1:sh.length<(Aw p f x).length
 . rw[cD h1]at h;simp at h
 . rw[bu h1]at h
   split at h
   . simp at h
   . split at h
     . simp at h
     . omega
theorem Pa{xs:List MI}{b e:Nat}{m:MB}{x:MI}(h:(Ap xs)[b]?=some m)(he:m.last=(e:Int))(hx:xs[e]?=some x)(hop:x.op=29):m.next=[]:=by
 unfold Ap at h;rw[a7]at h;obtain⟨m0,h1,rfl⟩:=cS.1 h;have he0:m0.last=(e:Int):=he
 have hB:(Df xs m0).next=Ds xs x e:=by
  unfold Df;rw[he0,ao,bQ,hx];rfl
 rw[hB];simp[Ds,Eg,AG,hop]
end Go.Proofs.YtjpobijiblcgaaaGreat
