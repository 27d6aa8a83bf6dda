import Derived.Test.YthjbicggfnnonaaGreatDoorCw3
import Derived.Deep.DeepCutAuto
namespace Go.Proofs.YthjbicggfnnonaaGreatDoor
open Go.ChangeShapes Go.WideShapes Go.ChangeAt Go.RowKit
set_option linter.unusedVariables false
set_option maxHeartbeats 4000000
set_option maxRecDepth 100000
variable {w u:World}{b x B I L c k e d n m j:Nat}{y:Value}{t:TypeId}{a:Option Addr}{bad:Bool}{f i:Int}{pl:Nat->Nat}{E:Nat->List Nat}{S O r:List Nat}{D:Nat->Nat->Bool}
theorem WB{x:Value}(h:Aw w b #[x,y] t):w.cell? ⟨b,0,none⟩=some x/\w.cell? ⟨b,1,none⟩=some y:=⟨h.cell 0,h.cell 1⟩
theorem Gg{x z v:Value}(h:Aw w b #[x,y,z,v] t):w.cell? ⟨b,0,none⟩=some x/\w.cell? ⟨b,1,none⟩=some y/\w.cell? ⟨b,2,none⟩=some z/\w.cell? ⟨b,3,none⟩=some v:=⟨h.cell 0,h.cell 1,h.cell 2,h.cell 3⟩
theorem F7(B wb:Nat)(a:List Value)(x:Int)(w:World)(h:EM B w wb a)(g:a.length<=1073741000)(c:B<=w.heap.size)(hw:B<=wb):
 Calls Tryz.prog 19 #[.pointer (some ⟨wb,0,none⟩),iZ x] w fun e b=>e=.returned (.tuple #[])/\EM B b wb (a++Az x 1)/\Wg B w b:=by
 have H:=Ag h;go_enter Tryz.func19,Tryz.ntmps19;go_wp2_with fail;refine(Bu B wb a x 1 _ oM oM oM c hw H.o).mono ?_;rintro e u ⟨rfl,f,d⟩;have K:=Ag (f7 f d);go_wp2;go_end0;exact⟨rfl,K.o.1,K.o.2⟩
theorem PR(B wb:Nat)(d:List Value)(x:MI)(w:World)(h:EM B w wb d)(z:d.length<=1073741000)(j:B<=w.heap.size)(hw:B<=wb):
 Calls Tryz.prog 50 #[.pointer (some ⟨wb,0,none⟩),.agg #[iZ x.op,iZ x.a,iZ x.b,iZ x.c]] w fun e r=>e=.returned (.tuple #[])/\EM B r wb (d++BI x)/\Wg B w r:=by
 have k:Hid (Aw (w.alloc (.cells #[iZ x.op,iZ x.a,iZ x.b,iZ x.c] 96)) w.heap.size #[iZ x.op,iZ x.a,iZ x.b,iZ x.c] 96/\EM B (w.alloc (.cells #[iZ x.op,iZ x.a,iZ x.b,iZ x.c] 96)) wb d/\Wg B w (w.alloc (.cells #[iZ x.op,iZ x.a,iZ x.b,iZ x.c] 96))):=⟨Aw.new _ _ _,h.call (Aa _ _),Wg.gz (Aa _ _) j⟩
 have s:d++BI x=((((d++Az (x.op) 1)++Az (x.a) 1)++Az (x.b) 2)++Az (x.c) 4):=by simp[BI,CV]
 rw[s];go_enter Tryz.func50,Tryz.ntmps50;go_wp2_with fail;refine(Bu B wb (d) (x.op) 1 _ oM oM oM (jX j k.o.2.2.size) hw k.o.2.1).mono ?_;rintro e A ⟨rfl,t,m⟩;have f:=Ag (f7 (m.block k.o.1 dC dC) (f7 t (k.o.2.2.trans m)));obtain⟨c0,c1,c2,c3⟩:=Gg f.o.1;go_wp2_with fail;refine(Bu B wb ((d)++Az (x.op) 1) (x.a) 1 _ oM oM (by simp only[f6,Ak];omega) (jX j f.o.2.2.size) hw f.o.2.1).mono ?_;rintro e C ⟨rfl,u,n⟩;have g:=Ag (f7 (n.block f.o.1 dC dC) (f7 u (f.o.2.2.trans n)));obtain⟨c0,c1,c2,c3⟩:=Gg g.o.1;go_wp2_with fail;refine(Bu B wb (((d)++Az (x.op) 1)++Az (x.a) 1) (x.b) 2 _ oM oM (by simp only[f6,Ak];omega) (jX j g.o.2.2.size) hw g.o.2.1).mono ?_;rintro e D ⟨rfl,v,p⟩;have i:=Ag (f7 (p.block g.o.1 dC dC) (f7 v (g.o.2.2.trans p)));obtain⟨c0,c1,c2,c3⟩:=Gg i.o.1;go_wp2_with fail;refine(Bu B wb ((((d)++Az (x.op) 1)++Az (x.a) 1)++Az (x.b) 2) (x.c) 4 _ oM oM (by simp only[f6,Ak];omega) (jX j i.o.2.2.size) hw i.o.2.1).mono ?_;rintro e E ⟨rfl,y,q⟩;have l:=Ag (f7 (q.block i.o.1 dC dC) (f7 y (i.o.2.2.trans q)));go_wp2;go_end0;exact⟨rfl,l.o.2.1,l.o.2.2⟩
theorem Rj(B wb:Nat)(a:List Value)(x:MT)(w:World)(h:EM B w wb a)(u:a.length<=1073741000)(f:B<=w.heap.size)(hw:B<=wb)(v:0<=x.init)(y:x.init<=4294967295):
 Calls Tryz.prog 25 #[.pointer (some ⟨wb,0,none⟩),.agg #[iZ x.func,iZ x.head,iZ x.counter,.int .u32 x.init]] w fun e n=>e=.returned (.tuple #[])/\EM B n wb (a++Cf x)/\Wg B w n:=by
 have g:Hid (Aw (w.alloc (.cells #[iZ x.func,iZ x.head,iZ x.counter,.int .u32 x.init] 72)) w.heap.size #[iZ x.func,iZ x.head,iZ x.counter,.int .u32 x.init] 72/\EM B (w.alloc (.cells #[iZ x.func,iZ x.head,iZ x.counter,.int .u32 x.init] 72)) wb a/\Wg B w (w.alloc (.cells #[iZ x.func,iZ x.head,iZ x.counter,.int .u32 x.init] 72))):=⟨Aw.new _ _ _,h.call (Aa _ _),Wg.gz (Aa _ _) f⟩
 have p:a++Cf x=((((a++Az (x.func) 2)++Az (x.head) 2)++Az (x.counter) 1)++Az (x.init) 4):=by simp[Cf,CV]
 rw[p];go_enter Tryz.func25,Tryz.ntmps25;go_wp2_with fail;refine(Bu B wb (a) (x.func) 2 _ oM oM oM (jX f g.o.2.2.size) hw g.o.2.1).mono ?_;rintro e z ⟨rfl,q,j⟩;have b:=Ag (f7 (j.block g.o.1 dC dC) (f7 q (g.o.2.2.trans j)));obtain⟨c0,c1,c2,c3⟩:=Gg b.o.1;go_wp2_with fail;refine(Bu B wb ((a)++Az (x.func) 2) (x.head) 2 _ oM oM (by simp only[f6,Ak];omega) (jX f b.o.2.2.size) hw b.o.2.1).mono ?_;rintro e A ⟨rfl,r,k⟩;have c:=Ag (f7 (k.block b.o.1 dC dC) (f7 r (b.o.2.2.trans k)));obtain⟨c0,c1,c2,c3⟩:=Gg c.o.1;go_wp2_with fail;refine(Bu B wb (((a)++Az (x.func) 2)++Az (x.head) 2) (x.counter) 1 _ oM oM (by simp only[f6,Ak];omega) (jX f c.o.2.2.size) hw c.o.2.1).mono ?_;rintro e C ⟨rfl,s,l⟩;have d:=Ag (f7 (l.block c.o.1 dC dC) (f7 s (c.o.2.2.trans l)));obtain⟨c0,c1,c2,c3⟩:=Gg d.o.1;go_wp2_with fail;refine(Bu B wb ((((a)++Az (x.func) 2)++Az (x.head) 2)++Az (x.counter) 1) (x.init) 4 _ oM oM (by simp only[f6,Ak];omega) (jX f d.o.2.2.size) hw d.o.2.1).mono ?_;rintro e D ⟨rfl,t,m⟩;have i:=Ag (f7 (m.block d.o.1 dC dC) (f7 t (d.o.2.2.trans m)));go_wp2;go_end0;exact⟨rfl,i.o.2.1,i.o.2.2⟩
theorem PQ(B wb:Nat)(a:List Value)(x:MC)(w:World)(h:EM B w wb a)(n:a.length<=1073741000)(d:B<=w.heap.size)(hw:B<=wb)(p:0<=x.word)(q:x.word<=4294967295):
 Calls Tryz.prog 21 #[.pointer (some ⟨wb,0,none⟩),.agg #[iZ x.type,.int .u32 x.word]] w fun e j=>e=.returned (.tuple #[])/\EM B j wb (a++Bz x)/\Wg B w j:=by
 have c:Hid (Aw (w.alloc (.cells #[iZ x.type,.int .u32 x.word] 63)) w.heap.size #[iZ x.type,.int .u32 x.word] 63/\EM B (w.alloc (.cells #[iZ x.type,.int .u32 x.word] 63)) wb a/\Wg B w (w.alloc (.cells #[iZ x.type,.int .u32 x.word] 63))):=⟨Aw.new _ _ _,h.call (Aa _ _),Wg.gz (Aa _ _) d⟩
 have k:a++Bz x=((a++Az (x.type) 1)++Az (x.word) 4):=by simp[Bz]
 rw[k];go_enter Tryz.func21,Tryz.ntmps21;go_wp2_with fail;refine(F7 B wb (a) (x.type) _ c.o.2.1 oM (jX d c.o.2.2.size) hw).mono ?_;rintro e r ⟨rfl,l,g⟩;have b:=Ag (f7 (g.block c.o.1 dC dC) (f7 l (c.o.2.2.trans g)));obtain⟨c0,c1⟩:=WB b.o.1;go_wp2_with fail;refine(Bu B wb ((a)++Az (x.type) 1) (x.word) 4 _ oM oM (by simp only[f6,Ak];omega) (jX d b.o.2.2.size) hw b.o.2.1).mono ?_;rintro e s ⟨rfl,m,i⟩;have f:=Ag (f7 (i.block b.o.1 dC dC) (f7 m (b.o.2.2.trans i)));go_wp2;go_end0;exact⟨rfl,f.o.2.1,f.o.2.2⟩
structure FH(w:World)(B I L:Nat)(a:Option Addr)(c:Nat)(zs:List Int)(k:Nat)(bad:Bool):Prop where
 cC:Aw w I #[.slice a L c,iZ (k:Int),.bool bad] 50
 rd:∀u,Below B w u->Cj u (.slice a L c) L (zs.map (Value.int .u8))
 ir:L<=1048576
 at_:k<=L
 hB:B<=I
 hz:C7 zs
theorem FH.len{b:List Int}(h:FH w B I L a c b k bad):b.length=L:=by have:=(h.rd w (kV _ _)).1;simpa using this
theorem FH.lt{b:List Int}(h:FH w B I L a c b k bad):I<w.heap.size:=h.cC.lt
theorem FH.low{e:List Int}(h:FH w B I L a c e k bad)(f:Below B w u){d:Bool}(i:b<=L)(g:Aw u I #[.slice a L c,iZ (b:Int),.bool d] 50):FH u B I L a c e b d:=⟨g,fun v j=>h.rd v (f.trans j),h.ir,i,h.hB,h.hz⟩
theorem FH.aa{d:List Int}(h:FH w B I L a c d k bad)(b:Below w.heap.size w u):FH u B I L a c d k bad:=h.low (b.mono (by have:=h.hB;have:=h.lt;omega)) h.at_ (h.cC.aa b)
structure Cx(w u:World)(B I L:Nat)(a:Option Addr)(c:Nat)(zs:List Int)(k:Nat)(bad:Bool):Prop where
 at_:FH u B I L a c zs k bad
 gH:En (fun j=>j=I) w u
theorem Cx.below{d:List Int}{g:Nat}{f:Bool}(h:Cx w u B I L a c d k bad)(b:FH w B I L a c d g f):Below B w u:=h.gH.below (by have:=b.hB;have:=b.lt;omega) (fun j i e=>by have:=b.hB;omega)
theorem Du{X:Nat}{a x1 x2:Value}(h:Aw u X #[a,x1,x2] t):u.cell? ⟨X,0,none⟩=some a/\u.cell? ⟨X,1,none⟩=some x1/\u.cell? ⟨X,2,none⟩=some x2:=⟨h.cell 0,h.cell 1,h.cell 2⟩
def VB(a:List Int)(n k:Nat)(g:Bool)(x:Int):Prop:=(g=true/\Cz a n k=some (x,k+n))\/(g=false/\Cz a n k=none/\x=0)
theorem Pa{b:List Int}(h:FH w B I L a c b k bad)(n:Nat)(h1:1<=n)(f:n<=8):∃g x,VB b n k g x/\∀u,Below B w u->Calls Tryz.prog 12 #[.slice a L c,iZ (k:Int),iZ (n:Int)] u fun e j=>e=.returned (.agg #[.bool g,iZ x])/\Below u.heap.size u j:=by
 have l:=h.len;by_cases i:k+n<=L
 . exact⟨true,wrap64 (BW b k n),.inl ⟨rfl,by unfold Cz;rw[lI oM]⟩,fun u d=>FU (.slice a L c) L b k n u h.ir (h.rd u d) h1 f i⟩
 exact⟨false,0,.inr ⟨rfl,by unfold Cz;rw[lE oM],rfl⟩,fun u d=>Ky a L c k n u h.ir oM⟩
theorem BP(B I L:Nat)(a:Option Addr)(c:Nat)(C:List Int)(n k:Nat)(bad:Bool)(w:World)(h1:1<=n)(V:n<=8)(h:FH w B I L a c C k bad):
 Calls Tryz.prog 36 #[.pointer (some ⟨I,0,none⟩),iZ (n:Int)] w fun e F=>∃(v:Int) (R:Nat) (K:Bool),e=.returned (iZ v)/\(K=true->v=0)/\AZ (Cz C n) k bad v R K/\Cx w F B I L a c C R K:=by
 obtain⟨g,x,a6,W⟩:=Pa h n h1 V;have P:=h.at_;have am:=h.ir;have N:=Ag W;have O:=Ag a6;have H:=Ag h;have ae:=h.lt;have M:=h.hB;go_enter Tryz.func36,Tryz.ntmps36;go_upto_region 1 with fail
 go_cut [5] (fun s T=>∃X,s=.pointer (some ⟨X,0,none⟩)/\Hid (Aw T X #[.bool g,iZ x] 44/\Below w.heap.size w T/\w.heap.size<=X))
 case first=>
  have p:∀u,Aw u I #[.slice a L c,iZ (k:Int),.bool bad] 50->(u.cell? ⟨I,0,none⟩=some (.slice a L c)/\u.cell? ⟨I,1,none⟩=some (iZ (k:Int))):=fun u h=>⟨h.cell 0,h.cell 1⟩
  have y:Hid (Below w.heap.size w w.drew):=Ae _;refine wp_region_held_drew (S:=fun F=>F.cell? ⟨I,0,none⟩=some (.slice a L c)/\F.cell? ⟨I,1,none⟩=some (iZ (k:Int))) kR (p _ (H.o.cC.aa y.o)) (fun r=> ?_)
  generalize w.drew=q at y r⊢;iterate 1
   refine An 0 ?_
  refine An 1 ?_;refine An 2 ?_;refine An 3 ?_;refine An 4 ?_;refine An 5 ?_;refine An 6 ?_;refine An 7 ?_;refine An 8 ?_;go_simp;refine wpAnyH_ready (rs:=[9,10]) kR sP ?_;refine AllReadyH.cons rfl (fun A f=> ?_) (AllReadyH.cons rfl (fun A f=> ?_) AllReadyH.nil)
  . go_simp;refine(N.o q (y.o.mono oM)).mono ?_;rintro e m ⟨rfl,E⟩;have G:=Ag (Ac y.o lR E);go_simp;refine f.o _ _ (p _ (H.o.cC.aa G.o)) (fun r=> ?_);refine rdH 10 ?_;intro A f;go_simp;have b:Hid (Aw (m.alloc (.cells #[.bool false,iZ 0] 44)) m.heap.size #[.bool false,iZ 0] 44/\Below w.heap.size w (m.alloc (.cells #[.bool false,iZ 0] 44))/\w.heap.size<=m.heap.size):=⟨Aw.new _ _ _,Ac G.o lR (Aa _ _),G.o.size⟩
    refine f.o _ _ (p _ (H.o.cC.aa b.o.2.1)) (fun r=> ?_);generalize m.alloc (.cells #[.bool false,iZ 0] 44)=D at b⊢;generalize m.heap.size=d at b⊢;refine rdH 11 ?_;intro A f;have c0:=b.o.1.cell 0;have c1:=b.o.1.cell 1;have z0:=b.o.1.frozen 0;have U:=b.o.1.frozen 1;simp only[jZ,i5,i8]at c0 c1;go_simp;have z:Hid (Aw ((D.setCell ⟨d,0,none⟩ (.bool g)).setCell ⟨d,1,none⟩ (iZ x)) d #[.bool g,iZ x] 44/\Below w.heap.size w ((D.setCell ⟨d,0,none⟩ (.bool g)).setCell ⟨d,1,none⟩ (iZ x))/\w.heap.size<=d):=by refine⟨?_,(b.o.2.1.setCell b.o.2.2 _).setCell b.o.2.2 _,b.o.2.2⟩;have:=(b.o.1.set 0 (.bool g)).set 1 (iZ x);simpa using this
    refine f.o _ _ (p _ (H.o.cC.aa z.o.2.1)) (fun r=> ?_);refine wpAnyH_done kR ?_ _;go_wp2_with fail;go_meet;exact⟨_,rfl,z⟩
  .
   go_simp;have b:Hid (Aw (q.alloc (.cells #[.bool false,iZ 0] 44)) q.heap.size #[.bool false,iZ 0] 44/\Below w.heap.size w (q.alloc (.cells #[.bool false,iZ 0] 44))/\w.heap.size<=q.heap.size):=⟨Aw.new _ _ _,Ac y.o lR (Aa _ _),y.o.size⟩
   refine f.o _ _ (p _ (H.o.cC.aa b.o.2.1)) (fun r=> ?_);generalize q.alloc (.cells #[.bool false,iZ 0] 44)=D at b⊢;generalize q.heap.size=d at b⊢;refine rdH 9 ?_;intro A f;go_simp;refine(N.o D (b.o.2.1.mono oM)).mono ?_;rintro e m ⟨rfl,E⟩;have i:=Ag (f7 (b.o.1.aa E) (f7 (Ac b.o.2.1 lR E) b.o.2.2));go_simp;refine f.o _ _ (p _ (H.o.cC.aa i.o.2.1)) (fun r=> ?_);refine rdH 11 ?_;intro A f;have c0:=i.o.1.cell 0;have c1:=i.o.1.cell 1;have z0:=i.o.1.frozen 0;have U:=i.o.1.frozen 1;simp only[jZ,i5,i8]at c0 c1;go_simp;have z:Hid (Aw ((m.setCell ⟨d,0,none⟩ (.bool g)).setCell ⟨d,1,none⟩ (iZ x)) d #[.bool g,iZ x] 44/\Below w.heap.size w ((m.setCell ⟨d,0,none⟩ (.bool g)).setCell ⟨d,1,none⟩ (iZ x))/\w.heap.size<=d):=by refine⟨?_,(i.o.2.1.setCell i.o.2.2 _).setCell i.o.2.2 _,i.o.2.2⟩;have:=(i.o.1.set 0 (.bool g)).set 1 (iZ x);simpa using this
   refine f.o _ _ (p _ (H.o.cC.aa z.o.2.1)) (fun r=> ?_);refine wpAnyH_done kR ?_ _;go_wp2_with fail;go_meet;exact⟨_,rfl,z⟩
 case rest=>
 obtain⟨X,rfl,l⟩:=hcut;have t:=Ag (H.o.cC.aa l.o.2.1);obtain⟨c0,c1,c2⟩:=Du t.o;have U:=t.o.frozen 1;have z2:=t.o.frozen 2;have d0:wc.cell? ⟨X,0,none⟩=some (.bool g):=l.o.1.cell 0;have d1:wc.cell? ⟨X,1,none⟩=some (iZ x):=l.o.1.cell 1;have J:Hid (En (fun j=>j=I) w wc):=En.of l.o.2.1;cases bad
 . cases g
   . have Z:Hid (Cz C n k=none):=by
      rcases O.o with⟨e,_⟩|⟨_,e,_⟩
      . cases e
      exact e
     go_wp2;go_ret;refine⟨0,k,true,rfl,fun _=>rfl,.inr ⟨rfl,.inr Z.o⟩,?_,J.o.setCell (.inl rfl) _⟩;refine H.o.low ((l.o.2.1.mono oM).setCell M _) P ?_;have:=t.o.set 2 (.bool true);simpa using this
   . have Q:Hid (Cz C n k=some (x,k+n)):=by
      rcases O.o with⟨_,e⟩|⟨e,_⟩
      . exact e
      cases e
     have ah:=(Jk Q.o).2.1;have aj:=H.o.len;have Y:k+n<=L:=oM;have a8:(wc.setCell ⟨I,1,none⟩ (iZ ((k:Int)+(n:Int)))).cell? ⟨X,1,none⟩=some (iZ x):=(l.o.1.other (a:=⟨I,1,none⟩) (by have:=l.o.2.2;simp only[];omega) _).cell 1;go_wp2;go_ret;refine⟨x,k+n,false,rfl,(fun e=>by cases e),.inl ⟨rfl,rfl,Q.o⟩,?_,J.o.setCell (.inl rfl) _⟩;refine H.o.low ((l.o.2.1.mono oM).setCell M _) Y ?_;have:=t.o.set 1 (iZ ((k:Int)+(n:Int)));simpa using this
 go_wp2;go_ret;refine⟨0,k,true,rfl,fun _=>rfl,.inr ⟨rfl,.inl rfl⟩,?_,J.o.setCell (.inl rfl) _⟩;refine H.o.low ((l.o.2.1.mono oM).setCell M _) P ?_;have:=t.o.set 2 (.bool true);simpa using this
inductive FK (E:Nat->List Nat) (ok:Nat->Prop) (a:Nat):Nat->Prop
 |here:ok a->FK E ok a a
 |step {b c:Nat}:FK E ok a b->c∈E b->ok c->FK E ok a c
inductive Il (E:Nat->List Nat) (ok:Nat->Prop) (a:Nat):Nat->Nat->Prop
 |here (k:Nat):ok a->Il E ok a k a
 |step {k b c:Nat}:Il E ok a k b->c∈E b->ok c->Il E ok a (k+1) c
section
variable {E:Nat->List Nat} {ok ok':Nat->Prop} {a b c:Nat}
theorem FK.trans(h:FK E ok a b)(d:FK E ok b c):FK E ok a c:=by
 induction d with
 |here _=>exact h
 |step _ h2 e f=>exact .step f h2 e
theorem FK.mono(h:FK E ok a b)(hw:∀x,ok x->ok' x):FK E ok' a b:=by
 induction h with
 |here h=>exact .here (hw _ h)
 |step _ h2 c d=>exact .step d h2 (hw _ c)
theorem FK.jH(h:FK E ok a b):ok b:=by
 cases h with
 |here h=>exact h
 |step _ _ h=>exact h
theorem FK.jo(h:FK E ok a b):ok a:=by
 induction h with
 |here h=>exact h
 |step _ _ _ c=>exact c
theorem FK.lt(c:∀b,b<n->∀x∈E b,x<n)(d:a<n)(h:FK E ok a b):b<n:=by
 induction h with
 |here _=>exact d
 |step _ h2 _ e=>exact c _ e _ h2
theorem Il.mono(h:Il E ok a k b)(f:k<=c):Il E ok a c b:=by
 induction h generalizing c with
 |here k h=>exact .here _ h
 | step _ h2 d e=>
   cases c with
   |zero=>omega
   |succ c=>exact .step (e oM) h2 d
theorem Il.j6(h:Il E ok a k b):FK E ok a b:=by
 induction h with
 |here k h=>exact .here h
 |step _ h2 c d=>exact .step d h2 c
theorem FK.some(h:FK E ok a b):∃k,Il E ok a k b:=by
 induction h with
 |here h=>exact⟨0,.here _ h⟩
 | step _ h2 c e=>obtain⟨k,d⟩:=e;exact⟨k+1,.step d h2 c⟩
end
def Gc(E:Nat->List Nat)(d b:Nat):Prop:=¬FK E (· ≠d) 0 b
inductive Gt (I:Nat->Int) (d:Nat):Nat->Prop
 |here:Gt I d d
 |up {b c:Nat}:b≠0->I b=(c:Int)->Gt I d c->Gt I d b
def Kn(I:Nat->Int)(b:Nat):Prop:=b=0\/I b≠ -1
structure Ru(n:Nat)(pl:Nat->Nat)(I:Nat->Int):Prop where
 up:∀b,b<n->b≠0->I b≠ -1->∃c:Nat,I b=(c:Int)/\c<n/\pl c<pl b/\Kn I c
section
variable {n:Nat} {pl:Nat->Nat} {I J:Nat->Int} {d e b c x:Nat}
theorem Gt.trans(h:Gt I d c)(a:Gt I c b):Gt I d b:=by
 induction a with
 |here=>exact h
 |up h1 h2 _ ih=>exact .up h1 h2 ih
theorem Gt.iY(g:Ru n pl I)(a:b<n)(h:Gt I d b):pl d<=pl b/\(d≠b->pl d<pl b)/\d<n:=by
 induction h with
 |here=>exact⟨Nat.le_refl _,fun h=>absurd rfl h,a⟩
 | @up b c h1 h2 _ ih=>obtain⟨c',e,f,j,_⟩:=g.up b a h1 (by rw[h2];omega);obtain rfl:c'=c:=oM;obtain⟨k,l,i⟩:=ih f;exact⟨oM,fun _=>oM,i⟩
theorem Gt.zero(h:Gt I d 0):d=0:=by
 cases h with
 |here=>rfl
 |up h1=>exact absurd rfl h1
theorem Gt.jg(h:Gt I d b)(a:d≠b):b≠0/\∃c:Nat,I b=(c:Int)/\Gt I d c:=by
 cases h with
 |here=>exact absurd rfl a
 |up h1 h2 h3=>exact⟨h1,_,h2,h3⟩
theorem Gt.jp(a:Ru n pl I)(f:b<n)(h:Gt I d b)(c:Gt I b d):d=b:=by
 have h1:=h.iY a f;have h2:=c.iY a h1.2.2;by_cases e:d=b
 . exact e
 have:=h1.2.1 e;omega
theorem Gt.turn(f:∀y,y≠b->I y=J y)(h:Gt I d x):Gt J d x\/(Gt J b x/\Gt I b x/\Gt I d b):=by
 induction h with
 |here=>exact .inl .here
 | @up x c h1 h2 h3 a=>
   by_cases e:x=b
   . subst e;exact .inr ⟨.here,.here,.up h1 h2 h3⟩
   rcases a with a|⟨g,i,j⟩
   . exact .inl (.up h1 (by rw[<-f x e];exact h2) a)
   exact .inr ⟨.up h1 (by rw[<-f x e];exact h2) g,.up h1 h2 i,j⟩
end
def G9(I:Nat->Int)(a b m:Nat):Prop:=∀d,Gt I d m↔Gt I d a/\Gt I d b
theorem G9.same(I:Nat->Int)(a:Nat):G9 I a a a:=fun d=>⟨fun h=>⟨h,h⟩,fun h=>h.1⟩
theorem G9.symm{I:Nat->Int}{a:Nat}(h:G9 I a b m):G9 I b a m:=fun d=>(h d).trans And.comm
theorem G9.left{I:Nat->Int}{a:Nat}(k:Ru n pl I)(i:b<n)(p:pl b<pl a)(g:a≠0)(j:I a=(c:Int))(h:G9 I c b m):G9 I a b m:=fun d=>by
 rw[h d];refine⟨fun q=>⟨.up g j q.1,q.2⟩,fun q=>⟨?_,q.2⟩⟩;by_cases e:d=a
 . subst e;have:=(q.2.iY k i).1;omega
 obtain⟨_,c',l,f⟩:=q.1.jg e;obtain rfl:c'=c:=oM;exact f
structure Nf(E:Nat->List Nat)(n:Nat)(pl:Nat->Nat)(I:Nat->Int):Prop where
 tree:Ru n pl I
 dom:∀x,x<n->Kn I x->∀d,Gc E d x->Gt I d x
 jm:∀b c:Nat,b<n->b≠0->I b=(c:Int)->FK E (fun x=>pl c<=pl x) c b
def Rv(E:Nat->List Nat)(n:Nat)(pl:Nat->Nat)(I:Nat->Int)(k j:Nat):Prop:=∀x,x<n->Kn I x->∀e,Gt I e x->¬Il E (· ≠e) 0 k x/\(pl x<j->¬Il E (· ≠e) 0 (k+1) x)
theorem Nf.down{I:Nat->Int}(h:Nf E n pl I)(d:x<n)(f:Gt I b x):FK E (fun y=>pl b<=pl y) b x:=by
 induction f with
 |here=>exact .here lR
 | @up x c h1 h2 h3 ih=>obtain⟨c',e,a,g,_⟩:=h.tree.up x d h1 (by rw[h2];omega);obtain rfl:c'=c:=oM;have i:=(h3.iY h.tree a).1;exact(ih a).trans ((h.jm x c' d h1 h2).mono fun y j=>oM)
theorem Il.split(h:Il E (· ≠e) 0 k x):Il E (· ≠b) 0 k x\/Il E (· ≠e) 0 k b:=by
 induction h with
 | here k h=>
   by_cases q:(0:Nat)=b
   . subst q;exact .inr (.here _ h)
   exact .inl (.here _ q)
 | @step k p c h1 h2 h3 a=>
   rcases a with a|a
   . by_cases q:c=b
     . subst q;exact .inr (.step h1 h2 h3)
     exact .inl (.step a h2 q)
   exact .inr (a.mono oM)
def Rr(E:Nat->List Nat)(n b:Nat)(ps:List Nat):Prop:=∀p,p∈ps↔p<n/\b∈E p
theorem RY{ps:List Nat}(e:Rr E n b ps)(h:Gc E d b)(a:d≠b):∀p∈ps,Gc E d p:=fun p c f=>h (.step f ((e p).1 c).2 a.symm)
structure Ha(E:Nat->List Nat)(n:Nat)(pl:Nat->Nat):Prop where
 pos:0<n
 jN:∀b,b<n->∀x∈E b,x<n
 zero:pl 0=0
 cK:∀b,b<n->b≠0->0<pl b
 inj:∀a b,a<n->b<n->pl a=pl b->a=b
 ij:∀b,b<n->b≠0->∃q,q<n/\b∈E q/\pl q<pl b
section
variable {E:Nat->List Nat} {n:Nat} {pl:Nat->Nat} {I J:Nat->Int} {b m k:Nat} {ps:List Nat}
theorem Nf.set(L:Ha E n pl)(a:Nf E n pl I)(M:b<n)(N:b≠0)(t:Rr E n b ps)(Q:∀x,x<n->pl x<pl b->Kn I x)(s:m<n)(R:Kn I m)(C:pl m<pl b)(B:∀d,Gt I d m↔∀p∈ps,Kn I p->Gt I d p)(f:∀y,y≠b->I y=J y)(k:J b=(m:Int)):Nf E n pl J/\(∀x,Kn I x->Kn J x)/\(∀x,Kn J x->x=b\/Kn I x)/\(∀d,Gt I d m↔Gt J d m):=by
 have r:∀x,Kn I x->Kn J x:=fun x h=>by
  by_cases e:x=b
  . subst e;exact .inr (by rw[k];omega)
  rcases h with h|h
  . exact .inl h
  exact .inr (by rw[<-f x e];exact h)
 have A:∀x,Kn J x->x=b\/Kn I x:=fun x h=>by
  by_cases e:x=b
  . exact .inl e
  rcases h with h|h
  . exact .inr (.inl h)
  exact .inr (.inr (by rw[f x e];exact h))
 have w:Ru n pl J:=⟨fun x g j h1=>by
  by_cases e:x=b
  . subst e;exact⟨m,k,s,C,r m R⟩
  obtain⟨c,c1,c2,c3,c4⟩:=a.tree.up x g j (by rw[f x e];exact h1);exact⟨c,by rw[<-f x e];exact c1,c2,c3,r c c4⟩⟩
 have D:∀d,Gt I d m↔Gt J d m:=fun d=>by
  constructor
  . intro h;rcases h.turn f with h|⟨_,h2,_⟩
    . exact h
    have:=(h2.iY a.tree s).1;omega
  intro h;rcases h.turn (fun y G=>(f y G).symm)with h|⟨_,h2,_⟩
  . exact h
  have:=(h2.iY w s).1;omega
 have z:∀d,Gc E d b->Gt J d b:=fun d i=>by
  by_cases e:d=b
  . subst e;exact .here
  refine .up N k ((D d).1 ((B d).2 fun p F l=>a.dom p ((t p).1 F).1 l d (RY t i e p F)))
 refine⟨⟨w,fun x g l d i=> ?_,fun x c g j O=> ?_⟩,r,A,D⟩
 . by_cases e:x=b
   . subst e;exact z d i
   have P:=(A x l).resolve_left e;rcases(a.dom x g P d i).turn f with h|⟨h1,h2,K⟩
   . exact h
   by_cases v:d=b
   . subst v;exact h1
   refine(z d fun S=>i (S.trans ((a.down g h2).mono fun y G q=> ?_))).trans h1;subst q;have:=(K.iY a.tree M).2.1 v;omega
 by_cases e:x=b
 . subst e;obtain rfl:c=m:=oM;obtain⟨q,u,H,T⟩:=L.ij x g j;have U:=(B c).1 .here q ((t q).2 ⟨u,H⟩) (Q q u T);exact .step (a.down u U) H (mr C)
 exact a.jm x c g j (by rw[f x e];exact O)
theorem Rv.set(i:Ha E n pl)(u:Nf E n pl I)(j:Rv E n pl I k (pl b))(w:b<n)(z:b≠0)(C:Rr E n b ps)(M:∀x,x<n->pl x<pl b->Kn I x)(G:k=0\/∀x,x<n->Kn I x)(O:m<n)(P:Kn I m)(Q:pl m<pl b)(A:∀d,Gt I d m↔∀p∈ps,Kn I p->Gt I d p)(v:∀y,y≠b->I y=J y)(F:J b=(m:Int)):Rv E n pl J k (pl b+1):=by
 obtain⟨T,U,L,R⟩:=u.set i w z C M O P Q A v F;have s:∀e,Gt J e b->¬Il E (· ≠e) 0 (k+1) b:=fun e f a=>by
  by_cases q:e=b
  . subst q;exact a.j6.jH rfl
  obtain⟨_,c,c1,c2⟩:=f.jg q;obtain rfl:c=m:=oM;have H:=(A e).1 ((R e).2 c2);cases a with
  |here _ h=>exact z rfl
  | @step _ p _ h1 h2 t=>
    have r:p<n:=h1.j6.lt i.jN i.pos;have B:Kn I p:=by
     rcases G with rfl|h
     . (cases h1);exact .inl rfl
     exact h p r
    exact(j p r B e (H p ((C p).2 ⟨r,h2⟩) B)).1 h1
 intro x g K e f;by_cases q:x=b
 . subst q;exact⟨fun h=>s e f (h.mono oM),fun _=>s e f⟩
 have l:=(L x K).resolve_left q;rcases f.turn (fun y S=>(v y S).symm)with h|⟨h1,h2,t⟩
 . refine⟨(j x g l e h).1,fun N=>(j x g l e h).2 ?_⟩;by_cases D:pl x=pl b
   . exact absurd (i.inj x b g w D) q
   omega
 refine⟨fun a=> ?_,fun N=> ?_⟩
 . rcases a.split (b:=b)with a|a
   . exact(j x g l b h1).1 a
   exact s e t (a.mono oM)
 have:=(h1.iY u.tree g).2.1 (Ne.symm q);omega
theorem Nf.start(a:∀y,I y=-1):Nf E n pl I:=⟨⟨fun b _ _ h=>absurd (a b) h⟩,fun x i g d f=>by
 obtain rfl:x=0:=g.resolve_right fun h=>h (a x)
 by_cases e:d=0
 . subst e;exact .here
 exact absurd (.here (Ne.symm e)) f,fun b c _ _ h=>by rw[a b]at h;omega⟩
theorem Rv.start(d:Ha E n pl)(a:∀y,I y=-1):Rv E n pl I 0 1:=fun x f c e b=>by
 obtain rfl:x=0:=c.resolve_right fun h=>h (a x)
 obtain rfl:=b.zero;exact⟨fun h=>h.j6.jo rfl,fun _ h=>h.j6.jo rfl⟩
end
inductive Vs (E:Nat->List Nat):List Nat->List Nat->List Nat->List Nat->List Nat->Prop
 |nil (S O:List Nat):Vs E S O [] S O
 |old {S O r S' O':List Nat} {b:Nat}:b∈S->Vs E S O r S' O'->Vs E S O (b::r) S' O'
 |new {S O r S1 O1 S2 O2:List Nat} {b:Nat}:b∉S->Vs E (b::S) O (E b) S1 O1->Vs E S1 (O1++[b]) r S2 O2->Vs E S O (b::r) S2 O2
theorem Vs.one{e d b a:List Nat}(h:Vs E S O r e d)(c:Vs E S O r b a):e=b/\d=a:=by
 induction h generalizing b a with
 |nil S O=>cases c with|nil=>exact⟨rfl,rfl⟩
 | old h1 _ ih=>
   cases c with
   |old _ h3=>exact ih h3
   |new h3=>exact absurd h1 h3
 | new h1 _ _ ih1 ih2=>
   cases c with
   |old h3=>exact absurd h3 h1
   | new _ h3 h4=>obtain⟨rfl,rfl⟩:=ih1 h3;exact ih2 h4
theorem Vs.en{f d b e c:List Nat}(h:Vs E S O r d b)(a:Vs E d b f e c):Vs E S O (r++f) e c:=by
 induction h with
 |nil S O=>exact a
 |old h1 _ ih=>exact .old h1 (ih a)
 |new h1 h2 _ _ ih=>exact .new h1 h2 (ih a)
structure Un(E:Nat->List Nat)(S O r S' O' N:List Nat):Prop where
 o:O'=O++N
 seen:∀x,x∈S'↔x∈S\/x∈N
 nodup:N.Nodup
 fresh:∀x∈N,x∉S
 todo:∀x∈r,x∈S'
 closed:∀x∈N,∀y∈E x,y∈S'
 ij:∀x∈N,x∈r\/∃p A B C,N=A++x::B++p::C/\x∈E p
 from_:∀x∈N,∃t∈r,FK E (· ∉S) t x
theorem Vs.told{s n:List Nat}(h:Vs E S O r s n):∃N,Un E S O r s n N:=by
 induction h with
 |nil S O=>exact⟨[],sP,sP,List.nodup_nil,sP,sP,sP,sP,sP⟩
 | @old S O r s n b h1 _ ih=>
   obtain⟨N,t⟩:=ih;refine⟨N,t.o,t.seen,t.nodup,t.fresh,fun x a=> ?_,t.closed,fun x a=> ?_,fun x a=> ?_⟩
   . rcases ka.1 a with rfl|a
     . exact(t.seen x).2 (.inl h1)
     exact t.todo x a
   . rcases t.ij x a with h|h
     . exact .inl (kw _ h)
     exact .inr h
   obtain⟨y,h2,w⟩:=t.from_ x a;exact⟨y,kw _ h2,w⟩
 | @new S O r S1 O1 S2 O2 b h1 _ _ ih1 ih2=>
   obtain⟨j,f⟩:=ih1;obtain⟨k,c⟩:=ih2;have m:∀x,x∈S1↔x=b\/x∈S\/x∈j:=fun x=>by rw[f.seen,ka,or_assoc]
   have u:∀x,x∈S2↔x=b\/x∈S\/x∈j\/x∈k:=fun x=>by
    rw[c.seen,m];constructor
    . rintro((h|h|h)|h)
      . exact .inl h
      . exact .inr (.inl h)
      . exact .inr (.inr (.inl h))
      exact .inr (.inr (.inr h))
    rintro(h|h|h|h)
    . exact .inl (.inl h)
    . exact .inl (.inr (.inl h))
    . exact .inl (.inr (.inr h))
    exact .inr h
   have l:∀x,x∈j++b::k↔x=b\/x∈j\/x∈k:=fun x=>by
    rw[kB,ka];constructor
    . rintro(h|h|h)
      . exact .inr (.inl h)
      . exact .inl h
      exact .inr (.inr h)
    rintro(h|h|h)
    . exact .inr (.inl h)
    . exact .inl h
    exact .inr (.inr h)
   refine⟨j++b::k,?_,fun x=> ?_,?_,fun x a=> ?_,fun x a=> ?_,fun x a y d=> ?_,fun x a=> ?_,fun x a=> ?_⟩
   . rw[c.o,f.o];simp
   . rw[u,l];constructor
     . rintro(h|h|h)
       . exact .inr (.inl h)
       . exact .inl h
       exact .inr (.inr h)
     rintro(h|h|h)
     . exact .inr (.inl h)
     . exact .inl h
     exact .inr (.inr h)
   . rw[mu];refine⟨f.nodup,List.nodup_cons.2 ⟨fun h=>c.fresh b h ((m b).2 (.inl rfl)),c.nodup⟩,fun x a y d e=> ?_⟩;subst e;rcases ka.1 d with rfl|d
     . exact f.fresh x a (lS ..)
     exact c.fresh x d ((m x).2 (.inr (.inr a)))
   . rcases(l x).1 a with rfl|h|h
     . exact h1
     . exact fun q=>f.fresh x h (kw _ q)
     exact fun q=>c.fresh x h ((m x).2 (.inr (.inl q)))
   . rcases ka.1 a with rfl|a
     . exact(u x).2 (.inl rfl)
     exact c.todo x a
   . rcases(l x).1 a with rfl|h|h
     . exact(c.seen y).2 (.inl (f.todo y d))
     . exact(c.seen y).2 (.inl (f.closed x h y d))
     exact c.closed x h y d
   . rcases(l x).1 a with rfl|h|h
     . exact .inl (lS ..)
     . rcases f.ij x h with q|⟨p,A,B,C,g,i⟩
       . obtain⟨A,B,rfl⟩:=List.append_of_mem h;exact .inr ⟨b,A,B,k,sP,q⟩
       exact .inr ⟨p,A,B,C++b::k,by rw[g];simp,i⟩
     rcases c.ij x h with q|⟨p,A,B,C,g,i⟩
     . exact .inl (kw _ q)
     exact .inr ⟨p,j++b::A,B,C,by rw[g];simp,i⟩
   rcases(l x).1 a with rfl|h|h
   . exact⟨x,lS ..,.here h1⟩
   . obtain⟨t,g,i⟩:=f.from_ x h;(have v:FK E (· ∉S) t x:=i.mono fun y d q=>d (kw _ q));exact⟨b,lS ..,(FK.step (.here h1) g v.jo).trans v⟩
   obtain⟨t,g,i⟩:=c.from_ x h;exact⟨t,kw _ g,i.mono fun y d q=>d ((m y).2 (.inr (.inl q)))⟩
theorem Un.iff{b a N:List Nat}(t:Un E S O r b a N)(x:Nat):x∈N↔∃q∈r,FK E (· ∉S) q x:=by
 refine⟨t.from_ x,?_⟩;rintro⟨q,h1,h2⟩;induction h2 with
 |here h=>exact((t.seen _).1 (t.todo _ h1)).resolve_left h
 |step _ c d e=>exact((t.seen _).1 (t.closed _ e _ c)).resolve_left d
def Ca(S:List Nat)(n:Nat):Nat:=((List.range n).filter fun i=> !S.contains i).length
theorem Ka(S:List Nat)(n x:Nat)(f:x<n)(c:x∉S):Ca (x::S) n+1=Ca S n:=by
 unfold Ca;induction n with
 |zero=>omega
 | succ n d=>
   rw[mF,mB,mB,f6,f6];by_cases e:x=n
   . subst e;(have h1:(List.range x).filter (fun i=> !(x::S).contains i)=(List.range x).filter (fun i=> !S.contains i):=by apply List.filter_congr;intro i b;(have:i≠x:=by have:=mD.1 b;omega);simp[this]);rw[h1];simp[c]
   have:=d oM;(have a:((x::S).contains n)=S.contains n:=by (have:¬n=x:=fun q=>e q.symm);simp[this]);rw[mX,mX,a];simp only[mt];omega
theorem Lj(n:Nat):Ca [] n=n:=by unfold Ca;simp only[List.contains_nil,Bool.not_false];rw[List.filter_eq_self.2 (fun a _=>rfl),lO]
theorem K7(L:List Nat)(n:Nat)(a:∀x∈L,x<n)(b:L.Nodup):L.length+Ca L n=n:=by
 induction L with
 |nil=>simp[Lj]
 | cons x L d=>obtain⟨h1,h2⟩:=List.nodup_cons.1 b;have:=d (fun y c=>a y (kw _ c)) h2;have:=Ka L n x (a x (lS ..)) h1;rw[kY];omega
def Lb(O:List Nat)(b:Nat):Nat:=O.reverse.idxOf b
theorem PM(h:b∈O):O.reverse[Lb O b]?=some b:=by have a:b∈O.reverse:=nJ.2 h;have h2:=mh.2 a;unfold Lb;rw[an h2,List.getElem_idxOf]
theorem Ql{a:Nat}(c:a∈O)(d:b∈O)(h:Lb O a=Lb O b):a=b:=by have h1:=PM c;have h2:=PM d;rw[h,h2]at h1;exact(kH h1).symm
theorem Q4{A B C:List Nat}{p:Nat}(e:O.Nodup)(h:O=A++x::B++p::C):Lb O p<Lb O x:=by
 unfold Lb;subst h;have b:(A++x::B++p::C).reverse=C.reverse++p::(B.reverse++x::A.reverse):=sP;have f:(C.reverse++p::(B.reverse++x::A.reverse)).Nodup:=by rw[<-b];exact List.pairwise_reverse.2 (e.imp Ne.symm)
 rw[b];obtain⟨k,c,a⟩:=mu.1 f;obtain⟨d,l⟩:=List.nodup_cons.1 c;have g:p∉C.reverse:=fun q=>a p q p (lS ..) rfl
 have j:x∉C.reverse:=fun q=>a x q x sP rfl
 have i:p≠x:=fun q=>d (by rw[q];simp)
 rw[List.idxOf_append,List.idxOf_append,lE g,lE j,List.idxOf_cons,List.idxOf_cons];have:(p==x)=false:=by simpa using i
 simp[this]
theorem FQ(j:0<n)(k:∀b,b<n->∀x∈E b,x<n)(h:Vs E [] [] [0] S O)(s:∀b,b<n->b∈S):Ha E n (Lb O)/\O.Nodup/\O.length=n/\(∀x,x∈O↔x<n)/\O.reverse[0]?=some 0:=by
 obtain⟨N,t⟩:=h.told;obtain rfl:O=N:=by simpa using t.o
 have c:∀x,x∈O↔x<n:=fun x=>by
  constructor
  . intro f;obtain⟨q,h1,h2⟩:=t.from_ x f;(have:q=0:=by simpa using h1);subst this;exact h2.lt k j
  intro f;have:=(t.seen x).1 (s x f);simpa using this
 have w:O.length=n:=by
  have h1:=K7 O n (fun x f=>(c x).1 f) t.nodup;have:Ca O n=0:=by unfold Ca;rw[List.length_eq_zero_iff,List.filter_eq_nil_iff];intro a i;simp[(c a).2 (List.mem_range.1 i)]
  omega
 have v:∃M,O=M++[0]:=by
  cases h with
  |old h1=>cases h1
  | new _ h2 h3=>
    cases h3 with
    |nil=>exact⟨_,rfl⟩
 obtain⟨M,l⟩:=v;have g:O.reverse[0]?=some 0:=by rw[l];simp
 have m:Lb O 0=0:=by unfold Lb;rw[l];simp
 refine⟨⟨j,k,m,fun b d g=> ?_,fun a b i d=>Ql ((c a).2 i) ((c b).2 d),fun b d u=> ?_⟩,t.nodup,w,c,g⟩
 . rcases Nat.eq_zero_or_pos (Lb O b)with e|e
   . exact absurd (Ql ((c b).2 d) ((c 0).2 j) (by rw[e,m])) g
   exact e
 rcases t.ij b ((c b).2 d)with q|⟨p,A,B,C,r,y⟩
 . exact absurd (by simpa using q) u
 exact⟨p,(c p).1 (by rw[r];simp),y,Q4 t.nodup r⟩
section
variable {E:Nat->List Nat} {n:Nat} {pl:Nat->Nat} {b c d k:Nat}
theorem Gc.jU(E:Nat->List Nat)(d:Nat):Gc E d d:=fun h=>h.jH rfl
theorem Gc.iy(h:Gc E d 0):d=0:=by
 by_cases e:d=0
 . exact e
 exact absurd (.here (Ne.symm e)) h
theorem Gc.zero(E:Nat->List Nat)(b:Nat):Gc E 0 b:=fun h=>h.jo rfl
theorem FK.split(h:FK E (· ≠e) 0 x):FK E (· ≠b) 0 x\/FK E (· ≠e) 0 b:=by
 induction h with
 | here h=>
   by_cases q:(0:Nat)=b
   . subst q;exact .inr (.here h)
   exact .inl (.here q)
 | @step p c h1 h2 h3 a=>
   rcases a with a|a
   . by_cases q:c=b
     . subst q;exact .inr (.step h1 h2 h3)
     exact .inl (.step a h2 q)
   exact .inr a
theorem Gc.trans(h:Gc E k d)(e:Gc E d c):Gc E k c:=fun a=>by
 rcases a.split (b:=d)with a|a
 . exact e a
 exact h a
theorem Gc.jm(f:Ha E n pl)(i:b<n)(h:Gc E d b):FK E (fun x=>pl d<=pl x) d b/\pl d<=pl b/\(d≠b->pl d<pl b):=by
 suffices ∀m b,pl b<=m->b<n->Gc E d b->FK E (fun x=>pl d<=pl x) d b/\pl d<=pl b/\(d≠b->pl d<pl b)from this _ b lR i h
 intro m;induction m with
 | zero=>
   intro b h1 h2 c;by_cases e:d=b
   . subst e;exact⟨.here lR,Nat.le_refl _,fun q=>absurd rfl q⟩
   by_cases a:b=0
   . subst a;exact absurd c.iy e
   have:=f.cK b h2 a;omega
 | succ m l=>
   intro b h1 h2 c;by_cases e:d=b
   . subst e;exact⟨.here lR,Nat.le_refl _,fun q=>absurd rfl q⟩
   by_cases a:b=0
   . subst a;exact absurd c.iy e
   obtain⟨q,p,g,s⟩:=f.ij b h2 a;(obtain⟨k,r,_⟩:=l q oM p fun j=>c (.step j g (Ne.symm e)));exact⟨.step k g oM,oM,fun _=>oM⟩
theorem Gc.jp(a:Ha E n pl)(f:b<n)(g:d<n)(h:Gc E d b)(c:Gc E b d):d=b:=by
 by_cases e:d=b
 . exact e
 have:=(h.jm a f).2.2 e;have:=(c.jm a g).2.1;omega
def G6(E:Nat->List Nat)(b c:Nat):Prop:=c≠b/\Gc E c b/\∀d,d≠b->Gc E d b->Gc E d c
theorem G6.one(d:Ha E n pl){c':Nat}(e:c<n)(f:c'<n)(h:G6 E b c)(a:G6 E b c'):c=c':=Gc.jp d f e (a.2.2 c h.1 h.2.1) (h.2.2 c' a.1 a.2.1)
theorem UO(P:Nat->Prop)(pl:Nat->Nat)(B:Nat)(f:∀d,P d->pl d<=B)(h:∃d,P d):∃c,P c/\∀d,P d->pl d<=pl c:=by
 obtain⟨d,a⟩:=h;suffices ∀m d,P d->B<=pl d+m->∃c,P c/\∀d,P d->pl d<=pl c from this B d a oM
 intro m;induction m with
 | zero=>intro d a h;exact⟨d,a,fun e b=>by have:=f e b;omega⟩
 | succ m g=>
   intro d a h;by_cases q:∃e,P e/\pl d<pl e
   . obtain⟨e,h1,h2⟩:=q;exact g e h1 oM
   exact⟨d,a,fun e b=>by
    by_cases r:pl e<=pl d
    . exact r
    exact absurd ⟨e,b,oM⟩ q⟩
theorem O4(a:Ha E n pl)(g:∀x,x<n->FK E (fun _=>True) 0 x)(f:b<n)(h:Gc E d b):d<n:=by
 by_cases e:d<n
 . exact e
 refine absurd ?_ h;have h1:=g b f;clear h;induction h1 with
 |here _=>exact .here oM
 | step j k l i=>have c:=j.lt a.jN a.pos;exact .step (i c) k oM
theorem Qb(a:Ha E n pl)(i:∀x,x<n->FK E (fun _=>True) 0 x)(f:b<n)(l:b≠0):∃c,c<n/\G6 E b c:=by
 obtain⟨c,⟨c1,c2⟩,c3⟩:=UO (fun d=>d≠b/\Gc E d b) pl (pl b) (fun d h=>(h.2.jm a f).2.1) ⟨0,Ne.symm l,Gc.zero E b⟩
 refine⟨c,O4 a i f c2,c1,c2,fun d k g j=> ?_⟩;by_cases e:d=c
 . subst e;exact j.jH rfl
 have m:pl d<pl c:=by
  have h1:=c3 d ⟨k,g⟩;have h2:=a.inj d c (O4 a i f g) (O4 a i f c2);by_cases q:pl d=pl c
  . exact absurd (h2 q) e
  omega
 exact g (j.trans (((c2.jm a f).1).mono fun x p q=>by subst q;omega))
end
def MA(D:Nat->Nat->Bool)(n d:Nat):Nat:=((List.range n).filter fun k=>D k d).length
theorem NL(P Q:Nat->Bool)(n c:Nat)(h:∀k,k<n->P k=true->Q k=true)(a:c<n)(h1:P c=false)(h2:Q c=true):((List.range n).filter P).length<((List.range n).filter Q).length:=by
 have g:∀m,m<=n->((List.range m).filter P).length+(if c<m then 1 else 0)<=((List.range m).filter Q).length:=by
  intro m;induction m with
  |zero=>simp
  | succ m f=>
    intro i;have:=f oM;rw[mF,mB,mB,f6,f6];by_cases e:m=c
    . subst e;simp only[mX,h1,h2,mt];simp at this⊢;omega
    have b:(c<m+1)=(c<m):=oT;simp only[b];cases hp:P m with
    | false=>simp only[mX,hp,mt];simp only[mU,if_false,kp];omega
    | true=>have d:=h m oM hp;simp only[mX,hp,d,mt];simp only[if_true,kY,kp];omega
 have:=g n lR;rw[lI a]at this;omega
theorem RQ(f:Ha E n pl)(a:∀d b,D d b=true↔Gc E d b)(e:c<n)(g:d<n)(h:Gc E d c)(j:d≠c):MA D n d<MA D n c:=by
 refine NL _ _ n c (fun k _ i=>(a k c).2 (((a k d).1 i).trans h)) e ?_ ((a c c).2 (Gc.jU E c));cases q:D c d with
 |false=>rfl
 |true=>exact absurd (Gc.jp f e g h ((a c d).1 q)) j
def CR(D:Nat->Nat->Bool)(n b j:Nat)(a e:Int):Prop:=(a=-1/\e=-1/\∀d,d<j->¬(d≠b/\D d b=true))\/∃c:Nat,c<j/\a=(c:Int)/\e=(MA D n c:Int)/\c≠b/\D c b=true/\∀d,d<j->d≠b->D d b=true->MA D n d<=MA D n c
theorem CR.end_(l:Ha E n pl)(s:∀x,x<n->FK E (fun _=>True) 0 x)(f:∀d b,D d b=true↔Gc E d b){t:Int}(r:b<n)(h:CR D n b n i t):(b=0/\i=-1)\/b≠0/\∃c:Nat,c<n/\i=(c:Int)/\G6 E b c:=by
 by_cases j:b=0
 . subst j;rcases h with⟨h1,_⟩|⟨c,_,_,_,h2,k,_⟩
   . exact .inl ⟨rfl,h1⟩
   exact absurd ((f c 0).1 k).iy h2
 obtain⟨c,g,a⟩:=Qb l s r j;refine .inr ⟨j,c,g,?_,a⟩;rcases h with⟨_,_,h1⟩|⟨d,h1,h2,_,k,m,p⟩
 . exact absurd ⟨a.1,(f c b).2 a.2.1⟩ (h1 c g)
 by_cases e:d=c
 . rw[h2,e]
 have q:=a.2.2 d k ((f d b).1 m);have u:=RQ l f g h1 q e;have v:=p c g a.1 ((f c b).2 a.2.1);omega
theorem CR.start(D:Nat->Nat->Bool)(n b:Nat):CR D n b 0 (-1) (-1):=.inl ⟨rfl,rfl,fun d a=>oM⟩
theorem CR.skip{l:Int}(h:CR D n b j f l)(k:¬(j≠b/\D j b=true)):CR D n b (j+1) f l:=by
 rcases h with⟨h1,h2,a⟩|⟨c,h1,h2,a,m,p,q⟩
 . exact .inl ⟨h1,h2,fun d r=>by
    by_cases e:d=j
    . subst e;exact k
    exact a d oM⟩
 . exact .inr ⟨c,oM,h2,a,m,p,fun d r g i=>by
    by_cases e:d=j
    . subst e;exact absurd ⟨g,i⟩ k
    exact q d oM g i⟩
theorem CR.less{a:Int}(h:CR D n b j f a)(r:(MA D n j:Int)<=a):CR D n b (j+1) f a:=by
 rcases h with⟨h1,h2,g⟩|⟨c,h1,h2,g,l,m,p⟩
 . omega
 exact .inr ⟨c,oM,h2,g,l,m,fun d q i k=>by
  by_cases e:d=j
  . subst e;omega
  exact p d oM i k⟩
theorem CR.more{k:Int}(h:CR D n b j k i)(h1:j≠b)(h2:D j b=true)(p:i<(MA D n j:Int)):CR D n b (j+1) (j:Int) (MA D n j:Int):=by
 refine .inr ⟨j,oM,rfl,rfl,h1,h2,fun d m a f=> ?_⟩;by_cases e:d=j
 . subst e;omega
 rcases h with⟨_,_,g⟩|⟨c,_,_,g,_,_,l⟩
 . exact absurd ⟨a,f⟩ (g d oM)
 have:=l d oM a f;omega
def P8(E:Nat->List Nat)(n b:Nat):List Nat:=(List.range n).flatMap fun p=>((E p).filter fun x=>decide (x=b)).map fun _=>p
def BM(E:Nat->List Nat)(D:Nat->Nat->Bool)(n h:Nat):List Nat:=(List.range n).flatMap fun p=>((E p).filter fun x=>decide (x=h)&&D h p).map fun _=>p
theorem Mc(E:Nat->List Nat)(n b p:Nat):p∈P8 E n b↔p<n/\b∈E p:=by
 simp only[P8,lP,mD,lL,ms,mP];constructor
 . rintro⟨q,h1,x,⟨h2,rfl⟩,rfl⟩;exact⟨h1,h2⟩
 rintro⟨h1,h2⟩;exact⟨p,h1,b,⟨h2,rfl⟩,rfl⟩
theorem QE(E:Nat->List Nat)(D:Nat->Nat->Bool)(n h p:Nat):p∈BM E D n h↔p<n/\h∈E p/\D h p=true:=by
 simp only[BM,lP,mD,lL,ms,nL,mP];constructor
 . rintro⟨q,h1,x,⟨h2,rfl,a⟩,rfl⟩;exact⟨h1,h2,a⟩
 rintro⟨h1,h2,a⟩;exact⟨p,h1,h,⟨h2,rfl,a⟩,rfl⟩
def IE(E:Nat->List Nat)(D:Nat->Nat->Bool)(n h x:Nat):Prop:=x=h\/∃t∈BM E D n h,FK (P8 E n) (· ≠h) t x
structure IY(E:Nat->List Nat)(n:Nat)(bad:Nat->Nat->Prop)(b k x:Nat):Prop where
 lt:b<n
 at_:(E b)[k]?=some x
 is:bad b x
 less:∀b' k' x',b'<n->(E b')[k']?=some x'->b'<b\/(b'=b/\k'<k)->¬bad b' x'
theorem IY.one{bad:Nat->Nat->Prop}{x':Nat}(h:IY E n bad b k x)(a:IY E n bad d c x'):x=x':=by
 by_cases e:b=d
 . subst e;by_cases f:k=c
   . subst f;have h1:=h.at_;rw[a.at_]at h1;exact(kH h1).symm
   rcases Nat.lt_or_gt_of_ne f with q|q
   . exact absurd h.is (a.less b k x h.lt h.at_ (.inr ⟨rfl,q⟩))
   exact absurd a.is (h.less b c x' a.lt a.at_ (.inr ⟨rfl,q⟩))
 rcases Nat.lt_or_gt_of_ne e with q|q
 . exact absurd h.is (a.less b k x h.lt h.at_ (.inl q))
 exact absurd a.is (h.less d c x' a.lt a.at_ (.inl q))
def Tl(O:List Nat)(D:Nat->Nat->Bool)(b x:Nat):Prop:=Lb O x<=Lb O b/\¬D x b=true
theorem CL(x:MI)(w:World):Calls Tryz.prog 164 #[.int .i64 x.op] w fun e f=>e=.returned (.bool (BR x))/\f=w:=by
 by_cases h1:x.op=25
 . (have e:BR x=true:=by simp[BR,h1]);rw[e,h1];go_enter Tryz.func164,Tryz.ntmps164;go_wp2;go_ret;exact⟨rfl,rfl⟩
 by_cases h2:x.op=26
 . (have e:BR x=true:=by simp[BR,h2]);rw[e,h2];go_enter Tryz.func164,Tryz.ntmps164;go_wp2;go_ret;exact⟨rfl,rfl⟩
 by_cases a:x.op=27
 . (have e:BR x=true:=by simp[BR,a]);rw[e,a];go_enter Tryz.func164,Tryz.ntmps164;go_wp2;go_ret;exact⟨rfl,rfl⟩
 have e:BR x=false:=by simp[BR,h1,h2,a]
 have b:(x.op==25)=false:=by simpa using h1
 have c:(x.op==26)=false:=by simpa using h2
 have d:(x.op==27)=false:=by simpa using a
 rw[e];generalize x.op=op at h1 h2 a b c d;go_enter Tryz.func164,Tryz.ntmps164;go_wp2;go_ret;exact⟨rfl,rfl⟩
theorem Pi(s:Value)(xs:List MI)(w:World)(C:xs.length<=1048576)(h:Rd w 4 s xs.length (xs.flatMap MI.cells)):
 Calls Tryz.prog 163 #[s] w fun e G=>Au e (BH xs)/\G=w:=by
 have H:Hid (Rd w 4 s xs.length (xs.flatMap MI.cells)):=h;obtain⟨I,c1,rfl⟩:=h.bW;clear h;generalize v:xs.length=n at C H;have b:Hid (xs.length=n):=v;clear v;by_cases N:n<1
 . (have a:Hid (¬BH xs):=fun e=>by have:=e.1;rw[b.o]at this;omega);have E:(n:Int)<1:=oM;go_enter Tryz.func163,Tryz.ntmps163;go_wp2;go_ret;exact⟨.no a.o,rfl⟩
 have E:¬(n:Int)<1:=oM;by_cases O:1024<n
 . (have a:Hid (¬BH xs):=fun e=>by have:=e.2.1;rw[b.o]at this;omega);have F:(1024:Int)<(n:Int):=oM;go_enter Tryz.func163,Tryz.ntmps163;go_wp2;go_ret;exact⟨.no a.o,rfl⟩
 have F:¬(1024:Int)<(n:Int):=oM;go_enter Tryz.func163,Tryz.ntmps163;go_wp2;go_loopw [4] (fun i wr=>∃k:Nat,k<=n/\i=.int .i64 k/\Hid (∀j,j<k->∀x,xs[j]?=some x->BR x=true->0<=x.c/\x.c<(n:Int))/\wr=w) (fun i _=>n-(intOf i).toNat)
 case atStart=>exact⟨0,oM,rfl,fun j A=>oM,rfl⟩
 obtain⟨k,K,rfl,p,rfl⟩:=hrel;by_cases r:k<n
 . obtain⟨x,m⟩:∃x,xs[k]?=some x:=⟨_,an (by rw[b.o];exact r)⟩;have l:Hid (xs[k]?=some x):=m;rcases H.o.2 with⟨J,_⟩|⟨g,o,c,t,q⟩
   . omega
   simp only[ip,kU]at t;obtain⟨rfl,rfl⟩:=t;have D:=Rd.elem MI.aK q k _ m 0 _ rfl;have M:=Rd.elem MI.aK q k _ m 3 _ rfl;rw[kD]at D;clear q m;have L:(k:Int)<(n:Int):=oM;go_wp2_with fail;refine(CL x _).mono ?_;rintro e u ⟨rfl,rfl⟩;cases hgo:BR x
   . have a:Hid (∀j,j<k+1->∀x,xs[j]?=some x->BR x=true->0<=x.c/\x.c<(n:Int)):=fun j A y f d=>by
      by_cases e:j=k
      . subst e;rw[l.o]at f;(cases f);rw[hgo]at d;cases d
      exact p.o j oM y f d
     go_wp2;go_roundw;(case rel=>exact⟨k+1,oM,by go_num,a,by trivial⟩);exact oI
   . by_cases P:x.c<0
     . (have a:Hid (¬BH xs):=fun e=>by have:=e.2.2 k x l.o hgo;omega);go_wp2;go_ret;exact⟨.no a.o,rfl⟩
     by_cases Q:(n:Int)<=x.c
     . (have a:Hid (¬BH xs):=fun e=>by have:=e.2.2 k x l.o hgo;rw[b.o]at this;omega);go_wp2;go_ret;exact⟨.no a.o,rfl⟩
     have a:Hid (∀j,j<k+1->∀x,xs[j]?=some x->BR x=true->0<=x.c/\x.c<(n:Int)):=fun j A y f d=>by
      by_cases e:j=k
      . subst e;rw[l.o]at f;(cases f);omega
      exact p.o j oM y f d
     go_wp2;go_roundw;(case rel=>exact⟨k+1,oM,by go_num,a,by trivial⟩);exact oI
 have B:Hid (BH xs):=⟨by rw[b.o];omega,by rw[b.o];omega,fun i x z d=>by have r:=(d7.1 z).1;rw[b.o]at r⊢;exact p.o i oM x z d⟩;go_wp2;go_ret;exact⟨.hQ B.o,rfl⟩
structure Gn where
 code:List MI
 ag:List MC
 a7:List MT
structure GK where
 F:List (List Int×Value)
 G:List (MF×VF)
 P:Nat
 Gb:Nat
 fi:Nat
 L0:Int
 nc:Nat
 nt:Nat
def Py(s:CP)(k:GK)(vc:Value)(left lv:Int):Ax:=AH k.Gb 156 7 [.pointer (some ⟨s.S,0,none⟩),.pointer (some ⟨k.P,0,none⟩),.int .i64 (k.fi:Int),vc,.int .i64 left,.int .i64 lv,.int .i64 0]
structure SM(w u:World)(s:CP)(k:GK)(p:Int)(v:VP)(vc:Value)(g:Gn)(left lv:Int)(D:List Ax):Prop where
 bl:Bs w u s p (Ab v k.F g.ag k.G g.a7 (A3 vc g.code::gb k.P v::Py s k vc left lv::D))
section
variable {w u u':World} {s:CP} {k:GK} {p:Int} {v:VP} {vc:Value} {g:Gn} {left lv:Int} {D:List Ax}
theorem SM.aa(h:SM w u s k p v vc g left lv D)(a:Below u.heap.size u u'):SM w u' s k p v vc g left lv D:=⟨h.bl.aa a⟩
theorem SM.draw{b:Int}(h:SM w u s k p v vc g left lv D)(d:Dy u' s.S s.a s.len s.cap b)(c:AG s.S u u'):SM w u' s k b v vc g left lv D:=⟨h.bl.draw d c⟩
theorem SM.cells(h:SM w u s k p v vc g left lv D):u.cell? ⟨k.Gb,0,none⟩=some (.pointer (some ⟨s.S,0,none⟩))/\u.cell? ⟨k.Gb,1,none⟩=some (.pointer (some ⟨k.P,0,none⟩))/\u.cell? ⟨k.Gb,2,none⟩=some (.int .i64 (k.fi:Int))/\u.cell? ⟨k.Gb,3,none⟩=some vc/\u.cell? ⟨k.Gb,4,none⟩=some (.int .i64 left)/\u.cell? ⟨k.Gb,5,none⟩=some (.int .i64 lv):=
 have m:Py s k vc left lv∈Ab v k.F g.ag k.G g.a7 (A3 vc g.code::gb k.P v::Py s k vc left lv::D):=Ap sP
 ⟨h.bl.cell m 0 oM,h.bl.cell m 1 oM,h.bl.cell m 2 oM,h.bl.cell m 3 oM,h.bl.cell m 4 oM,h.bl.cell m 5 oM⟩
theorem SM.frozen(h:SM w u s k p v vc g left lv D)(i:Nat):u.frozen? ⟨k.Gb,i,none⟩=false:=h.bl.frozen (Ap (show Py s k vc left lv∈_ from sP)) i
theorem SM.gI(h:SM w u s k p v vc g left lv D):u.cell? ⟨k.P,0,none⟩=some v.r/\u.cell? ⟨k.P,1,none⟩=some v.k/\u.cell? ⟨k.P,2,none⟩=some v.f/\u.cell? ⟨k.P,3,none⟩=some v.t:=
 have m:gb k.P v∈Ab v k.F g.ag k.G g.a7 (A3 vc g.code::gb k.P v::Py s k vc left lv::D):=Ap sP
 ⟨h.bl.cell m 0 oM,h.bl.cell m 1 oM,h.bl.cell m 2 oM,h.bl.cell m 3 oM⟩
theorem SM.push(h:SM w u s k p v vc g left lv D)(xs:List MI)(V:Value)(c:u'.ownsRow w.heap.size 96 4 V (g.code.length+xs.length) (g.code.flatMap MI.cells++xs.flatMap MI.cells))(b:u.grownBy u' vc.ownBlock)(a:V.ownBlock=vc.ownBlock\/V.ownBlock=some u.heap.size):SM w (u'.setCell ⟨k.Gb,3,none⟩ V) s k p v V ⟨g.code++xs,g.ag,g.a7⟩ left lv D/\u'.cell? ⟨k.Gb,3,none⟩=some vc/\u'.frozen? ⟨k.Gb,3,none⟩=false:=by have h1:=h.bl.gZ xs V c b a;exact⟨⟨h1.gL (D:=[A3 V (g.code++xs),gb k.P v]) 3 oM V⟩,h1.cell (Ap (show Py s k vc left lv∈_ from sP)) 3 oM,h1.frozen (Ap (show Py s k vc left lv∈_ from sP)) 3⟩
theorem SM.jE(h:SM w u s k p v vc g left lv D)(x:Int):SM w (u.setCell ⟨k.Gb,4,none⟩ (.int .i64 x)) s k p v vc g x lv D:=⟨h.bl.gL (D:=[A3 vc g.code,gb k.P v]) 4 oM (.int .i64 x)⟩
theorem SM.jz(h:SM w u s k p v vc g left lv D)(x:Int):SM w (u.setCell ⟨k.Gb,5,none⟩ (.int .i64 x)) s k p v vc g left x D:=⟨h.bl.gL (D:=[A3 vc g.code,gb k.P v]) 5 oM (.int .i64 x)⟩
theorem SM.gS(h:SM w u s k p v vc g left lv D)(x:MC)(V:Value)(c:u'.ownsRow w.heap.size 63 2 V (g.ag.length+1) (g.ag.flatMap MC.cells++x.cells))(b:u.grownBy u' v.k.ownBlock)(a:V.ownBlock=v.k.ownBlock\/V.ownBlock=some u.heap.size):SM w (u'.setCell ⟨k.P,1,none⟩ V) s k p {v with k:=V} vc ⟨g.code,g.ag++[x],g.a7⟩ left lv D/\(u'.cell? ⟨k.P,1,none⟩=some v.k/\u'.frozen? ⟨k.P,1,none⟩=false)/\u'.cell? ⟨k.Gb,1,none⟩=some (.pointer (some ⟨k.P,0,none⟩))/\(u'.setCell ⟨k.P,1,none⟩ V).cell? ⟨k.Gb,1,none⟩=some (.pointer (some ⟨k.P,0,none⟩)):=by have h1:=h.bl.gS x V c b a;have h2:SM w (u'.setCell ⟨k.P,1,none⟩ V) s k p {v with k:=V} vc ⟨g.code,g.ag++[x],g.a7⟩ left lv D:=⟨h1.gL (D:=[A3 vc g.code]) 1 oM V⟩;exact⟨h2,⟨h1.cell (Ap (show gb k.P v∈_ from sP)) 1 oM,h1.frozen (Ap (show gb k.P v∈_ from sP)) 1⟩,h1.cell (Ap (show Py s k vc left lv∈_ from sP)) 1 oM,h2.cells.2.1⟩
theorem SM.hH(h:SM w u s k p v vc g left lv D)(x:MT)(V:Value)(c:u'.ownsRow w.heap.size 72 4 V (g.a7.length+1) (g.a7.flatMap MT.cells++x.cells))(b:u.grownBy u' v.t.ownBlock)(a:V.ownBlock=v.t.ownBlock\/V.ownBlock=some u.heap.size):SM w (u'.setCell ⟨k.P,3,none⟩ V) s k p {v with t:=V} vc ⟨g.code,g.ag,g.a7++[x]⟩ left lv D/\(u'.cell? ⟨k.P,3,none⟩=some v.t/\u'.frozen? ⟨k.P,3,none⟩=false)/\(u'.cell? ⟨k.Gb,1,none⟩=some (.pointer (some ⟨k.P,0,none⟩))/\u'.cell? ⟨k.Gb,2,none⟩=some (.int .i64 (k.fi:Int)))/\(u'.setCell ⟨k.P,3,none⟩ V).cell? ⟨k.Gb,1,none⟩=some (.pointer (some ⟨k.P,0,none⟩))/\(u'.setCell ⟨k.P,3,none⟩ V).cell? ⟨k.Gb,2,none⟩=some (.int .i64 (k.fi:Int)):=by have h1:=h.bl.hH x V c b a;have h2:SM w (u'.setCell ⟨k.P,3,none⟩ V) s k p {v with t:=V} vc ⟨g.code,g.ag,g.a7++[x]⟩ left lv D:=⟨h1.gL (D:=[A3 vc g.code]) 3 oM V⟩;exact⟨h2,⟨h1.cell (Ap (show gb k.P v∈_ from sP)) 3 oM,h1.frozen (Ap (show gb k.P v∈_ from sP)) 3⟩,⟨h1.cell (Ap (show Py s k vc left lv∈_ from sP)) 1 oM,h1.cell (Ap (show Py s k vc left lv∈_ from sP)) 2 oM⟩,h2.cells.2.1,h2.cells.2.2.1⟩
end
theorem Ci(w:World)(a:List Value)(t:TypeId):∀j u,a[j]?=some u->(w.alloc (.cells a.toArray t)).cell? ((⟨w.heap.size,0,none⟩:Addr).add j)=some u:=fun j u b=>by rw[DF,ki,(Aw.new w a.toArray t).cell j];simpa using b
theorem F6(l:List MI):∀u∈l.flatMap MI.cells,u.oneCell'=true:=fun u b=>by obtain⟨x,_,a⟩:=lP.1 b;simp only[MI.cells,ka,kr,ly]at a;rcases a with rfl|rfl|rfl|rfl<;>rfl
structure T1(k:GK)(g:Gn)(left:Int)(sl:Nat):Prop where
 len:(g.code.length:Int)+left=k.L0
 nc:g.ag.length<=k.nc+g.code.length+sl
 nt:g.a7.length<=k.nt
 wc:∀x∈g.code,x.wf
 wk:∀x∈g.ag,x.wf
 wt:∀x∈g.a7,x.wf
structure DH(k:GK):Prop where
 f3:k.F.length=3
 fr:∀x∈k.F,x.1.length<=100
 fi:k.fi<k.G.length
 gl:k.G.length<=32
 pr:∀y∈k.G,y.1.params.length<=8
 lc:∀y∈k.G,3<=y.1.locals.length/\y.1.locals.length<=1000
 l0:0<=k.L0/\k.L0<=300
 wf:∀y∈k.G,y.1.wf
 wr:∀x∈k.F,∀z∈x.1,Cr z
 nc:k.nc<=100000
 nt:k.nt<=64
structure GS(w u:World)(s:CP)(k:GK)(p left lv:Int)(sl:Nat)(D:List Ax):Prop where
 ex:∃v vc g,SM w u s k p v vc g left lv D/\T1 k g left sl
section
variable {w u u':World} {s:CP} {k:GK} {p left lv:Int} {sl:Nat} {D:List Ax}
theorem GS.aa(h:GS w u s k p left lv sl D)(a:Below u.heap.size u u'):GS w u' s k p left lv sl D:=by obtain⟨v,vc,g,h1,h2⟩:=h.ex;exact⟨v,vc,g,h1.aa a,h2⟩
theorem GS.draw{b:Int}(h:GS w u s k p left lv sl D)(d:Dy u' s.S s.a s.len s.cap b)(c:AG s.S u u'):GS w u' s k b left lv sl D:=by obtain⟨v,vc,g,h1,h2⟩:=h.ex;exact⟨v,vc,g,h1.draw d c,h2⟩
theorem GS.src(h:GS w u s k p left lv sl D):Dy u s.S s.a s.len s.cap p:=by obtain⟨v,vc,g,h1,h2⟩:=h.ex;exact h1.bl.aC.src
theorem GS.le(h:GS w u s k p left lv sl D)(a:DH k):left<=300:=by obtain⟨v,vc,g,h1,h2⟩:=h.ex;have:=h2.len;have:=a.l0;omega
theorem GS.cells(h:GS w u s k p left lv sl D):∃a c,u.cell? ⟨k.Gb,0,none⟩=some (.pointer (some ⟨s.S,0,none⟩))/\u.cell? ⟨k.Gb,1,none⟩=some (.pointer (some ⟨k.P,0,none⟩))/\u.cell? ⟨k.Gb,2,none⟩=some (.int .i64 (k.fi:Int))/\u.cell? ⟨k.Gb,3,none⟩=some (.slice a (k.L0-left).toNat c)/\u.cell? ⟨k.Gb,4,none⟩=some (.int .i64 left)/\u.cell? ⟨k.Gb,5,none⟩=some (.int .i64 lv):=by
 obtain⟨v,vc,g,h1,h2⟩:=h.ex;obtain⟨⟨a,c,e⟩,_⟩:=h1.bl.ia;have b:=h1.cells;have d:g.code.length=(k.L0-left).toNat:=by have:=h2.len;omega
 rw[e,d]at b;exact⟨a,c,b⟩
end
theorem D7{α:Type}(f:α->List Value)(a:List α)(k:Nat):((a.take k).flatMap f).length<=(a.flatMap f).length:=by
 conv=>rhs;rw[<-mN k a,kO,f6]
 omega
def GZ(x:Int):List Value:=Az x 1
theorem Hr(B wb:Nat)(d:List Value)(b:Nat)(s:Value)(a:List Int)(base:Nat)(w:World)(h1:1<=b)(D:b<=8)(O:a.length<=1048576)(S:d.length+8+(a.flatMap GZ).length<=1073741000)(t:B<=w.heap.size)(hw:B<=wb)(h:EM B w wb d)(v:w.ownsRow base 2 1 s a.length (a.flatMap Ad)):
 Calls Tryz.prog 18 #[.pointer (some ⟨wb,0,none⟩),iZ (b:Int),s,.func (Fn.func 19) #[.pointer (some ⟨wb,0,none⟩)] #[]] w fun e y=>e=.returned (.tuple #[])/\EM B y wb (d++(Az a.length b++a.flatMap GZ))/\Wg B w y:=by
 have H:=Ag (f7 h v);obtain⟨Q,c1,f⟩:=(Rd.cB v).bW;subst f;generalize E:a.length=n at O H⊢;have l:=Ag E;go_enter Tryz.func18,Tryz.ntmps18;go_wp2_with fail;refine(Bu B wb d (n:Int) b _ h1 D oM t hw H.o.1).mono ?_;rintro e W ⟨rfl,p,m⟩;have K:=Ag (f7 p m);go_wp2;go_loopw [17] (fun i wr=>∃k:Nat,k<=n/\i=iZ k/\Hid (EM B wr wb (d++Az n b++(a.take k).flatMap GZ)/\Wg B w wr)) (fun i _=>n-(intOf i).toNat)
 case atStart=>exact⟨0,oM,rfl,⟨by simpa using K.o.1,K.o.2⟩⟩
 obtain⟨k,U,rfl,j⟩:=hrel;by_cases J:k<n
 . obtain⟨x,q⟩:∃x,a[k]?=some x:=⟨_,an (by rw[l.o];exact J)⟩;(have M:d++Az n b++(a.take (k+1)).flatMap GZ=d++Az n b++(a.take k).flatMap GZ++GZ x:=by obtain⟨L,rfl⟩:=d7.1 q;rw[kQ L,kO,<-kT];simp);(have I:(d++Az n b++(a.take k).flatMap GZ).length<=1073741000:=by have:=D7 GZ a k;simp only[f6,Ak];omega);rcases(Rd.cB H.o.2).2 with⟨C,_⟩|⟨g,o,c,f,T⟩
   . omega
   simp only[ip,kU]at f;obtain⟨rfl,rfl⟩:=f;have N:=Rd.cB (j.o.2.own H.o.2 dC dC);rcases N.2 with⟨C,_⟩|⟨R,V,c',f,F⟩
   . omega
   simp only[ip,i4,lF,kU,lp]at f;obtain⟨⟨rfl,rfl⟩,rfl⟩:=f;have P:=Rd.elem Ar F k x q 0 _ rfl;rw[kn,kD]at P;have A:=Ag (f7 q M);go_wp2_with fail;refine(F7 B wb _ x _ j.o.1 I (jX t j.o.2.size) hw).mono ?_;rintro e u ⟨rfl,p,m⟩;have z:Hid (EM B u wb (d++Az n b++(a.take (k+1)).flatMap GZ)/\Wg B w u):=⟨by rw[A.o.2];exact p,j.o.2.trans m⟩
   go_wp2;go_roundw;(case rel=>exact⟨k+1,oM,by go_num,z⟩);exact oI
 have G:k=n:=oM;subst G;have r:Hid (EM B wr wb (d++(Az k b++a.flatMap GZ))/\Wg B w wr):=by refine⟨?_,j.o.2⟩;have:=j.o.1;rw[<-l.o,List.take_length,l.o,kT]at this;exact this
 go_wp2;go_end0;exact⟨rfl,r.o.1,r.o.2⟩
theorem LK(B wb:Nat)(j:List Value)(f:Nat)(s:Value)(d:List MI)(base:Nat)(w:World)(h1:1<=f)(J:f<=8)(S:d.length<=1048576)(V:j.length+8+(d.flatMap BI).length<=1073741000)(v:B<=w.heap.size)(hw:B<=wb)(h:EM B w wb j)(D:w.ownsRow base 96 4 s d.length (d.flatMap MI.cells)):
 Calls Tryz.prog 49 #[.pointer (some ⟨wb,0,none⟩),iZ (f:Int),s,.func (Fn.func 50) #[.pointer (some ⟨wb,0,none⟩)] #[]] w fun e E=>e=.returned (.tuple #[])/\EM B E wb (j++(Az d.length f++d.flatMap BI))/\Wg B w E:=by
 have H:=Ag (f7 h D);obtain⟨T,c1,l⟩:=(Rd.cB D).bW;subst l;generalize L:d.length=n at S H⊢;have t:=Ag L;go_enter Tryz.func49,Tryz.ntmps49;go_wp2_with fail;refine(Bu B wb j (n:Int) f _ h1 J oM v hw H.o.1).mono ?_;rintro e u1 ⟨rfl,z,y⟩;have K:=Ag (f7 z y);go_wp2;go_loopw [17] (fun i wr=>∃k:Nat,k<=n/\i=iZ k/\Hid (EM B wr wb (j++Az n f++(d.take k).flatMap BI)/\Wg B w wr)) (fun i _=>n-(intOf i).toNat)
 case atStart=>exact⟨0,oM,rfl,⟨by simpa using K.o.1,K.o.2⟩⟩
 obtain⟨k,X,rfl,m⟩:=hrel;by_cases O:k<n
 . obtain⟨x,p⟩:∃x,d[k]?=some x:=⟨_,an (by rw[t.o];exact O)⟩;(have Q:j++Az n f++(d.take (k+1)).flatMap BI=j++Az n f++(d.take k).flatMap BI++BI x:=by obtain⟨P,rfl⟩:=d7.1 p;rw[kQ P,kO,<-kT];simp);(have N:(j++Az n f++(d.take k).flatMap BI).length<=1073741000:=by have:=D7 BI d k;simp only[f6,Ak];omega);rcases(Rd.cB H.o.2).2 with⟨I,_⟩|⟨g,o,c,l,W⟩
   . omega
   simp only[ip,kU]at l;obtain⟨rfl,rfl⟩:=l;have R:=Rd.cB (m.o.2.own H.o.2 dC dC);rcases R.2 with⟨I,_⟩|⟨U,o',c',l,q⟩
   . omega
   simp only[ip,i4,lF,kU,lp]at l;obtain⟨⟨rfl,rfl⟩,rfl⟩:=l;have A:=Rd.elem MI.aK q k x p 0 _ rfl;have Y:=Rd.elem MI.aK q k x p 1 _ rfl;have Z:=Rd.elem MI.aK q k x p 2 _ rfl;have j3:=Rd.elem MI.aK q k x p 3 _ rfl;rw[kD]at A;have G:=Ag (f7 p Q);have nb:¬g=wr.heap.size:=kg (d5 A);have mb:g<wr.heap.size:=d5 A;have r:Hid (EM B (wr.alloc (.cells #[iZ x.op,iZ x.a,iZ x.b,iZ x.c] 96)) wb (j++Az n f++(d.take k).flatMap BI)/\Wg B w (wr.alloc (.cells #[iZ x.op,iZ x.a,iZ x.b,iZ x.c] 96))):=⟨m.o.1.call (Aa _ _),m.o.2.trans (Wg.gz (Aa _ _) (jX v m.o.2.size))⟩
   go_wp2_with fail;refine(PR B wb _ x _ r.o.1 N (jX v r.o.2.size) hw).mono ?_;rintro e u ⟨rfl,z,y⟩;have F:Hid (EM B u wb (j++Az n f++(d.take (k+1)).flatMap BI)/\Wg B w u):=⟨by rw[G.o.2];exact z,r.o.2.trans y⟩
   go_wp2;go_roundw;(case rel=>exact⟨k+1,oM,by go_num,F⟩);exact oI
 have M:k=n:=oM;subst M;have C:Hid (EM B wr wb (j++(Az k f++d.flatMap BI))/\Wg B w wr):=by refine⟨?_,m.o.2⟩;have:=m.o.1;rw[<-t.o,List.take_length,t.o,kT]at this;exact this
 go_wp2;go_end0;exact⟨rfl,C.o.1,C.o.2⟩
theorem LJ(B wb:Nat)(d:List Value)(b:Nat)(s:Value)(a:List MC)(base:Nat)(w:World)(h1:1<=b)(I:b<=8)(S:a.length<=1048576)(V:d.length+8+(a.flatMap Bz).length<=1073741000)(r:B<=w.heap.size)(hw:B<=wb)(Q:∀x∈a,0<=x.word/\x.word<=4294967295)(h:EM B w wb d)(D:w.ownsRow base 63 2 s a.length (a.flatMap MC.cells)):
 Calls Tryz.prog 20 #[.pointer (some ⟨wb,0,none⟩),iZ (b:Int),s,.func (Fn.func 21) #[.pointer (some ⟨wb,0,none⟩)] #[]] w fun e E=>e=.returned (.tuple #[])/\EM B E wb (d++(Az a.length b++a.flatMap Bz))/\Wg B w E:=by
 have H:=Ag (f7 h D);have A:=Ag Q;obtain⟨T,c1,f⟩:=(Rd.cB D).bW;subst f;generalize J:a.length=n at S H⊢;have p:=Ag J;go_enter Tryz.func20,Tryz.ntmps20;go_wp2_with fail;refine(Bu B wb d (n:Int) b _ h1 I oM r hw H.o.1).mono ?_;rintro e u1 ⟨rfl,v,t⟩;have K:=Ag (f7 v t);go_wp2;go_loopw [17] (fun i wr=>∃k:Nat,k<=n/\i=iZ k/\Hid (EM B wr wb (d++Az n b++(a.take k).flatMap Bz)/\Wg B w wr)) (fun i _=>n-(intOf i).toNat)
 case atStart=>exact⟨0,oM,rfl,⟨by simpa using K.o.1,K.o.2⟩⟩
 obtain⟨k,X,rfl,j⟩:=hrel;by_cases N:k<n
 . obtain⟨x,l⟩:∃x,a[k]?=some x:=⟨_,an (by rw[p.o];exact N)⟩;(have P:d++Az n b++(a.take (k+1)).flatMap Bz=d++Az n b++(a.take k).flatMap Bz++Bz x:=by obtain⟨O,rfl⟩:=d7.1 l;rw[kQ O,kO,<-kT];simp);(have M:(d++Az n b++(a.take k).flatMap Bz).length<=1073741000:=by have:=D7 Bz a k;simp only[f6,Ak];omega);rcases(Rd.cB H.o.2).2 with⟨G,_⟩|⟨g,o,c,f,W⟩
   . omega
   simp only[ip,kU]at f;obtain⟨rfl,rfl⟩:=f;have R:=Rd.cB (j.o.2.own H.o.2 dC dC);rcases R.2 with⟨G,_⟩|⟨U,o',c',f,C⟩
   . omega
   simp only[ip,i4,lF,kU,lp]at f;obtain⟨⟨rfl,rfl⟩,rfl⟩:=f;have y:=Rd.elem MC.aK C k x l 0 _ rfl;have Y:=Rd.elem MC.aK C k x l 1 _ rfl;rw[kD]at y;have q:=Ag (f7 l P);have nb:¬g=wr.heap.size:=kg (d5 y);have Z:g<wr.heap.size:=d5 y;have m:Hid (EM B (wr.alloc (.cells #[iZ x.type,.int .u32 x.word] 63)) wb (d++Az n b++(a.take k).flatMap Bz)/\Wg B w (wr.alloc (.cells #[iZ x.type,.int .u32 x.word] 63))):=⟨j.o.1.call (Aa _ _),j.o.2.trans (Wg.gz (Aa _ _) (jX r j.o.2.size))⟩
   go_wp2_with fail;refine(PQ B wb _ x _ m.o.1 M (jX r m.o.2.size) hw (A.o x (d9 q.o.1)).1 (A.o x (d9 q.o.1)).2).mono ?_;rintro e u ⟨rfl,v,t⟩;have F:Hid (EM B u wb (d++Az n b++(a.take (k+1)).flatMap Bz)/\Wg B w u):=⟨by rw[q.o.2];exact v,m.o.2.trans t⟩
   go_wp2;go_roundw;(case rel=>exact⟨k+1,oM,by go_num,F⟩);exact oI
 have L:k=n:=oM;subst L;have z:Hid (EM B wr wb (d++(Az k b++a.flatMap Bz))/\Wg B w wr):=by refine⟨?_,j.o.2⟩;have:=j.o.1;rw[<-p.o,List.take_length,p.o,kT]at this;exact this
 go_wp2;go_end0;exact⟨rfl,z.o.1,z.o.2⟩
theorem MW(B wb:Nat)(d:List Value)(b:Nat)(s:Value)(a:List MT)(base:Nat)(w:World)(h1:1<=b)(I:b<=8)(S:a.length<=1048576)(V:d.length+8+(a.flatMap Cf).length<=1073741000)(t:B<=w.heap.size)(hw:B<=wb)(Q:∀x∈a,0<=x.init/\x.init<=4294967295)(h:EM B w wb d)(D:w.ownsRow base 72 4 s a.length (a.flatMap MT.cells)):
 Calls Tryz.prog 24 #[.pointer (some ⟨wb,0,none⟩),iZ (b:Int),s,.func (Fn.func 25) #[.pointer (some ⟨wb,0,none⟩)] #[]] w fun e E=>e=.returned (.tuple #[])/\EM B E wb (d++(Az a.length b++a.flatMap Cf))/\Wg B w E:=by
 have H:=Ag (f7 h D);have C:=Ag Q;obtain⟨T,c1,f⟩:=(Rd.cB D).bW;subst f;generalize J:a.length=n at S H⊢;have q:=Ag J;go_enter Tryz.func24,Tryz.ntmps24;go_wp2_with fail;refine(Bu B wb d (n:Int) b _ h1 I oM t hw H.o.1).mono ?_;rintro e u1 ⟨rfl,y,v⟩;have K:=Ag (f7 y v);go_wp2;go_loopw [17] (fun i wr=>∃k:Nat,k<=n/\i=iZ k/\Hid (EM B wr wb (d++Az n b++(a.take k).flatMap Cf)/\Wg B w wr)) (fun i _=>n-(intOf i).toNat)
 case atStart=>exact⟨0,oM,rfl,⟨by simpa using K.o.1,K.o.2⟩⟩
 obtain⟨k,X,rfl,j⟩:=hrel;by_cases N:k<n
 . obtain⟨x,l⟩:∃x,a[k]?=some x:=⟨_,an (by rw[q.o];exact N)⟩;(have P:d++Az n b++(a.take (k+1)).flatMap Cf=d++Az n b++(a.take k).flatMap Cf++Cf x:=by obtain⟨O,rfl⟩:=d7.1 l;rw[kQ O,kO,<-kT];simp);(have M:(d++Az n b++(a.take k).flatMap Cf).length<=1073741000:=by have:=D7 Cf a k;simp only[f6,Ak];omega);rcases(Rd.cB H.o.2).2 with⟨G,_⟩|⟨g,o,c,f,W⟩
   . omega
   simp only[ip,kU]at f;obtain⟨rfl,rfl⟩:=f;have R:=Rd.cB (j.o.2.own H.o.2 dC dC);rcases R.2 with⟨G,_⟩|⟨U,o',c',f,m⟩
   . omega
   simp only[ip,i4,lF,kU,lp]at f;obtain⟨⟨rfl,rfl⟩,rfl⟩:=f;have z:=Rd.elem MT.aK m k x l 0 _ rfl;have Y:=Rd.elem MT.aK m k x l 1 _ rfl;have Z:=Rd.elem MT.aK m k x l 2 _ rfl;have j3:=Rd.elem MT.aK m k x l 3 _ rfl;rw[kD]at z;have r:=Ag (f7 l P);have nb:¬g=wr.heap.size:=kg (d5 z);have mb:g<wr.heap.size:=d5 z;have p:Hid (EM B (wr.alloc (.cells #[iZ x.func,iZ x.head,iZ x.counter,.int .u32 x.init] 72)) wb (d++Az n b++(a.take k).flatMap Cf)/\Wg B w (wr.alloc (.cells #[iZ x.func,iZ x.head,iZ x.counter,.int .u32 x.init] 72))):=⟨j.o.1.call (Aa _ _),j.o.2.trans (Wg.gz (Aa _ _) (jX t j.o.2.size))⟩
   go_wp2_with fail;refine(Rj B wb _ x _ p.o.1 M (jX t p.o.2.size) hw (C.o x (d9 r.o.1)).1 (C.o x (d9 r.o.1)).2).mono ?_;rintro e u ⟨rfl,y,v⟩;have F:Hid (EM B u wb (d++Az n b++(a.take (k+1)).flatMap Cf)/\Wg B w u):=⟨by rw[r.o.2];exact y,p.o.2.trans v⟩
   go_wp2;go_roundw;(case rel=>exact⟨k+1,oM,by go_num,F⟩);exact oI
 have L:k=n:=oM;subst L;have A:Hid (EM B wr wb (d++(Az k b++a.flatMap Cf))/\Wg B w wr):=by refine⟨?_,j.o.2⟩;have:=j.o.1;rw[<-q.o,List.take_length,q.o,kT]at this;exact this
 go_wp2;go_end0;exact⟨rfl,A.o.1,A.o.2⟩
end Go.Proofs.YthjbicggfnnonaaGreatDoor
