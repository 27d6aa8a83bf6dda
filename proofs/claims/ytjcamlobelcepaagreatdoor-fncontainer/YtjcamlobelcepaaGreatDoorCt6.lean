import Derived.Test.YtjcamlobelcepaaGreatDoorCt5
import Derived.Deep.DeepCutAuto
namespace Go.Proofs.YtjcamlobelcepaaGreatDoor
open Go.ChangeShapes Go.WideShapes Go.ChangeAt Go.RowKit
set_option linter.unusedVariables false
set_option maxHeartbeats 2000000
set_option maxRecDepth 100000
def Bj(x:MI):Bool:=decide (x.op=25)||decide (x.op=26)||decide (x.op=27)
def I6(x:MI):Bool:=decide (¬x.op=25)&&decide (¬x.op=29)
def Be(xs:List MI):Prop:=1<=xs.length/\xs.length<=1024/\∀(i:Nat) (x:MI),xs[i]?=some x->Bj x=true->0<=x.c/\x.c<(xs.length:Int)
def Ie(x:MI)(i j:Nat):Bool:=(Bj x&&decide (x.c=(j:Int)))||((Bj x||decide (x.op=29))&&decide (j=i+1))
def BN(xs:List MI)(k j:Nat):Bool:=decide (j=0)||(List.range k).any fun i=>match xs[i]? with|some x=>Ie x i j|none=>false
theorem Hn(xs:List MI)(k:Nat):BN xs k 0=true:=by simp[BN]
theorem Nd(xs:List MI)(j:Nat):BN xs 0 j=decide (j=0):=by simp[BN]
theorem Hm(xs:List MI)(k j:Nat)(x:MI)(hx:xs[k]?=some x):BN xs (k+1) j=(BN xs k j||Ie x k j):=by
 simp[BN,List.range_succ,hx,Bool.or_assoc]
theorem JU(xs:List MI)(k i j:Nat)(x:MI)(hi:i<k)(hx:xs[i]?=some x)(h:Ie x i j=true):BN xs k j=true:=by
 simp only[BN,Bool.or_eq_true,List.any_eq_true,cX];exact .inr ⟨i,hi,by rw[hx];exact h⟩
def Hs(xs:List MI)(i:Nat):List Nat:=(List.range i).filter (BN xs xs.length)
theorem JT(xs:List MI)(i:Nat):Hs xs (i+1)=if BN xs xs.length i=true then Hs xs i++[i]else Hs xs i:=by
 unfold Hs;rw[ch,cS];by_cases h:BN xs xs.length i=true
 . simp[h]
 . simp[h]
theorem Dy(xs:List MI)(i j:Nat):j∈Hs xs i↔j<i/\BN xs xs.length j=true:=by simp[Hs]
theorem FH(xs:List MI)(i:Nat):(Hs xs i).Pairwise (· < ·):=List.Pairwise.filter _ List.pairwise_lt_range
theorem JS(xs:List MI)(i:Nat)(h:0<i):Hs xs i≠[]:=fun e=>by
 have:=(Dy xs i 0).2 ⟨h,Hn _ _⟩;rw[e]at this;cases this
theorem PJ(xs:List MI)(i n:Nat)(h:i<=n):∃r,Hs xs n=Hs xs i++r:=by
 induction n with
 | zero=>
   obtain rfl:i=0:=by omega
   exact⟨[],by simp⟩
 | succ n ih=>
   by_cases hi:i=n+1
   . subst hi
     exact⟨[],by simp⟩
   . obtain⟨r,hr⟩:=ih (by omega)
     rw[JT,hr];split
     . exact⟨r++[n],by simp⟩
     . exact⟨r,rfl⟩
theorem Sb(xs:List MI)(p n:Nat)(hp:p<n)(hl:BN xs xs.length p=true):(Hs xs n).idxOf p=(Hs xs p).length/\(Hs xs (p+1)).length=(Hs xs p).length+1:=by
 have h1:=JT xs p;rw[bj hl]at h1;obtain⟨r,hr⟩:=PJ xs (p+1) n hp;refine⟨?_,by rw[h1];simp⟩;rw[hr,h1,a6,List.idxOf_append,bX (by rw[Dy];omega)];simp
theorem Sc(xs:List MI)(p q n:Nat)(hp:p<n)(hq:q<n)(hlp:BN xs xs.length p=true)(hlq:BN xs xs.length q=true)(h:(Hs xs n).idxOf p=(Hs xs n).idxOf q):p=q:=by
 have h1:p∈Hs xs n:=(Dy _ _ _).2 ⟨hp,hlp⟩;have h2:q∈Hs xs n:=(Dy _ _ _).2 ⟨hq,hlq⟩;have e1:=List.getElem_idxOf (dd.2 h1);have e2:=List.getElem_idxOf (dd.2 h2);rw[<-e1,<-e2];congr 1
def Jq(bs:List MB)(i:Int):List MB:=match bs.getLast? with|some b=>bs.dropLast++[⟨b.first,i,b.next⟩]|none=>[]
theorem Eh(bs:List MB)(b:MB)(i:Int):Jq (bs++[b]) i=bs++[⟨b.first,i,b.next⟩]:=by simp[Jq]
def Bi(xs:List MI):Nat->List MB
 |0=>[]
 |i+1=>Jq (if BN xs xs.length i=true then Bi xs i++[⟨i,0,[]⟩]else Bi xs i) i
def build(L:List Nat)(e:Nat):List MB:=List.zipWith (fun(a b:Nat)=>(⟨(a:Int),(b:Int)-1,[]⟩:MB)) L (L.tail++[e])
theorem Hj(L:List Nat)(i e:Nat)(h:L≠[]):build (L++[i]) e=build L i++[⟨(i:Int),(e:Int)-1,[]⟩]:=by
 unfold build
 rw[List.tail_append_of_ne_nil h,a6,show(L.tail++([i]++[e]))=(L.tail++[i])++[e]by simp,List.zipWith_append (by
  cases L with
  |nil=>exact absurd rfl h
  |cons a r=>simp)]
 rfl
theorem Df(xs:List MI)(i:Nat):Bi xs i=build (Hs xs i) i:=by
 induction i with
 |zero=>rfl
 | succ i ih=>
   simp only[Bi];rw[JT];by_cases h:BN xs xs.length i=true
   . rw[bj h,bj h,Eh]
     by_cases h0:i=0
     . subst h0
       simp[Bi,Hs,build]
     . rw[Hj _ _ _ (JS xs i (by omega)),ih]
       simp
   . rw[bX h,bX h]
     have h0:0<i:=by
      cases i with
      |zero=>exact absurd (Hn _ _) h
      |succ i=>omega
     obtain⟨M,a,hM⟩:∃M a,Hs xs i=M++[a]:=⟨_,_,(List.dropLast_concat_getLast (JS xs i h0)).symm⟩;rw[ih,hM];cases M with
     |nil=>simp[build,Jq]
     | cons m M=>
       rw[Hj _ _ _ (by simp),Hj _ _ _ (by simp),Eh];simp
theorem Ly(L:List Nat)(e:Nat):(build L e).length=L.length:=by
 unfold build;cases L with
 |nil=>rfl
 |cons a r=>simp
theorem Ch(xs:List MI)(i:Nat):(Bi xs i).length=(Hs xs i).length:=by rw[Df,Ly]
def AN(xs:List MI)(i:Nat):Int:=((Hs xs (i+1)).length:Int)-1
theorem Ex(xs:List MI)(p n:Nat)(hp:p<n)(hl:BN xs xs.length p=true):AN xs p=((Hs xs n).idxOf p:Int):=by
 have:=Sb xs p n hp hl;unfold AN;omega
theorem Q1(xs:List MI)(p q n:Nat)(hp:p<n)(hq:q<n)(hlp:BN xs xs.length p=true)(hlq:BN xs xs.length q=true):AN xs p=AN xs q↔p=q:=by
 rw[Ex xs p n hp hlp,Ex xs q n hq hlq];exact⟨fun h=>Sc xs p q n hp hq hlp hlq (by omega),fun h=>by rw[h]⟩
def Jp(xs:List MI)(x:MI)(e:Nat):List Int:=
 (if I6 x=true/\e+1<xs.length then[((e+1:Nat):Int)]else[])++(if Bj x=true/\¬(I6 x=true/\e+1<xs.length/\x.c=((e+1:Nat):Int))then[x.c]else[])
def DH(xs:List MI)(x:MI)(e:Nat):List Int:=
 let n1:=if I6 x=true/\e+1<xs.length then[AN xs (e+1)]else[]
 n1++(if Bj x=true/\(n1=[]\/¬n1=[AN xs x.c.toNat])then[AN xs x.c.toNat]else[])
theorem MJ(L:List Nat)(n b e:Nat)(m:MB)(h:(build L n)[b]?=some m)(he:m.last=(e:Int))(hn:e+1<n):e+1∈L:=by
 unfold build at h;rw[dQ]at h;cases h1:L[b]? with
 |none=>rw[h1]at h;simp at h
 | some a=>
   cases h2:(L.tail++[n])[b]? with
   |none=>rw[h1,h2]at h;simp at h
   | some q=>
     rw[h1,h2]at h;simp only[aM]at h;subst h;simp only[]at he;have hq:q=e+1:=by omega
     subst hq;have:=aF h2;rcases ah.1 this with h3|h3
     . exact dn h3
     . simp at h3
       omega
theorem PM(xs:List MI)(b e:Nat)(x:MI)(m:MB)(hg:Be xs)(hb:(Bi xs xs.length)[b]?=some m)(he:m.last=(e:Int))(hx:xs[e]?=some x):DH xs x e=(Jp xs x e).map fun p=>((Hs xs xs.length).idxOf p.toNat:Int):=by
 have hen:e<xs.length:=(aE.1 hx).1;rw[Df]at hb;have hl1:e+1<xs.length->BN xs xs.length (e+1)=true:=fun h=>((Dy _ _ _).1 (MJ _ _ _ _ _ hb he h)).2
 have hl2:Bj x=true->x.c.toNat<xs.length/\BN xs xs.length x.c.toNat=true/\(x.c.toNat:Int)=x.c:=fun h=>by
  obtain⟨h1,h2⟩:=hg.2.2 e x hx h;have h3:(x.c.toNat:Int)=x.c:=dx h1;exact⟨by omega,JU xs _ e _ x hen hx (by simp[Ie,h,h3]),h3⟩
 unfold DH Jp;by_cases h1:I6 x=true/\e+1<xs.length
 . have n1:=Ex xs (e+1) xs.length h1.2 (hl1 h1.2)
   simp only[bj h1];by_cases h2:Bj x=true
   . obtain⟨c1,c2,c3⟩:=hl2 h2
     have n2:=Ex xs x.c.toNat xs.length c1 c2;have n3:=Q1 xs (e+1) x.c.toNat xs.length h1.2 c1 (hl1 h1.2) c2;by_cases h3:x.c=((e+1:Nat):Int)
     . have k1:¬(Bj x=true/\([AN xs (e+1)]=[]\/¬[AN xs (e+1)]=[AN xs x.c.toNat])):=fun h=>h.2.elim (fun q=>by cases q) (fun q=>q (by rw[n3.2 (by omega)]))
       simp only[bX k1];rw[bX (fun h=>h.2 ⟨h1.1,h1.2,h3⟩)];simp[n1]
     . have k1:(Bj x=true/\([AN xs (e+1)]=[]\/¬[AN xs (e+1)]=[AN xs x.c.toNat])):=⟨h2,.inr (fun q=>h3 (by have:=n3.1 (by simpa using q);omega))⟩
       simp only[bj k1];rw[bj ⟨h2,fun h=>h3 h.2.2⟩];simp[n1,n2]
   . simp only[h2,false_and,if_false,dO]
     simp[n1]
 . simp only[bX h1]
   by_cases h2:Bj x=true
   . obtain⟨c1,c2,c3⟩:=hl2 h2
     have n2:=Ex xs x.c.toNat xs.length c1 c2;have k1:(Bj x=true/\(True\/¬([]:List Int)=[AN xs x.c.toNat])):=⟨h2,.inl trivial⟩
     rw[bj k1,bj ⟨h2,fun h=>h1 ⟨h.1,h.2.1⟩⟩];simp[n2]
   . simp only[h2,false_and,if_false,dO]
     rfl
theorem MF.eq_iff(f g:MF):f=g↔f.params=g.params/\f.result=g.result/\f.locals=g.locals/\f.code=g.code:=by
 cases f
 cases g
 simp
theorem LX(v v':VF)(f g:MF)(w:World)(hs:f.small)(hs':g.small)(h:EI w v f)(h':EI w v' g):
 Calls Tryz.prog 31 #[.agg #[v.p,.int .i64 f.result,v.l,v.c],.agg #[v'.p,.int .i64 g.result,v'.l,v'.c]] w fun e w'=>Am e (f=g)/\Below w.heap.size w w':=by
 have H:Hid (EI w v f/\EI w v' g/\f.small/\g.small):=⟨h,h',hs,hs'⟩
 clear h h' hs hs';by_cases hr:f.result=g.result
 . rw [<-hr]
   have HR:Hid (f.result=g.result):=hr;clear hr;have F0:=Lq.of w 58 #[v.p,.int .i64 f.result,v.l,v.c] #[v'.p,.int .i64 f.result,v'.l,v'.c] rfl rfl;go_enter Tryz.func31,Tryz.ntmps31;go_wp2_with fail
   refine(Ez v.p v'.p f.params g.params _ H.o.2.2.1.1 H.o.2.2.2.1 (H.o.1.1.keep F0.bel lR) (H.o.2.1.1.keep F0.bel lR)).mono ?_;rintro e u1 ⟨⟨b1,rfl,hb1⟩,m1,e1⟩;have F1:=F0.keep (e1▸Aj _ _ _);clear F0 e1;cases b1
   . have HN:Hid (¬f=g):=fun e=>by simp[(MF.eq_iff f g).1 e]at hb1
     clear hb1;go_wp2
     go_ret
     exact⟨.no HN.o,F1.bel⟩
   . have HP:Hid (f.params=g.params):=hb1.1 rfl
     clear hb1;obtain⟨p0,p1,p2,p3,_⟩:=DA F1.par;obtain⟨o0,o1,o2,o3,_⟩:=DA F1.par';go_wp2_with fail
     refine(Ez v.l v'.l f.locals g.locals _ H.o.2.2.1.2.1 H.o.2.2.2.2.1 (H.o.1.2.1.keep F1.bel lR) (H.o.2.1.2.1.keep F1.bel lR)).mono ?_;rintro e u2 ⟨⟨b2,rfl,hb2⟩,m2,e2⟩;have F2:=F1.keep (e2▸Aj _ _ _);clear F1 e2 p0 p1 p2 p3 o0 o1 o2 o3;cases b2
     . have HN:Hid (¬f=g):=fun e=>by simp[(MF.eq_iff f g).1 e]at hb2
       clear hb2;go_wp2
       go_ret
       exact⟨.no HN.o,F2.bel⟩
     . have HL:Hid (f.locals=g.locals):=hb2.1 rfl
       clear hb2;obtain⟨p0,p1,p2,p3,_⟩:=DA F2.par;obtain⟨o0,o1,o2,o3,_⟩:=DA F2.par';go_wp2_with fail
       refine(KH v.c v'.c f.code g.code _ H.o.2.2.1.2.2 H.o.2.2.2.2.2 (H.o.1.2.2.keep F2.bel lR) (H.o.2.1.2.2.keep F2.bel lR)).mono ?_;rintro e u3 ⟨⟨b3,rfl,hb3⟩,m3,e3⟩;have F3:=F2.keep (e3▸Aj _ _ _);clear F2 e3 p0 p1 p2 p3 o0 o1 o2 o3
       have HB:Hid (b3=true↔f=g):=by
        show _↔_;rw[hb3,MF.eq_iff];simp[HP.o,HL.o,HR.o]
       clear hb3;go_wp2
       go_ret
       exact⟨.of HB.o,F3.bel⟩
 . have HN:Hid (¬f=g):=fun e=>hr (by rw[e])
   have F0:=Lq.of w 58 #[v.p,.int .i64 f.result,v.l,v.c] #[v'.p,.int .i64 g.result,v'.l,v'.c] rfl rfl;go_enter Tryz.func31,Tryz.ntmps31;go_wp2
   go_ret
   exact⟨.no HN.o,F0.bel⟩
theorem UB{w:World}{b:Nat}{x y:Value}{t:TypeId}(h:Ap w b #[x,y] t):w.cell? ⟨b,0,none⟩=some x/\w.cell? ⟨b,1,none⟩=some y:=⟨h.cell 0,h.cell 1⟩
theorem Fg{w:World}{b:Nat}{x y z v:Value}{t:TypeId}(h:Ap w b #[x,y,z,v] t):w.cell? ⟨b,0,none⟩=some x/\w.cell? ⟨b,1,none⟩=some y/\w.cell? ⟨b,2,none⟩=some z/\w.cell? ⟨b,3,none⟩=some v:=⟨h.cell 0,h.cell 1,h.cell 2,h.cell 3⟩
theorem Fb(B wb:Nat)(bs:List Value)(x:Int)(w:World)(h:DU B w wb bs)(hb:bs.length<=1073741000)(hB:B<=w.heap.size)(hw:B<=wb):
 Calls Tryz.prog 15 #[.pointer (some ⟨wb,0,none⟩),iZ x] w fun e w'=>e=.returned (.tuple #[])/\DU B w' wb (bs++At x 1)/\Wg B w w':=by
 have H:=Af h;go_enter Tryz.func15,Tryz.ntmps15;go_wp2_with fail
 refine(A4 B wb bs x 1 _ (by omega) (by omega) (by omega) hB hw H.o).mono ?_;rintro e u ⟨rfl,hW,hG⟩;have K:=Af (aG hW hG);go_wp2
 go_end0
 exact⟨rfl,K.o.1,K.o.2⟩
theorem OC(B wb:Nat)(bs:List Value)(x:MI)(w:World)(h:DU B w wb bs)(hb:bs.length<=1073741000)(hB:B<=w.heap.size)(hw:B<=wb):
 Calls Tryz.prog 47 #[.pointer (some ⟨wb,0,none⟩),.agg #[iZ x.op,iZ x.a,iZ x.b,iZ x.c]] w fun e w'=>e=.returned (.tuple #[])/\DU B w' wb (bs++Bf x)/\Wg B w w':=by
 have HA:Hid (Ap (w.alloc (.cells #[iZ x.op,iZ x.a,iZ x.b,iZ x.c] 97)) w.heap.size #[iZ x.op,iZ x.a,iZ x.b,iZ x.c] 97/\DU B (w.alloc (.cells #[iZ x.op,iZ x.a,iZ x.b,iZ x.c] 97)) wb bs/\Wg B w (w.alloc (.cells #[iZ x.op,iZ x.a,iZ x.b,iZ x.c] 97))):=⟨Ap.new _ _ _,h.call (Aa _ _),Wg.of_below (Aa _ _) hB⟩
 have hE:bs++Bf x=((((bs++At (x.op) 1)++At (x.a) 1)++At (x.b) 2)++At (x.c) 4):=by simp[Bf,Eb]
 rw[hE];go_enter Tryz.func47,Tryz.ntmps47;go_wp2_with fail
 refine(A4 B wb (bs) (x.op) 1 _ (by omega) (by omega) (by omega) (aR hB HA.o.2.2.size) hw HA.o.2.1).mono ?_;rintro e u1 ⟨rfl,hW1,hG1⟩;have K1:=Af (aG (hG1.block HA.o.1 (by decide) (by decide)) (aG hW1 (HA.o.2.2.trans hG1)));obtain⟨c0,c1,c2,c3⟩:=Fg K1.o.1;go_wp2_with fail
 refine(A4 B wb ((bs)++At (x.op) 1) (x.a) 1 _ (by omega) (by omega) (by simp only[aH,Av];omega) (aR hB K1.o.2.2.size) hw K1.o.2.1).mono ?_;rintro e u2 ⟨rfl,hW2,hG2⟩;have K2:=Af (aG (hG2.block K1.o.1 (by decide) (by decide)) (aG hW2 (K1.o.2.2.trans hG2)));obtain⟨c0,c1,c2,c3⟩:=Fg K2.o.1;go_wp2_with fail;refine(A4 B wb (((bs)++At (x.op) 1)++At (x.a) 1) (x.b) 2 _ (by omega) (by omega) (by simp only[aH,Av];omega) (aR hB K2.o.2.2.size) hw K2.o.2.1).mono ?_;rintro e u3 ⟨rfl,hW3,hG3⟩;have K3:=Af (aG (hG3.block K2.o.1 (by decide) (by decide)) (aG hW3 (K2.o.2.2.trans hG3)));obtain⟨c0,c1,c2,c3⟩:=Fg K3.o.1;go_wp2_with fail;refine(A4 B wb ((((bs)++At (x.op) 1)++At (x.a) 1)++At (x.b) 2) (x.c) 4 _ (by omega) (by omega) (by simp only[aH,Av];omega) (aR hB K3.o.2.2.size) hw K3.o.2.1).mono ?_;rintro e u4 ⟨rfl,hW4,hG4⟩;have K4:=Af (aG (hG4.block K3.o.1 (by decide) (by decide)) (aG hW4 (K3.o.2.2.trans hG4)));go_wp2;go_end0;exact⟨rfl,K4.o.2.1,K4.o.2.2⟩
theorem P7(B wb:Nat)(bs:List Value)(x:MT)(w:World)(h:DU B w wb bs)(hb:bs.length<=1073741000)(hB:B<=w.heap.size)(hw:B<=wb)(hx0:0<=x.init)(hx1:x.init<=4294967295):
 Calls Tryz.prog 21 #[.pointer (some ⟨wb,0,none⟩),.agg #[iZ x.func,iZ x.head,iZ x.counter,.int .u32 x.init]] w fun e w'=>e=.returned (.tuple #[])/\DU B w' wb (bs++Bo x)/\Wg B w w':=by
 have HA:Hid (Ap (w.alloc (.cells #[iZ x.func,iZ x.head,iZ x.counter,.int .u32 x.init] 62)) w.heap.size #[iZ x.func,iZ x.head,iZ x.counter,.int .u32 x.init] 62/\DU B (w.alloc (.cells #[iZ x.func,iZ x.head,iZ x.counter,.int .u32 x.init] 62)) wb bs/\Wg B w (w.alloc (.cells #[iZ x.func,iZ x.head,iZ x.counter,.int .u32 x.init] 62))):=⟨Ap.new _ _ _,h.call (Aa _ _),Wg.of_below (Aa _ _) hB⟩
 have hE:bs++Bo x=((((bs++At (x.func) 2)++At (x.head) 2)++At (x.counter) 1)++At (x.init) 4):=by simp[Bo,Eb]
 rw[hE];go_enter Tryz.func21,Tryz.ntmps21;go_wp2_with fail
 refine(A4 B wb (bs) (x.func) 2 _ (by omega) (by omega) (by omega) (aR hB HA.o.2.2.size) hw HA.o.2.1).mono ?_;rintro e u1 ⟨rfl,hW1,hG1⟩;have K1:=Af (aG (hG1.block HA.o.1 (by decide) (by decide)) (aG hW1 (HA.o.2.2.trans hG1)));obtain⟨c0,c1,c2,c3⟩:=Fg K1.o.1;go_wp2_with fail
 refine(A4 B wb ((bs)++At (x.func) 2) (x.head) 2 _ (by omega) (by omega) (by simp only[aH,Av];omega) (aR hB K1.o.2.2.size) hw K1.o.2.1).mono ?_;rintro e u2 ⟨rfl,hW2,hG2⟩;have K2:=Af (aG (hG2.block K1.o.1 (by decide) (by decide)) (aG hW2 (K1.o.2.2.trans hG2)));obtain⟨c0,c1,c2,c3⟩:=Fg K2.o.1;go_wp2_with fail;refine(A4 B wb (((bs)++At (x.func) 2)++At (x.head) 2) (x.counter) 1 _ (by omega) (by omega) (by simp only[aH,Av];omega) (aR hB K2.o.2.2.size) hw K2.o.2.1).mono ?_;rintro e u3 ⟨rfl,hW3,hG3⟩;have K3:=Af (aG (hG3.block K2.o.1 (by decide) (by decide)) (aG hW3 (K2.o.2.2.trans hG3)));obtain⟨c0,c1,c2,c3⟩:=Fg K3.o.1;go_wp2_with fail;refine(A4 B wb ((((bs)++At (x.func) 2)++At (x.head) 2)++At (x.counter) 1) (x.init) 4 _ (by omega) (by omega) (by simp only[aH,Av];omega) (aR hB K3.o.2.2.size) hw K3.o.2.1).mono ?_;rintro e u4 ⟨rfl,hW4,hG4⟩;have K4:=Af (aG (hG4.block K3.o.1 (by decide) (by decide)) (aG hW4 (K3.o.2.2.trans hG4)));go_wp2;go_end0;exact⟨rfl,K4.o.2.1,K4.o.2.2⟩
theorem Oz(B wb:Nat)(bs:List Value)(x:MC)(w:World)(h:DU B w wb bs)(hb:bs.length<=1073741000)(hB:B<=w.heap.size)(hw:B<=wb)(hx0:0<=x.word)(hx1:x.word<=4294967295):
 Calls Tryz.prog 17 #[.pointer (some ⟨wb,0,none⟩),.agg #[iZ x.type,.int .u32 x.word]] w fun e w'=>e=.returned (.tuple #[])/\DU B w' wb (bs++AY x)/\Wg B w w':=by
 have HA:Hid (Ap (w.alloc (.cells #[iZ x.type,.int .u32 x.word] 53)) w.heap.size #[iZ x.type,.int .u32 x.word] 53/\DU B (w.alloc (.cells #[iZ x.type,.int .u32 x.word] 53)) wb bs/\Wg B w (w.alloc (.cells #[iZ x.type,.int .u32 x.word] 53))):=⟨Ap.new _ _ _,h.call (Aa _ _),Wg.of_below (Aa _ _) hB⟩
 have hE:bs++AY x=((bs++At (x.type) 1)++At (x.word) 4):=by simp[AY]
 rw[hE];go_enter Tryz.func17,Tryz.ntmps17;go_wp2_with fail
 refine(Fb B wb (bs) (x.type) _ HA.o.2.1 (by omega) (aR hB HA.o.2.2.size) hw).mono ?_;rintro e u1 ⟨rfl,hW1,hG1⟩;have K1:=Af (aG (hG1.block HA.o.1 (by decide) (by decide)) (aG hW1 (HA.o.2.2.trans hG1)));obtain⟨c0,c1⟩:=UB K1.o.1;go_wp2_with fail
 refine(A4 B wb ((bs)++At (x.type) 1) (x.word) 4 _ (by omega) (by omega) (by simp only[aH,Av];omega) (aR hB K1.o.2.2.size) hw K1.o.2.1).mono ?_;rintro e u2 ⟨rfl,hW2,hG2⟩;have K2:=Af (aG (hG2.block K1.o.1 (by decide) (by decide)) (aG hW2 (K1.o.2.2.trans hG2)));go_wp2;go_end0;exact⟨rfl,K2.o.2.1,K2.o.2.2⟩
structure D7(p:MP)(a b c:Int):Prop where
 low:0<=c
 high:c<256
 mask:bits .and .i64 c (c+1)=0
 there:¬Bt p a b=0
 one:∀j:Nat,(j:Int)<=c->Bt p a (b+j)=Bt p a b
theorem Pt{p:MP}{r c:Int}(hs:∀l∈p.regions,l.length<=1048576)(h:¬Bt p r c=0):0<=c/\c<1048576:=by
 unfold Bt at h;split at h
 . exact absurd rfl h
 . rename_i hq
   refine⟨by omega,?_⟩;by_cases hr:r.toNat<p.regions.length
   . have hm:=hs _ (be hr)
     have e:p.regions.getD r.toNat []=p.regions[r.toNat]:=by rw[aU,aA hr];rfl
     rw[e]at h;by_cases hc:c.toNat<p.regions[r.toNat].length
     . omega
     . exact absurd (by rw[aU,ae (by omega)];rfl) h
   . have e:p.regions.getD r.toNat []=[]:=by rw[aU,ae (by omega)];rfl
     rw[e]at h;exact absurd rfl h
theorem BZ{z:Int}(h0:-9223372036854775808<=z:=by omega)(h1:z<=9223372036854775807:=by omega):Ec z:=by simp[Ec,Lit.wf,IntKind.min,IntKind.max,IntKind.signed,IntKind.bits];omega
theorem Fv{z:Int}(h:Ec z):-9223372036854775808<=z/\z<=9223372036854775807:=by simpa[Ec,Lit.wf,IntKind.min,IntKind.max,IntKind.signed,IntKind.bits]using h
theorem N4 (v:VP)(p:MP)(op a b c:Int)(w:World)(hs:p.small)(h3:p.regions.length=3)(ha:Ec a)(hb:Ec b)(hc:Ec c)(h:Ej w v p):
 Calls Tryz.prog 124 #[.agg #[v.r,v.k,v.f,v.t],.agg #[iZ op,iZ a,iZ b,iZ c]] w fun e w'=>Am e (D7 p a b c)/\Below w.heap.size w w':=by
 have HB:Hid (Below w.heap.size w ((w.alloc (.cells #[v.r,v.k,v.f,v.t] 28)).alloc (.cells #[iZ op,iZ a,iZ b,iZ c] 97))):=Ab (Aa _ _) lR (Aa _ _);have HP:Hid (DE ((w.alloc (.cells #[v.r,v.k,v.f,v.t] 28)).alloc (.cells #[iZ op,iZ a,iZ b,iZ c] 97)) w.heap.size v.r v.k v.f v.t):=(DE.new w _ _ _ _ _).alloc _
 have HX:Hid (DE ((w.alloc (.cells #[v.r,v.k,v.f,v.t] 28)).alloc (.cells #[iZ op,iZ a,iZ b,iZ c] 97)) (w.heap.size+1) (iZ op) (iZ a) (iZ b) (iZ c)):=by
  have:=DE.new (w.alloc (.cells #[v.r,v.k,v.f,v.t] 28)) (iZ op) (iZ a) (iZ b) (iZ c) 97;simpa[Hid]using this
 have H:Hid (p.small/\p.regions.length=3/\Ec a/\Ec b/\Ej w v p):=⟨hs,h3,ha,hb,h⟩
 obtain⟨c0,c1⟩:=Fv hc;by_cases q0:c<0
 . have HN:Hid (¬D7 p a b c):=fun e=>absurd e.low (by omega)
   go_enter Tryz.func124,Tryz.ntmps124;go_wp2
   go_ret
   exact⟨.no HN.o,HB.o⟩
 by_cases q1:256<=c
 . have HN:Hid (¬D7 p a b c):=fun e=>absurd e.high (by omega)
   go_enter Tryz.func124,Tryz.ntmps124;go_wp2
   go_ret
   exact⟨.no HN.o,HB.o⟩
 obtain⟨c,rfl⟩:=aS (show 0<=c by omega);have hcn:c<256:=by omega
 have q0:¬(c:Int)<0:=by omega
 have q1:¬(256:Int)<=(c:Int):=by omega
 by_cases q2:bits .and .i64 (c:Int) ((c:Int)+1)=0
 . have HM :Hid (bits .and .i64 (c:Int) ((c:Int)+1)=0):=q2
   go_enter Tryz.func124,Tryz.ntmps124;go_wp2_with fail
   refine(Hl v p a b _ H.o.1 H.o.2.1 H.o.2.2.1 H.o.2.2.2.1 (H.o.2.2.2.2.keep HB.o lR)).mono ?_;rintro e u0 ⟨rfl,bl0⟩;have HB1:Hid (Below w.heap.size w u0/\DE u0 w.heap.size v.r v.k v.f v.t/\DE u0 (w.heap.size+1) (iZ op) (iZ a) (iZ b) (iZ (c:Int))):=⟨Ab HB.o lR bl0,HP.o.keep bl0,HX.o.keep bl0⟩
   generalize hT:Bt p a b=T;have HT:=Af hT;go_wp2
   go_loopw [6] (fun i wr=>∃k:Nat,k<=c+1/\i=iZ k/\Hid ((0<k->¬T=0)/\∀j:Nat,j<k->Bt p a (b+j)=T)/\Hid (Below w.heap.size w wr/\DE wr w.heap.size v.r v.k v.f v.t/\DE wr (w.heap.size+1) (iZ op) (iZ a) (iZ b) (iZ (c:Int)))) (fun i _=>c+1-(intOf i).toNat)
   case atStart=>exact⟨0,by omega,rfl,⟨fun h=>by omega,fun j hj=>by omega⟩,HB1⟩
   case round=>
    obtain⟨k,hk,rfl,HI,HW⟩:=hrel;obtain⟨p0,p1,p2,p3⟩:=HW.o.2.1;obtain⟨i0,i1,i2,i3⟩:=HW.o.2.2;by_cases hlt:k<c+1
    . have hlt':(k:Int)<=(c:Int):=by omega
      by_cases q3:T=0
      . have q3':(T==0)=true:=by simpa using q3
        have HN:Hid (¬D7 p a b c):=fun e=>e.there (HT.o.trans q3)
        go_wp2
        go_ret
        exact⟨.no HN.o,HW.o.1⟩
      . have q3':(T==0)=false:=by simpa using q3
        have hbb:=Pt H.o.1.region (by rw[HT.o];exact q3);obtain⟨b0,b1⟩:=hbb;have HQ3:=Af q3;go_wp2_with fail;refine(Hl v p a (b+k) _ H.o.1 H.o.2.1 H.o.2.2.1 BZ (H.o.2.2.2.2.keep HW.o.1 lR)).mono ?_;rintro e u1 ⟨rfl,bl1⟩;have HW2:Hid (Below w.heap.size w u1/\DE u1 w.heap.size v.r v.k v.f v.t/\DE u1 (w.heap.size+1) (iZ op) (iZ a) (iZ b) (iZ (c:Int))):=⟨Ab HW.o.1 lR bl1,HW.o.2.1.keep bl1,HW.o.2.2.keep bl1⟩
        by_cases q4:Bt p a (b+k)=T
        . rw[q4]
          have HI2:Hid ((0<k+1->¬T=0)/\∀j:Nat,j<k+1->Bt p a (b+j)=T):=⟨fun _=>HQ3.o,fun j hj=>by
           by_cases e:j=k
           . rw[e];exact q4
           . exact HI.o.2 j (by omega)⟩
          go_wp2
          go_roundw
          case rel=>exact⟨k+1,by omega,by go_num,HI2,HW2⟩
          case measure=>simp[intOf];omega
        . have HN:Hid (¬D7 p a b c):=fun e=>q4 ((e.one k hlt').trans HT.o)
          have q4':(Bt p a (b+k)==T)=false:=by simpa using q4
          have q4'':(Bt p a (b+k) != T)=true:=by simpa using q4
          go_wp2
          go_ret
          exact⟨.no HN.o,HW2.o.1⟩
    . have hkn:k=c+1:=by omega
      subst hkn;have HY:Hid (D7 p a b c):=⟨by omega,by omega,HM.o,by rw[HT.o];exact HI.o.1 (by omega),fun j hj=>by rw[HT.o];exact HI.o.2 j (by omega)⟩;have hle:¬((c:Int)+1)<=(c:Int):=by omega
      go_wp2
      go_ret
      exact⟨.yes HY.o,HW.o.1⟩
 . have HN:Hid (¬D7 p a b c):=fun e=>q2 e.mask
   have q2':(bits .and .i64 (c:Int) ((c:Int)+1)==0)=false:=by simpa using q2
   go_enter Tryz.func124,Tryz.ntmps124;go_wp2
   go_ret
   exact⟨.no HN.o,HB.o⟩
theorem Fw(s:Value)(ys:List Int)(w:World)(hn:ys.length<=1048576)(h:Rd w 1 s ys.length (ys.flatMap Ac)):
 Calls Tryz.prog 61 #[s] w fun e w'=>e=.returned (.bool (ys.all DZ))/\w'=w:=by
 have H1:=Af h;obtain⟨a1,c1,rfl⟩:=h.is_slice;generalize hLL:ys.length=n at hn H1;have HL:=Af hLL;generalize hR:ys.all DZ=R;have HR:=Af hR;go_enter Tryz.func61,Tryz.ntmps61;go_wp2
 go_loopw [7] (fun i wr=>∃k:Nat,k<=n/\i=iZ k/\Hid ((ys.take k).all DZ=true)/\wr=w) (fun i _=>n-(intOf i).toNat)
 case atStart=>exact⟨0,by omega,rfl,by simp[Hid],rfl⟩
 case round=>
  obtain⟨k,hk,rfl,HT,rfl⟩:=hrel;by_cases hlt:k<n
  . obtain⟨x,hx⟩:∃x,ys[k]?=some x:=⟨_,aA (by rw[HL.o];exact hlt)⟩
    rcases H1.o.2 with⟨e0,_⟩|⟨g,o,c,e1,hc1⟩
    . omega
    . simp only[aI,ao]at e1
      obtain⟨rfl,rfl⟩:=e1;have i0:=Rd.elem Al hc1 k x hx 0 _ rfl;rw[bR,aT]at i0;have HX:=Af hx;go_wp2_with fail
      refine(DP x wr).mono ?_;rintro e u ⟨rfl,rfl⟩;cases hq:DZ x with
      | false=>
        have hR:R=false:=by
         rw[<-HR.o];exact OH _ _ _ (aF HX.o) hq
        subst hR;go_wp2
        go_ret
        exact⟨rfl,rfl⟩
      | true=>
        have HN:Hid ((ys.take (k+1)).all DZ=true):=by
         show _=_;rw[Mt _ _ _ _ HX.o HT.o];exact hq
        go_wp2
        go_roundw
        case rel=>exact⟨k+1,by omega,by go_num,HN,by trivial⟩
        case measure=>simp[intOf];omega
  . have hkn:k=n:=by omega
    subst hkn
    have hR:R=true:=by
     rw[<-HR.o,<-HT.o,<-HL.o,List.take_length]
    subst hR;go_wp2
    go_ret
    exact⟨rfl,rfl⟩
def Gd(r:List Int):Prop:=r.length<=256/\r.all DZ=true
def Ax(rs:List (List Int)):Prop:=rs.length=3/\∀j,j<rs.length->∀r,rs[j]?=some r->Gd r
theorem Jk (s:Value)(fs:List (List Int))(w:World)(hL:fs.length<=1048576)(hs:∀f∈fs,f.length<=1048576)(h:Lx w s fs):
 Calls Tryz.prog 40 #[s] w fun e w'=>Am e (Ax fs)/\w'=w:=by
 obtain⟨xs,hxs,hrd,hel⟩:=h;have hxl:xs.length=fs.length:=by rw[<-hxs];simp
 have H1:=Af (aG hrd (aG hxs (aG hel (aG hs hxl))));obtain⟨a1,c1,rfl⟩:=hrd.is_slice;generalize hLL:fs.length=n at hL H1;have HL:=Af hLL;by_cases q0:n=3
 . subst q0
   go_enter Tryz.func40,Tryz.ntmps40;go_wp2
   go_loopw [10] (fun i wr=>∃k:Nat,k<=3/\i=iZ k/\Hid (∀j,j<k->∀r,fs[j]?=some r->Gd r)/\wr=w) (fun i _=>3-(intOf i).toNat)
   case atStart=>exact⟨0,by omega,rfl,fun j hj=>by omega,rfl⟩
   case round=>
    obtain⟨k,hk,rfl,HT,rfl⟩:=hrel;by_cases hlt:k<3
    . obtain⟨⟨f,v⟩,hx⟩:∃x,xs[k]?=some x:=⟨_,aA (by rw[H1.o.2.2.2.2];exact hlt)⟩
      have e1:=BG H1.o.2.1 hx;have hf:=H1.o.2.2.1 _ (aF hx);have HX:=Af (aG hf (aG (H1.o.2.2.2.1 _ (aF e1)) e1));rcases H1.o.1.2 with⟨e0,_⟩|⟨b,o,c,e1,hc1⟩
      . omega
      . simp only[aI,ao]at e1
        obtain⟨rfl,rfl⟩:=e1;have i0:=Rd.elem AK hc1 k _ hx 0 _ rfl;rw[bR,aT]at i0;simp only[]at i0 hf;obtain⟨av,cv,ev⟩:=hf.is_slice;subst ev;have hz:=HX.o.2.1;by_cases q1:256<f.length
        . have HN:Hid (¬Ax fs):=fun e=>absurd (e.2 k (by rw[HL.o];exact hlt) f HX.o.2.2).1 (by omega)
          generalize f.length=m at*;go_wp2
          go_ret
          exact⟨.no HN.o,rfl⟩
        . go_wp2_with fail
          refine(Fw _ f _ HX.o.2.1 HX.o.1).mono ?_;rintro e u ⟨rfl,rfl⟩;cases t1:f.all DZ
          . have HN:Hid (¬Ax fs):=fun e=>by have:=(e.2 k (by rw[HL.o];exact hlt) f HX.o.2.2).2;simp[t1]at this
            go_wp2
            go_ret
            exact⟨.no HN.o,rfl⟩
          . have HN:Hid (Gd f):=⟨by omega,t1⟩
            go_wp2
            go_roundw
            case rel=>exact⟨k+1,by omega,by go_num,CC HX.o.2.2 HN.o HT.o,by trivial⟩
            case measure=>simp[intOf];omega
    . have hkn:k=3:=by omega
      subst hkn;have HY:Hid (Ax fs):=⟨HL.o,by rw[HL.o];exact HT.o⟩;go_wp2;go_ret;exact⟨.yes HY.o,rfl⟩
 . have HN:Hid (¬Ax fs):=fun e=>q0 (by rw[<-HL.o];exact e.1)
   have hi:¬(n:Int)=3:=by omega
   go_enter Tryz.func40,Tryz.ntmps40;go_wp2
   go_ret
   exact⟨.no HN.o,rfl⟩
theorem Pn{z:Int}(h:Pm z):0<=z/\z<=4294967295:=by simpa[Pm,Lit.wf,IntKind.min,IntKind.max,IntKind.signed,IntKind.bits]using h
theorem Ln(a b a' b':Int)(w:World):(binOp .eql 114 (.agg #[iZ a,.int .u32 b]) (.agg #[iZ a',.int .u32 b'])).run Tryz.prog w=.ok (.bool (decide (a=a'/\b=b'))) w:=by
 have u64:=Tryz.underlying2;have a64:=Tryz.isAgg2;have z64:=Tryz.sizeOf2;have u32:=Tryz.underlying51;have a32:=Tryz.isAgg51;have z32:=Tryz.sizeOf51;have hS:Tryz.prog.underlying 114=some (.struct (Tryz.prog.fieldsOf 114)):=by kernel_rfl
 have hp:Tryz.prog.stoodInHeld 114=false:=by kernel_rfl
 rw[run_eql_struct,show(10000:Nat)=9999+1 from rfl,run_equalIn_agg w 9999 114 _ _ hS hp];simp only[Program.fieldsOf,Tryz.underlying114];go_simp;by_cases h1:a=a'
 . by_cases h2:b=b'<;>simp[*]
 . simp[*]
theorem M5(t x:Int)(w:World)(hx:0<=x):
 Calls Tryz.prog 62 #[.agg #[iZ t,.int .u32 x]] w fun e w'=>Am e (Cv ⟨t,x⟩)/\Below w.heap.size w w':=by
 by_cases h1:t=1
 . subst h1
   have e0:∀w,(binOp .eql 114 (.agg #[iZ 1,.int .u32 x]) (.agg #[iZ 1,.int .u32 0])).run Tryz.prog w=.ok (.bool (decide (1=(1:Int)/\x=0))) w:=Ln 1 x 1 0
   have e1:∀w,(binOp .eql 114 (.agg #[iZ 1,.int .u32 x]) (.agg #[iZ 1,.int .u32 1])).run Tryz.prog w=.ok (.bool (decide (1=(1:Int)/\x=1))) w:=Ln 1 x 1 1
   by_cases h2:x=0
   . have e2:decide (1=(1:Int)/\x=0)=true:=by simp[h2]
     have HY:Hid (Cv ⟨1,x⟩):=⟨rfl,fun _=>by simp only[];omega⟩;rw[e2]at e0;clear h2 e2 e1 hx;go_enter Tryz.func62,Tryz.ntmps62;go_wp2;go_ret;exact⟨.yes HY.o,Aa _ _⟩
   . have e2:decide (1=(1:Int)/\x=0)=false:=by simp[h2]
     rw[e2]at e0;by_cases h3:x=1
     . have e3:decide (1=(1:Int)/\x=1)=true:=by simp[h3]
       have HY:Hid (Cv ⟨1,x⟩):=⟨rfl,fun _=>by simp only[];omega⟩;rw[e3]at e1;clear h2 e2 h3 e3 hx;go_enter Tryz.func62,Tryz.ntmps62;go_wp2;go_ret;exact⟨.yes HY.o,Aa _ _⟩
     . have e3:decide (1=(1:Int)/\x=1)=false:=by simp[h3]
       have HN:Hid (¬Cv ⟨1,x⟩):=fun e=>by have:=e.2 rfl;simp only[]at this;omega
       rw[e3]at e1;clear h2 e2 h3 e3 hx;go_enter Tryz.func62,Tryz.ntmps62;go_wp2
       go_ret
       exact⟨.no HN.o,Aa _ _⟩
 . have h1':(t==1)=false:=by simpa using h1
   have HI:Hid (DZ t=true↔Cv ⟨t,x⟩):=⟨fun e=>⟨e,fun e=>absurd e h1⟩,fun e=>e.1⟩;go_enter Tryz.func62,Tryz.ntmps62;go_wp2_with fail
   refine(DP t _).mono ?_;rintro e u ⟨rfl,rfl⟩;go_wp2
   go_ret
   exact⟨.of HI.o,Aa _ _⟩
theorem KI (s s':Value)(fs gs:List (List Int))(w:World)(hL:fs.length<=1048576)(hL':gs.length<=1048576)(hs:∀f∈fs,f.length<=1048576)(hs':∀f∈gs,f.length<=1048576)(h:Lx w s fs)(h':Lx w s' gs):
 Calls Tryz.prog 27 #[s,s',.func (.func 28) #[] #[]] w fun e w'=>Am e (fs=gs)/\Below w.heap.size w w':=by
 obtain⟨xs,hxs,hrd,hel⟩:=h;obtain⟨ys,hys,hrd',hel'⟩:=h';have hxl:xs.length=fs.length:=by rw[<-hxs];simp
 have hyl:ys.length=gs.length:=by rw[<-hys];simp
 have H1:Hid (Rd w 1 s fs.length (xs.flatMap BE)/\xs.map Prod.fst=fs/\(∀x∈xs,Rd w 1 x.2 x.1.length (x.1.flatMap Ac))/\(∀f∈fs,f.length<=1048576)/\xs.length=fs.length):=⟨hrd,hxs,hel,hs,hxl⟩
 have H2:Hid (Rd w 1 s' gs.length (ys.flatMap BE)/\ys.map Prod.fst=gs/\(∀x∈ys,Rd w 1 x.2 x.1.length (x.1.flatMap Ac))/\(∀f∈gs,f.length<=1048576)/\ys.length=gs.length):=⟨hrd',hys,hel',hs',hyl⟩
 obtain⟨a1,c1,rfl⟩:=hrd.is_slice;obtain⟨a2,c2,rfl⟩:=hrd'.is_slice;clear hrd hxs hel hs hxl hrd' hys hel' hs' hyl;by_cases hll:fs.length=gs.length
 . rw [<-hll]at H2
   rw[<-hll];clear hL';generalize hLL:fs.length=n at hL H1 H2;have HL:Hid (fs.length=n/\gs.length=n):=⟨hLL,hll▸hLL⟩
   clear hLL hll;go_enter Tryz.func27,Tryz.ntmps27;go_wp2
   go_loopw [17] (fun i wr=>∃k:Nat,k<=n/\i=.int .i64 k/\Hid (∀j,j<k->fs[j]?=gs[j]?)/\Hid (Below w.heap.size w wr)) (fun i _=>n-(intOf i).toNat)
   case atStart=>exact⟨0,by omega,rfl,fun j hj=>by omega,aq _ _⟩
   case round=>
    obtain⟨k,hk,rfl,HT,HB⟩:=hrel;by_cases hlt:k<n
    . obtain⟨⟨f,v⟩,hx⟩:∃x,xs[k]?=some x:=⟨_,aA (by rw[H1.o.2.2.2.2];exact hlt)⟩
      obtain⟨⟨g,v'⟩,hy⟩:∃x,ys[k]?=some x:=⟨_,aA (by rw[H2.o.2.2.2.2];exact hlt)⟩;have e1:=BG H1.o.2.1 hx;have e2:=BG H2.o.2.1 hy;have HX:Hid (Rd wr 1 v f.length (f.flatMap Ac)/\Rd wr 1 v' g.length (g.flatMap Ac)/\f.length<=1048576/\g.length<=1048576/\fs[k]?=some f/\gs[k]?=some g):=⟨(H1.o.2.2.1 _ (aF hx)).keep HB.o lR,(H2.o.2.2.1 _ (aF hy)).keep HB.o lR,H1.o.2.2.2.1 _ (aF e1),H2.o.2.2.2.1 _ (aF e2),e1,e2⟩
      clear e1 e2;rcases H1.o.1.2 with⟨e0,_⟩|⟨b,o,c,e1,hc1⟩
      . omega
      . rcases H2.o.1.2 with⟨e0,_⟩|⟨b',o',c',e2,hc2⟩
        . omega
        . simp only[aI,ao]at e1 e2
          obtain⟨rfl,rfl⟩:=e1;obtain⟨rfl,rfl⟩:=e2;have i0:=Rd.elem AK hc1 k _ hx 0 _ rfl;have j0:=Rd.elem AK hc2 k _ hy 0 _ rfl;rw[<-HB.o.cell (aD i0)]at i0;rw[<-HB.o.cell (aD j0)]at j0;rw[bR,aT]at i0 j0;clear hc1 hc2 hx hy;simp only[]at i0 j0;go_wp2_with fail
          refine(Ez v v' f g _ HX.o.2.2.1 HX.o.2.2.2.1 (by exact HX.o.1) (by exact HX.o.2.1)).mono ?_;rintro e u ⟨⟨b0,rfl,hb0⟩,hbu⟩;have HB2:Hid (Below w.heap.size w u):=HB.o.trans (by obtain⟨m,rfl⟩:=hbu;exact Aj _ _ _);clear hbu HB i0 j0;cases b0
          . have HN:Hid (¬fs=gs):=Db HX.o.2.2.2.2.1 HX.o.2.2.2.2.2 fun e=>by simp[e]at hb0
            clear hb0;go_wp2
            go_ret
            exact⟨.no HN.o,HB2.o⟩
          . obtain rfl:=hb0.1 rfl
            clear hb0;go_wp2
            go_roundw
            case rel=>exact⟨k+1,by omega,by go_num,Cf HX.o.2.2.2.2.1 HX.o.2.2.2.2.2 HT.o,HB2⟩
            case measure=>simp[intOf];omega
    . have hkn:k=n:=by omega
      subst hkn;go_wp2
      go_ret
      exact⟨.yes (Cz HL.o.1 HL.o.2 HT.o),HB.o⟩
 . have HN:Hid (¬fs=gs):=fun e=>hll (by rw[e])
   clear H1 H2;generalize fs.length=n at*;generalize gs.length=n' at*;have hi:¬(n:Int)=(n':Int):=by omega
   go_enter Tryz.func27,Tryz.ntmps27;go_wp2
   go_ret
   exact⟨.no HN.o,aq _ _⟩
theorem KG (s s':Value)(fs gs:List MF)(w:World)(hL:fs.length<=1048576)(hL':gs.length<=1048576)(hs:∀f∈fs,f.small)(hs':∀f∈gs,f.small)(h:Jd w s fs)(h':Jd w s' gs):
 Calls Tryz.prog 30 #[s,s',.func (.func 31) #[] #[]] w fun e w'=>Am e (fs=gs)/\Below w.heap.size w w':=by
 obtain⟨xs,hxs,hrd,hel⟩:=h;obtain⟨ys,hys,hrd',hel'⟩:=h';have hxl:xs.length=fs.length:=by rw[<-hxs];simp
 have hyl:ys.length=gs.length:=by rw[<-hys];simp
 have H1:Hid (Rd w 4 s fs.length (xs.flatMap AW)/\xs.map Prod.fst=fs/\(∀x∈xs,EI w x.2 x.1)/\(∀f∈fs,f.small)/\xs.length=fs.length):=⟨hrd,hxs,hel,hs,hxl⟩
 have H2:Hid (Rd w 4 s' gs.length (ys.flatMap AW)/\ys.map Prod.fst=gs/\(∀x∈ys,EI w x.2 x.1)/\(∀f∈gs,f.small)/\ys.length=gs.length):=⟨hrd',hys,hel',hs',hyl⟩
 obtain⟨a1,c1,rfl⟩:=hrd.is_slice;obtain⟨a2,c2,rfl⟩:=hrd'.is_slice;clear hrd hxs hel hs hxl hrd' hys hel' hs' hyl;by_cases hll:fs.length=gs.length
 . rw [<-hll]at H2
   rw[<-hll];clear hL';generalize hLL:fs.length=n at hL H1 H2;have HL:Hid (fs.length=n/\gs.length=n):=⟨hLL,hll▸hLL⟩
   clear hLL hll;go_enter Tryz.func30,Tryz.ntmps30;go_wp2
   go_loopw [17] (fun i wr=>∃k:Nat,k<=n/\i=.int .i64 k/\Hid (∀j,j<k->fs[j]?=gs[j]?)/\Hid (Below w.heap.size w wr)) (fun i _=>n-(intOf i).toNat)
   case atStart=>exact⟨0,by omega,rfl,fun j hj=>by omega,aq _ _⟩
   case round=>
    obtain⟨k,hk,rfl,HT,HB⟩:=hrel;by_cases hlt:k<n
    . obtain⟨⟨f,v⟩,hx⟩:∃x,xs[k]?=some x:=⟨_,aA (by rw[H1.o.2.2.2.2];exact hlt)⟩
      obtain⟨⟨g,v'⟩,hy⟩:∃x,ys[k]?=some x:=⟨_,aA (by rw[H2.o.2.2.2.2];exact hlt)⟩;have e1:=BG H1.o.2.1 hx;have e2:=BG H2.o.2.1 hy;have HX:Hid (EI wr v f/\EI wr v' g/\f.small/\g.small/\fs[k]?=some f/\gs[k]?=some g):=⟨(H1.o.2.2.1 _ (aF hx)).keep HB.o lR,(H2.o.2.2.1 _ (aF hy)).keep HB.o lR,H1.o.2.2.2.1 _ (aF e1),H2.o.2.2.2.1 _ (aF e2),e1,e2⟩
      clear e1 e2;rcases H1.o.1.2 with⟨e0,_⟩|⟨b,o,c,e1,hc1⟩
      . omega
      . rcases H2.o.1.2 with⟨e0,_⟩|⟨b',o',c',e2,hc2⟩
        . omega
        . simp only[aI,ao]at e1 e2
          obtain⟨rfl,rfl⟩:=e1;obtain⟨rfl,rfl⟩:=e2;have i0:=Rd.elem Ag hc1 k _ hx 0 _ rfl;have i1:=Rd.elem Ag hc1 k _ hx 1 _ rfl;have i2:=Rd.elem Ag hc1 k _ hx 2 _ rfl;have i3:=Rd.elem Ag hc1 k _ hx 3 _ rfl;have j0:=Rd.elem Ag hc2 k _ hy 0 _ rfl;have j1:=Rd.elem Ag hc2 k _ hy 1 _ rfl;have j2:=Rd.elem Ag hc2 k _ hy 2 _ rfl;have j3:=Rd.elem Ag hc2 k _ hy 3 _ rfl;rw[<-HB.o.cell (aD i0),aT]at i0;rw[<-HB.o.cell (aD i1)]at i1;rw[<-HB.o.cell (aD i2)]at i2;rw[<-HB.o.cell (aD i3)]at i3;rw[<-HB.o.cell (aD j0),aT]at j0;rw[<-HB.o.cell (aD j1)]at j1;rw[<-HB.o.cell (aD j2)]at j2;rw[<-HB.o.cell (aD j3)]at j3;clear hc1 hc2 hx hy;simp only[]at i0 i1 i2 i3 j0 j1 j2 j3;obtain⟨ap,cp,ep⟩:=HX.o.1.1.is_slice;obtain⟨al,cl,el⟩:=HX.o.1.2.1.is_slice;obtain⟨ac,cc,ec⟩:=HX.o.1.2.2.is_slice;obtain⟨ap',cp',ep'⟩:=HX.o.2.1.1.is_slice;obtain⟨al',cl',el'⟩:=HX.o.2.1.2.1.is_slice;obtain⟨ac',cc',ec'⟩:=HX.o.2.1.2.2.is_slice;obtain⟨vp,vl,vc⟩:=v;obtain⟨vp',vl',vc'⟩:=v';simp only[]at ep el ec ep' el' ec' i0 i1 i2 i3 j0 j1 j2 j3;subst ep el ec ep' el' ec';have nb:¬b=wr.heap.size:=bC (aD i0);have nb':¬b'=wr.heap.size:=bC (aD j0);have mb:b<wr.heap.size:=aD i0;have mb':b'<wr.heap.size:=aD j0;go_wp2_with fail
          have A1:=fun W (hW:Below wr.heap.size wr W)=>LX ⟨.slice ap f.params.length cp,.slice al f.locals.length cl,.slice ac f.code.length cc⟩ ⟨.slice ap' g.params.length cp',.slice al' g.locals.length cl',.slice ac' g.code.length cc'⟩ f g W HX.o.2.2.1 HX.o.2.2.2.1 (HX.o.1.keep hW lR) (HX.o.2.1.keep hW lR)
          refine(A1 _ (((aq _ _).alloc lR _).alloc (by simp) _)).mono ?_;rintro e u ⟨⟨b0,rfl,hb0⟩,hbu⟩;have HB2:Hid (Below w.heap.size w u):=HB.o.trans (((((aq _ _).alloc lR _).alloc (by simp) _).trans (hbu.mono (by simp<;>omega))).mono HB.o.size);clear A1 nb nb' mb mb';clear hbu HB i0 i1 i2 i3 j0 j1 j2 j3;cases b0
          . have HN:Hid (¬fs=gs):=Db HX.o.2.2.2.2.1 HX.o.2.2.2.2.2 fun e=>by simp[e]at hb0
            clear hb0;go_wp2
            go_ret
            exact⟨.no HN.o,HB2.o⟩
          . obtain rfl:=hb0.1 rfl
            clear hb0;go_wp2
            go_roundw
            case rel=>exact⟨k+1,by omega,by go_num,Cf HX.o.2.2.2.2.1 HX.o.2.2.2.2.2 HT.o,HB2⟩
            case measure=>simp[intOf];omega
    . have hkn:k=n:=by omega
      subst hkn;go_wp2
      go_ret
      exact⟨.yes (Cz HL.o.1 HL.o.2 HT.o),HB.o⟩
 . have HN:Hid (¬fs=gs):=fun e=>hll (by rw[e])
   clear H1 H2;generalize fs.length=n at*;generalize gs.length=n' at*;have hi:¬(n:Int)=(n':Int):=by omega
   go_enter Tryz.func30,Tryz.ntmps30;go_wp2
   go_ret
   exact⟨.no HN.o,aq _ _⟩
end Go.Proofs.YtjcamlobelcepaaGreatDoor
