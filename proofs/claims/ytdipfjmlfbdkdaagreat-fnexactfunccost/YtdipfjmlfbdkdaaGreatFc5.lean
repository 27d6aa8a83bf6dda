import Derived.Test.YtdipfjmlfbdkdaaGreatFc4
namespace Go.Proofs.YtdipfjmlfbdkdaaGreat
open Go.ChangeShapes Go.WideShapes Go.ChangeAt Go.RowKit
set_option linter.unusedVariables false
set_option maxHeartbeats 2000000
set_option maxRecDepth 100000
structure MB where
 first:Int
 last:Int
 next:List Int
def A9(x:MB×Value):List Value:=[.int .i64 x.1.first,.int .i64 x.1.last,x.2]
theorem AJ(x:MB×Value):(A9 x).length=3:=rfl
theorem Qs:(Tryz.prog.info? 58).map (fun i=>(i.zero,i.size,i.bytes))=some (some (.agg #[.int .i64 0,.int .i64 0,.slice none 0 0]),3,40):=by kernel_rfl
def Cw(F:List (MB×Value)):List (Value×List Int):=F.map fun x=>(x.2,x.1.next)
def nextB(k:Int)(x:MB×Value):Int:=k+1+1+(x.1.next.length:Int)
theorem Bc{w:World}{base g k n:Nat}{e t:TypeId}{s:Value}{xs:List Value}{cur:Array Value}{fr:Nat×Nat}(h:w.ownsRow base e k s n xs)(hg:w.heap[g]?=some (Obj.cells cur t fr))(hne:e≠t):∀j,s.ownBlock=some j->j≠g:=by
 intro j hj e1;subst e1;rcases h.2 with⟨rfl,_⟩|⟨g',cap',cur',rfl,_,hg',_⟩
 . cases hj
 . simp only[Value.ownBlock,aR]at hj
   subst hj;rw[hg]at hg';simp only[aR,dD]at hg';exact hne hg'.2.1.symm
theorem Cc.set{w:World}{base g:Nat}{L:List (Value×List Int)}(h:Cc w base L){cur:Array Value}{t:TypeId}{fr:Nat×Nat}(hg:w.heap[g]?=some (Obj.cells cur t fr))(hne:2≠t)(i:Nat)(x:Value):Cc (w.setCell ⟨g,i,none⟩ x) base L:=
 ⟨fun y hy=>aP (h.own y hy) (a:=⟨g,i,none⟩) (fun e=>Bc (h.own y hy) hg hne g e rfl) x,h.sep⟩
structure Wb(base:Nat)(w w':World):Prop where
 bel:Below base w w'
 blk:∀(k:Nat) (cur:Array Value) (t:TypeId),w.heap[k]?=some (Obj.cells cur t (0,0))->t≠2->t≠58->w'.heap[k]?=some (Obj.cells cur t (0,0))
theorem Wb.refl(base:Nat)(w:World):Wb base w w:=⟨aX _ _,fun _ _ _ h _ _=>h⟩
theorem Wb.trans{base:Nat}{u v w:World}(h:Wb base u v)(h':Wb base v w):Wb base u w:=⟨h.bel.trans h'.bel,fun k cur t hk h1 h2=>h'.blk k cur t (h.blk k cur t hk h1 h2) h1 h2⟩
theorem Wv.wb{base:Nat}{w w':World}(h:Wv base w w'):Wb base w w':=⟨h.bel,fun k cur t hk h1 _=>h.blk k cur t hk h1⟩
theorem Am{w:World}{base g k n c:Nat}{e:TypeId}{xs:List Value}(h:w.ownsRow base e k (.slice (some ⟨g,0,none⟩) n c) n xs):base<=g/\∃cur,w.heap[g]?=some (Obj.cells cur e (0,0)):=by
 rcases h.2 with⟨h',_⟩|⟨g',cap',cur,h',hb,hg,_⟩
 . cases h'
 . cases h'
   exact⟨hb,cur,hg⟩
structure B6(f:MF):Prop where
 par:f.params.length<=8
 loc:f.params.length+f.locals.length<=32
 pt:f.params.all Db=true
 lt:f.locals.all Db=true
 res:f.result=0\/Db f.result=true
 code0:¬f.code.length=0
 code1:f.code.length<=1024
def Mg(f:MF):Prop:=f.params.length=0/\f.result=0
def Bo(f:MF)(main:Bool):Prop:=B6 f/\(main=true->Mg f)
theorem Mz(v:VF)(f:MF)(main:Bool)(w:World)(hs:f.small)(h:C9 w v f):
 Calls Tryz.prog 39 #[.agg #[v.p,.int .i64 f.result,v.l,v.c],.bool main] w fun e w'=>Aj e (Bo f main)/\Below w.heap.size w w':=by
 have H1:Hid (C9 w v f/\f.small):=⟨h,hs⟩
 obtain⟨a1,c1,e1⟩:=h.1.is_slice;obtain⟨a2,c2,e2⟩:=h.2.1.is_slice;obtain⟨a3,c3,e3⟩:=h.2.2.is_slice;obtain⟨vp,vl,vc⟩:=v;obtain⟨s1,s2,s3⟩:=hs;simp only[]at e1 e2 e3;subst e1 e2 e3;clear h;have HB:Hid (Below w.heap.size w (w.alloc (.cells #[.slice a1 f.params.length c1,.int .i64 f.result,.slice a2 f.locals.length c2,.slice a3 f.code.length c3] 48))):=Aa _ _;by_cases q1:8<f.params.length
 . have HN:Hid (¬(Bo f main)):=fun e=>absurd e.1.par (by omega)
   clear H1;generalize f.params.length=n1 at*;go_enter Tryz.func39,Tryz.ntmps39;go_wp2
   go_ret
   exact⟨.no HN.o,HB.o⟩
 by_cases q2:32<f.params.length+f.locals.length
 . have HN:Hid (¬(Bo f main)):=fun e=>absurd e.1.loc (by omega)
   clear H1;generalize f.params.length=n1 at*;generalize f.locals.length=n2 at*;go_enter Tryz.func39,Tryz.ntmps39;go_wp2
   go_ret
   exact⟨.no HN.o,HB.o⟩
 have q1':¬(8:Int)<(f.params.length:Int):=by omega
 have q2':¬(32:Int)<(f.params.length:Int)+(f.locals.length:Int):=by omega
 have HQ:Hid (f.params.length<=8/\f.params.length+f.locals.length<=32):=⟨by omega,by omega⟩
 go_enter Tryz.func39,Tryz.ntmps39;go_wp2_with fail
 refine(EP _ f.params _ H1.o.2.1 (H1.o.1.1.keep HB.o lR)).mono ?_;rintro e u ⟨rfl,rfl⟩;cases t1:f.params.all Db
 . have HN:Hid (¬(Bo f main)):=fun e=>by have:=e.1.pt;simp[t1]at this
   clear t1;go_wp2
   go_ret
   exact⟨.no HN.o,HB.o⟩
 have HT1:Hid (f.params.all Db=true):=t1;clear t1;go_wp2_with fail
 refine(EP _ f.locals _ H1.o.2.2.1 (H1.o.1.2.1.keep HB.o lR)).mono ?_;rintro e u ⟨rfl,rfl⟩;cases t1:f.locals.all Db
 . have HN:Hid (¬(Bo f main)):=fun e=>by have:=e.1.lt;simp[t1]at this
   clear t1;go_wp2
   go_ret
   exact⟨.no HN.o,HB.o⟩
 have HT2:Hid (f.locals.all Db=true):=t1;clear t1;generalize hR:f.result=R at*;generalize h1:f.params.length=n1 at*;generalize h3:f.code.length=n3 at*;have HE:Hid (f.result=R/\f.params.length=n1/\f.code.length=n3):=⟨hR,h1,h3⟩
 clear hR h1 h3 q1 q2;by_cases q3:R=0
 . subst q3
   by_cases q4:n3=0
   . subst q4
     have HN:Hid (¬(Bo f main)):=fun e=>e.1.code0 HE.o.2.2
     go_wp2
     go_ret
     exact⟨.no HN.o,HB.o⟩
   have q4':((n3:Int)==0)=false:=by simpa using q4
   by_cases q5:1024<n3
   . have q5':(1024:Int)<(n3:Int):=by omega
     have HN:Hid (¬(Bo f main)):=fun e=>absurd e.1.code1 (by rw[HE.o.2.2];omega)
     go_wp2
     go_ret
     exact⟨.no HN.o,HB.o⟩
   have q5':¬(1024:Int)<(n3:Int):=by omega
   cases main
   . have HY:Hid (Bo f false):=⟨⟨by rw[HE.o.2.1];exact HQ.o.1,by rw[HE.o.2.1];exact HQ.o.2,HT1.o,HT2.o,.inl HE.o.1,by rw[HE.o.2.2];exact q4,by rw[HE.o.2.2];omega⟩,fun h=>by cases h⟩
     go_wp2
     go_ret
     exact⟨.yes HY.o,HB.o⟩
   . by_cases q6:n1=0
     . subst q6
       have HY:Hid (Bo f true):=⟨⟨by rw[HE.o.2.1];exact HQ.o.1,by rw[HE.o.2.1];exact HQ.o.2,HT1.o,HT2.o,.inl HE.o.1,by rw[HE.o.2.2];exact q4,by rw[HE.o.2.2];omega⟩,fun _=>⟨HE.o.2.1,HE.o.1⟩⟩;go_wp2;go_ret;exact⟨.yes HY.o,HB.o⟩
     . have q6':((n1:Int)==0)=false:=by simpa using q6
       have HN:Hid (¬(Bo f true)):=fun e=>q6 (by rw[<-HE.o.2.1];exact(e.2 rfl).1)
       go_wp2
       go_ret
       exact⟨.no HN.o,HB.o⟩
 . have q3':(R==0)=false:=by simpa using q3
   go_wp2_with fail
   refine(CO R _).mono ?_;rintro e u ⟨rfl,rfl⟩;cases t1:Db R
   . have HN:Hid (¬(Bo f main)):=fun e=>by have:=e.1.res;rw[HE.o.1]at this;simp[q3,t1]at this
     go_wp2
     go_ret
     exact⟨.no HN.o,HB.o⟩
   have HT3:Hid (Db R=true):=t1;clear t1;by_cases q4:n3=0
   . subst q4
     have HN:Hid (¬(Bo f main)):=fun e=>e.1.code0 HE.o.2.2
     go_wp2
     go_ret
     exact⟨.no HN.o,HB.o⟩
   have q4':((n3:Int)==0)=false:=by simpa using q4
   by_cases q5:1024<n3
   . have q5':(1024:Int)<(n3:Int):=by omega
     have HN:Hid (¬(Bo f main)):=fun e=>absurd e.1.code1 (by rw[HE.o.2.2];omega)
     go_wp2
     go_ret
     exact⟨.no HN.o,HB.o⟩
   have q5':¬(1024:Int)<(n3:Int):=by omega
   cases main
   . have HY:Hid (Bo f false):=⟨⟨by rw[HE.o.2.1];exact HQ.o.1,by rw[HE.o.2.1];exact HQ.o.2,HT1.o,HT2.o,.inr (by rw[HE.o.1];exact HT3.o),by rw[HE.o.2.2];exact q4,by rw[HE.o.2.2];omega⟩,fun h=>by cases h⟩
     go_wp2
     go_ret
     exact⟨.yes HY.o,HB.o⟩
   . by_cases q6:n1=0
     . subst q6
       have HN:Hid (¬(Bo f true)):=fun e=>q3 (by rw[<-HE.o.1];exact(e.2 rfl).2)
       go_wp2
       go_ret
       exact⟨.no HN.o,HB.o⟩
     . have q6':((n1:Int)==0)=false:=by simpa using q6
       have HN:Hid (¬(Bo f true)):=fun e=>q6 (by rw[<-HE.o.2.1];exact(e.2 rfl).1)
       go_wp2
       go_ret
       exact⟨.no HN.o,HB.o⟩
section
variable {P:Program} {ops:Array Oper} {Q:Exit->Act->World->Prop} {md:Region.Mode} {S:World->Prop} {n f:Nat} {d:Array Bool} {a:Act} {w:World}
def Rt(md:Region.Mode)(ops:Array Oper)(d:Array Bool)(i:Nat):Bool:=Region.noSelect ops&&Region.free md ops d i&&(Region.ready md ops d).contains i
theorem Pv{i:Nat}(h:Rt md ops d i=true):Region.noSelect ops=true/\Region.free md ops d i=true/\(Region.ready md ops d).contains i=true:=by
 simp only[Rt,dw]at h;exact⟨h.1.1,h.1.2,h.2⟩
theorem AG(i:Nat){oi:Oper}{v:Value}(h:wpAnyH P md ops Q S f (d.setIfInBounds i true) (a.put oi.dst v) w)(hi:ops[i]?=some oi:=by rfl)(hb:Rt md ops d i=true:=by kernel_rfl)(hQ:∀c a w,Q (.panic c) (a.put oi.dst v) w->Q (.panic c) a w:=by exact fun _ _ _ h=>h)(hw:Region.wanted oi (yielded ops a.tmps)=true:=by rfl)
 (hy:∀w,S w->(execOp a.eval oi).run P w=.ok (.value v) w:=by(intro w hSw;(try dsimp only at hSw);(repeat obtain⟨hSa,hSw⟩:=hSw);go_simp;(try with_reducible rfl))) (hS:S w:=by assumption):wpAnyH P md ops Q S (f+1) d a w:=
 have k:=Pv hb
 wpAnyH_take hi k.1 k.2.1 k.2.2 hQ (.inl ⟨hw,hy⟩) hS h
theorem tkU(i:Nat){oi:Oper}(h:wpAnyH P md ops Q S f (d.setIfInBounds i true) (a.put oi.dst undef) w)(hi:ops[i]?=some oi:=by rfl)(hb:Rt md ops d i=true:=by kernel_rfl)(hQ:∀c a w,Q (.panic c) (a.put oi.dst undef) w->Q (.panic c) a w:=by exact fun _ _ _ h=>h)(hw:Region.wanted oi (yielded ops a.tmps)=false:=by rfl)(hS:S w:=by assumption):wpAnyH P md ops Q S (f+1) d a w:=
 have k:=Pv hb
 wpAnyH_take hi k.1 k.2.1 k.2.2 hQ (.inr ⟨hw,rfl⟩) hS h
theorem EC(i:Nat){oi:Oper}{v:Value}(h:Cm P md ops Q S n f (d.setIfInBounds i true) (a.put oi.dst v) w)(hi:ops[i]?=some oi:=by rfl)(hb:(Rt md ops d i&&Nx md ops n d&&decide (i<n))=true:=by kernel_rfl)(hQ:∀c a w,Q (.panic c) (a.put oi.dst v) w->Q (.panic c) a w:=by exact fun _ _ _ h=>h)(hw:Region.wanted oi (yielded ops a.tmps)=true:=by rfl)
 (hy:∀w,S w->(execOp a.eval oi).run P w=.ok (.value v) w:=by(intro w hSw;(try dsimp only at hSw);(repeat obtain⟨hSa,hSw⟩:=hSw);go_simp;(try with_reducible rfl))) (hS:S w:=by assumption):Cm P md ops Q S n (f+1) d a w:=
 have k0:=Bool.and_eq_true_iff.1 hb
 have k1:=Bool.and_eq_true_iff.1 k0.1
 have k:=Pv k1.1
 LZ hi k.1 k.2.1 k.2.2 k1.2 (dP k0.2) hQ (.inl ⟨hw,hy⟩) hS h
theorem Gq(i:Nat){o:Oper}(h:∀K':Act->World->Prop,Shut (∀a w,S w->(S w->wpAnyH P md ops Q S f (d.setIfInBounds i true) a w)->K' a w)->if Region.wanted o (yielded ops a.tmps)=true then Oper.wp P o a w K' Q else K' (a.put o.dst undef) w)(hr:Region.ready md ops d=[i]:=by kernel_rfl)(ho:ops[i]?=some o:=by rfl):wpAnyH P md ops Q S (f+1) d a w:=
 wpAnyH_ready hr (by simp) (AllReadyH.cons ho h AllReadyH.nil)
theorem QZ(i:Nat){o:Oper}(h:∀K':Act->World->Prop,Shut (∀a w,(i<n->S w)->((i<n->S w)->Cm P md ops Q S n f (d.setIfInBounds i true) a w)->K' a w)->if Region.wanted o (yielded ops a.tmps)=true then Oper.wp P o a w K' Q else K' (a.put o.dst undef) w)(hr:Region.ready md ops d=[i]:=by kernel_rfl)(ho:ops[i]?=some o:=by rfl):Cm P md ops Q S n (f+1) d a w:=
 KH hr (by simp) (Ct.cons ho h Ct.nil)
end
theorem _root_.Go.Shut.o{p:Prop}(h:Shut p):p:=h
def NM(w:World)(v:Value)(f:MB):Prop:=Rd w 1 v f.next.length (f.next.flatMap Ac)
def MB.small(f:MB):Prop:=f.next.length<=1048576
theorem NM.keep{w w':World}{v:Value}{f:MB}(h:NM w v f){B:Nat}(hb:Below B w w')(hB:w.heap.size<=B):NM w' v f:=Rd.keep h hb hB
def FR(w:World)(s:Value)(fs:List MB):Prop:=∃xs:List (MB×Value),xs.map Prod.fst=fs/\Rd w 3 s fs.length (xs.flatMap A9)/\∀x∈xs,NM w x.2 x.1
theorem FR.keep{w w':World}{s:Value}{fs:List MB}(h:FR w s fs){B:Nat}(hb:Below B w w')(hB:w.heap.size<=B):FR w' s fs:=by
 obtain⟨xs,h1,h2,h3⟩:=h;exact⟨xs,h1,h2.keep hb hB,fun x hx=>(h3 x hx).keep hb hB⟩
def AB(x:MI):Bool:=decide (x.op=25)||decide (x.op=26)||decide (x.op=27)
def DX(x:MI):Bool:=decide (¬x.op=25)&&decide (¬x.op=29)
def Aw(xs:List MI):Prop:=1<=xs.length/\xs.length<=1024/\∀(i:Nat) (x:MI),xs[i]?=some x->AB x=true->0<=x.c/\x.c<(xs.length:Int)
def Ea(x:MI)(i j:Nat):Bool:=(AB x&&decide (x.c=(j:Int)))||((AB x||decide (x.op=29))&&decide (j=i+1))
def A8(xs:List MI)(k j:Nat):Bool:=decide (j=0)||(List.range k).any fun i=>match xs[i]? with|some x=>Ea x i j|none=>false
theorem FJ(xs:List MI)(k:Nat):A8 xs k 0=true:=by simp[A8]
theorem GY(xs:List MI)(j:Nat):A8 xs 0 j=decide (j=0):=by simp[A8]
theorem CP(xs:List MI)(k j:Nat)(x:MI)(hx:xs[k]?=some x):A8 xs (k+1) j=(A8 xs k j||Ea x k j):=by
 simp[A8,List.range_succ,hx,Bool.or_assoc]
theorem Iz(xs:List MI)(k i j:Nat)(x:MI)(hi:i<k)(hx:xs[i]?=some x)(h:Ea x i j=true):A8 xs k j=true:=by
 simp only[A8,Bool.or_eq_true,List.any_eq_true,br];exact .inr ⟨i,hi,by rw[hx];exact h⟩
def BQ(xs:List MI)(i:Nat):List Nat:=(List.range i).filter (A8 xs xs.length)
theorem Iy(xs:List MI)(i:Nat):BQ xs (i+1)=if A8 xs xs.length i=true then BQ xs i++[i]else BQ xs i:=by
 unfold BQ;rw[cj,ce];by_cases h:A8 xs xs.length i=true
 . simp[h]
 . simp[h]
theorem Cp(xs:List MI)(i j:Nat):j∈BQ xs i↔j<i/\A8 xs xs.length j=true:=by simp[BQ]
theorem DA(xs:List MI)(i:Nat):(BQ xs i).Pairwise (· < ·):=List.Pairwise.filter _ dg
theorem GE(xs:List MI)(i:Nat)(h:0<i):BQ xs i≠[]:=fun e=>by
 have:=(Cp xs i 0).2 ⟨h,FJ _ _⟩;rw[e]at this;cases this
theorem Oa(xs:List MI)(i n:Nat)(h:i<=n):∃r,BQ xs n=BQ xs i++r:=by
 induction n with
 | zero=>
   obtain rfl:i=0:=by omega
   exact⟨[],by simp⟩
 | succ n ih=>
   by_cases hi:i=n+1
   . subst hi
     exact⟨[],by simp⟩
   . obtain⟨r,hr⟩:=ih (by omega)
     rw[Iy,hr];split
     . exact⟨r++[n],by simp⟩
     . exact⟨r,rfl⟩
theorem P5(xs:List MI)(p n:Nat)(hp:p<n)(hl:A8 xs xs.length p=true):(BQ xs n).idxOf p=(BQ xs p).length/\(BQ xs (p+1)).length=(BQ xs p).length+1:=by
 have h1:=Iy xs p;rw[a8 hl]at h1;obtain⟨r,hr⟩:=Oa xs (p+1) n hp;refine⟨?_,by rw[h1];simp⟩;rw[hr,h1,dM,List.idxOf_append,bF (by rw[Cp];omega)];simp
theorem P6(xs:List MI)(p q n:Nat)(hp:p<n)(hq:q<n)(hlp:A8 xs xs.length p=true)(hlq:A8 xs xs.length q=true)(h:(BQ xs n).idxOf p=(BQ xs n).idxOf q):p=q:=by
 have h1:p∈BQ xs n:=(Cp _ _ _).2 ⟨hp,hlp⟩;have h2:q∈BQ xs n:=(Cp _ _ _).2 ⟨hq,hlq⟩;have e1:=List.getElem_idxOf (dV.2 h1);have e2:=List.getElem_idxOf (dV.2 h2);rw[<-e1,<-e2];congr 1
def Hj(bs:List MB)(i:Int):List MB:=match bs.getLast? with|some b=>bs.dropLast++[⟨b.first,i,b.next⟩]|none=>[]
theorem Dj(bs:List MB)(b:MB)(i:Int):Hj (bs++[b]) i=bs++[⟨b.first,i,b.next⟩]:=by simp[Hj]
def AX(xs:List MI):Nat->List MB
 |0=>[]
 |i+1=>Hj (if A8 xs xs.length i=true then AX xs i++[⟨i,0,[]⟩]else AX xs i) i
def build(L:List Nat)(e:Nat):List MB:=List.zipWith (fun(a b:Nat)=>(⟨(a:Int),(b:Int)-1,[]⟩:MB)) L (L.tail++[e])
theorem FF(L:List Nat)(i e:Nat)(h:L≠[]):build (L++[i]) e=build L i++[⟨(i:Int),(e:Int)-1,[]⟩]:=by
 unfold build
 rw[List.tail_append_of_ne_nil h,dM,show(L.tail++([i]++[e]))=(L.tail++[i])++[e]by simp,List.zipWith_append (by
  cases L with
  |nil=>exact absurd rfl h
  |cons a r=>simp)]
 rfl
theorem BP(xs:List MI)(i:Nat):AX xs i=build (BQ xs i) i:=by
 induction i with
 |zero=>rfl
 | succ i ih=>
   simp only[AX];rw[Iy];by_cases h:A8 xs xs.length i=true
   . rw[a8 h,a8 h,Dj]
     by_cases h0:i=0
     . subst h0
       simp[AX,BQ,build]
     . rw[FF _ _ _ (GE xs i (by omega)),ih]
       simp
   . rw[bF h,bF h]
     have h0:0<i:=by
      cases i with
      |zero=>exact absurd (FJ _ _) h
      |succ i=>omega
     obtain⟨M,a,hM⟩:∃M a,BQ xs i=M++[a]:=⟨_,_,(List.dropLast_concat_getLast (GE xs i h0)).symm⟩;rw[ih,hM];cases M with
     |nil=>simp[build,Hj]
     | cons m M=>
       rw[FF _ _ _ (by simp),FF _ _ _ (by simp),Dj];simp
theorem J5(L:List Nat)(e:Nat):(build L e).length=L.length:=by
 unfold build;cases L with
 |nil=>rfl
 |cons a r=>simp
theorem Bd(xs:List MI)(i:Nat):(AX xs i).length=(BQ xs i).length:=by rw[BP,J5]
def AD(xs:List MI)(i:Nat):Int:=((BQ xs (i+1)).length:Int)-1
theorem DB(xs:List MI)(p n:Nat)(hp:p<n)(hl:A8 xs xs.length p=true):AD xs p=((BQ xs n).idxOf p:Int):=by
 have:=P5 xs p n hp hl;unfold AD;omega
theorem Pj(xs:List MI)(p q n:Nat)(hp:p<n)(hq:q<n)(hlp:A8 xs xs.length p=true)(hlq:A8 xs xs.length q=true):AD xs p=AD xs q↔p=q:=by
 rw[DB xs p n hp hlp,DB xs q n hq hlq];exact⟨fun h=>P6 xs p q n hp hq hlp hlq (by omega),fun h=>by rw[h]⟩
def AK(xs:List MI)(x:MI)(e:Nat):List Int:=
 (if DX x=true/\e+1<xs.length then[((e+1:Nat):Int)]else[])++(if AB x=true/\¬(DX x=true/\e+1<xs.length/\x.c=((e+1:Nat):Int))then[x.c]else[])
def C4(xs:List MI)(x:MI)(e:Nat):List Int:=
 let n1:=if DX x=true/\e+1<xs.length then[AD xs (e+1)]else[]
 n1++(if AB x=true/\(n1=[]\/¬n1=[AD xs x.c.toNat])then[AD xs x.c.toNat]else[])
theorem H9(L:List Nat)(n b e:Nat)(m:MB)(h:(build L n)[b]?=some m)(he:m.last=(e:Int))(hn:e+1<n):e+1∈L:=by
 unfold build at h;rw[dp]at h;cases h1:L[b]? with
 |none=>rw[h1]at h;simp at h
 | some a=>
   cases h2:(L.tail++[n])[b]? with
   |none=>rw[h1,h2]at h;simp at h
   | some q=>
     rw[h1,h2]at h;simp only[aR]at h;subst h;simp only[]at he;have hq:q=e+1:=by omega
     subst hq;have:=aE h2;rcases aU.1 this with h3|h3
     . exact d7 h3
     . simp at h3
       omega
theorem JL(xs:List MI)(b e:Nat)(x:MI)(m:MB)(hg:Aw xs)(hb:(AX xs xs.length)[b]?=some m)(he:m.last=(e:Int))(hx:xs[e]?=some x):C4 xs x e=(AK xs x e).map fun p=>((BQ xs xs.length).idxOf p.toNat:Int):=by
 have hen:e<xs.length:=(aD.1 hx).1;rw[BP]at hb;have hl1:e+1<xs.length->A8 xs xs.length (e+1)=true:=fun h=>((Cp _ _ _).1 (H9 _ _ _ _ _ hb he h)).2
 have hl2:AB x=true->x.c.toNat<xs.length/\A8 xs xs.length x.c.toNat=true/\(x.c.toNat:Int)=x.c:=fun h=>by
  obtain⟨h1,h2⟩:=hg.2.2 e x hx h;have h3:(x.c.toNat:Int)=x.c:=eC h1;exact⟨by omega,Iz xs _ e _ x hen hx (by simp[Ea,h,h3]),h3⟩
 unfold C4 AK;by_cases h1:DX x=true/\e+1<xs.length
 . have n1:=DB xs (e+1) xs.length h1.2 (hl1 h1.2)
   simp only[a8 h1];by_cases h2:AB x=true
   . obtain⟨c1,c2,c3⟩:=hl2 h2
     have n2:=DB xs x.c.toNat xs.length c1 c2;have n3:=Pj xs (e+1) x.c.toNat xs.length h1.2 c1 (hl1 h1.2) c2;by_cases h3:x.c=((e+1:Nat):Int)
     . have k1:¬(AB x=true/\([AD xs (e+1)]=[]\/¬[AD xs (e+1)]=[AD xs x.c.toNat])):=fun h=>h.2.elim (fun q=>by cases q) (fun q=>q (by rw[n3.2 (by omega)]))
       simp only[bF k1];rw[bF (fun h=>h.2 ⟨h1.1,h1.2,h3⟩)];simp[n1]
     . have k1:(AB x=true/\([AD xs (e+1)]=[]\/¬[AD xs (e+1)]=[AD xs x.c.toNat])):=⟨h2,.inr (fun q=>h3 (by have:=n3.1 (by simpa using q);omega))⟩
       simp only[a8 k1];rw[a8 ⟨h2,fun h=>h3 h.2.2⟩];simp[n1,n2]
   . simp only[h2,false_and,if_false,dj]
     simp[n1]
 . simp only[bF h1]
   by_cases h2:AB x=true
   . obtain⟨c1,c2,c3⟩:=hl2 h2
     have n2:=DB xs x.c.toNat xs.length c1 c2;have k1:(AB x=true/\(True\/¬([]:List Int)=[AD xs x.c.toNat])):=⟨h2,.inl trivial⟩
     rw[a8 k1,a8 ⟨h2,fun h=>h1 ⟨h.1,h.2.1⟩⟩];simp[n2]
   . simp only[h2,false_and,if_false,dj]
     rfl
end Go.Proofs.YtdipfjmlfbdkdaaGreat
