import Derived.Test.YtjcamlobelcepaaGreatDoorCt4
import Derived.Deep.RegionLaw
import Derived.Deep.AppendLies
namespace Go.Proofs.YtjcamlobelcepaaGreatDoor
open Go.ChangeShapes Go.WideShapes Go.ChangeAt Go.RowKit
set_option linter.unusedVariables false
set_option maxHeartbeats 2000000
set_option maxRecDepth 100000
structure MB where
 first:Int
 last:Int
 next:List Int
def Et(x:MB×Value):List Value:=[.int .i64 x.1.first,.int .i64 x.1.last,x.2]
theorem Bl(x:MB×Value):(Et x).length=3:=rfl
theorem T0:(Tryz.prog.info? 169).map (fun i=>(i.zero,i.size,i.bytes))=some (some (.agg #[.int .i64 0,.int .i64 0,.slice none 0 0]),3,40):=by kernel_rfl
theorem Bn{w:World}{base g k n:Nat}{e t:TypeId}{s:Value}{xs:List Value}{cur:Array Value}{fr:Nat×Nat}(h:w.ownsRow base e k s n xs)(hg:w.heap[g]?=some (Obj.cells cur t fr))(hne:e≠t):∀j,s.ownBlock=some j->j≠g:=by
 intro j hj e1;subst e1;rcases h.2 with⟨rfl,_⟩|⟨g',cap',cur',rfl,_,hg',_⟩
 . cases hj
 . simp only[Value.ownBlock,aM]at hj
   subst hj;rw[hg]at hg';simp only[aM,cD]at hg';exact hne hg'.2.1.symm
theorem IK.set{w:World}{base g:Nat}{L:List (Value×List Int)}(h:IK w base L){cur:Array Value}{t:TypeId}{fr:Nat×Nat}(hg:w.heap[g]?=some (Obj.cells cur t fr))(hne:2≠t)(i:Nat)(x:Value):IK (w.setCell ⟨g,i,none⟩ x) base L:=
 ⟨fun y hy=>aN (h.own y hy) (a:=⟨g,i,none⟩) (fun e=>Bn (h.own y hy) hg hne g e rfl) x,h.sep⟩
structure Wb(base:Nat)(w w':World):Prop where
 bel:Below base w w'
 blk:∀(k:Nat) (cur:Array Value) (t:TypeId),w.heap[k]?=some (Obj.cells cur t (0,0))->t≠2->t≠169->w'.heap[k]?=some (Obj.cells cur t (0,0))
theorem Wb.refl(base:Nat)(w:World):Wb base w w:=⟨aq _ _,fun _ _ _ h _ _=>h⟩
theorem Wb.trans{base:Nat}{u v w:World}(h:Wb base u v)(h':Wb base v w):Wb base u w:=⟨h.bel.trans h'.bel,fun k cur t hk h1 h2=>h'.blk k cur t (h.blk k cur t hk h1 h2) h1 h2⟩
theorem Wv.wb{base:Nat}{w w':World}(h:Wv base w w'):Wb base w w':=⟨h.bel,fun k cur t hk h1 _=>h.blk k cur t hk h1⟩
theorem Wb.of_set{base g:Nat}{w:World}{cur:Array Value}(hg:w.heap[g]?=some (Obj.cells cur 169 (0,0)))(hb:base<=g)(i:Nat)(x:Value):Wb base w (w.setCell ⟨g,i,none⟩ x):=by
 refine⟨(aq _ _).setCell hb _,fun k c t hk h1 h2=> ?_⟩;rw[bI w _ k x ?_]
 . exact hk
 . intro e
   simp only[]at e;subst e;rw[hk]at hg;simp only[aM,cD]at hg;exact h2 hg.2.1
theorem AF{w:World}{base g k n c:Nat}{e:TypeId}{xs:List Value}(h:w.ownsRow base e k (.slice (some ⟨g,0,none⟩) n c) n xs):base<=g/\∃cur,w.heap[g]?=some (Obj.cells cur e (0,0)):=by
 rcases h.2 with⟨h',_⟩|⟨g',cap',cur,h',hb,hg,_⟩
 . cases h'
 . cases h'
   exact⟨hb,cur,hg⟩
theorem MI.neq_same(x:MI)(w:World):(binOp .neq 97 (.agg x.cells.toArray) (.agg x.cells.toArray)).run Tryz.prog w=.ok (.bool false) w:=by
 obtain⟨b,hb,h⟩:=MI.neq x x w;cases b
 . exact h
 . simp at hb
theorem MI.neq_ne(x y:MI)(hxy:¬x=y)(w:World):(binOp .neq 97 (.agg x.cells.toArray) (.agg y.cells.toArray)).run Tryz.prog w=.ok (.bool true) w:=by
 obtain⟨b,hb,h⟩:=MI.neq x y w;cases b
 . simp[hxy]at hb
 . exact h
theorem MT.neq_same(x:MT)(w:World):(binOp .neq 62 (.agg x.cells.toArray) (.agg x.cells.toArray)).run Tryz.prog w=.ok (.bool false) w:=by
 obtain⟨b,hb,h⟩:=MT.neq x x w;cases b
 . exact h
 . simp at hb
theorem MT.neq_ne(x y:MT)(hxy:¬x=y)(w:World):(binOp .neq 62 (.agg x.cells.toArray) (.agg y.cells.toArray)).run Tryz.prog w=.ok (.bool true) w:=by
 obtain⟨b,hb,h⟩:=MT.neq x y w;cases b
 . simp[hxy]at hb
 . exact h
theorem MC.neq_same(x:MC)(w:World):(binOp .neq 53 (.agg x.cells.toArray) (.agg x.cells.toArray)).run Tryz.prog w=.ok (.bool false) w:=by
 obtain⟨b,hb,h⟩:=MC.neq x x w;cases b
 . exact h
 . simp at hb
theorem MC.neq_ne(x y:MC)(hxy:¬x=y)(w:World):(binOp .neq 53 (.agg x.cells.toArray) (.agg y.cells.toArray)).run Tryz.prog w=.ok (.bool true) w:=by
 obtain⟨b,hb,h⟩:=MC.neq x y w;cases b
 . simp[hxy]at hb
 . exact h
theorem KH (s s':Value)(xs ys:List MI)(w:World)(hn:xs.length<=1048576)(hn':ys.length<=1048576)(h:Rd w 4 s xs.length (xs.flatMap MI.cells))(h':Rd w 4 s' ys.length (ys.flatMap MI.cells)):
 Calls Tryz.prog 51 #[s,s'] w fun e w'=>Am e (xs=ys)/\∃m,w'=w.drewN m:=by
 have H1:Hid (Rd w 4 s xs.length (xs.flatMap MI.cells)):=h;have H2:Hid (Rd w 4 s' ys.length (ys.flatMap MI.cells)):=h';obtain⟨a1,c1,rfl⟩:=h.is_slice;obtain⟨a2,c2,rfl⟩:=h'.is_slice;clear h h';by_cases hll:xs.length=ys.length
 . rw [<-hll]at H2
   rw[<-hll];clear hn';generalize hLL:xs.length=n at hn H1 H2;have HL:Hid (xs.length=n/\ys.length=n):=⟨hLL,hll▸hLL⟩
   clear hLL hll;have hm:Tryz.prog.eqGuardType Tryz.prog.depth 97=false:=by kernel_rfl
   go_enter Tryz.func51,Tryz.ntmps51;go_wp2
   go_loopw [13] (fun i wr=>∃k:Nat,k<=n/\i=.int .i64 k/\Hid (∀j,j<k->xs[j]?=ys[j]?)/\∃m,wr=w.drewN m) (fun i _=>n-(intOf i).toNat)
   case atStart=>exact⟨0,by omega,rfl,fun j hj=>by omega,0,rfl⟩
   case round=>
    obtain⟨k,hk,rfl,HT,m,rfl⟩:=hrel;by_cases hlt:k<n
    . obtain⟨x,hx⟩:∃x,xs[k]?=some x:=⟨_,aA (by rw[HL.o.1];exact hlt)⟩
      obtain⟨y,hy⟩:∃y,ys[k]?=some y:=⟨_,aA (by rw[HL.o.2];exact hlt)⟩;rcases H1.o.2 with⟨e0,_⟩|⟨g,o,c,e1,hc1⟩
      . omega
      . rcases H2.o.2 with⟨e0,_⟩|⟨g',o',c',e2,hc2⟩
        . omega
        . simp only[aI,ao]at e1 e2
          obtain⟨rfl,rfl⟩:=e1;obtain⟨rfl,rfl⟩:=e2;have i0:=Rd.elem MI.cells_length hc1 k x hx 0 _ rfl;have i1:=Rd.elem MI.cells_length hc1 k x hx 1 _ rfl;have i2:=Rd.elem MI.cells_length hc1 k x hx 2 _ rfl;have i3:=Rd.elem MI.cells_length hc1 k x hx 3 _ rfl;have j0:=Rd.elem MI.cells_length hc2 k y hy 0 _ rfl;have j1:=Rd.elem MI.cells_length hc2 k y hy 1 _ rfl;have j2:=Rd.elem MI.cells_length hc2 k y hy 2 _ rfl;have j3:=Rd.elem MI.cells_length hc2 k y hy 3 _ rfl;rw[aT]at i0 j0;have HX:Hid (xs[k]?=some x/\ys[k]?=some y):=⟨hx,hy⟩
          clear hc1 hc2 hx hy;by_cases hxy:x=y
          . subst hxy
            have hq:∀w,(binOp .neq 97 (.agg #[.int .i64 x.op,.int .i64 x.a,.int .i64 x.b,.int .i64 x.c]) (.agg #[.int .i64 x.op,.int .i64 x.a,.int .i64 x.b,.int .i64 x.c])).run Tryz.prog w=.ok (.bool false) w:=MI.neq_same x;go_wp2
            go_quiet (fail)
            go_wp2
            go_roundw
            case rel=>exact⟨k+1,by omega,by go_num,Cf HX.o.1 HX.o.2 HT.o,_,rfl⟩
            case measure=>simp[intOf];omega
          . have hq:∀w,(binOp .neq 97 (.agg #[.int .i64 x.op,.int .i64 x.a,.int .i64 x.b,.int .i64 x.c]) (.agg #[.int .i64 y.op,.int .i64 y.a,.int .i64 y.b,.int .i64 y.c])).run Tryz.prog w=.ok (.bool true) w:=MI.neq_ne x y hxy
            go_wp2
            go_quiet (fail)
            go_wp2
            go_ret
            exact⟨.no (Db HX.o.1 HX.o.2 hxy),m+nq,World.drewN_drewN _ _ _⟩
    . have hkn:k=n:=by omega
      subst hkn;go_wp2
      go_ret
      exact⟨.yes (Cz HL.o.1 HL.o.2 HT.o),_,rfl⟩
 . have hne:¬xs=ys:=fun e=>hll (by rw[e])
   clear H1 H2;generalize xs.length=n at*;generalize ys.length=n' at*;have HN:Hid (¬xs=ys):=hne;clear hne;have hi:¬(n:Int)=(n':Int):=by omega
   go_enter Tryz.func51,Tryz.ntmps51;go_wp2
   go_ret
   exact⟨.no HN.o,0,rfl⟩
theorem KJ (s s':Value)(xs ys:List MT)(w:World)(hn:xs.length<=1048576)(hn':ys.length<=1048576)(h:Rd w 4 s xs.length (xs.flatMap MT.cells))(h':Rd w 4 s' ys.length (ys.flatMap MT.cells)):
 Calls Tryz.prog 32 #[s,s'] w fun e w'=>Am e (xs=ys)/\∃m,w'=w.drewN m:=by
 have H1:Hid (Rd w 4 s xs.length (xs.flatMap MT.cells)):=h;have H2:Hid (Rd w 4 s' ys.length (ys.flatMap MT.cells)):=h';obtain⟨a1,c1,rfl⟩:=h.is_slice;obtain⟨a2,c2,rfl⟩:=h'.is_slice;clear h h';by_cases hll:xs.length=ys.length
 . rw [<-hll]at H2
   rw[<-hll];clear hn';generalize hLL:xs.length=n at hn H1 H2;have HL:Hid (xs.length=n/\ys.length=n):=⟨hLL,hll▸hLL⟩
   clear hLL hll;have hm:Tryz.prog.eqGuardType Tryz.prog.depth 62=false:=by kernel_rfl
   go_enter Tryz.func32,Tryz.ntmps32;go_wp2
   go_loopw [13] (fun i wr=>∃k:Nat,k<=n/\i=.int .i64 k/\Hid (∀j,j<k->xs[j]?=ys[j]?)/\∃m,wr=w.drewN m) (fun i _=>n-(intOf i).toNat)
   case atStart=>exact⟨0,by omega,rfl,fun j hj=>by omega,0,rfl⟩
   case round=>
    obtain⟨k,hk,rfl,HT,m,rfl⟩:=hrel;by_cases hlt:k<n
    . obtain⟨x,hx⟩:∃x,xs[k]?=some x:=⟨_,aA (by rw[HL.o.1];exact hlt)⟩
      obtain⟨y,hy⟩:∃y,ys[k]?=some y:=⟨_,aA (by rw[HL.o.2];exact hlt)⟩;rcases H1.o.2 with⟨e0,_⟩|⟨g,o,c,e1,hc1⟩
      . omega
      . rcases H2.o.2 with⟨e0,_⟩|⟨g',o',c',e2,hc2⟩
        . omega
        . simp only[aI,ao]at e1 e2
          obtain⟨rfl,rfl⟩:=e1;obtain⟨rfl,rfl⟩:=e2;have i0:=Rd.elem MT.cells_length hc1 k x hx 0 _ rfl;have i1:=Rd.elem MT.cells_length hc1 k x hx 1 _ rfl;have i2:=Rd.elem MT.cells_length hc1 k x hx 2 _ rfl;have i3:=Rd.elem MT.cells_length hc1 k x hx 3 _ rfl;have j0:=Rd.elem MT.cells_length hc2 k y hy 0 _ rfl;have j1:=Rd.elem MT.cells_length hc2 k y hy 1 _ rfl;have j2:=Rd.elem MT.cells_length hc2 k y hy 2 _ rfl;have j3:=Rd.elem MT.cells_length hc2 k y hy 3 _ rfl;rw[aT]at i0 j0;have HX:Hid (xs[k]?=some x/\ys[k]?=some y):=⟨hx,hy⟩
          clear hc1 hc2 hx hy;by_cases hxy:x=y
          . subst hxy
            have hq:∀w,(binOp .neq 62 (.agg #[.int .i64 x.func,.int .i64 x.head,.int .i64 x.counter,.int .u32 x.init]) (.agg #[.int .i64 x.func,.int .i64 x.head,.int .i64 x.counter,.int .u32 x.init])).run Tryz.prog w=.ok (.bool false) w:=MT.neq_same x;go_wp2
            go_quiet (fail)
            go_wp2
            go_roundw
            case rel=>exact⟨k+1,by omega,by go_num,Cf HX.o.1 HX.o.2 HT.o,_,rfl⟩
            case measure=>simp[intOf];omega
          . have hq:∀w,(binOp .neq 62 (.agg #[.int .i64 x.func,.int .i64 x.head,.int .i64 x.counter,.int .u32 x.init]) (.agg #[.int .i64 y.func,.int .i64 y.head,.int .i64 y.counter,.int .u32 y.init])).run Tryz.prog w=.ok (.bool true) w:=MT.neq_ne x y hxy
            go_wp2
            go_quiet (fail)
            go_wp2
            go_ret
            exact⟨.no (Db HX.o.1 HX.o.2 hxy),m+nq,World.drewN_drewN _ _ _⟩
    . have hkn:k=n:=by omega
      subst hkn;go_wp2
      go_ret
      exact⟨.yes (Cz HL.o.1 HL.o.2 HT.o),_,rfl⟩
 . have hne:¬xs=ys:=fun e=>hll (by rw[e])
   clear H1 H2;generalize xs.length=n at*;generalize ys.length=n' at*;have HN:Hid (¬xs=ys):=hne;clear hne;have hi:¬(n:Int)=(n':Int):=by omega
   go_enter Tryz.func32,Tryz.ntmps32;go_wp2
   go_ret
   exact⟨.no HN.o,0,rfl⟩
theorem KE (s s':Value)(xs ys:List MC)(w:World)(hn:xs.length<=1048576)(hn':ys.length<=1048576)(h:Rd w 2 s xs.length (xs.flatMap MC.cells))(h':Rd w 2 s' ys.length (ys.flatMap MC.cells)):
 Calls Tryz.prog 29 #[s,s'] w fun e w'=>Am e (xs=ys)/\∃m,w'=w.drewN m:=by
 have H1:Hid (Rd w 2 s xs.length (xs.flatMap MC.cells)):=h;have H2:Hid (Rd w 2 s' ys.length (ys.flatMap MC.cells)):=h';obtain⟨a1,c1,rfl⟩:=h.is_slice;obtain⟨a2,c2,rfl⟩:=h'.is_slice;clear h h';by_cases hll:xs.length=ys.length
 . rw [<-hll]at H2
   rw[<-hll];clear hn';generalize hLL:xs.length=n at hn H1 H2;have HL:Hid (xs.length=n/\ys.length=n):=⟨hLL,hll▸hLL⟩
   clear hLL hll;have hm:Tryz.prog.eqGuardType Tryz.prog.depth 53=false:=by kernel_rfl
   go_enter Tryz.func29,Tryz.ntmps29;go_wp2
   go_loopw [13] (fun i wr=>∃k:Nat,k<=n/\i=.int .i64 k/\Hid (∀j,j<k->xs[j]?=ys[j]?)/\∃m,wr=w.drewN m) (fun i _=>n-(intOf i).toNat)
   case atStart=>exact⟨0,by omega,rfl,fun j hj=>by omega,0,rfl⟩
   case round=>
    obtain⟨k,hk,rfl,HT,m,rfl⟩:=hrel;by_cases hlt:k<n
    . obtain⟨x,hx⟩:∃x,xs[k]?=some x:=⟨_,aA (by rw[HL.o.1];exact hlt)⟩
      obtain⟨y,hy⟩:∃y,ys[k]?=some y:=⟨_,aA (by rw[HL.o.2];exact hlt)⟩;rcases H1.o.2 with⟨e0,_⟩|⟨g,o,c,e1,hc1⟩
      . omega
      . rcases H2.o.2 with⟨e0,_⟩|⟨g',o',c',e2,hc2⟩
        . omega
        . simp only[aI,ao]at e1 e2
          obtain⟨rfl,rfl⟩:=e1;obtain⟨rfl,rfl⟩:=e2;have i0:=Rd.elem MC.cells_length hc1 k x hx 0 _ rfl;have i1:=Rd.elem MC.cells_length hc1 k x hx 1 _ rfl;have j0:=Rd.elem MC.cells_length hc2 k y hy 0 _ rfl;have j1:=Rd.elem MC.cells_length hc2 k y hy 1 _ rfl;rw[aT]at i0 j0;have HX:Hid (xs[k]?=some x/\ys[k]?=some y):=⟨hx,hy⟩
          clear hc1 hc2 hx hy;by_cases hxy:x=y
          . subst hxy
            have hq:∀w,(binOp .neq 53 (.agg #[.int .i64 x.type,.int .u32 x.word]) (.agg #[.int .i64 x.type,.int .u32 x.word])).run Tryz.prog w=.ok (.bool false) w:=MC.neq_same x;go_wp2
            go_quiet (fail)
            go_wp2
            go_roundw
            case rel=>exact⟨k+1,by omega,by go_num,Cf HX.o.1 HX.o.2 HT.o,_,rfl⟩
            case measure=>simp[intOf];omega
          . have hq:∀w,(binOp .neq 53 (.agg #[.int .i64 x.type,.int .u32 x.word]) (.agg #[.int .i64 y.type,.int .u32 y.word])).run Tryz.prog w=.ok (.bool true) w:=MC.neq_ne x y hxy
            go_wp2
            go_quiet (fail)
            go_wp2
            go_ret
            exact⟨.no (Db HX.o.1 HX.o.2 hxy),m+nq,World.drewN_drewN _ _ _⟩
    . have hkn:k=n:=by omega
      subst hkn;go_wp2
      go_ret
      exact⟨.yes (Cz HL.o.1 HL.o.2 HT.o),_,rfl⟩
 . have hne:¬xs=ys:=fun e=>hll (by rw[e])
   clear H1 H2;generalize xs.length=n at*;generalize ys.length=n' at*;have HN:Hid (¬xs=ys):=hne;clear hne;have hi:¬(n:Int)=(n':Int):=by omega
   go_enter Tryz.func29,Tryz.ntmps29;go_wp2
   go_ret
   exact⟨.no HN.o,0,rfl⟩
structure CJ(f:MF):Prop where
 par:f.params.length<=8
 loc:f.params.length+f.locals.length<=32
 pt:f.params.all DZ=true
 lt:f.locals.all DZ=true
 res:f.result=0\/DZ f.result=true
 code0:¬f.code.length=0
 code1:f.code.length<=1024
def Iv(f:MF):Prop:=f.params.length=0/\f.result=0
def BW(f:MF)(main:Bool):Prop:=CJ f/\(main=true->Iv f)
theorem N3(v:VF)(f:MF)(main:Bool)(w:World)(hs:f.small)(h:EI w v f):
 Calls Tryz.prog 94 #[.agg #[v.p,.int .i64 f.result,v.l,v.c],.bool main] w fun e w'=>Am e (BW f main)/\Below w.heap.size w w':=by
 have H1:Hid (EI w v f/\f.small):=⟨h,hs⟩
 obtain⟨a1,c1,e1⟩:=h.1.is_slice;obtain⟨a2,c2,e2⟩:=h.2.1.is_slice;obtain⟨a3,c3,e3⟩:=h.2.2.is_slice;obtain⟨vp,vl,vc⟩:=v;obtain⟨s1,s2,s3⟩:=hs;simp only[]at e1 e2 e3;subst e1 e2 e3;clear h;have HB:Hid (Below w.heap.size w (w.alloc (.cells #[.slice a1 f.params.length c1,.int .i64 f.result,.slice a2 f.locals.length c2,.slice a3 f.code.length c3] 58))):=Aa _ _;by_cases q1:8<f.params.length
 . have HN:Hid (¬(BW f main)):=fun e=>absurd e.1.par (by omega)
   clear H1;generalize f.params.length=n1 at*;go_enter Tryz.func94,Tryz.ntmps94;go_wp2
   go_ret
   exact⟨.no HN.o,HB.o⟩
 by_cases q2:32<f.params.length+f.locals.length
 . have HN:Hid (¬(BW f main)):=fun e=>absurd e.1.loc (by omega)
   clear H1;generalize f.params.length=n1 at*;generalize f.locals.length=n2 at*;go_enter Tryz.func94,Tryz.ntmps94;go_wp2
   go_ret
   exact⟨.no HN.o,HB.o⟩
 have q1':¬(8:Int)<(f.params.length:Int):=by omega
 have q2':¬(32:Int)<(f.params.length:Int)+(f.locals.length:Int):=by omega
 have HQ:Hid (f.params.length<=8/\f.params.length+f.locals.length<=32):=⟨by omega,by omega⟩
 go_enter Tryz.func94,Tryz.ntmps94;go_wp2_with fail
 refine(Gj _ f.params _ H1.o.2.1 (H1.o.1.1.keep HB.o lR)).mono ?_;rintro e u ⟨rfl,rfl⟩;cases t1:f.params.all DZ
 . have HN:Hid (¬(BW f main)):=fun e=>by have:=e.1.pt;simp[t1]at this
   clear t1;go_wp2
   go_ret
   exact⟨.no HN.o,HB.o⟩
 have HT1:=Af t1;clear t1;go_wp2_with fail
 refine(Gj _ f.locals _ H1.o.2.2.1 (H1.o.1.2.1.keep HB.o lR)).mono ?_;rintro e u ⟨rfl,rfl⟩;cases t1:f.locals.all DZ
 . have HN:Hid (¬(BW f main)):=fun e=>by have:=e.1.lt;simp[t1]at this
   clear t1;go_wp2
   go_ret
   exact⟨.no HN.o,HB.o⟩
 have HT2:=Af t1;clear t1;generalize hR:f.result=R at*;generalize h1:f.params.length=n1 at*;generalize h3:f.code.length=n3 at*;have HE:Hid (f.result=R/\f.params.length=n1/\f.code.length=n3):=⟨hR,h1,h3⟩
 clear hR h1 h3 q1 q2;by_cases q3:R=0
 . subst q3
   by_cases q4:n3=0
   . subst q4
     have HN:Hid (¬(BW f main)):=fun e=>e.1.code0 HE.o.2.2
     go_wp2
     go_ret
     exact⟨.no HN.o,HB.o⟩
   have q4':((n3:Int)==0)=false:=by simpa using q4
   by_cases q5:1024<n3
   . have q5':(1024:Int)<(n3:Int):=by omega
     have HN:Hid (¬(BW f main)):=fun e=>absurd e.1.code1 (by rw[HE.o.2.2];omega)
     go_wp2
     go_ret
     exact⟨.no HN.o,HB.o⟩
   have q5':¬(1024:Int)<(n3:Int):=by omega
   cases main
   . have HY:Hid (BW f false):=⟨⟨by rw[HE.o.2.1];exact HQ.o.1,by rw[HE.o.2.1];exact HQ.o.2,HT1.o,HT2.o,.inl HE.o.1,by rw[HE.o.2.2];exact q4,by rw[HE.o.2.2];omega⟩,fun h=>by cases h⟩
     go_wp2
     go_ret
     exact⟨.yes HY.o,HB.o⟩
   . by_cases q6:n1=0
     . subst q6
       have HY:Hid (BW f true):=⟨⟨by rw[HE.o.2.1];exact HQ.o.1,by rw[HE.o.2.1];exact HQ.o.2,HT1.o,HT2.o,.inl HE.o.1,by rw[HE.o.2.2];exact q4,by rw[HE.o.2.2];omega⟩,fun _=>⟨HE.o.2.1,HE.o.1⟩⟩;go_wp2;go_ret;exact⟨.yes HY.o,HB.o⟩
     . have q6':((n1:Int)==0)=false:=by simpa using q6
       have HN:Hid (¬(BW f true)):=fun e=>q6 (by rw[<-HE.o.2.1];exact(e.2 rfl).1)
       go_wp2
       go_ret
       exact⟨.no HN.o,HB.o⟩
 . have q3':(R==0)=false:=by simpa using q3
   go_wp2_with fail
   refine(DQ R _).mono ?_;rintro e u ⟨rfl,rfl⟩;cases t1:DZ R
   . have HN:Hid (¬(BW f main)):=fun e=>by have:=e.1.res;rw[HE.o.1]at this;simp[q3,t1]at this
     go_wp2
     go_ret
     exact⟨.no HN.o,HB.o⟩
   have HT3:=Af t1;clear t1;by_cases q4:n3=0
   . subst q4
     have HN:Hid (¬(BW f main)):=fun e=>e.1.code0 HE.o.2.2
     go_wp2
     go_ret
     exact⟨.no HN.o,HB.o⟩
   have q4':((n3:Int)==0)=false:=by simpa using q4
   by_cases q5:1024<n3
   . have q5':(1024:Int)<(n3:Int):=by omega
     have HN:Hid (¬(BW f main)):=fun e=>absurd e.1.code1 (by rw[HE.o.2.2];omega)
     go_wp2
     go_ret
     exact⟨.no HN.o,HB.o⟩
   have q5':¬(1024:Int)<(n3:Int):=by omega
   cases main
   . have HY:Hid (BW f false):=⟨⟨by rw[HE.o.2.1];exact HQ.o.1,by rw[HE.o.2.1];exact HQ.o.2,HT1.o,HT2.o,.inr (by rw[HE.o.1];exact HT3.o),by rw[HE.o.2.2];exact q4,by rw[HE.o.2.2];omega⟩,fun h=>by cases h⟩
     go_wp2
     go_ret
     exact⟨.yes HY.o,HB.o⟩
   . by_cases q6:n1=0
     . subst q6
       have HN:Hid (¬(BW f true)):=fun e=>q3 (by rw[<-HE.o.1];exact(e.2 rfl).2)
       go_wp2
       go_ret
       exact⟨.no HN.o,HB.o⟩
     . have q6':((n1:Int)==0)=false:=by simpa using q6
       have HN:Hid (¬(BW f true)):=fun e=>q6 (by rw[<-HE.o.2.1];exact(e.2 rfl).1)
       go_wp2
       go_ret
       exact⟨.no HN.o,HB.o⟩
section
variable {P:Program} {ops:Array Oper} {Q:Exit->Act->World->Prop} {md:Region.Mode} {S:World->Prop} {n f:Nat} {d:Array Bool} {a:Act} {w:World}
def Uh(md:Region.Mode)(ops:Array Oper)(d:Array Bool)(i:Nat):Bool:=Region.noSelect ops&&Region.free md ops d i&&(Region.ready md ops d).contains i
theorem Rl{i:Nat}(h:Uh md ops d i=true):Region.noSelect ops=true/\Region.free md ops d i=true/\(Region.ready md ops d).contains i=true:=by
 simp only[Uh,eG]at h;exact⟨h.1.1,h.1.2,h.2⟩
theorem Ar(i:Nat){oi:Oper}{v:Value}(h:wpAnyH P md ops Q S f (d.setIfInBounds i true) (a.put oi.dst v) w)(hi:ops[i]?=some oi:=by rfl)(hb:Uh md ops d i=true:=by kernel_rfl)(hQ:∀c a w,Q (.panic c) (a.put oi.dst v) w->Q (.panic c) a w:=by exact fun _ _ _ h=>h)(hw:Region.wanted oi (yielded ops a.tmps)=true:=by rfl)
 (hy:∀w,S w->(execOp a.eval oi).run P w=.ok (.value v) w:=by(intro w hSw;(try dsimp only at hSw);(repeat obtain⟨hSa,hSw⟩:=hSw);go_simp;(try with_reducible rfl))) (hS:S w:=by assumption):wpAnyH P md ops Q S (f+1) d a w:=
 have k:=Rl hb
 wpAnyH_take hi k.1 k.2.1 k.2.2 hQ (.inl ⟨hw,hy⟩) hS h
theorem tkU(i:Nat){oi:Oper}(h:wpAnyH P md ops Q S f (d.setIfInBounds i true) (a.put oi.dst undef) w)(hi:ops[i]?=some oi:=by rfl)(hb:Uh md ops d i=true:=by kernel_rfl)(hQ:∀c a w,Q (.panic c) (a.put oi.dst undef) w->Q (.panic c) a w:=by exact fun _ _ _ h=>h)(hw:Region.wanted oi (yielded ops a.tmps)=false:=by rfl)(hS:S w:=by assumption):wpAnyH P md ops Q S (f+1) d a w:=
 have k:=Rl hb
 wpAnyH_take hi k.1 k.2.1 k.2.2 hQ (.inr ⟨hw,rfl⟩) hS h
theorem BH(i:Nat){oi:Oper}{v:Value}(h:C4 P md ops Q S n f (d.setIfInBounds i true) (a.put oi.dst v) w)(hi:ops[i]?=some oi:=by rfl)(hb:(Uh md ops d i&&OO md ops n d&&decide (i<n))=true:=by kernel_rfl)(hQ:∀c a w,Q (.panic c) (a.put oi.dst v) w->Q (.panic c) a w:=by exact fun _ _ _ h=>h)(hw:Region.wanted oi (yielded ops a.tmps)=true:=by rfl)
 (hy:∀w,S w->(execOp a.eval oi).run P w=.ok (.value v) w:=by(intro w hSw;(try dsimp only at hSw);(repeat obtain⟨hSa,hSw⟩:=hSw);go_simp;(try with_reducible rfl))) (hS:S w:=by assumption):C4 P md ops Q S n (f+1) d a w:=
 have k0:=Bool.and_eq_true_iff.1 hb
 have k1:=Bool.and_eq_true_iff.1 k0.1
 have k:=Rl k1.1
 Nx hi k.1 k.2.1 k.2.2 k1.2 (dm k0.2) hQ (.inl ⟨hw,hy⟩) hS h
theorem FL(i:Nat){o:Oper}(h:∀K':Act->World->Prop,Shut (∀a w,S w->(S w->wpAnyH P md ops Q S f (d.setIfInBounds i true) a w)->K' a w)->if Region.wanted o (yielded ops a.tmps)=true then Oper.wp P o a w K' Q else K' (a.put o.dst undef) w)(hr:Region.ready md ops d=[i]:=by kernel_rfl)(ho:ops[i]?=some o:=by rfl):wpAnyH P md ops Q S (f+1) d a w:=
 wpAnyH_ready hr (by simp) (AllReadyH.cons ho h AllReadyH.nil)
theorem LS(i:Nat){o:Oper}(h:∀K':Act->World->Prop,Shut (∀a w,(i<n->S w)->((i<n->S w)->C4 P md ops Q S n f (d.setIfInBounds i true) a w)->K' a w)->if Region.wanted o (yielded ops a.tmps)=true then Oper.wp P o a w K' Q else K' (a.put o.dst undef) w)(hr:Region.ready md ops d=[i]:=by kernel_rfl)(ho:ops[i]?=some o:=by rfl):C4 P md ops Q S n (f+1) d a w:=
 L7 hr (by simp) (Dg.cons ho h Dg.nil)
end
theorem _root_.Go.Shut.o{p:Prop}(h:Shut p):p:=h
def DU(B:Nat)(u:World)(wb:Nat)(bs:List Value):Prop:=∃v,Ap u wb #[v] 45/\u.ownsRow B 5 1 v bs.length bs
structure Wg(B:Nat)(u u':World):Prop where
 bel:Below B u u'
 blk:∀(k:Nat) (cur:Array Value) (t:TypeId),u.heap[k]?=some (Obj.cells cur t (0,0))->t≠5->t≠45->u'.heap[k]?=some (Obj.cells cur t (0,0))
theorem Wg.refl(B:Nat)(u:World):Wg B u u:=⟨aq _ _,fun _ _ _ h _ _=>h⟩
theorem Wg.trans{B:Nat}{u v w:World}(h:Wg B u v)(h':Wg B v w):Wg B u w:=⟨h.bel.trans h'.bel,fun k cur t hk h1 h2=>h'.blk k cur t (h.blk k cur t hk h1 h2) h1 h2⟩
theorem Wg.of_below{B:Nat}{u u':World}(h:Below u.heap.size u u')(hB:B<=u.heap.size):Wg B u u':=
 ⟨h.mono hB,fun k cur t hk _ _=>by rw[h.block k (an.1 hk).1];exact hk⟩
theorem Wg.size{B:Nat}{u u':World}(h:Wg B u u'):u.heap.size<=u'.heap.size:=h.bel.size
theorem Wg.of_grown{B b k n:Nat}{u u':World}{v:Value}{xs:List Value}(hg:u.grownBy u' v.ownBlock)(ho:u.ownsRow B 5 k v n xs)(hB:B<=u.heap.size):Wg B u u':=by
 refine⟨⟨hg.os,hg.tape,hg.output,hg.size,fun k hk=>hg.block k (by omega) (fun e=>by have:=(ho.lt k e.symm).1;omega)⟩,fun k cur t hk h1 h2=> ?_⟩;rw[hg.block k (an.1 hk).1 ?_]
 . exact hk
 . intro e
   rcases ho.2 with⟨rfl,_⟩|⟨g',cap',cur',rfl,_,hg',_⟩
   . cases e
   . simp only[Value.ownBlock,aM]at e
     subst e;rw[hk]at hg';simp only[aM,cD]at hg';exact h1 hg'.2.1
theorem Wg.of_set{B wb:Nat}{u:World}{cur:Array Value}(hb:Ap u wb cur 45)(hB:B<=wb)(i:Nat)(x:Value):Wg B u (u.setCell ⟨wb,i,none⟩ x):=by
 refine⟨(aq _ _).setCell hB _,fun k c t hk h1 h2=> ?_⟩;rw[bI u _ k x ?_]
 . exact hk
 . intro e
   simp only[]at e;subst e;unfold Ap at hb;rw[hk]at hb;simp only[aM,cD]at hb;exact h2 hb.2.1
theorem Wg.own{B base:Nat}{u u':World}(h:Wg B u u'){e:TypeId}{s:Value}{k n:Nat}{xs:List Value}(ho:u.ownsRow base e k s n xs)(h1:e≠5)(h2:e≠45):u'.ownsRow base e k s n xs:=by
 refine⟨ho.1,?_⟩;rcases ho.2 with h'|⟨g,cap,cur,e1,hb1,hg,hr⟩
 . exact .inl h'
 . exact .inr ⟨g,cap,cur,e1,hb1,h.blk g cur e hg h1 h2,hr⟩
theorem Wg.ownF{B base:Nat}{u u':World}(h:Wg B u u'){v:VF}{f:MF}(ho:Ep u base v f):Ep u' base v f:=⟨h.own ho.1 (by decide) (by decide),h.own ho.2.1 (by decide) (by decide),h.own ho.2.2 (by decide) (by decide)⟩
theorem Wg.ownFs{B base:Nat}{u u':World}(h:Wg B u u'){s:Value}{fs:List MF}(ho:Do u base s fs):Do u' base s fs:=by
 obtain⟨xs,h1,h2,h3⟩:=ho;exact⟨xs,h1,h.own h2 (by decide) (by decide),fun x hx=>h.ownF (h3 x hx)⟩
theorem Wg.ownR{B base:Nat}{u u':World}(h:Wg B u u'){s:Value}{rs:List (List Int)}(ho:Ft u base s rs):Ft u' base s rs:=by
 obtain⟨xs,h1,h2,h3⟩:=ho;exact⟨xs,h1,h.own h2 (by decide) (by decide),fun x hx=>h.own (h3 x hx) (by decide) (by decide)⟩
theorem Wg.ownPD{B base:Nat}{u u':World}(h:Wg B u u'){v:VP}{p:MP}(ho:Dc u base v p):Dc u' base v p:=⟨h.ownR ho.regions,h.own ho.consts (by decide) (by decide),h.ownFs ho.funcs,h.own ho.certs (by decide) (by decide)⟩
theorem Wg.block{B:Nat}{u u':World}(h:Wg B u u'){b:Nat}{cur:Array Value}{t:TypeId}(hb:Ap u b cur t)(h1:t≠5)(h2:t≠45):Ap u' b cur t:=h.blk b cur t hb h1 h2
theorem DU.call{B:Nat}{u u':World}{wb:Nat}{bs:List Value}(h:DU B u wb bs)(hb:Below u.heap.size u u'):DU B u' wb bs:=by
 obtain⟨v,h1,h2⟩:=h;exact⟨v,h1.keep hb,Ah h2 hb lR⟩
theorem A4(B wb:Nat)(bs:List Value)(x:Int)(n:Nat)(w:World)(h1:1<=n)(h8:n<=8)(hb:bs.length<=1073741824)(hB:B<=w.heap.size)(hw:B<=wb)(h:DU B w wb bs):
 Calls Tryz.prog 13 #[.pointer (some ⟨wb,0,none⟩),iZ x,iZ (n:Int)] w fun e w'=>e=.returned (.tuple #[])/\DU B w' wb (bs++At x n)/\Wg B w w':=by
 obtain⟨i0,hi,hz0,hz1,hz2⟩:=bJ infoBD;obtain⟨v,hblk,hown⟩:=h;have H:=Af (aG hblk hown)
 have PN:Hid (∀u:World,Calls Tryz.prog 45 #[iZ x,iZ (n:Int)] u fun e w'=>∃r,e=.returned r/\w'.ownsRow u.heap.size 5 1 r n (At x n)/\Below u.heap.size u w'):=fun u=>by
  have:=G7 x (n:Int) u;rw[show PO (n:Int)=n from by unfold PO;rw[bj (by omega)];exact aX n]at this;exact this
 clear hblk hown;have KS:=((H.o.1.keep (Ae w)).cell 0);have KS':w.drew.cell? ⟨wb,0,none⟩=some v:=KS;clear KS;go_enter Tryz.func13,Tryz.ntmps13;go_wp2_with fail
 go_region_law (first
  |(refine step_append_lies _ rfl (.tmp 10) (.tmp 13) 22 rfl B 5 i0 (.int .u8 0) 1 1 Tryz.underlying22 hi hz0 hz1 hz2 rfl (by decide) v bs.length bs (by simp[Act.eval]) O1.o.1 ⟨g1,0,none⟩ n c1 (At x n) (by simp[Act.eval]) (by rw[Av,bR]) (Lh O1.o.2.1) (Ii x n) (by omega) (by unfold maxLen;omega) (by omega) O1.o.2.2.2 _ rfl ?_;intro g cap u2 hown hgrow hat hlt;have O2:Hid (u2.ownsRow B 5 1 (sG g (bs.length+n) cap) (bs.length+n) (bs++At x n)/\Ap u2 wb #[v] 45/\Wg B w u2):=⟨hown,O1.o.2.2.1.grown hgrow O1.o.1 (by decide),(Wg.of_below B1.o hB).trans (Wg.of_grown (b:=0) hgrow O1.o.1 O1.o.2.2.2)⟩;have KS':u2.cell? ⟨wb,0,none⟩=some v:=O2.o.2.1.cell 0;have Z:=O2.o.2.1.frozen 0;clear hown hgrow hat hlt)
  |(go_simp;go_at_call 45;refine(PN.o _).mono ?_;rintro e u1 ⟨r,rfl,own1,b1⟩;obtain⟨g1,c1,rfl,_,_⟩:=own1.form (by omega);have B1:Hid (Below w.heap.size w u1):=CU b1 lR;have O1:Hid (u1.ownsRow B 5 1 v bs.length bs/\u1.ownsRow w.heap.size 5 1 (sG g1 n c1) n (At x n)/\Ap u1 wb #[v] 45/\B<=u1.heap.size):=⟨Ah H.o.2 B1.o lR,own1,H.o.1.keep B1.o,aR hB B1.o.size⟩;have KS':u1.cell? ⟨wb,0,none⟩=some v:=O1.o.2.2.1.cell 0;clear own1 b1))
 all_goals
  have HE:Hid (DU B (u2.setCell ⟨wb,0,none⟩ (sG g (bs.length+n) cap)) wb (bs++At x n)/\Wg B w (u2.setCell ⟨wb,0,none⟩ (sG g (bs.length+n) cap))):=by
   refine⟨⟨sG g (bs.length+n) cap,?_,?_⟩,O2.o.2.2.trans (Wg.of_set O2.o.2.1 hw 0 _)⟩
   . exact O2.o.2.1.set 0 _
   . have hg:¬g=wb:=fun e=>by
      subst e;have h3:=O2.o.2.1;unfold Ap at h3;rcases O2.o.1.2 with⟨e1,_⟩|⟨g',cap',cur',e1,_,hg',_⟩
      . cases e1
      . cases e1
        rw[h3]at hg';simp only[aM,cD]at hg';exact absurd hg'.2.1 (by decide)
     have:=aN O2.o.1 (a:=⟨wb,0,none⟩) (by simp only[Value.ownBlock];intro e;exact hg (aZ e)) (sG g (bs.length+n) cap);rw[aH,Av];exact this
  go_end0
  exact⟨rfl,HE.o.1,HE.o.2⟩
def RC(w:World)(v:Value)(f:MB):Prop:=Rd w 1 v f.next.length (f.next.flatMap Ac)
def MB.small(f:MB):Prop:=f.next.length<=1048576
theorem RC.keep{w w':World}{v:Value}{f:MB}(h:RC w v f){B:Nat}(hb:Below B w w')(hB:w.heap.size<=B):RC w' v f:=Rd.keep h hb hB
def Jt(w:World)(s:Value)(fs:List MB):Prop:=∃xs:List (MB×Value),xs.map Prod.fst=fs/\Rd w 3 s fs.length (xs.flatMap Et)/\∀x∈xs,RC w x.2 x.1
theorem Jt.keep{w w':World}{s:Value}{fs:List MB}(h:Jt w s fs){B:Nat}(hb:Below B w w')(hB:w.heap.size<=B):Jt w' s fs:=by
 obtain⟨xs,h1,h2,h3⟩:=h;exact⟨xs,h1,h2.keep hb hB,fun x hx=>(h3 x hx).keep hb hB⟩
structure CR where
 S:Nat
 a:Option Addr
 len:Nat
 cap:Nat
theorem AR.grow{g:Nat}{w w':World}(h:AR g w w'):w.grownBy w' (some g):=⟨h.os,h.tape,h.output,h.size,fun k hk hne=>h.block k hk (fun e=>hne (by rw[e]))⟩
theorem AR.setCell{g:Nat}{w u:World}(h:AR g w u){a:Addr}(ha:w.heap.size<=a.block)(x:Value):AR g w (u.setCell a x):=
 ⟨h.os,h.tape,h.output,by rw[bf];exact h.size,fun k hk hg=>(bI u a k x (by omega)).trans (h.block k hk hg)⟩
theorem AR.grown{g:Nat}{w u u':World}(h:AR g w u){r:Option Nat}(hg:u.grownBy u' r)(hr:∀k,r=some k->w.heap.size<=k):AR g w u':=
 ⟨hg.os.trans h.os,hg.tape.trans h.tape,hg.output.trans h.output,aR h.size hg.size,fun k hk hk'=>(hg.block k (bZ hk h.size) (fun e=>by have:=hr k e.symm;omega)).trans (h.block k hk hk')⟩
structure NC(w u:World)(s:CR)(p:Int):Prop where
 drw:AR s.S w u
 src:D8 u s.S s.a s.len s.cap p
 lo:s.S<w.heap.size
section
variable {w u u':World} {s:CR} {p p':Int}
theorem NC.size(h:NC w u s p):w.heap.size<=u.heap.size:=h.drw.size
theorem NC.on(h:NC w u s p)(hb:Below u.heap.size u u'):NC w u' s p:=⟨h.drw.trans (.of_below hb),h.src.below hb,h.lo⟩
theorem NC.draw(h:NC w u s p)(hs:D8 u' s.S s.a s.len s.cap p')(hd:AR s.S u u'):NC w u' s p':=⟨h.drw.trans hd,hs,h.lo⟩
theorem NC.setCell(h:NC w u s p){a:Addr}(ha:w.heap.size<=a.block)(x:Value):NC w (u.setCell a x) s p:=
 ⟨h.drw.setCell ha x,h.src.keep fun k hk=>bI u a k x (by have:=h.lo;omega),h.lo⟩
theorem NC.grown(h:NC w u s p){r:Option Nat}(hg:u.grownBy u' r)(hr:∀k,r=some k->w.heap.size<=k):NC w u' s p:=
 ⟨h.drw.grown hg hr,h.src.keep fun k hk=>hg.block k (by have:=h.lo;have:=h.size;omega) (fun e=>by have:=hr k e.symm;have:=h.lo;omega),h.lo⟩
end
theorem CI.drawn{w u u':World}{g:Nat}{L:List As}(h:CI u w.heap.size L)(hd:AR g u u')(hg:g<w.heap.size):CI u' w.heap.size L:=
 ⟨fun r hr=>BM (h.own r hr) hd.grow (fun b hb e=>by have:=(h.lt r hr b hb).1;simp only[aM]at e;omega),h.sep⟩
structure Bs(w u:World)(s:CR)(p:Int)(Ls:List As):Prop where
 sep:CI u w.heap.size Ls
 bel:NC w u s p
section
variable {w u u':World} {s:CR} {p:Int} {Ls:List As} {v:VP} {F:List (List Int×Value)} {cs:List MC} {G:List (MF×VF)} {ts:List MT} {D:List As}
theorem Bs.start(h:NC w u s p):Bs w u s p []:=⟨CI.nil _ _,h⟩
theorem Bs.draw{p':Int}(h:Bs w u s p Ls)(hs:D8 u' s.S s.a s.len s.cap p')(hd:AR s.S u u'):Bs w u' s p' Ls:=⟨h.sep.drawn hd h.bel.lo,h.bel.draw hs hd⟩
theorem Bs.size(h:Bs w u s p Ls):w.heap.size<=u.heap.size:=h.bel.size
theorem Bs.keep(h:Bs w u s p Ls)(hb:Below u.heap.size u u'):Bs w u' s p Ls:=⟨h.sep.keep hb,h.bel.on hb⟩
theorem Bs.box(h:Bs w u s p Ls)(t:TypeId)(q:Nat)(xs:List Value)(hk:xs.length=q):Bs w (u.alloc (.cells xs.toArray t)) s p (Ls++[Bb u.heap.size t q xs]):=⟨h.sep.box h.size t q xs hk,h.bel.on (Aa _ _)⟩
theorem Bs.rows(h:Bs w u s p Ls)(hb:Below u.heap.size u u'){M:List As}(hs:CI u' u.heap.size M):Bs w u' s p (Ls++M):=
 ⟨(h.keep hb).sep.app hs (fun x hx g hgx=>(h.sep.lt x hx g hgx).2) h.size,(h.keep hb).bel⟩
theorem Bs.row(h:Bs w u s p Ls)(hb:Below u.heap.size u u'){r:As}(ho:r.own u' u.heap.size):Bs w u' s p (Ls++[r]):=
 h.rows hb ⟨fun x hx=>by rw[bO.1 hx];exact ho,dg _ _⟩
theorem Bs.set{A C:List As}{X:Nat}{t:TypeId}{q:Nat}{xs:List Value}(h:Bs w u s p (A++Bb X t q xs::C))(i:Nat)(hi:i<q)(x:Value):Bs w (u.setCell ⟨X,i,none⟩ x) s p (A++Bb X t q (xs.set i x)::C):=
 ⟨h.sep.setBox i hi x,h.bel.setCell ((h.sep.lt (Bb X t q xs) (by simp) X rfl).1) _⟩
theorem Bs.grow{A C:List As}{r:As}(h:Bs w u s p (A++r::C))(r':As)(ho:r'.own u' w.heap.size)(hg:u.grownBy u' r.v.ownBlock)(hat:r'.v.ownBlock=r.v.ownBlock\/∀g,r'.v.ownBlock=some g->u.heap.size<=g):Bs w u' s p (A++r'::C):=
 ⟨h.sep.grow r' ho hg hat,h.bel.grown hg (fun k hk=>(h.sep.lt r (by simp) k hk).1)⟩
theorem Bs.app{A C:List As}{r:As}(h:Bs w u s p (A++r::C))(r':As)(ho:r'.own u' w.heap.size)(hg:u.grownBy u' r.v.ownBlock)(hat:r'.v.ownBlock=r.v.ownBlock\/r'.v.ownBlock=some u.heap.size):Bs w u' s p (A++r'::C):=
 h.grow r' ho hg (hat.imp_right fun e g hg=>by rw[e]at hg;cases hg;exact Nat.le_refl _)
theorem Bs.sub{M:List As}(h:Bs w u s p Ls)(hs:M.Sublist Ls):Bs w u s p M:=⟨h.sep.sub hs,h.bel⟩
theorem Bs.perm{M:List As}(h:Bs w u s p Ls)(hs:Ls.Perm M):Bs w u s p M:=⟨h.sep.perm hs,h.bel⟩
theorem Bs.nil(h:Bs w u s p Ls)(e:TypeId)(q:Nat):Bs w u s p (Ls++[⟨e,q,sN,0,[]⟩]):=
 ⟨h.sep.snoc (N:=u.heap.size) (fun x hx g hg=>(h.sep.lt x hx g hg).2) (bq _ _ _ _) h.size,h.bel⟩
theorem Bs.cell{X:Nat}{t:TypeId}{q:Nat}{xs:List Value}(h:Bs w u s p Ls)(hm:Bb X t q xs∈Ls)(i:Nat)(hi:i<q):u.cell? ⟨X,i,none⟩=xs[i]?:=Bb.cell (h.sep.own _ hm) i hi
theorem Bs.frozen{X:Nat}{t:TypeId}{q:Nat}{xs:List Value}(h:Bs w u s p Ls)(hm:Bb X t q xs∈Ls)(i:Nat):u.frozen? ⟨X,i,none⟩=false:=dM (show u.ownsRow w.heap.size t q (sG X 1 1) 1 xs from h.sep.own _ hm) i
theorem Bs.push_n{vc:Value}{code:List MI}(h:Bs w u s p (Ai v F cs G ts (Ca vc code::D)))(xs:List MI)(V:Value)(ho:u'.ownsRow w.heap.size 97 4 V (code.length+xs.length) (code.flatMap MI.cells++xs.flatMap MI.cells))(hg:u.grownBy u' vc.ownBlock)(hat:V.ownBlock=vc.ownBlock\/V.ownBlock=some u.heap.size):Bs w u' s p (Ai v F cs G ts (Ca V (code++xs)::D)):=by
 rw[FK]at h⊢;exact h.app (Ca V (code++xs)) (by simpa[As.own,Ca]using ho) hg hat
theorem Bs.push_c(h:Bs w u s p (Ai v F cs G ts D))(x:MC)(V:Value)(ho:u'.ownsRow w.heap.size 53 2 V (cs.length+1) (cs.flatMap MC.cells++x.cells))(hg:u.grownBy u' v.k.ownBlock)(hat:V.ownBlock=v.k.ownBlock\/V.ownBlock=some u.heap.size):Bs w u' s p (Ai {v with k:=V} F (cs++[x]) G ts D):=
 Bs.app (A:=Ct v.r F::BS F) h (DY V (cs++[x])) (by simpa[As.own,DY]using ho) hg hat
theorem Bs.push_f{y:MF×VF}(h:Bs w u s p (Ai v F cs G ts D++Co y))(V:Value)(ho:u'.ownsRow w.heap.size 58 4 V (G.length+1) (G.flatMap AW++AW y))(hg:u.grownBy u' v.f.ownBlock)(hat:V.ownBlock=v.f.ownBlock\/V.ownBlock=some u.heap.size):Bs w u' s p (Ai {v with f:=V} F cs (G++[y]) ts D):=by
 have h1:Bs w u s p ((Ct v.r F::BS F++[DY v.k cs])++BT v.f G::(BQ G++(Co y++(CZ v.t ts::D)))):=h.perm (by
  simp only[Ai,bK,a6,ba];refine .cons _ (List.Perm.append_left _ (.cons _ (.cons _ (List.Perm.append_left _ ?_))));exact(dj (l₁:=CZ v.t ts::D) (l₂:=Co y)))
 have h2:=h1.app (BT V (G++[y])) (by simpa[As.own,BT]using ho) hg hat;have e:(Ct v.r F::BS F++[DY v.k cs])++BT V (G++[y])::(BQ G++(Co y++(CZ v.t ts::D)))=Ai {v with f:=V} F cs (G++[y]) ts D:=by simp[Ai,IQ,List.append_assoc]
 rwa [e]at h2
theorem Bs.push_t(h:Bs w u s p (Ai v F cs G ts D))(x:MT)(V:Value)(ho:u'.ownsRow w.heap.size 62 4 V (ts.length+1) (ts.flatMap MT.cells++x.cells))(hg:u.grownBy u' v.t.ownBlock)(hat:V.ownBlock=v.t.ownBlock\/V.ownBlock=some u.heap.size):Bs w u' s p (Ai {v with t:=V} F cs G (ts++[x]) D):=by
 have h1:Bs w u s p ((Ct v.r F::BS F++(DY v.k cs::(BT v.f G::BQ G)))++CZ v.t ts::D):=by simpa[Ai,List.append_assoc]using h
 have h2:=h1.app (CZ V (ts++[x])) (by simpa[As.own,CZ]using ho) hg hat;have e:(Ct v.r F::BS F++(DY v.k cs::(BT v.f G::BQ G)))++CZ V (ts++[x])::D=Ai {v with t:=V} F cs G (ts++[x]) D:=by simp[Ai,List.append_assoc]
 rwa [e]at h2
theorem Bs.setp{X:Nat}{t:TypeId}{q:Nat}{xs:List Value}{E:List As}(h:Bs w u s p (Ai v F cs G ts (D++Bb X t q xs::E)))(i:Nat)(hi:i<q)(x:Value):Bs w (u.setCell ⟨X,i,none⟩ x) s p (Ai v F cs G ts (D++Bb X t q (xs.set i x)::E)):=by
 rw[Ot]at h⊢;exact h.set i hi x
theorem AD{r:As}(h:r∈D):r∈Ai v F cs G ts D:=by simp[Ai,h]
theorem Bs.prow(h:Bs w u s p (Ai v F cs G ts D)):(∃a1 c1 a2 c2 a3 c3 a4 c4,v=⟨.slice a1 F.length c1,.slice a2 cs.length c2,.slice a3 G.length c3,.slice a4 ts.length c4⟩)/\u.ownsRow w.heap.size 47 1 v.r F.length (F.flatMap BE)/\u.ownsRow w.heap.size 53 2 v.k cs.length (cs.flatMap MC.cells)/\u.ownsRow w.heap.size 58 4 v.f G.length (G.flatMap AW)/\u.ownsRow w.heap.size 62 4 v.t ts.length (ts.flatMap MT.cells):=by
 refine⟨?_,h.sep.own (Ct v.r F) (by simp[Ai]),h.sep.own (DY v.k cs) (by simp[Ai]),h.sep.own (BT v.f G) (by simp[Ai]),h.sep.own (CZ v.t ts) (by simp[Ai])⟩;obtain⟨v1,v2,v3,v4⟩:=v;obtain⟨a1,c1,e1⟩:∃a c,v1=.slice a F.length c:=A9 (h.sep.own (Ct v1 F) (by simp[Ai]));obtain⟨a2,c2,e2⟩:∃a c,v2=.slice a cs.length c:=A9 (h.sep.own (DY v2 cs) (by simp[Ai]));obtain⟨a3,c3,e3⟩:∃a c,v3=.slice a G.length c:=A9 (h.sep.own (BT v3 G) (by simp[Ai]));obtain⟨a4,c4,e4⟩:∃a c,v4=.slice a ts.length c:=A9 (h.sep.own (CZ v4 ts) (by simp[Ai]));exact⟨a1,c1,a2,c2,a3,c3,a4,c4,by rw[e1,e2,e3,e4]⟩
theorem Bs.set_n{vc:Value}{g:Nat}{n cap:Nat}{code code':List MI}(hv:vc=sG g code.length cap)(hl:code'.length=code.length)(h:Bs w u s p (Ai v F cs G ts (Ca vc code::D)))(i:Nat)(x:Value)(hx:(code.flatMap MI.cells).set i x=code'.flatMap MI.cells):Bs w (u.setCell ⟨g,i,none⟩ x) s p (Ai v F cs G ts (Ca vc code'::D)):=by
 subst hv;rw[FK]at h⊢;have ho:u.ownsRow w.heap.size 97 4 (sG g code.length cap) code.length (code.flatMap MI.cells):=h.sep.own (Ca (sG g code.length cap) code) (by simp);have hs:=ho.stored i x;have hlt:=(ho.lt g rfl).1;have:=h.sep.put (A:=Ai v F cs G ts []) (r:=Ca (sG g code.length cap) code) (code'.flatMap MI.cells) (by rw[<-hx];exact hs.1) (FC (⟨rfl,rfl,rfl,Nat.le_refl _,fun _ _ _=>rfl⟩:u.grownBy u (some g)) i x);refine⟨?_,h.bel.setCell hlt _⟩;simpa[Ca,hl]using this
theorem Bs.nrow{vc:Value}{code:List MI}(h:Bs w u s p (Ai v F cs G ts (Ca vc code::D))):(∃a c,vc=.slice a code.length c)/\u.ownsRow w.heap.size 97 4 vc code.length (code.flatMap MI.cells):=⟨A9 (h.sep.own (Ca vc code) (by simp[Ai])),h.sep.own (Ca vc code) (by simp[Ai])⟩
end
theorem CI.chg{R:Nat->Prop}{w w':World}{base:Nat}{L:List As}(h:CI w base L)(hc:DX R w w')(hn:∀j,base<=j->¬R j):CI w' base L:=⟨fun r hr=>hc.own (h.own r hr) (fun b hb=>hn b ((h.own r hr).lt b hb).1),h.sep⟩
def Cv(c:MC):Prop:=DZ c.type=true/\(c.type=1->c.word<=1)
def AP(cs:List MC):Prop:=cs.length<=64/\∀j,j<cs.length->∀c,cs[j]?=some c->Cv c
theorem CC{α:Type}{q:α->Prop}{xs:List α}{k:Nat}{x:α}(h1:xs[k]?=some x)(hx:q x)(h:∀j,j<k->∀c,xs[j]?=some c->q c):∀j,j<k+1->∀c,xs[j]?=some c->q c:=by
 intro j hj c hc;by_cases e:j=k
 . subst e
   rw[h1]at hc;exact(aZ hc)▸hx
 . exact h j (by omega) c hc
theorem LJ (v:VP)(p:MP)(w:World)(hs:p.small)(h:Ej w v p):
 Calls Tryz.prog 93 #[.agg #[v.r,v.k,v.f,v.t]] w fun e w'=>Am e (AP p.consts)/\Below w.heap.size w w':=by
 have H1:Hid (Rd w 2 v.k p.consts.length (p.consts.flatMap MC.cells)):=h.consts;have hn:=hs.consts;obtain⟨vr,vk,vf,vt⟩:=v;obtain⟨a1,c1,e1⟩:∃a c,vk=.slice a p.consts.length c:=h.consts.is_slice;subst e1;clear h hs;have HW:Hid (Below w.heap.size w (w.alloc (.cells #[vr,.slice a1 p.consts.length c1,vf,vt] 28))/\DE (w.alloc (.cells #[vr,.slice a1 p.consts.length c1,vf,vt] 28)) w.heap.size vr (.slice a1 p.consts.length c1) vf vt):=⟨Aa _ _,DE.new _ _ _ _ _ _⟩
 generalize hcs:p.consts=cs at*;clear hcs;generalize hLL:cs.length=n at hn H1 HW;have HL:Hid (cs.length=n):=hLL;clear hLL;go_enter Tryz.func93,Tryz.ntmps93;go_wp2
 go_loopw [3] (fun i wr=>∃k:Nat,k<=n/\i=.int .i64 k/\Hid (∀j,j<k->∀c,cs[j]?=some c->Cv c)/\Hid (Below w.heap.size w wr/\DE wr w.heap.size vr (.slice a1 n c1) vf vt)) (fun i _=>n-(intOf i).toNat)
 case atStart=>exact⟨0,by omega,rfl,fun j hj=>by omega,HW⟩
 case round =>
  clear HW;obtain⟨k,hk,rfl,HT,HW⟩:=hrel;obtain⟨p0,p1,p2,p3⟩:=HW.o.2;by_cases hlt:k<n
  . obtain ⟨x,hx⟩:∃x,cs[k]?=some x:=⟨_,aA (by rw[HL.o];exact hlt)⟩
    rcases H1.o.2 with⟨e0,_⟩|⟨b,o,c,e1,hc1⟩
    . omega
    . simp only[aI,ao]at e1
      obtain⟨rfl,rfl⟩:=e1;have i0:=Rd.elem MC.cells_length hc1 k x hx 0 _ rfl;have i1:=Rd.elem MC.cells_length hc1 k x hx 1 _ rfl;rw[<-HW.o.1.cell (aD i0),aT]at i0;rw[<-HW.o.1.cell (aD i1)]at i1;have HX:Hid (cs[k]?=some x):=hx;clear hc1 hx;have nb:¬b=wr.heap.size:=bC (aD i0);have mb:b<wr.heap.size:=aD i0;have HW2:Hid (Below w.heap.size w (wr.alloc (.cells #[.int .i64 x.type,.int .u32 x.word] 53))/\DE (wr.alloc (.cells #[.int .i64 x.type,.int .u32 x.word] 53)) w.heap.size vr (.slice (some ⟨b,o,none⟩) n c1) vf vt):=⟨Ab HW.o.1 lR (Aa _ _),HW.o.2.alloc _⟩
      go_wp2_with fail
      refine(DQ x.type _).mono ?_;rintro e u ⟨rfl,rfl⟩;clear i0 i1 nb mb p0 p1 p2 p3;cases t1:DZ x.type
      . have HN:Hid (¬AP cs):=fun e=>by have:=(e.2 k (by rw[HL.o];exact hlt) x HX.o).1;simp[t1]at this
        clear t1;go_wp2
        go_ret
        exact⟨.no HN.o,HW2.o.1⟩
      . have HT1:Hid (DZ x.type=true):=t1
        clear t1;by_cases q1:x.type=1
        . rw[q1]at HW2
          by_cases q2:1<x.word
          . have HN:Hid (¬AP cs):=fun e=>by have:=(e.2 k (by rw[HL.o];exact hlt) x HX.o).2 q1;omega
            go_wp2
            go_ret
            exact⟨.no HN.o,HW2.o.1⟩
          . have HC:Hid (Cv x):=⟨HT1.o,fun _=>by omega⟩
            go_wp2
            go_roundw
            case rel=>exact⟨k+1,by omega,by go_num,CC HX.o HC.o HT.o,HW2⟩
            case measure=>simp[intOf];omega
        . have q1':(x.type==1)=false:=by simpa using q1
          have HC:Hid (Cv x):=⟨HT1.o,fun e=>absurd e q1⟩;go_wp2
          go_roundw
          case rel=>exact⟨k+1,by omega,by go_num,CC HX.o HC.o HT.o,HW2⟩
          case measure=>simp[intOf];omega
  . have hkn:n=k:=by omega
    subst hkn
    have HY:Hid (decide ((n:Int)<=64)=true↔AP cs):=by
     show _↔_;rw[dE];exact⟨fun e=>⟨by rw[HL.o];omega,by rw[HL.o];exact HT.o⟩,fun e=>by have:=e.1;rw[HL.o]at this;omega⟩
    go_wp2
    go_ret
    exact⟨.of HY.o,HW.o.1⟩
end Go.Proofs.YtjcamlobelcepaaGreatDoor
