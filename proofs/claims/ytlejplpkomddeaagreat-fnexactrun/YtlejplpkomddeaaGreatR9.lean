import Derived.Test.YtlejplpkomddeaaGreatR8
import Derived.Test.YtlejplpkomddeaaGreatR0
namespace Go.Proofs.YtlejplpkomddeaaGreat
open Go.ChangeShapes Go.WideShapes Go.ChangeAt Go.RowKit
set_option linter.unusedVariables false
set_option maxHeartbeats 4000000
set_option maxRecDepth 100000
theorem Bn{w w':World}{base:Nat}{e:TypeId}{s:Value}{k n:Nat}{xs:List Value}{row:Option Nat}(h:w.ownsRow base e k s n xs)(hg:w.grownBy w' row)(hne:∀g,s.ownBlock=some g->some g≠row):w'.ownsRow base e k s n xs:=by
 refine⟨h.1,?_⟩;rcases h.2 with h|⟨g,cap,cur,rfl,hb1,hgg,hr⟩
 ·exact .inl h
 ·refine .inr ⟨g,cap,cur,rfl,hb1,?_,hr⟩
  rw[hg.block g (Array.getElem?_eq_some_iff.1 hgg).1 (hne g rfl)];exact hgg
def Es(x y:Value×List MC):Prop:=∀g,x.1.ownBlock=some g->y.1.ownBlock≠some g
theorem Es.symm{x y:Value×List MC}(h:Es x y):Es y x:=fun g hg e=>h g e hg
structure Df(w:World)(base:Nat)(L:List (Value×List MC)):Prop where
 own:∀x∈L,w.ownsRow base 128 2 x.1 x.2.length (x.2.flatMap MC.cells)
 sep:L.Pairwise Es
structure Wv(base:Nat)(w w':World):Prop where
 bel:Below base w w'
 blk:∀(k:Nat) (cur:Array Value) (t:TypeId),w.heap[k]?=some (Obj.cells cur t (0,0))->t≠128->w'.heap[k]?=some (Obj.cells cur t (0,0))
theorem Wv.refl(base:Nat)(w:World):Wv base w w:=⟨Below.refl _ _,fun _ _ _ h _=>h⟩
theorem Wv.trans{base:Nat}{u v w:World}(h:Wv base u v)(h':Wv base v w):Wv base u w:=⟨h.bel.trans h'.bel,fun k cur t hk h1=>h'.blk k cur t (h.blk k cur t hk h1) h1⟩
theorem Wv.of_row{base n:Nat}{w w':World}{s:Value}{xs:List Value}(ho:w.ownsRow base 128 2 s n xs)(hg:w.grownBy w' s.ownBlock)(hB:base<=w.heap.size):Wv base w w':=by
 refine⟨⟨hg.os,hg.tape,hg.output,hg.size,fun k hk=>hg.block k (by omega) (fun e=>by have:=(ho.lt k e.symm).1;omega)⟩,fun k cur t hk h1=> ?_⟩;rw[hg.block k (Array.getElem?_eq_some_iff.1 hk).1 ?_]
 ·exact hk
 ·intro e
  rcases ho.2 with⟨rfl,_⟩|⟨g',cap',cur',rfl,_,hg',_⟩
  ·cases e
  ·simp only[Value.ownBlock,Option.some.injEq]at e
   subst e;rw[hk]at hg';simp only[Option.some.injEq,Obj.cells.injEq]at hg';exact h1 hg'.2.1
theorem Wv.own{base b:Nat}{w w':World}(h:Wv base w w'){e:TypeId}{s:Value}{k n:Nat}{xs:List Value}(ho:w.ownsRow b e k s n xs)(h1:e≠128):w'.ownsRow b e k s n xs:=by
 refine⟨ho.1,?_⟩;rcases ho.2 with h'|⟨g,cap,cur,e1,hb1,hg,hr⟩
 ·exact .inl h'
 ·exact .inr ⟨g,cap,cur,e1,hb1,h.blk g cur e hg h1,hr⟩
theorem Df.put{w w':World}{base:Nat}{A B:List (Value×List MC)}{v:Value}{c c':List MC}(h:Df w base (A++(v,c)::B))(hl:c'.length=c.length)(ho:w'.ownsRow base 128 2 v c.length (c'.flatMap MC.cells))(hg:w.grownBy w' v.ownBlock):Df w' base (A++(v,c')::B):=by
 obtain⟨pA,pB,pAB⟩:=List.pairwise_append.1 h.sep;obtain⟨pv,pB'⟩:=List.pairwise_cons.1 pB;refine⟨fun x hx=> ?_,List.pairwise_append.2 ⟨pA,List.pairwise_cons.2 ⟨fun y hy=>pv y hy,pB'⟩,fun a ha b hb=> ?_⟩⟩
 ·rcases List.mem_append.1 hx with hx|hx
  ·exact Bn (h.own x (List.mem_append.2 (.inl hx))) hg (fun g hgx e=>pAB x hx (v,c) (by simp) g hgx e.symm)
  ·rcases List.mem_cons.1 hx with rfl|hx
   ·simp only[]
    rw[hl];exact ho
   ·exact Bn (h.own x (List.mem_append.2 (.inr (List.mem_cons_of_mem _ hx)))) hg (fun g hgx e=>pv x hx g e.symm hgx)
 ·rcases List.mem_cons.1 hb with rfl|hb
  ·exact fun g hga=>pAB a ha (v,c) (by simp) g hga
  ·exact pAB a ha b (List.mem_cons_of_mem _ hb)
def AU:Int->List (Value×List MC)->List (Value×List MC)
 |_,[]=>[]
 |k,(v,c)::r=>(v,Bg k c.length)::AU (k+2*(c.length:Int)) r
def CB:Int->List (Value×List MC)->Int
 |k,[]=>k
 |k,(_,c)::r=>CB (k+2*(c.length:Int)) r
theorem Fj(k:Int)(L:List (Value×List MC)):(AU k L).length=L.length:=by
 induction L generalizing k with
 |nil=>rfl
 |cons x r ih=>simp[AU,ih]
theorem Ja(k:Int)(L:List (Value×List MC))(x:Value×List MC):CB k (L++[x])=CB k L+2*(x.2.length:Int):=by
 induction L generalizing k with
 |nil=>rfl
 |cons y r ih=>simp only[List.cons_append,CB];exact ih _
theorem FZ(k:Int)(L:List (Value×List MC))(x:Value×List MC):AU k (L++[x])=AU k L++[(x.1,Bg (CB k L) x.2.length)]:=by
 induction L generalizing k with
 |nil=>rfl
 |cons y r ih=>simp only[List.cons_append,AU,CB];rw[ih]
theorem Jz(k:Int)(L M:List (Value×List MC)):AU k (L++M)=AU k L++AU (CB k L) M:=by
 induction L generalizing k with
 |nil=>rfl
 |cons y r ih=>simp only[List.cons_append,AU,CB];rw[ih]
theorem GB(k:Int)(L:List (Value×List MC))(h:∀x∈L,x.2.length<=1048576):k<=CB k L/\CB k L<=k+2097152*(L.length:Int):=by
 induction L generalizing k with
 |nil=>simp[CB]
 |cons x r ih=>
  have h1:=h x (by simp);have h2:=ih (k+2*(x.2.length:Int)) (fun y hy=>h y (by simp[hy]));simp only[CB,List.length_cons];omega
theorem Cs(s:Value)(cs:List MC)(w:World)(hn:cs.length<=1048576)(h:Rd w 2 s cs.length (cs.flatMap MC.cells)):
 Calls Tryz.prog 71 #[s] w fun e w'=>∃a c,e=.returned (.slice a cs.length c)/\w'.ownsRow w.heap.size 128 2 (.slice a cs.length c) cs.length (cs.flatMap MC.cells)/\Below w.heap.size w w':=by
 obtain⟨i0,hi,hz0,hz1,hz2⟩:=info_parts DJ;have HB:Hid (Below w.heap.size w (w.alloc (.cells #[] 128))):=Aa _ _;have HO:Hid ((w.alloc (.cells #[] 128)).ownsRow w.heap.size 128 2 (.slice (some ⟨w.heap.size,0,none⟩) 0 0) 0 []):=⟨rfl,.inr ⟨w.heap.size,0,#[],rfl,Nat.le_refl _,heap_alloc_new _ _,Nat.le_refl _,Nat.zero_le _,rfl,by simp⟩⟩;obtain⟨a1,c1,rfl⟩:=h.is_slice;cases a1 with
 | none=>
  have hz:cs=[]:=by
   rcases h.2 with⟨e0,_⟩|⟨g,o,c,e1,_⟩
   ·exact List.eq_nil_of_length_eq_zero e0
   ·cases e1
  subst hz;clear h;go_enter Tryz.func71,Tryz.ntmps71;go_wp2
  go_ret
  exact⟨_,_,rfl,HO.out,HB.out⟩
 | some ad=>
  have HN:Hid (∀j u,(cs.flatMap MC.cells)[j]?=some u->(w.alloc (.cells #[] 128)).cell? (ad.add j)=some u):=fun j u hj=>by
   rcases h.2 with⟨e0,_⟩|⟨g,o,c,e1,hc⟩
   ·obtain rfl:=List.eq_nil_of_length_eq_zero e0
    simp at hj
   ·simp only[sJ,Option.some.injEq]at e1
    obtain⟨rfl,_,_⟩:=e1;have:=hc j u hj;rw[CW,HB.out.cell (bL this)];exact this
  have hl:(cs.flatMap MC.cells).length=cs.length*2:=Az MC.cells 2 MC.cells_length cs
  have h1:∀u∈cs.flatMap MC.cells,u.oneCell'=true:=fun u hu=>by
   obtain⟨x,_,hx⟩:=List.mem_flatMap.1 hu;exact Be x u hx
  have HL:=h2 hl h1;clear h hl h1;generalize hC:cs.flatMap MC.cells=xs at HN HL⊢;generalize hM:cs.length=m at hn HL⊢;clear hC hM;go_enter Tryz.func71,Tryz.ntmps71;go_wp2_with (at_builtin;refine wpList_append_own _ rfl _ _ 36 rfl w.heap.size 128 i0 (.agg #[.int .i64 0,.int .u32 0]) 2 16 Tryz.underlying36 hi hz0 hz1 hz2 rfl (by decide) _ 0 [] rfl HO.out ad m c1 xs rfl ?c1 ?c2 ?c3 ?c4 ?c5 ?c6 ?_)
  case c1=>exact HL.out.1
  case c2=>exact HN.out
  case c3=>exact HL.out.2
  case c4=>unfold maxLen;omega
  case c5=>omega
  case c6=>exact HB.out.size
  intro v' w' hown' hgrow' hnil';obtain⟨a2,c2,rfl⟩:=(Rd.of_own hown').is_slice;have HE:Hid (w'.ownsRow w.heap.size 128 2 (.slice a2 m c2) m xs/\Below w.heap.size w w'):=⟨hown',HB.out.grown hgrow' HB.out.size (fun j hj=>(HO.out.lt j hj).1)⟩
  clear hown' hgrow' hnil';go_wp2
  go_ret
  exact⟨_,_,rfl,HE.out.1,HE.out.2⟩
def CU(x:Value×List MC):List Value:=[x.1]
theorem EY(x:Value×List MC):(CU x).length=1:=rfl
theorem FC(k:Int)(L:List (Value×List MC)):(AU k L).flatMap CU=L.flatMap CU:=by
 induction L generalizing k with
 |nil=>rfl
 |cons x r ih=>simp[AU,CU,ih]
theorem Ho(base:Nat)(s:Value)(A L B:List (Value×List MC))(k0:Int)(w:World)(hB:base<=w.heap.size)(hn:L.length<=1048576)(hr:∀x∈L,x.2.length<=1048576)(h0:0<=k0)(h1:k0<=281474976710656)(h:w.ownsRow base 36 1 s L.length (L.flatMap CU))(hf:Df w base (A++L++B)):
 Calls Tryz.prog 56 #[s,.int .i64 k0] w fun e w'=>e=.returned (.int .i64 (CB k0 L))/\Df w' base (A++AU k0 L++B)/\Wv base w w':=by
 have H:Hid (w.ownsRow base 36 1 s L.length (L.flatMap CU)/\(∀x∈L,x.2.length<=1048576)):=⟨h,hr⟩
 have HF0:Hid (Df w base (A++L++B)):=hf;obtain⟨a1,c1,rfl⟩:=Al h;clear h hr hf;generalize hLL:L.length=n at hn H;have HL:Hid (L.length=n):=hLL;clear hLL;go_enter Tryz.func56,Tryz.ntmps56;go_wp2
 go_loopw [1,5] (fun q i wr=>∃D E:List (Value×List MC),Hid (L=D++E)/\D.length<=n/\q=.int .i64 (CB k0 D)/\i=.int .i64 (D.length:Nat)/\Hid (Df wr base (A++AU k0 D++(E++B))/\Wv base w wr)) (fun _ i _=>n-(intOf i).toNat)
 case atStart=>exact⟨[],L,rfl,by simp,rfl,rfl,⟨by simpa[AU]using HF0.out,Wv.refl _ _⟩⟩
 case round=>
  obtain⟨D,E,HD,hk,rfl,rfl,HM⟩:=hrel;have hlen:D.length+E.length=n:=by have:=HL.out;rw[HD.out,List.length_append]at this;exact this
  have hend:=GB k0 D (fun x hx=>H.out.2 x (by rw[HD.out];simp[hx]));cases E with
  | cons x E'=>
   obtain⟨v,c⟩:=x;have hx:L[D.length]?=some (v,c):=by rw[HD.out];simp
   have hlt:D.length<n:=by simp only[List.length_cons]at hlen;omega
   have hcl:c.length<=1048576:=H.out.2 (v,c) (mG hx);have hrow:=HM.out.2.own H.out.1 (by decide);have hov:=HM.out.1.own (v,c) (by simp);simp only[]at hov;rcases(Rd.of_own hrow).2 with⟨e0,_⟩|⟨g,o,cc,e1,hc1⟩
   ·omega
   simp only[sJ,true_and]at e1;obtain⟨rfl,rfl⟩:=e1;have j0:=Rd.elem EY hc1 D.length _ hx 0 _ rfl;rw[Nat.mul_one,Nat.add_zero]at j0;simp only[]at j0;have HO:Hid (wr.ownsRow base 128 2 v c.length (c.flatMap MC.cells)):=hov;clear hrow hc1 hx hov;have hdl:(D.length:Int)<(n:Int):=by omega
   go_wp2_with fail
   refine(EL base v c (CB k0 D) _ hcl (by omega) (by omega) HO.out).mono ?_;rintro e u ⟨rfl,ho',hg⟩
   have HN:Hid (Df u base (A++AU k0 (D++[(v,c)])++(E'++B))/\Wv base w u):=by
    refine⟨?_,HM.out.2.trans (Wv.of_row HO.out hg (Nat.le_trans hB HM.out.2.bel.size))⟩;have hf:=HM.out.1;rw[List.cons_append]at hf;have:=Df.put (c':=Bg (CB k0 D) c.length) hf (BU _ _) ho' hg;rw[FZ];simpa[List.append_assoc]using this
   have hes:CB k0 (D++[(v,c)])=CB k0 D+2*(c.length:Int):=Ja k0 D (v,c);clear ho' hg j0;go_wp2
   go_roundw
   case rel=>exact⟨D++[(v,c)],E',by show _=_;rw[HD.out];simp,by simp;omega,by rw[hes],by simp,HN⟩
   case measure=>simp[intOf];omega
  |nil=>
   have hDn:D.length=n:=by simpa using hlen
   have hDL:D=L:=by rw[HD.out];simp
   subst hDL;have HE:Hid (Df wr base (A++AU k0 D++B)/\Wv base w wr):=⟨by simpa using HM.out.1,HM.out.2⟩
   go_wp2
   go_ret
   exact⟨rfl,HE.out.1,HE.out.2⟩
theorem H9(s:Value)(L:List (Value×List MC))(k0:Int)(w:World)(hn:L.length<=1048576)(hr:∀x∈L,x.2.length<=1048576)(h0:0<=k0)(h1:k0<=281474976710656)(h:Rd w 1 s L.length (L.flatMap CU))(hf:∀x∈AU k0 L,Rd w 2 x.1 x.2.length (x.2.flatMap MC.cells)):
 Calls Tryz.prog 59 #[s,.int .i64 k0] w fun e w'=>e=.returned (.int .i64 (CB k0 L))/\w'=w:=by
 have H:=h3 h hr hf;obtain⟨a1,c1,rfl⟩:=h.is_slice;clear h hr hf;generalize hLL:L.length=n at hn H;have HL:Hid (L.length=n):=hLL;clear hLL;go_enter Tryz.func59,Tryz.ntmps59;go_wp2
 go_loopw [1,5] (fun q i wr=>∃D E:List (Value×List MC),Hid (L=D++E)/\D.length<=n/\q=.int .i64 (CB k0 D)/\i=.int .i64 (D.length:Nat)/\wr=w) (fun _ i _=>n-(intOf i).toNat)
 case atStart=>exact⟨[],L,rfl,by simp,rfl,rfl,rfl⟩
 case round=>
  obtain⟨D,E,HD,hk,rfl,rfl,rfl⟩:=hrel;have hlen:D.length+E.length=n:=by have:=HL.out;rw[HD.out,List.length_append]at this;exact this
  have hend:=GB k0 D (fun x hx=>H.out.2.1 x (by rw[HD.out];simp[hx]));cases E with
  | cons x E'=>
   obtain⟨v,c⟩:=x;have hx:L[D.length]?=some (v,c):=by rw[HD.out];simp
   have hlt:D.length<n:=by simp only[List.length_cons]at hlen;omega
   have hcl:c.length<=1048576:=H.out.2.1 (v,c) (mG hx)
   have hmem:(v,Bg (CB k0 D) c.length)∈AU k0 L:=by
    have e2:L=(D++[(v,c)])++E':=by rw[HD.out];simp
    rw[e2,Jz,FZ];simp
   have hov:=H.out.2.2 _ hmem;simp only[BU]at hov;rcases H.out.1.2 with⟨e0,_⟩|⟨g,o,cc,e1,hc1⟩
   ·omega
   simp only[sJ,true_and]at e1;obtain⟨rfl,rfl⟩:=e1;have j0:=Rd.elem EY hc1 D.length _ hx 0 _ rfl;rw[Nat.mul_one,Nat.add_zero]at j0;simp only[]at j0;have HO:=AS hov;clear hc1 hx hov hmem;have hdl:(D.length:Int)<(n:Int):=by omega
   have hes:CB k0 (D++[(v,c)])=CB k0 D+2*(c.length:Int):=Ja k0 D (v,c);have hn0:¬CB k0 D+2*(c.length:Int)<0:=by omega
   go_wp2_with fail
   refine(Ez v c.length (CB k0 D) _ hcl (by omega) (by omega) HO.out).mono ?_;rintro e u ⟨rfl,rfl⟩;clear j0;go_wp2
   go_roundw
   case rel=>exact⟨D++[(v,c)],E',by show _=_;rw[HD.out];simp,by simp;omega,by rw[hes],by simp,by trivial⟩
   case measure=>simp[intOf];omega
  |nil=>
   have hDn:D.length=n:=by simpa using hlen
   have hDL:D=L:=by rw[HD.out];simp
   subst hDL;go_wp2
   go_ret
   exact⟨rfl,rfl⟩
def AL(F:List (MG×Value)):List (Value×List MC):=F.map fun x=>(x.2,x.1.locals)
def Ht(k:Int)(x:MG×Value):MG×Value:=(⟨k,k+1,k+1+1,Bg (k+1+1+1) x.1.locals.length⟩,x.2)
def Je(k:Int)(x:MG×Value):Int:=k+1+1+1+2*(x.1.locals.length:Int)
def A6:Int->List (MG×Value)->List (MG×Value)
 |_,[]=>[]
 |k,x::r=>Ht k x::A6 (Je k x) r
def Dx:Int->List (MG×Value)->Int
 |k,[]=>k
 |k,x::r=>Dx (Je k x) r
theorem I6(k:Int)(L:List (MG×Value))(x:MG×Value):Dx k (L++[x])=Je (Dx k L) x:=by
 induction L generalizing k with
 |nil=>rfl
 |cons y r ih=>simp only[List.cons_append,Dx];exact ih _
theorem Ib(k:Int)(L M:List (MG×Value)):A6 k (L++M)=A6 k L++A6 (Dx k L) M:=by
 induction L generalizing k with
 |nil=>rfl
 |cons y r ih=>simp only[List.cons_append,A6,Dx];rw[ih]
theorem GU(k:Int)(L:List (MG×Value))(x:MG×Value):A6 k (L++[x])=A6 k L++[Ht (Dx k L) x]:=by rw[Ib];rfl
theorem C6(k:Int)(L:List (MG×Value)):(A6 k L).length=L.length:=by
 induction L generalizing k with
 |nil=>rfl
 |cons x r ih=>simp[A6,ih]
theorem Hf(k:Int)(L:List (MG×Value))(h:∀x∈L,x.1.locals.length<=1048576):k<=Dx k L/\Dx k L<=k+2097155*(L.length:Int):=by
 induction L generalizing k with
 |nil=>simp[Dx]
 |cons x r ih=>
  have h1:=h x (by simp);have h2:=ih (Je k x) (fun y hy=>h y (by simp[hy]));simp only[Dx,List.length_cons];unfold Je at h2⊢;omega
theorem AJ{w:World}{base g k n:Nat}{e t:TypeId}{s:Value}{xs:List Value}{cur:Array Value}{fr:Nat×Nat}(h:w.ownsRow base e k s n xs)(hg:w.heap[g]?=some (Obj.cells cur t fr))(hne:e≠t):∀j,s.ownBlock=some j->j≠g:=by
 intro j hj e1;subst e1;rcases h.2 with⟨rfl,_⟩|⟨g',cap',cur',rfl,_,hg',_⟩
 ·cases hj
 ·simp only[Value.ownBlock,Option.some.injEq]at hj
  subst hj;rw[hg]at hg';simp only[Option.some.injEq,Obj.cells.injEq]at hg';exact hne hg'.2.1.symm
theorem Df.set{w:World}{base g:Nat}{L:List (Value×List MC)}(h:Df w base L){cur:Array Value}{t:TypeId}{fr:Nat×Nat}(hg:w.heap[g]?=some (Obj.cells cur t fr))(hne:128≠t)(i:Nat)(x:Value):Df (w.setCell ⟨g,i,none⟩ x) base L:=
 ⟨fun y hy=>ownsRow_setCell_other (h.own y hy) (a:=⟨g,i,none⟩) (fun e=>AJ (h.own y hy) hg hne g e rfl) x,h.sep⟩
structure Wf(base:Nat)(w w':World):Prop where
 bel:Below base w w'
 blk:∀(k:Nat) (cur:Array Value) (t:TypeId),w.heap[k]?=some (Obj.cells cur t (0,0))->t≠128->t≠123->w'.heap[k]?=some (Obj.cells cur t (0,0))
theorem Wf.refl(base:Nat)(w:World):Wf base w w:=⟨Below.refl _ _,fun _ _ _ h _ _=>h⟩
theorem Wf.trans{base:Nat}{u v w:World}(h:Wf base u v)(h':Wf base v w):Wf base u w:=⟨h.bel.trans h'.bel,fun k cur t hk h1 h2=>h'.blk k cur t (h.blk k cur t hk h1 h2) h1 h2⟩
theorem Wv.wf{base:Nat}{w w':World}(h:Wv base w w'):Wf base w w':=⟨h.bel,fun k cur t hk h1 _=>h.blk k cur t hk h1⟩
theorem Wf.of_set{base g:Nat}{w:World}{cur:Array Value}(hg:w.heap[g]?=some (Obj.cells cur 123 (0,0)))(hb:base<=g)(i:Nat)(x:Value):Wf base w (w.setCell ⟨g,i,none⟩ x):=by
 refine⟨(Below.refl _ _).setCell hb _,fun k c t hk h1 h2=> ?_⟩;rw[heap_setCell_other w _ k x ?_]
 ·exact hk
 ·intro e
  simp only[]at e;subst e;rw[hk]at hg;simp only[Option.some.injEq,Obj.cells.injEq]at hg;exact h2 hg.2.1
theorem Bq{w:World}{base g k n c:Nat}{e:TypeId}{xs:List Value}(h:w.ownsRow base e k (.slice (some ⟨g,0,none⟩) n c) n xs):base<=g/\∃cur,w.heap[g]?=some (Obj.cells cur e (0,0)):=by
 rcases h.2 with⟨h',_⟩|⟨g',cap',cur,h',hb,hg,_⟩
 ·cases h'
 ·cases h'
  exact⟨hb,cur,hg⟩
theorem Qv(A R:List Value)(z0 z1 z2 z3 c0 c1 c2:Value)(i:Nat)(h:A.length=i):(((A++([z0,z1,z2,z3]++R)).set i c0).set (i+1) c1).set (i+2) c2=A++([c0,c1,c2,z3]++R):=by
 subst h;simp[List.set_append_right]
theorem Iz(base:Nat)(s:Value)(A B:List (Value×List MC))(F:List (MG×Value))(k0:Int)(w:World)(hB:base<=w.heap.size)(hn:F.length<=1048576)(hr:∀x∈F,x.1.locals.length<=1048576)(h0:0<=k0)(h1:k0<=281474976710656)(h:w.ownsRow base 123 4 s F.length (F.flatMap AA))(hf:Df w base (A++AL F++B)):
 Calls Tryz.prog 58 #[s,.int .i64 k0] w fun e w'=>e=.returned (.int .i64 (Dx k0 F))/\w'.ownsRow base 123 4 s F.length ((A6 k0 F).flatMap AA)/\Df w' base (A++AL (A6 k0 F)++B)/\Wf base w w':=by
 have H:Hid (w.ownsRow base 123 4 s F.length (F.flatMap AA)/\(∀x∈F,x.1.locals.length<=1048576)):=⟨h,hr⟩
 have HF0:Hid (Df w base (A++AL F++B)):=hf;clear hr hf;rcases At h with⟨rfl,hz⟩|⟨g,c,rfl⟩
 ·obtain rfl:F=[]:=List.eq_nil_of_length_eq_zero hz
  clear h;go_enter Tryz.func58,Tryz.ntmps58;go_wp2
  go_loopw [1,5] (fun q i wr=>q=.int .i64 k0/\i=.int .i64 0/\wr=w) (fun _ _ _=>0)
  case atStart=>exact⟨rfl,rfl,rfl⟩
  case round=>
   obtain⟨rfl,rfl,rfl⟩:=hrel;go_wp2
   go_ret
   exact⟨rfl,H.out.1,HF0.out,Wf.refl _ _⟩
 ·clear h
  generalize hLL:F.length=n at hn H⊢;have HL:Hid (F.length=n):=hLL;clear hLL;go_enter Tryz.func58,Tryz.ntmps58;go_wp2
  go_loopw [1,5] (fun q i wr=>∃D E:List (MG×Value),Hid (F=D++E)/\D.length<=n/\q=.int .i64 (Dx k0 D)/\i=.int .i64 (D.length:Nat)/\Hid (wr.ownsRow base 123 4 (.slice (some ⟨g,0,none⟩) n c) n ((A6 k0 D++E).flatMap AA)/\Df wr base (A++AL (A6 k0 D)++(AL E++B))/\Wf base w wr)) (fun _ i _=>n-(intOf i).toNat)
  case atStart=>exact⟨[],F,rfl,by simp,rfl,rfl,⟨by simpa[A6]using H.out.1,by simpa[A6,AL]using HF0.out,Wf.refl _ _⟩⟩
  case round=>
   obtain⟨D,E,HD,hk,rfl,rfl,HM⟩:=hrel;have hlen:D.length+E.length=n:=by have:=HL.out;rw[HD.out,List.length_append]at this;exact this
   have hend:=Hf k0 D (fun x hx=>H.out.2 x (by rw[HD.out];simp[hx]));generalize hK:Dx k0 D=K at hend⊢;have HK:Hid (Dx k0 D=K):=hK;clear hK;cases E with
   | cons x E'=>
    obtain⟨f,v⟩:=x;have hlt:D.length<n:=by simp only[List.length_cons]at hlen;omega
    have hcl:f.locals.length<=1048576:=H.out.2 (f,v) (by rw[HD.out];simp);have hA:((A6 k0 D).flatMap AA).length=D.length*4:=by rw[Az AA 4 Au,C6]
    have hsp:(A6 k0 D++(f,v)::E').flatMap AA=(A6 k0 D).flatMap AA++([.int .i64 f.func,.int .i64 f.at_,.int .i64 f.base,v]++E'.flatMap AA):=by
     rw[List.flatMap_append,List.flatMap_cons];rfl
    have hrow:=HM.out.1;rw[hsp]at hrow;have d0:=hrow.cellAt (D.length*4) (by omega);have d1:=hrow.cellAt (D.length*4+1) (by omega);have d2:=hrow.cellAt (D.length*4+2) (by omega);have d3:=hrow.cellAt (D.length*4+3) (by omega);rw[List.getElem?_append_right (by omega),hA]at d0 d1 d2 d3;rw[Nat.sub_self]at d0;rw[Nat.add_sub_cancel_left]at d1 d2 d3;simp only[List.cons_append,gZ,gS]at d0 d1 d2 d3;have z0:=hrow.frozenAt (D.length*4);have z1:=hrow.frozenAt (D.length*4+1);have z2:=hrow.frozenAt (D.length*4+2);have hdl:(D.length:Int)<(n:Int):=by omega
    have HS:Hid ((((wr.setCell ⟨g,D.length*4,none⟩ (.int .i64 K)).setCell ⟨g,D.length*4+1,none⟩ (.int .i64 (K+1))).setCell ⟨g,D.length*4+2,none⟩ (.int .i64 (K+1+1))).ownsRow base 123 4 (.slice (some ⟨g,0,none⟩) n c) n ((A6 k0 D).flatMap AA++([.int .i64 K,.int .i64 (K+1),.int .i64 (K+1+1),v]++E'.flatMap AA))/\Df (((wr.setCell ⟨g,D.length*4,none⟩ (.int .i64 K)).setCell ⟨g,D.length*4+1,none⟩ (.int .i64 (K+1))).setCell ⟨g,D.length*4+2,none⟩ (.int .i64 (K+1+1))) base (A++AL (A6 k0 D)++(AL ((f,v)::E')++B))/\Wf base w (((wr.setCell ⟨g,D.length*4,none⟩ (.int .i64 K)).setCell ⟨g,D.length*4+1,none⟩ (.int .i64 (K+1))).setCell ⟨g,D.length*4+2,none⟩ (.int .i64 (K+1+1)))):=by
     have r1:=(hrow.stored (D.length*4) (.int .i64 K)).1;have r2:=(r1.stored (D.length*4+1) (.int .i64 (K+1))).1;have r3:=(r2.stored (D.length*4+2) (.int .i64 (K+1+1))).1;obtain⟨b0,cur0,g0⟩:=Bq hrow;obtain⟨_,cur1,g1⟩:=Bq r1;obtain⟨_,cur2,g2⟩:=Bq r2;refine⟨?_,((HM.out.2.1.set g0 (by decide) _ _).set g1 (by decide) _ _).set g2 (by decide) _ _,((HM.out.2.2.trans (Wf.of_set g0 b0 _ _)).trans (Wf.of_set g1 b0 _ _)).trans (Wf.of_set g2 b0 _ _)⟩;rw[Qv _ _ _ _ _ _ _ _ _ _ hA]at r3;exact r3
    have hov:=HS.out.2.1.own (v,f.locals) (by simp[AL]);simp only[]at hov;obtain⟨av,cv,ev⟩:=Al hov;subst ev;have HO:Hid _:=hov;clear hrow hov hsp hA;go_wp2_with fail
    refine(EL base (.slice av f.locals.length cv) f.locals (K+1+1+1) _ hcl (by omega) (by omega) HO.out).mono ?_;rintro e u ⟨rfl,ho',hg⟩
    have HN:Hid (u.ownsRow base 123 4 (.slice (some ⟨g,0,none⟩) n c) n ((A6 k0 (D++[(f,.slice av f.locals.length cv)])++E').flatMap AA)/\Df u base (A++AL (A6 k0 (D++[(f,.slice av f.locals.length cv)]))++(AL E'++B))/\Wf base w u):=by
     have hwv:=Wv.of_row HO.out hg (Nat.le_trans hB HS.out.2.2.bel.size);refine⟨?_,?_,HS.out.2.2.trans hwv.wf⟩
     ·have:=hwv.own HS.out.1 (by decide)
      rw[GU,HK.out,List.append_assoc,List.flatMap_append];exact this
     ·have hff:=HS.out.2.1
      rw[show AL ((f,Value.slice av f.locals.length cv)::E')=(Value.slice av f.locals.length cv,f.locals)::AL E' from rfl,List.cons_append]at hff;have:=Df.put (c':=Bg (K+1+1+1) f.locals.length) hff (BU _ _) ho' hg;rw[GU,HK.out];simpa[AL,Ht,List.append_assoc]using this
    have hes:Dx k0 (D++[(f,.slice av f.locals.length cv)])=K+1+1+1+2*(f.locals.length:Int):=by rw[I6,HK.out];rfl
    clear ho' hg d0 d1 d2 d3 z0 z1 z2;go_wp2
    go_roundw
    case rel=>exact⟨D++[(f,.slice av f.locals.length cv)],E',by show _=_;rw[HD.out];simp,by simp;omega,by rw[hes],by simp,HN⟩
    case measure=>simp[intOf];omega
   |nil=>
    have hDn:D.length=n:=by simpa using hlen
    have hDL:D=F:=by rw[HD.out];simp
    subst hDL;have HE:Hid (wr.ownsRow base 123 4 (.slice (some ⟨g,0,none⟩) n c) n ((A6 k0 D).flatMap AA)/\Df wr base (A++AL (A6 k0 D)++B)/\Wf base w wr):=⟨by simpa using HM.out.1,by simpa[AL]using HM.out.2.1,HM.out.2.2⟩
    have hKe:=HK.out;go_wp2
    go_ret
    exact⟨by simp[hKe],HE.out.1,HE.out.2.1,HE.out.2.2⟩
end Go.Proofs.YtlejplpkomddeaaGreat
