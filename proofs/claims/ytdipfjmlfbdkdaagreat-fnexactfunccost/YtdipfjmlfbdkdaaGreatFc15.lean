import Derived.Test.YtdipfjmlfbdkdaaGreatFc13
namespace Go.Proofs.YtdipfjmlfbdkdaaGreat
open Go.ChangeShapes Go.WideShapes Go.ChangeAt Go.RowKit
set_option linter.unusedVariables false
set_option maxHeartbeats 8000000
set_option maxRecDepth 100000
theorem CZ(s:Value)(xs:List Int)(v:Int)(w:World)(hn:xs.length<=1048576)(h:Rd w 1 s xs.length (xs.flatMap Ac)):
 Calls Tryz.prog 49 #[s,.int .i64 v] w fun e w'=>Aj e (v∈xs)/\w'=w:=by
 have H1:Hid (Rd w 1 s xs.length (xs.flatMap Ac)):=h;obtain⟨a1,c1,rfl⟩:=h.is_slice;clear h;generalize hLL:xs.length=n at hn H1⊢;have HL:Hid (xs.length=n):=hLL;clear hLL;go_enter Tryz.func49,Tryz.ntmps49;go_wp2
 go_loopw [5] (fun i wr=>∃k:Nat,k<=n/\i=.int .i64 k/\Hid (∀j,j<k->¬xs[j]?=some v)/\wr=w) (fun i _=>n-(intOf i).toNat)
 case atStart=>exact⟨0,by omega,rfl,fun j hj=>by omega,rfl⟩
 case round=>
  obtain⟨k,hk,rfl,HT,rfl⟩:=hrel;by_cases hlt:k<n
  . obtain⟨x,hx⟩:∃x,xs[k]?=some x:=⟨_,aA (by rw[HL.o];exact hlt)⟩
    rcases H1.o.2 with⟨e0,_⟩|⟨g,o,c,e1,hc1⟩
    . omega
    simp only[aF,aw]at e1;obtain⟨rfl,rfl⟩:=e1;have i0:=Rd.elem Ap hc1 k x hx 0 _ rfl;rw[bf,aS]at i0;have HX:Hid (xs[k]?=some x):=hx;clear hc1 hx;by_cases hxy:x=v
    . subst hxy
      go_wp2
      go_ret
      exact⟨.yes (aE HX.o),rfl⟩
    . go_wp2
      go_roundw
      case rel=>
       refine⟨k+1,by omega,by go_num,fun j hj=> ?_,trivial⟩;by_cases e:j=k
       . subst e
         rw[HX.o];exact fun e=>hxy (ae e)
       . exact HT.o j (by omega)
      case measure=>simp[intOf];omega
  . have hkn:k=n:=by omega
    subst hkn;go_wp2
    go_ret
    refine⟨.no fun hm=> ?_,rfl⟩;obtain⟨j,hj⟩:=bH hm;exact HT.o j (by have:=(aD.1 hj).1;rw[HL.o]at this;exact this) hj
def Qx(ts:List MT)(fi hd n:Int):Prop:=(n=-1/\Bh ts fi hd=none)\/∃(k:Nat) (c:MT),n=(k:Int)/\ts[k]?=some c/\Bh ts fi hd=some c
theorem Iu(v:VP)(p:MP)(fi hd:Int)(w:World)(hs:p.small)(h:Dg w v p):
 Calls Tryz.prog 22 #[.agg #[v.r,v.k,v.f,v.t],.int .i64 fi,.int .i64 hd] w fun e w'=>(∃n,e=.returned (.int .i64 n)/\Qx p.certs fi hd n)/\Below w.heap.size w w':=by
 obtain⟨vr,vk,vf,vt⟩:=v;have H1:Hid (Rd w 4 vt p.certs.length (p.certs.flatMap MT.cells)):=h.certs;have hn:=hs.certs;obtain⟨a1,c1,e1⟩:∃a c,vt=.slice a p.certs.length c:=h.certs.is_slice;subst e1;clear h hs;have HW:Hid (Below w.heap.size w (w.alloc (.cells #[vr,vk,vf,.slice a1 p.certs.length c1] 35))/\Cd (w.alloc (.cells #[vr,vk,vf,.slice a1 p.certs.length c1] 35)) w.heap.size vr vk vf (.slice a1 p.certs.length c1)):=⟨Aa _ _,Cd.new _ _ _ _ _ _⟩
 generalize hcs:p.certs.length=n at hn H1 HW⊢;have HL:Hid (p.certs.length=n):=hcs;clear hcs;go_enter Tryz.func22,Tryz.ntmps22;go_wp2
 go_loopw [7] (fun i wr=>∃k:Nat,k<=n/\i=.int .i64 k/\Hid (∀j c,j<k->p.certs[j]?=some c->¬(c.func=fi/\c.head=hd))/\Hid (Below w.heap.size w wr/\Cd wr w.heap.size vr vk vf (.slice a1 n c1))) (fun i _=>n-(intOf i).toNat)
 case atStart=>exact⟨0,by omega,rfl,fun j c hj=>by omega,HW⟩
 case round=>
  clear HW;obtain⟨k,hk,rfl,HT,HW⟩:=hrel;obtain⟨p0,p1,p2,p3⟩:=HW.o.2;by_cases hlt:k<n
  . obtain⟨x,hx⟩:∃x,p.certs[k]?=some x:=⟨_,aA (by rw[HL.o];exact hlt)⟩
    rcases H1.o.2 with⟨e0,_⟩|⟨b,o,c,e1,hc1⟩
    . omega
    simp only[aF,aw]at e1;obtain⟨rfl,rfl⟩:=e1;have i0:=Rd.elem MT.cells_length hc1 k x hx 0 _ rfl;have i1:=Rd.elem MT.cells_length hc1 k x hx 1 _ rfl;rw[<-HW.o.1.cell (aC i0),aS]at i0;rw[<-HW.o.1.cell (aC i1)]at i1;have HX:Hid (p.certs[k]?=some x):=hx;clear hc1 hx;by_cases q:x.func=fi/\x.head=hd
    . obtain⟨q1,q2⟩:=q
      have HC:Hid (Bh p.certs fi hd=some x):=GT HX.o ⟨q1,q2⟩ fun j c hj hc=>HT.o j c hj hc
      rw[q1]at i0;rw[q2]at i1;clear q1 q2;go_wp2
      go_ret
      exact⟨⟨_,rfl,.inr ⟨k,x,rfl,HX.o,HC.o⟩⟩,HW.o.1⟩
    . have HT':Hid (∀j c,j<k+1->p.certs[j]?=some c->¬(c.func=fi/\c.head=hd)):=fun j c hj hc=>by
       by_cases e:j=k
       . subst e
         rw[HX.o]at hc;cases hc
         exact q
       . exact HT.o j c (by omega) hc
      by_cases q1:x.func=fi
      . have q2:¬x.head=hd:=fun e=>q ⟨q1,e⟩
        clear q;go_wp2
        go_roundw
        case rel=>exact⟨k+1,by omega,by go_num,HT'.o,HW.o⟩
        case measure=>simp[intOf];omega
      . clear q
        go_wp2
        go_roundw
        case rel=>exact⟨k+1,by omega,by go_num,HT'.o,HW.o⟩
        case measure=>simp[intOf];omega
  . have hkn:k=n:=by omega
    subst hkn;go_wp2
    go_ret
    exact⟨⟨_,rfl,.inl ⟨by go_num,GS fun j c hj=>HT.o j c (by have:=(aD.1 hj).1;rw[HL.o]at this;exact this) hj⟩⟩,HW.o.1⟩
theorem Rw(w:World):(zeroValue 201).run Tryz.prog w=.ok (.agg #[]) w:=by kernel_rfl
theorem Kg(b cnt:Nat)(D:DataW Unit)(z:Int)(w:World)(hz:CD z)(h:AU w b cnt D):
 Calls Tryz.prog 103 #[.map (some b),.int .i64 z] w fun e w'=>e=.returned (.bool (Go.Maps.has D (.int .i64 z)))/\Below w.heap.size w w':=by
 have hown:w.ownsMap Tryz.prog 2 (unitElem (H:=Unit)) b cnt D:=h;go_enter Tryz.func103,Tryz.ntmps103;go_wp2_with (at_lookup;refine wpList_lookup_own_unit _ rfl _ _ 174 rfl 2 201 Iw Tryz.underlying174 (Rw _) b cnt D rfl hown _ _ rfl (dt Tryz.underlying2 hz) ?_);go_ret;exact⟨rfl,Aa _ _⟩
theorem OM(b:Nat)(w:World):
 Calls Tryz.prog 102 #[.map (some b),.slice none 0 0] w fun e w'=>e=.returned (.tuple #[])/\w'=w:=by
 go_enter Tryz.func102,Tryz.ntmps102;go_wp2
 go_loopw [8] (fun i wr=>i=.int .i64 0/\wr=w) (fun _ _=>0)
 case atStart=>exact⟨rfl,rfl⟩
 case round=>
  obtain⟨rfl,rfl⟩:=hrel;go_wp2
  go_end0
  exact⟨rfl,rfl⟩
def CK(w:World)(g o n:Nat)(E:Nat->List Nat):Prop:=∀b,b<n->∃a c,w.cell? ⟨g,o+b,none⟩=some (.slice a (E b).length c)/\DR w (.slice a (E b).length c) (E b)
theorem CK.keep{w w':World}{g o n:Nat}{E:Nat->List Nat}(h:CK w g o n E)(hb:Below w.heap.size w w'):CK w' g o n E:=fun b hb'=>by
 obtain⟨a,c,h1,h2⟩:=h b hb';exact⟨a,c,Ad hb h1,h2.keep hb⟩
def Qu(bs be bw bl:Nat):Value:=.func (.func 146) #[] #[.pointer (some ⟨bs,0,none⟩),.pointer (some ⟨be,0,none⟩),.pointer (some ⟨bw,0,none⟩),.pointer (some ⟨bl,0,none⟩)]
structure PO(w u:World)(n bm bs be bw bl:Nat)(EV V:Value)(S O:List Nat):Prop where
 set:∃cnt D,AU u bm cnt D/\cnt+Az S n<=n+1/\∀x:Nat,Go.Maps.has D (.int .i64 (x:Int))=S.contains x
 sb:Ak u bs #[.map (some bm)] 174
 eb:Ak u be #[EV] 22
 wb:Ak u bw #[Qu bs be bw bl] 206
 lb:Ak u bl #[V] 28
 list:DQ u w.heap.size V O
 bel:Below w.heap.size w u
 ge:w.heap.size<=bm/\w.heap.size<=bl
 len:O.length+Az S n<=n
theorem PO.keep{w u u':World}{n bm bs be bw bl:Nat}{EV V:Value}{S O:List Nat}(h:PO w u n bm bs be bw bl EV V S O)(hb:Below u.heap.size u u'):PO w u' n bm bs be bw bl EV V S O:=by
 obtain⟨cnt,D,h1,h2,h3⟩:=h.set;exact⟨⟨cnt,D,h1.keep hb,h2,h3⟩,h.sb.keep hb,h.eb.keep hb,h.wb.keep hb,h.lb.keep hb,h.list.keep hb,Ab h.bel lR hb,h.ge,h.len⟩
theorem Ak.gb{w w':World}{b:Nat}{cur:Array Value}{t:TypeId}{row:Option Nat}(h:Ak w b cur t)(hg:w.grownBy w' row)(hne:some b≠row):Ak w' b cur t:=by
 unfold Ak at*;rw[hg.block b (aQ.1 h).1 hne];exact h
theorem IM{w:World}{b b' cnt:Nat}{D:DataW Unit}{cur:Array Value}{t:TypeId}(h:AU w b cnt D)(hb:Ak w b' cur t):b'≠b:=fun e=>by
 obtain⟨es,clock,h1,_⟩:=h;subst e;unfold Ak at hb;rw[hb]at h1;cases h1
theorem IP{w:World}{base k n b cnt:Nat}{e:TypeId}{v:Value}{xs:List Value}{D:DataW Unit}(h:w.ownsRow base e k v n xs)(hm:AU w b cnt D):some b≠v.ownBlock:=by
 obtain⟨es,clock,hb,_⟩:=hm;intro e1;rcases h.2 with⟨rfl,_⟩|⟨g,cap,cur,rfl,_,hc,_⟩
 . cases e1
 . simp only[Value.ownBlock,aR]at e1
   subst e1;rw[hb]at hc;cases hc
theorem PO.add{w u u':World}{n bm bs be bw bl cnt b:Nat}{EV V:Value}{S O:List Nat}{D:DataW Unit}(h:PO w u n bm bs be bw bl EV V S O)(hs:AU u bm cnt D)(hc:cnt+Az S n<=n+1)(hD:∀x:Nat,Go.Maps.has D (.int .i64 (x:Int))=S.contains x)(hb:b<n)(hbS:b∉S)(hs':AU u' bm (cnt+1) (D.put (.int .i64 (b:Int)) (.agg [])))(hg:u.grownBy u' (some bm)):PO w u' n bm bs be bw bl EV V (b::S) O:=by
 have hu:=C7 S n b hb hbS;have ne:∀{b':Nat} {cur:Array Value} {t:TypeId},Ak u b' cur t->some b'≠some bm:=fun k e=>IM hs k (ae e)
 refine⟨⟨_,_,hs',by omega,fun x=> ?_⟩,h.sb.gb hg (ne h.sb),h.eb.gb hg (ne h.eb),h.wb.gb hg (ne h.wb),h.lb.gb hg (ne h.lb),Cs h.list hg (fun g hgx e=>by rw[e]at hgx;exact IP h.list hs hgx.symm),h.bel.grown hg h.bel.size (fun j hj=>by cases hj;exact h.ge.1),h.ge,by have:=h.len;omega⟩;rw[DJ D (dv hs),hD x];by_cases e:x=b
 . subst e;simp
 . have:¬(x:Int)=(b:Int):=by omega
   simp[e,this]
theorem PO.al{w u:World}{n bm bs be bw bl:Nat}{EV V:Value}{S O:List Nat}(h:PO w u n bm bs be bw bl EV V S O)(o:Obj):(u.alloc o).ownsRow w.heap.size 2 1 V O.length (nv O)/\w.heap.size<=(u.alloc o).heap.size:=⟨h.list.keep (Aa _ _),aY h.bel.size (Aa _ _).size⟩
theorem PO.app{w u u':World}{n bm bs be bw bl b:Nat}{EV V V':Value}{S O:List Nat}(h:PO w u n bm bs be bw bl EV V S O)(hown:u'.ownsRow w.heap.size 2 1 V' (O.length+1) (nv O++[.int .i64 (b:Int)]))(hg:(u.alloc (.cells #[.int .i64 (b:Int)] 2)).grownBy u' V.ownBlock)(hl:O.length+1+Az S n<=n):Ak u' bl #[V] 28/\PO w (u'.setCell ⟨bl,0,none⟩ V') n bm bs be bw bl EV V' S (O++[b]):=by
 have bA:=Aa u (.cells #[.int .i64 (b:Int)] 2);have h':=h.keep bA;obtain⟨cnt,D,h1,h2,h3⟩:=h'.set;have s1:AU u' bm cnt D:=World.ownsMap.kept h1 hg (IP h'.list h1);have kb:Ak u' bl #[V] 28:=h'.lb.grown hg h'.list (by decide);have ks:=h'.sb.grown hg h'.list (by decide);have ke:=h'.eb.grown hg h'.list (by decide);have kw:=h'.wb.grown hg h'.list (by decide);have hbel:Below w.heap.size w u':=h'.bel.grown hg h'.bel.size (fun i hi=>(h'.list.lt i hi).1)
 have neb:∀{b':Nat} {cur:Array Value} {t:TypeId},Ak u' b' cur t->t≠28->b'≠(⟨bl,0,none⟩:Addr).block:=fun k q e=>by
  simp only[]at e;subst e;unfold Ak at k kb;rw[kb]at k;simp only[aR,dD]at k;exact q k.2.1.symm
 refine⟨kb,⟨cnt,D,?_,h2,h3⟩,ks.other (neb ks (by decide)) _,ke.other (neb ke (by decide)) _,kw.other (neb kw (by decide)) _,?_,?_,hbel.setCell h.ge.2 _,h.ge,by rw[aH,aI];exact hl⟩
 . refine World.ownsMap.kept s1 (row:=some bl) ⟨rfl,rfl,rfl,by rw[cM];exact Nat.le_refl _,fun k hk hne=>bi u' _ k _ (fun e=>hne (by rw[e]))⟩ (fun e=>IM s1 kb (ae e).symm)
 . have:=kb.set 0 V'
   simpa using this
 . unfold DQ
   rw[aH,aI,DC];exact aP hown (a:=⟨bl,0,none⟩) (fun q=>Bc hown kb (by decide) bl q rfl) _
def Gj(n g:Nat):Value:=.slice (some ⟨g,0,none⟩) n n
theorem QP:(Tryz.prog.info? 74).map (fun i=>(i.zero,i.size,i.bytes))=some (some (.slice none 0 0),1,24):=by kernel_rfl
structure DM(w u:World)(n:Nat)(V:Value)(R:List Nat)(P:Nat->Nat->Bool):Prop where
 o:u.ownsRow w.heap.size 74 1 V R.length (R.map (Gj n))
 rows:∀i g,R[i]?=some g->Eg u w.heap.size g n (P i)
 nodup:R.Nodup
 bel:Below w.heap.size w u
theorem DM.keep{w u u':World}{n:Nat}{V:Value}{R:List Nat}{P:Nat->Nat->Bool}(h:DM w u n V R P)(hb:Below u.heap.size u u'):DM w u' n V R P:=⟨Ag h.o hb lR,fun i g hi=>(h.rows i g hi).keep hb,h.nodup,Ab h.bel lR hb⟩
theorem Eg.lt{w:World}{base g n:Nat}{P:Nat->Bool}(h:Eg w base g n P):g<w.heap.size:=by
 obtain⟨_,cur,h1⟩:=Am h;exact(aQ.1 h1).1
theorem Eg.other{w:World}{base g g' n i:Nat}{P:Nat->Bool}{x:Value}(h:Eg w base g n P)(hne:g≠g'):Eg (w.setCell ⟨g',i,none⟩ x) base g n P:=aP h (a:=⟨g',i,none⟩) (fun e=>hne (by simpa[Value.ownBlock]using e)) x
theorem DM.set{w u:World}{n:Nat}{V:Value}{R:List Nat}{P Q:Nat->Nat->Bool}(h:DM w u n V R P){b g d:Nat}{x:Bool}(hb:R[b]?=some g)(hQb:∀j,j<n->Q b j=if j=d then x else P b j)(hQ:∀i,i≠b->Q i=P i):DM w (u.setCell ⟨g,d,none⟩ (.bool x)) n V R Q:=by
 have hg:=h.rows b g hb;refine⟨Bb h.o hg (by decide) d _,fun i g' hi=> ?_,h.nodup,h.bel.setCell (Am hg).1 _⟩;by_cases e:i=b
 . subst e
   rw[hb]at hi;cases hi
   exact hg.set d x hQb
 . rw[hQ i e]
   refine(h.rows i g' hi).other fun q=>e ?_
   subst q;obtain⟨i1,e1⟩:=aD.1 hi;obtain⟨i2,e2⟩:=aD.1 hb;exact(List.getElem_inj h.nodup).1 (e1.trans e2.symm)
theorem DM.add{w u u3 u':World}{n:Nat}{V V':Value}{R:List Nat}{P:Nat->Nat->Bool}(h:DM w u n V R P)(hP:∀i,i=R.length->P i=fun _=>false)(h3:u3.ownsRow u.heap.size 4 1 (.slice (some ⟨u.heap.size,0,none⟩) n n) n (bv (fun _=>false) n))(hb3:Below u.heap.size u u3)(hown:u'.ownsRow w.heap.size 74 1 V' (R.length+1) (R.map (Gj n)++[Gj n u.heap.size]))(hg:(u3.alloc (.cells #[Gj n u.heap.size] 74)).grownBy u' V.ownBlock):DM w u' n V' (R++[u.heap.size]) P:=by
 have bA:=Aa u3 (.cells #[Gj n u.heap.size] 74);have hbb:Below u.heap.size u (u3.alloc (.cells #[Gj n u.heap.size] 74)):=Ab hb3 lR bA;have o1:=Ag h.o hbb lR;have k3:Eg (u3.alloc (.cells #[Gj n u.heap.size] 74)) w.heap.size u.heap.size n (fun _=>false):=AF (Ag h3 bA lR) h.bel.size;refine⟨by rw[aH,aI,bx];exact hown,fun i g hi=> ?_,?_,(Ab h.bel lR hbb).grown hg (aY h.bel.size hbb.size) (fun i hi=>(h.o.lt i hi).1)⟩
 . by_cases e:i<R.length
   . rw[bG e]at hi
     exact Bg ((h.rows i g hi).keep hbb) hg o1 (by decide)
   . have hl:=(aD.1 hi).1
     simp only[aH,aI]at hl;have hiR:i=R.length:=by omega
     rw[aW (by omega)]at hi;subst hiR;simp only[cg,aM,aR]at hi;subst hi;rw[hP _ rfl];exact Bg k3 hg o1 (by decide)
 . refine dX.2 ⟨h.nodup,by simp,fun a ha c hc e=> ?_⟩
   simp only[aa,ao,cH]at hc;subst hc;obtain⟨i,hi⟩:=bH ha;have:=(h.rows i a hi).lt;omega
theorem GH(U:World)(x:Value)(t:TypeId):∀j u,[x][j]?=some u->(U.alloc (.cells #[x] t)).cell? ((⟨U.heap.size,0,none⟩:Addr).add j)=some u:=fun j u hj=>by
 rw[Ej,bt,(Ak.new U #[x] t).cell j];simpa using hj
def Dt(w:World)(g n:Nat)(D:Nat->Nat->Bool):Prop:=∀b,b<n->∃r,w.cell? ⟨g,b,none⟩=some (.slice (some ⟨r,0,none⟩) n n)/\∀d,d<n->w.cell? ⟨r,d,none⟩=some (.bool (D b d))
theorem Dt.keep{w w':World}{g n:Nat}{D:Nat->Nat->Bool}(h:Dt w g n D)(hb:Below w.heap.size w w'):Dt w' g n D:=fun b hb'=>by
 obtain⟨r,h1,h2⟩:=h b hb';exact⟨r,Ad hb h1,fun d hd=>Ad hb (h2 d hd)⟩
theorem DM.cell{w u:World}{n g c m:Nat}{R:List Nat}{P:Nat->Nat->Bool}(h:DM w u n (.slice (some ⟨g,0,none⟩) m c) R P)(hm:R.length=m){b:Nat}(hb:b<m):∃r,R[b]?=some r/\u.cell? ⟨g,b,none⟩=some (.slice (some ⟨r,0,none⟩) n n):=by
 subst hm;have:=h.o.cellAt b (by omega);rw[bB,aA hb]at this;exact⟨_,aA hb,this⟩
theorem DM.mat{w u:World}{n g c:Nat}{R:List Nat}{P:Nat->Nat->Bool}(h:DM w u n (.slice (some ⟨g,0,none⟩) n c) R P)(hl:R.length=n):Dt u g n P:=fun b hb=>by
 obtain⟨r,h1,h2⟩:=h.cell hl (b:=b) (by omega);exact⟨r,h2,fun d hd=>(h.rows b r h1).cell hd⟩
theorem MD (g o c n:Nat)(E:Nat->List Nat)(D:Nat->Nat->Bool)(w:World)(hn:n<=1048576)(h0:0<n)(hD:∀d b,D d b=true↔Ca E d b)(hE:∀b,b<n->∀x∈E b,x<n)(hsz:∀b,(E b).length<=2)(h:D6 w g o n E):
 Calls Tryz.prog 44 #[.slice (some ⟨g,o,none⟩) n c] w fun e w'=>∃gm cm,e=.returned (.slice (some ⟨gm,0,none⟩) n cm)/\Dt w' gm n (fun b d=>D d b)/\Below w.heap.size w w'/\w.heap.size<=gm/\(∀b r,b<n->w'.cell? ⟨gm,b,none⟩=some (.slice (some ⟨r,0,none⟩) n n)->w.heap.size<=r):=by
 obtain⟨j0,hj,hy0,hy1,hy2⟩:=bQ Dy;obtain⟨k0,hk,hx0,hx1,hx2⟩:=bQ QP;have H:Hid (D6 w g o n E/\(∀b,b<n->∀x∈E b,x<n)/\(∀b,(E b).length<=2)/\(∀d b,D d b=true↔Ca E d b)):=⟨h,hE,hsz,hD⟩
 clear h hE hsz hD
 have HS:Hid (DM w (w.alloc (.cells #[] 74)) n (.slice (some ⟨w.heap.size,0,none⟩) 0 0) [] (fun _ _=>false)):=by
  refine⟨?_,fun i g hi=>by simp at hi,List.nodup_nil,Aa _ _⟩;exact⟨rfl,.inr ⟨w.heap.size,0,#[],rfl,Nat.le_refl _,Ak.new w #[] 74,Nat.le_refl _,dq _,rfl,rfl⟩⟩
 go_enter Tryz.func44,Tryz.ntmps44;go_wp2
 go_loopw [4,5] (fun V i wr=>∃(R:List Nat) (gm cm:Nat),V=.slice (some ⟨gm,0,none⟩) R.length cm/\i=.int .i64 (R.length:Int)/\R.length<=n/\Hid (DM w wr n V R (fun _ _=>false))) (fun _ i _=>n-(intOf i).toNat)
 case atStart=>exact⟨[],_,_,rfl,rfl,by simp,HS⟩
 case round=>
  clear HS;obtain⟨R,gm,cm,rfl,rfl,hR,HM⟩:=hrel;by_cases hlt:R.length<n
  . have hltI:(R.length:Int)<(n:Int):=by omega
    have hsz1:=HM.o.bel.size
    go_wp2_with (first
     |(at_make;refine bZ _ rfl _ _ 74 rfl wr.heap.size 4 j0 (.bool false) 1 Tryz.underlying74 hj hy0 hy1 .i64 .i64 _ _ n rfl rfl rfl rfl (by rw[hy2];omega) (by unfold maxLen;omega) lR ?_;intro w3 hown hgrow;rw[CQ,Fc]at hown;have hb3:Below wr.heap.size wr w3:=(aX _ _).grown hgrow lR (fun k hk=>by cases hk);have hoA:(w3.alloc (.cells #[Gj n wr.heap.size] 74)).ownsRow w.heap.size 74 1 (.slice (some ⟨gm,0,none⟩) R.length cm) R.length (R.map (Gj n)):=Ag HM.o.o (Ab hb3 lR (Aa _ _)) lR;have hsA:w.heap.size<=(w3.alloc (.cells #[Gj n wr.heap.size] 74)).heap.size:=by have h1:=hb3.size;have h2:=(Aa w3 (.cells #[Gj n wr.heap.size] 74)).size;omega)
     |(at_builtin;refine wpList_append_lies _ rfl _ _ 104 rfl w.heap.size 74 k0 (.slice none 0 0) 1 24 Tryz.underlying104 hk hx0 hx1 hx2 rfl (by decide) _ R.length (R.map (Gj n)) rfl hoA ⟨w3.heap.size,0,none⟩ 1 1 [Gj n wr.heap.size] rfl rfl (GH w3 _ _) (fun u hu=>by simp at hu;subst hu;rfl) (by omega) (by simp[maxLen];omega) (by omega) hsA _ rfl ?_;intro g5 cap5 w5 hown5 hgrow5 hat hlt3;have HM5:Hid (DM w w5 n (.slice (some ⟨g5,0,none⟩) (R.length+1) cap5) (R++[wr.heap.size]) (fun _ _=>false)):=HM.o.add (fun _ _=>rfl) hown hb3 hown5 hgrow5;clear hown hgrow hown5 hgrow5 hat hlt3 hb3 hoA hsA)
     |go_in)
    go_roundw
    case rel=>exact⟨R++[wr.heap.size],g5,cap5,by rw[aH,aI],by rw[aH,aI];go_num,by rw[aH,aI];omega,HM5⟩
    case measure=>simp[intOf];omega
  . have hRn : R.length=n:=by omega
    have HRN:Hid (R.length=n):=hRn;rw[hRn]at HM;rw[hRn];clear hlt hR hRn
    have HM0:Hid (DM w wr n (.slice (some ⟨gm,0,none⟩) n cm) R (fun i k=>decide (k<0)&&D k i)):=by
     have:(fun i k=>decide (k<0)&&D k i)=(fun(_ _:Nat)=>false):=by funext i k;simp
     show DM w wr n _ R _;rw[this];exact HM.o
    clear HM;go_wp2
    go_loopw [6] (fun i wr=>∃d:Nat,d<=n/\i=.int .i64 d/\Hid (DM w wr n (.slice (some ⟨gm,0,none⟩) n cm) R (fun i k=>decide (k<d)&&D k i))) (fun i _=>n-(intOf i).toNat)
    case atStart=>exact⟨0,by omega,rfl,HM0⟩
    case round =>
     clear HM0;obtain⟨d,hd,rfl,HM⟩:=hrel;by_cases hlt:d<n
     . have hltI:(d:Int)<(n:Int):=by omega
       go_wp2_with fail
       refine(MK g o c n 0 (d:Int) E _ hn H.o.2.1 H.o.2.2.1 h0 (H.o.1.keep HM.o.bel)).mono ?_;rintro e u2 ⟨gs,P,rfl,hP,hPi,b2⟩
       have HP:Hid (Eg u2 wr.heap.size gs n P/\(∀x,x<n->(!P x)=D d x)/\wr.heap.size<=gs):=by
        refine⟨hP,fun x hx=> ?_,(Am hP).1⟩;rw[db,H.o.2.2.2 d x];unfold Ca;have e1:CJ E (fun y=>(y:Int)≠(d:Int)) 0 x↔CJ E (· ≠d) 0 x:=⟨fun q=>q.mono fun y hy e=>hy (by rw[e]),fun q=>q.mono fun y hy e=>hy (by omega)⟩;rw[<-e1,<-hPi x hx];simp
       have HM2:Hid (DM w u2 n (.slice (some ⟨gm,0,none⟩) n cm) R (fun i k=>(decide (k<d)||(decide (k=d)&&decide (i<0)))&&D k i)):=by
        have e1:(fun i k=>(decide (k<d)||(decide (k=d)&&decide (i<0)))&&D k i)=(fun i k=>decide (k<d)&&D k i):=by funext i k;simp
        show DM w u2 n _ R _;rw[e1];exact HM.o.keep b2
       have HR:Hid ((∀i r,R[i]?=some r->r<wr.heap.size)/\w.heap.size<=wr.heap.size):=⟨fun i r hi=>(HM.o.rows i r hi).lt,HM.o.bel.size⟩
       clear hP hPi b2 HM;go_wp2
       go_loopw [8] (fun i wr=>∃b:Nat,b<=n/\i=.int .i64 b/\Hid (DM w wr n (.slice (some ⟨gm,0,none⟩) n cm) R (fun i k=>(decide (k<d)||(decide (k=d)&&decide (i<b)))&&D k i)/\Eg wr w.heap.size gs n P)) (fun i _=>n-(intOf i).toNat)
       case atStart=>exact⟨0,by omega,rfl,HM2.o,AF HP.o.1 HR.o.2⟩
       case round=>
        clear HM2;obtain⟨b,hb,rfl,HM⟩:=hrel;by_cases hlt2:b<n
        . have hlt2I:(b:Int)<(n:Int):=by omega
          obtain⟨r,hr,c0⟩:=HM.o.1.cell HRN.o hlt2;have c1:=HM.o.2.cell hlt2;have hrow:=HM.o.1.rows b r hr;have c2:=hrow.cell hlt;have z2:=hrow.frozen d;have hne:gs≠r:=by have:=HR.o.1 b r hr;have:=HP.o.2.2;omega
          have HN:Hid (DM w (wr.setCell ⟨r,d,none⟩ (.bool (!P b))) n (.slice (some ⟨gm,0,none⟩) n cm) R (fun i k=>(decide (k<d)||(decide (k=d)&&decide (i<b+1)))&&D k i)/\Eg (wr.setCell ⟨r,d,none⟩ (.bool (!P b))) w.heap.size gs n P):=by
           refine⟨HM.o.1.set hr (fun j hj=> ?_) (fun i hi=> ?_),HM.o.2.other hne⟩
           . by_cases e:j=d
             . subst e
               simp[HP.o.2.1 b hlt2]
             . simp[e]
           . funext k
             have:decide (i<b+1)=decide (i<b):=by simp;omega
             simp[this]
          clear hr hrow;go_wp2
          go_region
          refine Av (fun u=>Hid (DM w u n (.slice (some ⟨gm,0,none⟩) n cm) R (fun i k=>(decide (k<d)||(decide (k=d)&&decide (i<b+1)))&&D k i)/\Eg u w.heap.size gs n P)) ?_ ?_
          . exact⟨HN.o.1.keep (Ae _),HN.o.2.keep (Ae _)⟩
          intro U HU;go_wp2
          go_roundw
          case rel=>exact⟨b+1,by omega,by go_num,HU⟩
          case measure=>simp[intOf];omega
        . obtain rfl:b=n:=by omega
          have HN:Hid (DM w wr b (.slice (some ⟨gm,0,none⟩) b cm) R (fun i k=>decide (k<d+1)&&D k i)):=by
           refine⟨HM.o.1.o,fun i r hi=> ?_,HM.o.1.nodup,HM.o.1.bel⟩;have h1:=HM.o.1.rows i r hi;unfold Eg at h1⊢;rw[FV (Q:=fun k=>decide (k<d+1)&&D k i)]at h1
           . exact h1
           . intro k hk
             have hib:i<b:=by have:=(aD.1 hi).1;rw[HRN.o]at this;exact this
             have e1:(decide (k<d)||(decide (k=d)&&decide (i<b)))=decide (k<d+1):=by
              rw[db];simp;omega
             simp only[e1]
          go_wp2
          go_roundw
          case rel=>exact⟨d+1,by omega,by go_num,HN⟩
          case measure=>simp[intOf];omega
     . obtain rfl:d=n:=by omega
       have HN:Hid (Dt wr gm d (fun b k=>D k b)):=fun b hb=>by
        obtain⟨r,h1,h2⟩:=HM.o.mat HRN.o b hb;refine⟨r,h1,fun k hk=> ?_⟩;have:=h2 k hk;simpa[hk]using this
       have HMO:Hid (wr.ownsRow w.heap.size 74 1 (.slice (some ⟨gm,0,none⟩) d cm) d (R.map (Gj d))):=by
        have:=HM.o.o;rw[HRN.o]at this;exact this
       go_wp2
       go_ret
       refine⟨gm,cm,rfl,HN.o,HM.o.bel,(Am HMO.o).1,fun b r hb hr=> ?_⟩;obtain⟨r',h1,h2⟩:=HM.o.cell HRN.o (b:=b) hb;rw[hr]at h2;simp only[aR,aF,cR,cw]at h2;rw[h2];exact(Am (HM.o.rows b r' h1)).1
def Ez(xs:List MI)(p:Int):Int:=((BQ xs xs.length).idxOf p.toNat:Int)
def Ha(xs:List MI)(x:MB×Value):MB×Value:=(⟨x.1.first,x.1.last,x.1.next.map (Ez xs)⟩,x.2)
theorem OT(xs:List MI)(hg:Aw xs)(D:List (MB×Value))(h:D.map Prod.fst=GG xs):(D.map (Ha xs)).map Prod.fst=Ao xs:=by
 have e1:(D.map (Ha xs)).map Prod.fst=(D.map Prod.fst).map fun b=>⟨b.first,b.last,b.next.map (Ez xs)⟩:=by
  rw[dh,dh];rfl
 rw[e1,h];unfold GG Ao;rw[dh];apply eD;intro m hm;obtain⟨b,hb⟩:=bH hm;obtain⟨e,he,hen⟩:=Gc xs xs.length hg.1 m hm;obtain⟨x,hx⟩:∃x,xs[e]?=some x:=⟨_,aA hen⟩;have hs:=JL xs b e x m hg hb he hx;simp only[Function.comp,Og,Cy];rw[he,aG,aJ,hx];simp only[eT];rw[hs];rfl
theorem LA(xs:List MI)(hg:Aw xs)(m:MB)(hm:m∈GG xs)(p:Int)(hp:p∈m.next):0<=p/\p.toNat∈BQ xs xs.length:=by
 unfold GG at hm;obtain⟨m0,hm0,rfl⟩:=au.1 hm;obtain⟨b,hb⟩:=bH hm0;obtain⟨e,he,hen⟩:=Gc xs xs.length hg.1 m0 hm0;obtain⟨x,hx⟩:∃x,xs[e]?=some x:=⟨_,aA hen⟩;simp only[Og]at hp;rw[he,aG,aJ,hx]at hp;simp only[eT,AK]at hp;rcases aU.1 hp with h1|h1
 . split at h1
   . rename_i q
     simp only[aa,ao,cH]at h1;subst h1;rw[BP]at hb;refine⟨by omega,?_⟩;rw[aG];exact H9 _ _ _ _ _ hb he q.2
   . cases h1
 . split at h1
   . rename_i q
     simp only[aa,ao,cH]at h1;subst h1;obtain⟨c0,c1⟩:=hg.2.2 e x hx q.1;have c3:(x.c.toNat:Int)=x.c:=eC c0;exact⟨c0,(Cp _ _ _).2 ⟨by omega,Iz xs _ e _ x hen hx (by simp[Ea,q.1,c3])⟩⟩
   . cases h1
theorem PX(L:List Nat)(q:Nat):(L.map Int.ofNat).idxOf (q:Int)=L.idxOf q:=by
 induction L with
 |nil=>rfl
 | cons y r ih=>
   rw[cZ,eG,eG,ih];by_cases h:y=q
   . subst h
     simp
   . have h1:(Int.ofNat y==(q:Int))=false:=by
      rw[eM];intro e;exact h (by have e':(y:Int)=(q:Int):=e;omega)
     have h2:(y==q)=false:=by simpa using h
     rw[h1,h2]
structure JW(w u:World)(xs:List MI)(gl cl bl:Nat)(F:List (MB×Value)):Prop where
 row:u.ownsRow w.heap.size 58 3 (.slice (some ⟨bl,0,none⟩) (BQ xs xs.length).length (BQ xs xs.length).length) (BQ xs xs.length).length (F.flatMap A9)
 fam:Cc u w.heap.size ((.slice (some ⟨gl,0,none⟩) (BQ xs xs.length).length cl,(BQ xs xs.length).map Int.ofNat)::Cw F)
 bel:Below w.heap.size w u
theorem JW.keep{w u u':World}{xs:List MI}{gl cl bl:Nat}{F:List (MB×Value)}(h:JW w u xs gl cl bl F)(hb:Below u.heap.size u u'):JW w u' xs gl cl bl F:=⟨Ag h.row hb lR,h.fam.keep hb,Ab h.bel lR hb⟩
theorem JW.drew{w u:World}{xs:List MI}{gl cl bl:Nat}{F:List (MB×Value)}(h:JW w u xs gl cl bl F)(k:Nat):JW w (u.drewN k) xs gl cl bl F:=⟨⟨h.row.1,h.row.2⟩,⟨fun r hr=>⟨(h.fam.own r hr).1,(h.fam.own r hr).2⟩,h.fam.sep⟩,⟨h.bel.os,h.bel.tape,h.bel.output,h.bel.size,h.bel.block⟩⟩
theorem JW.set{w u:World}{xs:List MI}{gl cl bl gv cv n:Nat}{E G:List (MB×Value)}{f l:Int}{ps qs:List Int}{i:Nat}{z:Int}(h:JW w u xs gl cl bl (E++(⟨f,l,ps⟩,.slice (some ⟨gv,0,none⟩) n cv)::G))(hn:ps.length=n)(hq:(ps.flatMap Ac).set i (.int .i64 z)=qs.flatMap Ac)(hl:qs.length=ps.length):JW w (u.setCell ⟨gv,i,none⟩ (.int .i64 z)) xs gl cl bl (E++(⟨f,l,qs⟩,.slice (some ⟨gv,0,none⟩) n cv)::G):=by
 have hv:=h.fam.own (.slice (some ⟨gv,0,none⟩) n cv,ps) (by simp[Cw]);simp only[]at hv;rw[hn]at hv;have h1:=(hv.stored i (.int .i64 z)).1;rw[hq]at h1;refine⟨?_,?_,h.bel.setCell (Am hv).1 _⟩
 . have:=Bb h.row hv (by decide) i (.int .i64 z)
   simpa[A9]using this
 . have hf:=h.fam
   rw[show(((.slice (some ⟨gl,0,none⟩) (BQ xs xs.length).length cl,(BQ xs xs.length).map Int.ofNat):Value×List Int)::Cw (E++((⟨f,l,ps⟩:MB),(.slice (some ⟨gv,0,none⟩) n cv:Value))::G))=(((.slice (some ⟨gl,0,none⟩) (BQ xs xs.length).length cl,(BQ xs xs.length).map Int.ofNat):Value×List Int)::Cw E)++((.slice (some ⟨gv,0,none⟩) n cv:Value),ps)::Cw G from by simp[Cw]]at hf;have:=Cc.put (c':=qs) hf hl (by rw[hn];exact h1) (Mu ⟨rfl,rfl,rfl,Nat.le_refl _,fun _ _ _=>rfl⟩ i (.int .i64 z));simpa[Cw]using this
theorem JW.search{w u:World}{xs:List MI}{gl cl bl m:Nat}{F:List (MB×Value)}(h:JW w u xs gl cl bl F)(hm:(BQ xs xs.length).length=m)(hm1:m<=1024)(p:Int)(h0:0<=p)(hp:p.toNat∈BQ xs xs.length):
 Calls Tryz.prog 115 #[.slice (some ⟨gl,0,none⟩) m cl,.int .i64 p] u fun e w'=>(∃b,e=.returned (.tuple #[.int .i64 (Ez xs p),.bool b]))/\∃q,w'=u.drewN q:=by
 have hl:=Rd.of_own (h.fam.own _ bR);simp only[a7]at hl;have k:=M6 gl cl ((BQ xs xs.length).map Int.ofNat) p u (by rw[a7,hm];omega) (dH.2 ((DA xs _).imp (fun h=>by simpa using h))) (by rw[a7];exact hl) (au.2 ⟨p.toNat,hp,by simp;omega⟩)
 have e:((BQ xs xs.length).map Int.ofNat).idxOf p=(BQ xs xs.length).idxOf p.toNat:=by
  have e1:p=(p.toNat:Int):=by omega
  rw[<-PX];congr 1
 rw[a7,hm,e]at k;exact k
theorem Ou(xs:List MI)(ps:List Int)(i:Nat)(p:Int)(h:ps[i]?=some p):(((ps.map (Ez xs)).take i++ps.drop i).flatMap Ac).set i (.int .i64 (Ez xs p))=((ps.map (Ez xs)).take (i+1)++ps.drop (i+1)).flatMap Ac:=by
 obtain⟨hlt,hp⟩:=aD.1 h;rw[cE hlt,hp,bP,bT]
 have hA:((List.take i (ps.map (Ez xs))).flatMap Ac).length=i:=by
  rw[As Ac 1 Ap,bp,a7];omega
 rw[show Ac p++List.flatMap Ac (List.drop (i+1) ps)=[Value.int .i64 p]++List.flatMap Ac (List.drop (i+1) ps)from rfl,Qd _ _ _ _ i hA,ah (by simpa using hlt),bP,bP];simp[Ac,hp]
theorem Dl{x:Nat}(h:x<=1048576):CD (x:Int):=by
 simp[CD,Lit.wf,IntKind.min,IntKind.max,IntKind.signed,IntKind.bits];omega
theorem Px(w:World)(g o c n bm bs be bw bl:Nat)(E:Nat->List Nat)(hn:n<=1024)(hE:∀b,b<n->∀x∈E b,x<n)(hsz:∀b,(E b).length<=2048)(h:CK w g o n E):
 ∀(m:Nat) (S O:List Nat) (b:Nat) (V:Value) (u:World),Az S n=m->b<n->PO w u n bm bs be bw bl (.slice (some ⟨g,o,none⟩) n c) V S O->(b∉S->O.length+Az S n<=n)->
 Calls Tryz.prog 146 #[.int .i64 (b:Int),.pointer (some ⟨bs,0,none⟩),.pointer (some ⟨be,0,none⟩),.pointer (some ⟨bw,0,none⟩),.pointer (some ⟨bl,0,none⟩)] u fun e u'=>e=.returned (.tuple #[])/\∃V' S' O',Vs E S O [b] S' O'/\PO w u' n bm bs be bw bl (.slice (some ⟨g,o,none⟩) n c) V' S' O'/\O'.length+Az S' n<=O.length+Az S n:=by
 obtain⟨k0,hk,hx0,hx1,hx2⟩:=bQ BE;have H:Hid (CK w g o n E/\(∀b,b<n->∀x∈E b,x<n)/\(∀b,(E b).length<=2048)):=⟨h,hE,hsz⟩
 clear h hE hsz;intro m;induction m using Nat.strongRecOn with
 | ind m ih=>
   intro S O b V u hm hb hpo hlen
   have IH:Hid (∀m',m'<m->∀(S O:List Nat) (b:Nat) (V:Value) (u:World),Az S n=m'->b<n->PO w u n bm bs be bw bl (.slice (some ⟨g,o,none⟩) n c) V S O->(b∉S->O.length+Az S n<=n)->
    Calls Tryz.prog 146 #[.int .i64 (b:Int),.pointer (some ⟨bs,0,none⟩),.pointer (some ⟨be,0,none⟩),.pointer (some ⟨bw,0,none⟩),.pointer (some ⟨bl,0,none⟩)] u fun e u'=>e=.returned (.tuple #[])/\∃V' S' O',Vs E S O [b] S' O'/\PO w u' n bm bs be bw bl (.slice (some ⟨g,o,none⟩) n c) V' S' O'/\O'.length+Az S' n<=O.length+Az S n):=ih
   have HP:Hid (PO w u n bm bs be bw bl (.slice (some ⟨g,o,none⟩) n c) V S O):=hpo;obtain⟨cnt,D,hs,hcn,hD⟩:=hpo.set;have HS:Hid (AU u bm cnt D/\cnt+Az S n<=n+1/\∀x:Nat,Go.Maps.has D (.int .i64 (x:Int))=S.contains x):=⟨hs,hcn,hD⟩
   have hDb:=hD b;have s0:u.cell? ⟨bs,0,none⟩=some (.map (some bm)):=hpo.sb.cell 0;have hbI:(b:Int)<(n:Int):=by omega
   clear ih hpo hs hD;go_enter Tryz.func146,Tryz.ntmps146;go_wp2_with fail
   refine(Kg bm cnt D (b:Int) u (Dl (by omega)) HS.o.1).mono ?_;rintro e u1 ⟨rfl,b1⟩;rw[hDb];have HP1:Hid (PO w u1 n bm bs be bw bl (.slice (some ⟨g,o,none⟩) n c) V S O/\AU u1 bm cnt D):=⟨HP.o.keep b1,HS.o.1.keep b1⟩
   clear b1 s0 hDb;cases hc:S.contains b
   . have hbS:b∉S:=by simpa using hc
     have hu1:=C7 S n b hb hbS;have HU1:Hid (Az (b::S) n+1=Az S n/\Az S n=m/\O.length+Az S n<=n):=⟨hu1,hm,hlen hbS⟩
     clear hu1 hm hlen;have s0:u1.cell? ⟨bs,0,none⟩=some (.map (some bm)):=HP1.o.1.sb.cell 0;have HA:Hid ((u1.alloc (.cells #[.int .i64 (b:Int)] 2)).cell? ⟨u1.heap.size,0,none⟩=some (.int .i64 (b:Int))/\AU (u1.alloc (.cells #[.int .i64 (b:Int)] 2)) bm cnt D/\PO w (u1.alloc (.cells #[.int .i64 (b:Int)] 2)) n bm bs be bw bl (.slice (some ⟨g,o,none⟩) n c) V S O/\¬u1.heap.size=bm):=⟨(Ak.new u1 #[.int .i64 (b:Int)] 2).cell 0,HP1.o.2.keep (Aa _ _),HP1.o.1.keep (Aa _ _),by have:=dx HP1.o.2;omega⟩
     go_wp2_with fail
     refine(Ek bm cnt u1.heap.size 1 D (b:Int) _ (Dl (by omega)) (by have:=HS.o.2.1;omega) HA.o.1 HA.o.2.2.2 HA.o.2.1).mono ?_;rintro e u2 ⟨rfl,s2,g2⟩;have HP2:Hid (PO w u2 n bm bs be bw bl (.slice (some ⟨g,o,none⟩) n c) V (b::S) O):=HA.o.2.2.1.add HA.o.2.1 HS.o.2.1 HS.o.2.2 hb hbS s2 g2;clear s2 g2 s0 HA HP1 HS HP hcn;obtain⟨a,ca,g0,g1⟩:=H.o.1 b hb;have HG:Hid (w.cell? ⟨g,o+b,none⟩=some (.slice a (E b).length ca)/\DR w (.slice a (E b).length ca) (E b)):=⟨g0,g1⟩
     replace g0:=Ad HP2.o.bel g0
     have e0:u2.cell? ⟨be,0,none⟩=some (.slice (some ⟨g,o,none⟩) n c):=HP2.o.eb.cell 0;have hE2:=H.o.2.2 b;clear g1;go_wp2
     go_loopw [20] (fun i wr=>∃(S' O':List Nat) (V':Value) (k:Nat),i=.int .i64 k/\k<=(E b).length/\Hid (Vs E (b::S) O ((E b).take k) S' O'/\PO w wr n bm bs be bw bl (.slice (some ⟨g,o,none⟩) n c) V' S' O'/\O'.length+Az S' n+1<=O.length+Az S n)) (fun i _=>(E b).length-(intOf i).toNat)
     case atStart=>exact⟨b::S,O,V,0,rfl,by omega,by simpa using Vs.nil (b::S) O,HP2.o,by have:=HU1.o;omega⟩
     case round=>
      clear HP2 g0 e0;obtain⟨S',O',V',k,rfl,hkE,HL⟩:=hrel;by_cases hlt:k<(E b).length
      . have hltI:(k:Int)<((E b).length:Int):=by omega
        obtain⟨y,hy⟩:∃y,(E b)[k]?=some y:=⟨_,aA hlt⟩;have hyn:y<n:=H.o.2.1 b hb y (aE hy);obtain⟨ga,oa,rfl,_,y0⟩:=HG.o.2.at_ hy;replace y0:=Ad HL.o.2.1.bel y0
        have f0:wr.cell? ⟨bw,0,none⟩=some (.func (.func 146) #[] #[.pointer (some ⟨bs,0,none⟩),.pointer (some ⟨be,0,none⟩),.pointer (some ⟨bw,0,none⟩),.pointer (some ⟨bl,0,none⟩)]):=HL.o.2.1.wb.cell 0
        have HT:Hid ((E b).take (k+1)=(E b).take k++[y]):=by
         obtain⟨hl,rfl⟩:=aD.1 hy;exact ah hl
        have hmo:=HL.o.1.more;have hun:=EZ n hmo;have HC:Hid (Calls Tryz.prog 146 #[.int .i64 (y:Int),.pointer (some ⟨bs,0,none⟩),.pointer (some ⟨be,0,none⟩),.pointer (some ⟨bw,0,none⟩),.pointer (some ⟨bl,0,none⟩)] wr fun e u'=>e=.returned (.tuple #[])/\∃V'' S'' O'',Vs E S' O' [y] S'' O''/\PO w u' n bm bs be bw bl (.slice (some ⟨g,o,none⟩) n c) V'' S'' O''/\O''.length+Az S'' n<=O'.length+Az S' n):=IH.o (Az S' n) (by have:=HU1.o;omega) S' O' y V' wr rfl hyn HL.o.2.1 (fun _=>by have:=HL.o.2.2;have:=HU1.o;omega)
        clear hy hmo hun;go_wp2_with fail
        refine HC.o.mono ?_;rintro e u3 ⟨rfl,V3,S3,O3,hv3,hp3,hl3⟩
        have HN:Hid (Vs E (b::S) O ((E b).take (k+1)) S3 O3/\PO w u3 n bm bs be bw bl (.slice (some ⟨g,o,none⟩) n c) V3 S3 O3/\O3.length+Az S3 n+1<=O.length+Az S n):=by
         refine⟨?_,hp3,by have:=HL.o.2.2;omega⟩;rw[HT.o];exact HL.o.1.app hv3
        clear hv3 hp3 hl3 y0 f0 HC;go_wp2
        go_roundw
        case rel=>exact⟨S3,O3,V3,k+1,by go_num,by omega,HN⟩
        case measure=>simp[intOf];omega
      . obtain rfl:k=(E b).length:=by omega
        obtain⟨aV,cV,rfl⟩:=Ax HL.o.2.1.list;have hO3:=HU1.o;have hO4:=HL.o.2.2;go_upto_region 7 with fail
        refine Al (fun u=>Hid (PO w u n bm bs be bw bl (.slice (some ⟨g,o,none⟩) n c) (.slice aV O'.length cV) S' O')) HL.o.2.1 ?_;intro U HU;have l0:U.cell? ⟨bl,0,none⟩=some (.slice aV O'.length cV):=HU.o.lb.cell 0;go_wp2_with (at_builtin;refine wpList_append_lies _ rfl _ _ 28 rfl w.heap.size 2 k0 (.int .i64 0) 1 8 Tryz.underlying28 hk hx0 hx1 hx2 rfl (by decide) _ O'.length (nv O') rfl (HU.o.al (.cells #[.int .i64 (b:Int)] 2)).1 ⟨U.heap.size,0,none⟩ 1 1 [.int .i64 (b:Int)] rfl rfl (A5 U (b:Int)) (fun u hu=>by simp at hu;subst hu;rfl) (by omega) (by simp[maxLen];omega) (by omega) (HU.o.al (.cells #[.int .i64 (b:Int)] 2)).2 _ rfl ?_;intro g5 cap5 w5 hown hgrow hat hlt9;obtain⟨kb5,l5⟩:=HU.o.app hown hgrow (by omega);have HU5:Hid (PO w (w5.setCell ⟨bl,0,none⟩ (.slice (some ⟨g5,0,none⟩) (O'.length+1) cap5)) n bm bs be bw bl (.slice (some ⟨g,o,none⟩) n c) (.slice (some ⟨g5,0,none⟩) (O'.length+1) cap5) S' (O'++[b])):=l5;have t5:w5.cell? ⟨bl,0,none⟩=some (.slice aV O'.length cV):=kb5.cell 0;have z5:=kb5.frozen 0;clear hown hgrow hat hlt9 kb5 l5);go_end0;refine⟨rfl,_,S',O'++[b],?_,HU5.o,by rw[aH,aI];omega⟩;have:=HL.o.1;rw[an lR]at this;exact .new hbS this (.nil _ _)
   . go_wp2_with fail
     exact bC (v:=.tuple #[]) (by simp[results,Tryz.results146,go_sem]) rfl ⟨rfl,V,S,O,.old (by simpa using hc) (.nil _ _),HP1.o.1,Nat.le_refl _⟩
def FX(D:Nat->Nat->Bool)(d j:Nat):Nat:=((List.range j).filter fun k=>D k d).length
theorem Mo(D:Nat->Nat->Bool)(d j:Nat):FX D d (j+1)=FX D d j+if D j d=true then 1 else 0:=by
 unfold FX;rw[cj,ce,aH];cases h:D j d<;>simp[h]
theorem OP(D:Nat->Nat->Bool)(d j:Nat):FX D d j<=j:=by
 have:=cJ (fun k=>D k d) (List.range j);simpa[FX]using this
theorem MG (gm cm n b:Nat)(D:Nat->Nat->Bool)(w:World)(hn:n<=1048576)(hb:b<n)(h:Dt w gm n (fun b d=>D d b)):
 Calls Tryz.prog 45 #[.slice (some ⟨gm,0,none⟩) n cm,.int .i64 (b:Int)] w fun e w'=>∃best most,e=.returned (.int .i64 best)/\BJ D n b n best most/\w'=w:=by
 have H:Hid (Dt w gm n (fun b d=>D d b)):=h;obtain⟨rb,r0,r1⟩:=h b hb;have HR:Hid (∀d,d<n->w.cell? ⟨rb,d,none⟩=some (.bool (D d b))):=r1;have hbI:(b:Int)<(n:Int):=by omega
 clear h r1;go_enter Tryz.func45,Tryz.ntmps45;go_wp2
 go_loopw [5,6,7] (fun x y i wr=>∃(d:Nat) (best most:Int),d<=n/\x=.int .i64 best/\y=.int .i64 most/\i=.int .i64 d∧-1<=most/\most<=1048576/\Hid (BJ D n b d best most)/\wr=w) (fun _ _ i _=>n-(intOf i).toNat)
 case atStart=>exact⟨0,-1,-1,by omega,rfl,rfl,rfl,by omega,by omega,BJ.start D n b,rfl⟩
 case round=>
  obtain⟨d,best,most,hd,rfl,rfl,rfl,hm1,hm2,HB,rfl⟩:=hrel;by_cases hlt:d<n
  . have hltI:(d:Int)<(n:Int):=by omega
    by_cases e:d=b
    . subst e
      have HN:Hid (BJ D n d (d+1) best most):=HB.o.skip (fun q=>q.1 rfl);go_wp2
      go_roundw
      case rel=>exact⟨d+1,best,most,by omega,by trivial,by trivial,by go_num,hm1,hm2,HN,by trivial⟩
      case measure=>simp[intOf];omega
    . have e':((d:Int)==(b:Int))=false:=by simp;omega
      have eI:¬(d:Int)=(b:Int):=by omega
      have c0:=HR.o d hlt;cases hD:D d b
      . rw[hD]at c0
        have HN:Hid (BJ D n b (d+1) best most):=HB.o.skip (fun q=>by rw[hD]at q;cases q.2);go_wp2;go_roundw
        case rel=>exact⟨d+1,best,most,by omega,by trivial,by trivial,by go_num,hm1,hm2,HN,by trivial⟩
        case measure=>simp[intOf];omega
      . rw [hD]at c0
        obtain⟨rd,d0,d1⟩:=H.o d hlt;have HD1:Hid (∀k,k<n->wr.cell? ⟨rd,k,none⟩=some (.bool (D k d))):=d1;clear d1;go_wp2
        go_loopw [8,9] (fun x i wr'=>∃k:Nat,k<=n/\x=.int .i64 (FX D d k:Int)/\i=.int .i64 k/\wr'=wr) (fun _ i _=>n-(intOf i).toNat)
        case atStart=>exact⟨0,by omega,rfl,rfl,rfl⟩
        case round=>
         obtain⟨k,hk,rfl,rfl,rfl⟩:=hrel;have hle:=OP D d k;by_cases hlt2:k<n
         . have hlt2I:(k:Int)<(n:Int):=by omega
           have c1:=HD1.o k hlt2;have hs:=Mo D d k;cases hDk:D k d
           . rw[hDk]at c1 hs
             simp only[dj,if_false,aS]at hs;go_wp2
             go_roundw
             case rel=>exact⟨k+1,by omega,by rw[hs],by go_num,by trivial⟩
             case measure=>simp[intOf];omega
           . rw[hDk]at c1 hs
             simp only[if_true]at hs;go_wp2
             go_roundw
             case rel=>exact⟨k+1,by omega,by rw[hs];go_num,by go_num,by trivial⟩
             case measure=>simp[intOf];omega
         . obtain rfl:k=n:=by omega
           have hc:J6 D k d=FX D d k:=rfl;by_cases hg:most<(FX D d k:Int)
           . have HN:Hid (BJ D k b (d+1) (d:Int) (FX D d k:Int)):=HB.o.more e hD hg
             go_wp2
             go_roundw
             case rel=>exact⟨d+1,_,_,by omega,rfl,rfl,by go_num,by omega,by omega,HN,by trivial⟩
             case measure=>simp[intOf];omega
           . have HN:Hid (BJ D k b (d+1) best most):=HB.o.less (by rw[hc];omega)
             go_wp2
             go_roundw
             case rel=>exact⟨d+1,best,most,by omega,by trivial,by trivial,by go_num,hm1,hm2,HN,by trivial⟩
             case measure=>simp[intOf];omega
  . obtain rfl:d=n:=by omega
    go_wp2
    go_ret
    exact⟨best,most,rfl,HB.o,rfl⟩
end Go.Proofs.YtdipfjmlfbdkdaaGreat
