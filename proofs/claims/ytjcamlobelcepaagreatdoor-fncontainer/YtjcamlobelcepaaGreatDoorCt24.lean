import Derived.Test.YtjcamlobelcepaaGreatDoorCt22
namespace Go.Proofs.YtjcamlobelcepaaGreatDoor
open Go.ChangeShapes Go.WideShapes Go.ChangeAt Go.RowKit
set_option linter.unusedVariables false
set_option maxHeartbeats 8000000
set_option maxRecDepth 100000
theorem AV.parts{p:MP}(h:AV p 0):Ax p.regions/\AP p.consts/\AX p.funcs/\Ck p/\Bc p:=by
 unfold AV at h;rcases h with h|h|h|h|h|h
 . exact absurd h.1 (by decide)
 . exact absurd h.1 (by decide)
 . exact absurd h.1 (by decide)
 . exact absurd h.1 (by decide)
 . exact absurd h.1 (by decide)
 . exact h.2
theorem AV.instr{p:MP}(h:AV p 0){i j:Nat}{f:MF}{x:MI}(hf:p.funcs[i]?=some f)(hx:f.code[j]?=some x):AH p f x:=h.parts.2.2.2.1 i (aE.1 hf).1 f hf j (aE.1 hx).1 x hx
theorem FV:Az 1=1/\Az 2=2/\Az 3=2/\Az 4=3/\Az 5=3/\Az 6=4/\Az 7=4/\Az 27=10/\Az 28=11:=by decide+kernel
theorem AH.const{p:MP}{f:MF}{x:MI}(h:AH p f x)(e:x.op=1):∃(q:Nat) (z:MC),x.a=q/\p.consts[q]?=some z:=by
 obtain⟨_,_,h⟩:=h;rw[e,FV.1]at h;unfold AJ AL at h
 have h1:0<=x.a/\x.a<p.consts.length:=by
  rcases h with h|h|h|h|h|h|h|h|h|h<;>first|(exfalso;omega)|exact⟨h.2.1,h.2.2.1⟩
 obtain⟨q,hq⟩:=aS h1.1;rw[hq]at h1;exact⟨q,_,hq,aA (by omega)⟩
theorem Oe{f:MF}{a:Int}(h:¬AA f a=0):∃q:Nat,a=q/\(f.params++f.locals)[q]?=some (AA f a):=by
 by_cases h0:a<0
 . exact absurd (Gq h0) h
 . obtain⟨q,hq⟩:=aS (by omega:0<=a)
   refine⟨q,hq,?_⟩;subst hq;unfold AA at h⊢;rw[bX h0]at h⊢;rw[aU]at h⊢;simp only[aX]at h⊢;cases e:(f.params++f.locals)[q]? with
   |none=>rw[e]at h;exact absurd rfl h
   |some z=>rfl
theorem AH.local{p:MP}{f:MF}{x:MI}(h:AH p f x)(e:x.op=2\/x.op=3\/x.op=27):∃q:Nat,x.a=q/\(f.params++f.locals)[q]?=some (AA f x.a):=by
 apply Oe;obtain⟨_,_,h⟩:=h
 have hf:Az x.op=2\/Az x.op=10:=by
  rcases e with e|e|e<;>rw[e]
  . exact .inl FV.2.1
  . exact .inl FV.2.2.1
  . exact .inr FV.2.2.2.2.2.2.2.1
 unfold AJ AL at h;rcases h with h|h|h|h|h|h|h|h|h|h<;>first|(exfalso;omega)|exact h.2.1
theorem Ps{p:MP}{a b:Int}(h3:p.regions.length=3)(h:¬Bt p a b=0):∃(q z:Nat) (r:List Int),a=q/\b=z/\p.regions[q]?=some r/\r[z]?=some (Bt p a b):=by
 by_cases h0:a<0\/2<a\/b<0
 . exact absurd (Ev h0) h
 . obtain⟨q,hq⟩:=aS (by omega:0<=a)
   obtain⟨z,hz⟩:=aS (by omega:0<=b);subst hq hz;have hr:p.regions[q]?=some (p.regions[q]'(by omega)):=aA (by omega)
   refine⟨q,z,_,rfl,rfl,hr,?_⟩;have e:=Iy (p:=p) (r:=q) (c:=z) (by omega) hr;rw[e]at h⊢;rw[aU]at h⊢;cases e2:(p.regions[q]'(by omega))[z]? with
   |none=>rw[e2]at h;exact absurd rfl h
   |some t=>rfl
theorem Pu{p:MP}{x:MI}{q z:Nat}{r:List Int}{t:Int}(h1:x.a=q)(h2:x.b=z)(hr:p.regions[q]?=some r)(ht:r[z]?=some t):ES p x=t:=by
 unfold ES;rw[h1,h2];simp only[aX,hr,ht];rfl
theorem AH.cell{p:MP}{f:MF}{x:MI}(h3:p.regions.length=3)(h:AH p f x)(e:x.op=4\/x.op=5\/x.op=6\/x.op=7):∃(q z:Nat) (r:List Int),x.a=q/\x.b=z/\p.regions[q]?=some r/\r[z]?=some (ES p x):=by
 obtain⟨_,_,h⟩:=h
 have hf:Az x.op=3\/Az x.op=4:=by
  rcases e with e|e|e|e<;>rw[e]
  . exact .inl FV.2.2.2.1
  . exact .inl FV.2.2.2.2.1
  . exact .inr FV.2.2.2.2.2.1
  . exact .inr FV.2.2.2.2.2.2.1
 unfold AJ AL at h
 have hc:¬Bt p x.a x.b=0:=by
  rcases h with h|h|h|h|h|h|h|h|h|h<;>first|(exfalso;omega)|exact h.2.1|exact h.2.1.there
 obtain⟨q,z,r,h1,h2,hr,ht⟩:=Ps h3 hc;refine⟨q,z,r,h1,h2,hr,?_⟩;rw[Pu h1 h2 hr ht];exact ht
theorem AH.mask{p:MP}{f:MF}{x:MI}(h:AH p f x)(e:x.op=6\/x.op=7):D7 p x.a x.b x.c:=by
 obtain⟨_,_,h⟩:=h
 have hf:Az x.op=4:=by
  rcases e with e|e<;>rw[e]
  . exact FV.2.2.2.2.2.1
  . exact FV.2.2.2.2.2.2.1
 unfold AJ AL at h;rcases h with h|h|h|h|h|h|h|h|h|h<;>first|(exfalso;omega)|exact h.2.1
theorem AH.callee{p:MP}{f:MF}{x:MI}(h:AH p f x)(e:x.op=28):∃(q:Nat) (fq:MF),x.a=q/\p.funcs[q]?=some fq:=by
 obtain⟨_,_,h⟩:=h;rw[e,FV.2.2.2.2.2.2.2.2]at h;unfold AJ AL at h
 have h1:0<=x.a/\x.a<p.funcs.length:=by
  rcases h with h|h|h|h|h|h|h|h|h|h<;>first|(exfalso;omega)|exact⟨h.2.1,h.2.2.1⟩
 obtain⟨q,hq⟩:=aS h1.1;rw[hq]at h1;exact⟨q,_,hq,aA (by omega)⟩
theorem FG(w u:World)(s:CR)(k:GK)(p:Int)(v:VP)(vc:Value)(g:Gn)(left lv:Int)(D:List As)(op a b c:Int)(h:SM w u s k p v vc g left lv D)(hl:g.code.length<=1000000)(hleft:-1000000<=left/\left<=1000000):
 Calls Tryz.prog 37 #[.pointer (some ⟨k.Gb,0,none⟩),iZ op,iZ a,iZ b,iZ c] u fun e u'=>e=.returned (iZ (g.code.length:Int))/\∃vc',SM w u' s k p v vc' ⟨g.code++[(⟨op,a,b,c⟩:MI)],g.consts,g.certs⟩ (left-1) lv D:=by
 obtain⟨iI,hi,hz0,hz1,hz2⟩:=bJ QJ;obtain⟨⟨a1,c1,e1⟩,_⟩:=h.bl.nrow;subst e1;have H:=Af h;obtain⟨_,_,_,q3,_,_⟩:=h.cells;clear h;generalize hn:g.code.length=n at H q3 hl⊢;have HN:=Af hn;clear hn;have E2:Hid (SM w (u.alloc (.cells #[iZ op,iZ a,iZ b,iZ c] 97)) s k p v (.slice a1 n c1) g left lv D):=H.o.keep (Aa _ _);go_enter Tryz.func37,Tryz.ntmps37;go_upto_region 2 with(at_builtin;refine wpList_append_lies _ rfl _ _ 56 rfl w.heap.size 97 iI (.agg #[iZ 0,iZ 0,iZ 0,iZ 0]) 4 32 Tryz.underlying56 hi hz0 hz1 hz2 rfl (by decide) _ n (g.code.flatMap MI.cells) rfl (by have:=E2.o.bl.nrow.2;rw[HN.o]at this;exact this) ⟨u.heap.size,0,none⟩ 1 1 [iZ op,iZ a,iZ b,iZ c] rfl rfl (De u _ _) (Ok [(⟨op,a,b,c⟩:MI)]) (by omega) (by simp[maxLen];omega) (by omega) E2.o.bl.size _ rfl ?_;intro g5 cap5 w5 hown hgrow hat hlt5;have HU:Hid (SM w (w5.setCell ⟨k.Gb,3,none⟩ (sG g5 (n+1) cap5)) s k p v (sG g5 (n+1) cap5) ⟨g.code++[(⟨op,a,b,c⟩:MI)],g.consts,g.certs⟩ left lv D/\w5.cell? ⟨k.Gb,3,none⟩=some (.slice a1 n c1)/\w5.frozen? ⟨k.Gb,3,none⟩=false):=E2.o.push [(⟨op,a,b,c⟩:MI)] (sG g5 (n+1) cap5) (by rw[HN.o];exact hown) hgrow (DO hat);have k1:=HU.o.2.1;have k2:=HU.o.2.2;clear hown hgrow hat hlt5)
 refine An (fun U=>Hid (SM w U s k p v (sG g5 (n+1) cap5) ⟨g.code++[(⟨op,a,b,c⟩:MI)],g.consts,g.certs⟩ left lv D)) HU.o.1 ?_;clear k1 k2 HU E2 q3;intro U E3;obtain⟨_,_,_,_,q4,_⟩:=E3.o.cells;have z4:=E3.o.frozen 4;have E4:=Af (E3.o.left_ (left-1));go_upto_region 3 with fail
 refine An (fun U=>Hid (SM w U s k p v (sG g5 (n+1) cap5) ⟨g.code++[(⟨op,a,b,c⟩:MI)],g.consts,g.certs⟩ (left-1) lv D)) E4 ?_;clear E4 E3 q4 z4;intro U2 E5;obtain⟨_,_,_,q5,_,_⟩:=E5.o.cells;go_wp2_with fail
 go_ret
 exact⟨by simp,_,E5.o⟩
section
variable {w u:World} {s:CR} {k:GK} {p left lv:Int} {nt:Nat} {D:List As} {op a b c:Int}
theorem Fa(E:Hid (GS w u s k p left lv nt D))(hx:GU k 0 (k.L0-left+1) ⟨op,a,b,c⟩)(hl:-900000<=left:=by omega):
 Calls Tryz.prog 37 #[.pointer (some ⟨k.Gb,0,none⟩),iZ op,iZ a,iZ b,iZ c] u fun e u'=>∃n:Nat,e=.returned (iZ (n:Int))/\(n:Int)=k.L0-left/\Hid (GS w u' s k p (left-1) lv nt D):=by
 obtain⟨v,vc,g,h1,h2⟩:=E.o.ex;have:=h2.len;have:=E.o.le;refine(FG w u s k p v vc g left lv D op a b c h1 (by omega) (by omega)).mono ?_;rintro e u' ⟨rfl,vc',h3⟩;exact⟨g.code.length,rfl,by omega,E.o.ok,v,vc',_,h3,h2.put (hx.mono (cU _) (Int.le_refl _))⟩
theorem Sh(E:Hid (GS w u s k p left lv nt D))(hx:GU k 0 (k.L0-left+1) ⟨op,a,b,c⟩)(hf:Az op=9\/Az op=10)(hl:-900000<=left:=by omega):
 Calls Tryz.prog 37 #[.pointer (some ⟨k.Gb,0,none⟩),iZ op,iZ a,iZ b,iZ c] u fun e u'=>∃n:Nat,e=.returned (iZ (n:Int))/\(n:Int)=k.L0-left/\Hid (TE w u' s {k with J:=n::k.J} p (left-1) lv nt D n):=by
 obtain⟨v,vc,g,h1,h2⟩:=E.o.ex;have hl:=h2.len;have hk:=E.o.ok;have:=E.o.le;refine(FG w u s k p v vc g left lv D op a b c h1 (by omega) (by omega)).mono ?_;rintro e u' ⟨rfl,vc',h3⟩
 exact⟨g.code.length,rfl,by omega,⟨hk.f3,hk.fr,hk.ft,hk.fi,hk.gl,hk.fn,hk.l0⟩,v,vc',_,⟨h3.bl⟩,(h2.put (hx.mono (cU _) (Int.le_refl _))).jump hf,by simp only[];omega,fun x hx e=>by
  rcases(h2.wt x hx).2.2 with q|q
  . simp only[]at e;omega
  . exact q.2.1⟩
theorem TE.gs{n:Nat}(h:TE w u s k p left lv nt D n):GS w u s k p left lv nt D:=by
 obtain⟨hk,v,vc,g,h1,h2,_⟩:=h;exact⟨hk,v,vc,g,h1,h2⟩
theorem Uc{r:Nat}(E:Hid (GSC w u s k p left lv nt D r))(hl:-900000<=left:=by omega):
 Calls Tryz.prog 37 #[.pointer (some ⟨k.Gb,0,none⟩),iZ 1,iZ (r:Int),iZ 0,iZ 0] u fun e u'=>∃n:Nat,e=.returned (iZ (n:Int))/\Hid (GS w u' s k p (left-1) lv nt D):=by
 obtain⟨hk,v,vc,g,h1,h2,hr⟩:=E.o;have:=h2.len;have:=hk.l0;refine(FG w u s k p v vc g left lv D 1 r 0 0 h1 (by omega) (by omega)).mono ?_;rintro e u' ⟨rfl,vc',h3⟩;exact⟨g.code.length,rfl,hk,v,vc',_,h3,h2.put (ok1 hr h2.nc)⟩
theorem Ud(E:Hid (GS w u s k p left lv nt D))(hl:-900000<=left:=by omega):
 Calls Tryz.prog 37 #[.pointer (some ⟨k.Gb,0,none⟩),iZ op,iZ a,iZ b,iZ c] u fun e u'=>∃n:Nat,e=.returned (iZ (n:Int))/\Hid (Pf w u' s k p left lv nt D ⟨op,a,b,c⟩):=by
 obtain⟨v,vc,g,h1,h2⟩:=E.o.ex;have:=h2.len;have:=E.o.le;refine(FG w u s k p v vc g left lv D op a b c h1 (by omega) (by omega)).mono ?_;rintro e u' ⟨rfl,vc',h3⟩;exact⟨g.code.length,rfl,E.o.ok,v,vc',g,h3,h2⟩
end
def MI.setf(x:MI)(i:Nat)(z:Int):MI:=match i with|0=>⟨z,x.a,x.b,x.c⟩|1=>⟨x.op,z,x.b,x.c⟩|2=>⟨x.op,x.a,z,x.c⟩|_=>⟨x.op,x.a,x.b,z⟩
theorem KX{code:List MI}{j i:Nat}{x:MI}{z:Int}(hx:code[j]?=some x)(hi:i<4):(code.flatMap MI.cells).set (j*4+i) (.int .i64 z)=(code.set j (x.setf i z)).flatMap MI.cells:=by
 induction code generalizing j with
 |nil=>cases hx
 | cons y r ih=>
   cases j with
   | zero=>
     simp only[aJ,aM]at hx;subst hx;have:i=0\/i=1\/i=2\/i=3:=by omega
     rcases this with rfl|rfl|rfl|rfl<;>rfl
   | succ j=>
     simp only[aL]at hx;rw[aw,am,am,<-ih hx,show(j+1)*4+i=j*4+i+1+1+1+1 by omega];rfl
section
variable {w u u':World} {s:CR} {k:GK} {p left lv:Int} {nt:Nat} {D:List As}
theorem GS.setC(h:GS w u s k p left lv nt D){j:Nat}(hj:j∈k.J)(hl:-900000<=left):∃gc cc d:Nat,(d:Int)=k.L0-left/\j<d/\u.cell? ⟨k.Gb,3,none⟩=some (sG gc d cc)/\(∃old:Int,u.cell? ⟨gc,j*4+3,none⟩=some (iZ old))/\u.frozen? ⟨gc,j*4+3,none⟩=false/\GS w (u.setCell ⟨gc,j*4+3,none⟩ (iZ (d:Int))) s k p left lv nt D:=by
 obtain⟨v,vc,g,h1,h2⟩:=h.ex;have hlen:=h2.len;have hl0:=h.ok.l0;obtain⟨x,hx,hf⟩:=h2.jm j hj;have hlt:=(aE.1 hx).1;have ho:=h1.bl.nrow.2;rcases Ci ho with⟨e,h0⟩|⟨gc,cc,e⟩
 . omega
 have hc:=h1.cells.2.2.2.1;rw[e]at ho hc;have hce:=bF ho (j*4+3) (by omega);rw[C8 MI.cells 4 MI.cells_length g.code j 3 x hx (by omega)]at hce;refine⟨gc,cc,g.code.length,by omega,hlt,hc,⟨_,hce⟩,ho.frozenAt _,h.ok,v,vc,⟨g.code.set j (x.setf 3 (g.code.length:Int)),g.consts,g.certs⟩,⟨h1.bl.set_n (n:=0) e (by simp) (j*4+3) _ (KX hx (by omega))⟩,⟨by simpa using hlen,h2.nc,h2.lc,h2.nt,fun y hy=> ?_,h2.wk,h2.bk,by simpa using h2.wt,h2.ri,fun i hi=> ?_⟩⟩
 . simp only[cg]
   rcases dR hy with q|q
   . exact h2.wc y q
   . rw[q]
     exact(h2.wc x (aF hx)).setC hf (by omega) (Int.le_refl _) (by omega)
 . obtain⟨y,hy,hfy⟩:=h2.jm i hi
   by_cases e:j=i
   . subst e
     exact⟨x.setf 3 (g.code.length:Int),by simp[hlt],hf⟩
   . exact⟨y,by simp only[];rw[cJ e];exact hy,hfy⟩
theorem Pf.gs{x:MI}(h:Pf w u s k p left lv nt D x)(hx:GU k 0 (k.L0-left+1) x):GS w u s k p (left-1) lv nt D:=by
 obtain⟨hk,v,vc,g,h1,h2⟩:=h;exact⟨hk,v,vc,_,h1,h2.put (hx.mono (cU _) (Int.le_refl _))⟩
theorem Pf.at{op t:Int}(h:Pf w u s k p left lv nt D ⟨op,0,0,0⟩)(hl:-900000<=left):∃gc cc n:Nat,(n:Int)=k.L0-left/\u.cell? ⟨k.Gb,3,none⟩=some (sG gc (n+1) cc)/\u.cell? ⟨gc,n*4,none⟩=some (iZ op)/\u.cell? ⟨gc,n*4+1,none⟩=some (iZ 0)/\u.frozen? ⟨gc,n*4+1,none⟩=false/\(GU k 0 (k.L0-left+1) ⟨op,t,0,0⟩->GS w (u.setCell ⟨gc,n*4+1,none⟩ (iZ t)) s k p (left-1) lv nt D):=by
 obtain⟨hk,v,vc,g,h1,h2⟩:=h;have hlen:=h2.len;have hl0:=hk.l0;have hx:(g.code++[(⟨op,0,0,0⟩:MI)])[g.code.length]?=some ⟨op,0,0,0⟩:=by simp
 have ho:=h1.bl.nrow.2;rcases Ci ho with⟨e,h0⟩|⟨gc,cc,e⟩
 . simp at h0
 have hc:=h1.cells.2.2.2.1;rw[e]at ho hc;simp only[]at ho;have c0:=bF ho (g.code.length*4+0) (by simp only[aH,aP];omega);have c1:=bF ho (g.code.length*4+1) (by simp only[aH,aP];omega);rw[C8 MI.cells 4 MI.cells_length _ _ 0 _ hx (by omega)]at c0;rw[C8 MI.cells 4 MI.cells_length _ _ 1 _ hx (by omega)]at c1;refine⟨gc,cc,g.code.length,by omega,by rw[hc];simp,c0,c1,ho.frozenAt _,fun hk'=>⟨hk,v,vc,⟨g.code++[⟨op,t,0,0⟩],g.consts,g.certs⟩,⟨h1.bl.set_n (n:=0) e (by simp) (g.code.length*4+1) _ ?_⟩,h2.put (hk'.mono (cU _) (Int.le_refl _))⟩⟩;rw[KX hx (by omega)];simp[MI.setf]
theorem GS.lvl(h:GS w u s k p left lv nt D):u.cell? ⟨k.Gb,5,none⟩=some (iZ lv)/\u.frozen? ⟨k.Gb,5,none⟩=false/\∀x,GS w (u.setCell ⟨k.Gb,5,none⟩ (iZ x)) s k p left x nt D:=by
 obtain⟨v,vc,g,h1,h2⟩:=h.ex;exact⟨h1.cells.2.2.2.2.2,h1.frozen 5,fun x=>⟨h.ok,v,vc,g,h1.level_ x,h2⟩⟩
end
def SG(w:World)(B I L:Nat)(a:Option Addr)(c:Nat)(zs:List Int)(e:Ending)(w':World):Prop:=
 (e=Ba 1/\¬DF zs/\DX (fun j=>j=I) w w')\/(e=Ba 2/\DF zs/\¬Iw zs/\DX (fun j=>j=I) w w')\/(e=.returned (.tuple #[])/\DF zs/\Iw zs/\Hh w' B I (L-4) a c (AM zs) 4/\DX (fun j=>j=I) w w')
theorem LB(B I L:Nat)(a:Option Addr)(c:Nat)(zs:List Int)(w:World)(ht:Dq w)(htB:0<B)(h:Hh w B I L a c zs 0):
 Calls Tryz.prog 71 #[.pointer (some ⟨I,0,none⟩)] w (SG w B I L a c zs):=by
 have hlen:=h.len;have hL:=h.big;have hc:=h.cap;have HI:=Af h;have HT:=Af ht;have HLen:=Af hlen;have hIl:=h.lt;have hBI:=h.hB;obtain⟨c0,c1⟩:=GP h.blk;have hrd:=h.rd w (aq _ _);have hzz:=h.hz;go_enter Tryz.func71,Tryz.ntmps71;by_cases h10:L<10
 . have h10':¬(10:Int)<=(L:Int):=by omega
   have HS:Hid (¬DF zs):=fun hs=>by have:=hs.1;omega
   go_wp2_with (go_at_call 72;refine(DK 1 _).mono ?_;rintro e u2 ⟨rfl,hu⟩;obtain rfl:=hu.symm;unfold Ba)
   exact⟨rfl,.inl ⟨rfl,HS.o,DX.refl _ _⟩⟩
 . have h10':(10:Int)<=(L:Int):=by omega
   obtain⟨g,o,hg⟩:∃g o,a=some ⟨g,o,none⟩:=by
    rcases hrd.2 with⟨e,_⟩|⟨g,o,c',e,_⟩
    . omega
    . cases e;exact⟨g,o,rfl⟩
   subst hg;obtain⟨str,hstr,hiff⟩:=DF.str hzz (by omega)
   have HS:Hid (DF zs↔(str.toList==[80,76,67,49])=true):=by
    show _↔_;rw[hiff,beq_iff_eq,ByteArray.toList_eq];exact⟨fun e=>by rw[e],fun e=>ByteArray.ext (Array.toList_inj.1 e)⟩
   have HW:Hid (∀u,Below w.heap.size w u->(convert 22 9 (sO g o 4 c)).run Tryz.prog u=.ok (.string str) u):=fun u hu=>TU (h.rd u (hu.mono (by omega))) hzz (by omega) hstr
   generalize hz0:(str.toList==[80,76,67,49])=z at HS;have hcv:=Lib.run_convert_bytes_const (P:=Tryz.prog) w 22 5 #[.int .u8 80,.int .u8 76,.int .u8 67,.int .u8 49] 4 4 Tryz.underlying22 Tryz.underlying5;cases z
   . go_wp2_with (first|(go_at_call 111;refine(I8 g o L c w.heap.size str _ (by omega) hc (HW.o _ (Aa _ _)) (Su (fun j=>World.cell?_alloc_mark w #[.int .u8 80,.int .u8 76,.int .u8 67,.int .u8 49] 5 (4,5) j))).mono ?_;rintro e u2 ⟨rfl,hu⟩;rw[hz0];subst hu)|(go_at_call 72;refine(DK 1 _).mono ?_;rintro e u2 ⟨rfl,hu⟩;subst hu;unfold Ba))
     exact⟨rfl,.inl ⟨rfl,fun h=>(by have:=HS.o.1 h;cases this),DX.of (Aa _ _)⟩⟩
   . have HST:Hid (DF zs):=HS.o.2 rfl
     go_upto_region 1 with(first|(go_at_call 111;refine(I8 g o L c w.heap.size str _ (by omega) hc (HW.o _ (Aa _ _)) (Su (fun j=>World.cell?_alloc_mark w #[.int .u8 80,.int .u8 76,.int .u8 67,.int .u8 49] 5 (4,5) j))).mono ?_;rintro e u2 ⟨rfl,hu⟩;rw[hz0];subst hu)|(go_at_call 72;refine(DL 1 _).mono ?_;rintro e u2 ⟨rfl,hu⟩;subst hu))
     refine An (fun u=>Hid (Below w.heap.size w u)) (Aa _ _) ?_;intro u0 B0;have HI0:=Af (HI.o.keep B0.o);obtain⟨c0,c1⟩:=GP HI0.o.blk;have hL4:((L-4:Nat):Int)=(L:Int)-4:=by omega
     have hcL:(L:Int)-4<=(c:Int):=by omega
     have hL0:(0:Int)<=(L:Int)-4:=by omega
     have h4L:(4:Int)<=(L:Int):=by omega
     have htn:((L:Int)-4).toNat=L-4:=by omega
     have HG:Hid (∀u,Below B u0 u->Calls Tryz.prog 112 #[sO g o L c,iZ ((L:Int)-4),iZ 4] u fun e u'=>e=.returned (.agg #[.bool true,iZ (wrap64 (Cd zs (L-4) 4))])/\Below u.heap.size u u'):=fun u hu=>by
      have:=Hv (sO g o L c) L zs (L-4) 4 u hL (HI0.o.rd u hu) (fun a' c' e=>by cases e;exact hc) (by omega) (by omega) (by omega);rw[hL4]at this;exact this
     have HRB:Hid (∀u,Below B w u->Dp u (sO g o (L-4) c) (L-4) ((AM zs).map (Value.int .u8))):=fun u hu=>by
      have:=(HI.o.rd u hu).front (m:=L-4) (by omega) (by omega);rw[AM,HLen.o];exact this
     have HZB:Hid (DC (AM zs)):=HI.o.hz.take _;have HC:Hid (∀u,Below B w u->Dq u->Calls Tryz.prog 22 #[sO g o (L-4) c] u fun e u'=>e=.returned (.int .u32 (FY (~~~(C6 (AM zs) (L-4)))))/\u'=u):=fun u hu ht=>OD _ (L-4) (AM zs) u (by omega) (HRB.o u hu) HZB.o ht
     have hcw:IntKind.i64.wrap (FY (~~~(C6 (AM zs) (L-4))))=FY (~~~(C6 (AM zs) (L-4))):=by
      have:=Rm (~~~(C6 (AM zs) (L-4)))
      exact cQ _ ⟨by omega,by omega⟩
     have H4:Hid (Iw zs↔wrap64 (Cd zs (L-4) 4)=FY (~~~(C6 (AM zs) (L-4)))):=by unfold Iw;rw[HLen.o];exact Iff.rfl
     generalize wrap64 (Cd zs (L-4) 4)=x4 at*;generalize FY (~~~(C6 (AM zs) (L-4)))=s4 at*
     go_upto_region 3 with(go_at_call 112;refine(HG.o _ (aq _ _)).mono ?_;rintro e u1 ⟨rfl,b1⟩;have B1:Hid (Below w.heap.size w u1):=Ab B0.o lR b1;clear b1)
     refine An (fun u=>Hid (Below w.heap.size w u/\Ap u u1.heap.size #[.bool true,iZ x4] 184)) ⟨Ab B1.o lR (Aa _ _),Ap.new _ _ _⟩ ?_
     generalize u1.heap.size=X;intro u2 H2;have HTK:Hid (∀u,Below w.heap.size w u->Dq u):=fun u hu j hj=>by rw[hu.cell (aD (HT.o j hj))];exact HT.o j hj
     have KS:∀u,Below w.heap.size w u/\Ap u X #[.bool true,iZ x4] 184->(u.cell? ⟨X,1,none⟩=some (iZ x4)/\u.cell? ⟨I,0,none⟩=some (sO g o L c)):=fun u h=>⟨h.2.cell 1,(HI.o.keep h.1).blk.cell 0⟩
     have HD:=Af (aG (Ab H2.o.1 lR (Ae _)) (H2.o.2.keep (Ae _)));by_cases h45:x4=s4
     . have HS4:Hid (Iw zs):=H4.o.2 h45
       have hb:(x4==s4)=true:=by simpa using h45
       clear H4 h45;refine wp_region_held_drew (S:=fun w'=>(w'.cell? ⟨X,1,none⟩=some (iZ x4)/\w'.cell? ⟨I,0,none⟩=some (sO g o L c))) (by kernel_rfl) (KS _ HD.o) (fun hHeld=> ?_)
       generalize u2.drew=UD at HD hHeld⊢;refine Ar 0 ?_;refine Ar 1 ?_;refine Ar 2 ?_;refine Ar 3 ?_;refine Ar 4 ?_;refine Ar 5 ?_;refine Ar 6 ?_;refine Ar 7 ?_;clear hHeld;go_simp;refine FL 8 ?_;intro KC hKC;go_simp;refine(HC.o UD (HD.o.1.mono (by omega)) (HTK.o UD HD.o.1)).mono ?_;rintro e v1 ⟨rfl,hv⟩;obtain rfl:=hv.symm;go_simp;refine hKC.o _ _ (KS _ HD.o) (fun hHeld=> ?_);clear hKC KC;refine Ar 9 ?_;refine Ar 10 ?_;refine FL 11 ?_;intro KC hKC;go_simp;refine(DL 2 _).mono ?_;rintro e v2 ⟨rfl,hv⟩;obtain rfl:=hv.symm;go_simp;refine hKC.o _ _ (KS _ HD.o) (fun hHeld=> ?_);refine wpAnyH_done (by kernel_rfl) ?_ _;have HIU:=Af (HI.o.keep HD.o.1);obtain⟨c0,c1⟩:=GP HIU.o.blk;have z0:=HIU.o.blk.frozen 0;have z1:=HIU.o.blk.frozen 1;go_wp2
       have HE:Hid (Ap ((UD.setCell ⟨I,0,none⟩ (sO g o (L-4) c)).setCell ⟨I,1,none⟩ (iZ 4)) I #[sO g o (L-4) c,iZ ((4:Nat):Int)] 102/\Below B w ((UD.setCell ⟨I,0,none⟩ (sO g o (L-4) c)).setCell ⟨I,1,none⟩ (iZ 4))/\DX (fun j=>j=I) w ((UD.setCell ⟨I,0,none⟩ (sO g o (L-4) c)).setCell ⟨I,1,none⟩ (iZ 4))):=by
        refine⟨?_,((HD.o.1.mono (by omega)).setCell hBI (sO g o (L-4) c)).setCell hBI (iZ 4),((DX.of (R:=fun j=>j=I) HD.o.1).setCell (ad:=⟨I,0,none⟩) (.inl rfl) (sO g o (L-4) c)).setCell (ad:=⟨I,1,none⟩) (.inl rfl) (iZ 4)⟩;have:=(HIU.o.blk.set 0 (sO g o (L-4) c)).set 1 (iZ 4);simpa using this
       generalize (UD.setCell ⟨I,0,none⟩ (sO g o (L-4) c)).setCell ⟨I,1,none⟩ (iZ 4)=WF at HE⊢;exact dh (v:=.tuple #[]) (by kernel_rfl) rfl (.inr (.inr ⟨rfl,HST.o,HS4.o,⟨HE.o.1,fun v hv=>HRB.o v (HE.o.2.1.trans hv),by omega,by omega,hBI,HZB.o,by omega⟩,HE.o.2.2⟩))
     . have HS4:Hid (¬Iw zs):=fun h=>h45 (H4.o.1 h)
       have hb:(x4==s4)=false:=by simpa using h45
       refine wp_region_held_drew (S:=fun w'=>(w'.cell? ⟨X,1,none⟩=some (iZ x4)/\w'.cell? ⟨I,0,none⟩=some (sO g o L c))) (by kernel_rfl) (KS _ HD.o) (fun hHeld=> ?_)
       generalize u2.drew=UD at HD hHeld⊢;refine Ar 0 ?_;refine Ar 1 ?_;refine Ar 2 ?_;refine Ar 3 ?_;refine Ar 4 ?_;refine Ar 5 ?_;refine Ar 6 ?_;refine Ar 7 ?_;go_simp;refine FL 8 ?_;intro KC hKC;go_simp;refine(HC.o UD (HD.o.1.mono (by omega)) (HTK.o UD HD.o.1)).mono ?_;rintro e v1 ⟨rfl,hv⟩;obtain rfl:=hv.symm;go_simp;refine hKC.o _ _ (KS _ HD.o) (fun hHeld=> ?_);refine Ar 9 ?_;refine Ar 10 ?_;refine FL 11 ?_;intro KC hKC;go_simp;refine(DK 2 _).mono ?_;rintro e v2 ⟨rfl,hv⟩;obtain rfl:=hv.symm;unfold Ba;go_wp2
       exact⟨rfl,.inr (.inl ⟨rfl,HST.o,HS4.o,DX.of HD.o.1⟩)⟩
theorem Sw:Az 8=5/\Az 9=5/\Az 10=5/\Az 11=5/\Az 12=5/\Az 13=6/\Az 14=6/\Az 15=6/\Az 16=6/\Az 20=7/\Az 21=5/\Az 22=8:=by decide+kernel
theorem AH.type{p:MP}{f:MF}{x:MI}(h:AH p f x)(e:(8<=x.op/\x.op<=16)\/x.op=20\/x.op=21):DZ x.a=true:=by
 obtain⟨_,_,h⟩:=h
 have hf:Az x.op=5\/Az x.op=6\/Az x.op=7:=by
  have h3:x.op=8\/x.op=9\/x.op=10\/x.op=11\/x.op=12\/x.op=13\/x.op=14\/x.op=15\/x.op=16\/x.op=20\/x.op=21:=by omega
  obtain⟨k0,k1,k2,k3,k4,k5,k6,k7,k8,k9,kA,kB⟩:=Sw;rcases h3 with e|e|e|e|e|e|e|e|e|e|e<;>rw[e]<;>omega
 unfold AJ AL at h;rcases h with h|h|h|h|h|h|h|h|h|h<;>first|(exfalso;omega)|(rcases h.1 with h|h|h<;>first|exact h.2|(rcases h.2 with e|e<;>rw[e]<;>rfl))
theorem AH.conv{p:MP}{f:MF}{x:MI}(h:AH p f x)(e:x.op=22):DZ x.a=true/\DZ x.b=true:=by
 obtain⟨_,_,h⟩:=h;have hf:Az x.op=8:=by rw[e];exact Sw.2.2.2.2.2.2.2.2.2.2.2
 unfold AJ AL at h;rcases h with h|h|h|h|h|h|h|h|h|h<;>first|(exfalso;omega)|exact⟨h.2.1,h.2.2.1⟩
theorem AH.loc0{p:MP}{f:MF}{x:MI}(h:AH p f x)(e:x.op=2):AA f x.a≠0:=fun e0=>by
 have h5:=h.2.2;have hf2:Az x.op=2:=by rw[e];exact FV.2.1
 unfold AJ AL at h5;rcases h5 with h|h|h|h|h|h|h|h|h|h<;>first|(exfalso;omega)|exact h.2.1 e0
theorem QG{p:MP}{f:MF}{x:MI}(hp:AV p 0)(hx:AH p f x):(∀t∈Ay p f x,t=0->0<(Au p f x).length)/\(Ay p f x).length<=2:=by
 have hpp:=hp.parts;have one:∀t:Int,t≠0->(∀u∈[t],u=0->0<(Au p f x).length)/\[t].length<=2:=fun t ht=>⟨fun u hu e=>by simp only[bO]at hu;exact absurd (hu.symm.trans e) ht,by simp⟩
 unfold Ay;by_cases c1:x.op=1
 . rw[bj c1]
   obtain⟨q,z,e1,e2⟩:=hx.const c1;have hc:=hpp.2.1.2 q (aE.1 e2).1 z e2;have e3:Ur p.consts x.a.toNat=z:=by unfold Ur;rw[e1,aX,e2];rfl
   rw[e3];exact one _ (Hk hc.1)
 rw[bX c1];by_cases c2:x.op=2
 . rw[bj c2];exact one _ (hx.loc0 c2)
 rw[bX c2];by_cases c4:x.op=4\/x.op=6
 . rw[bj c4]
   obtain⟨q,z,r,e1,e2,e3,e4⟩:=hx.cell hpp.1.1 (by omega);have:=(hpp.1.2 q (aE.1 e3).1 r e3).2;exact one _ (Hk (dp.1 this _ (aF e4)))
 rw[bX c4];by_cases c8:8<=x.op/\x.op<=16
 . rw[bj c8];exact one _ (Hk (hx.type (by omega)))
 rw[bX c8];by_cases c17:x.op=17\/x.op=18
 . rw[bj c17];exact one _ (by decide)
 rw[bX c17];by_cases c19:x.op=19
 . rw[bj c19];exact one _ (by decide)
 rw[bX c19];by_cases c20:x.op=20\/x.op=21
 . rw[bj c20];exact one _ (by decide)
 rw[bX c20];by_cases c22:x.op=22
 . rw[bj c22];exact one _ (Hk (hx.conv c22).2)
 rw[bX c22];by_cases c23:x.op=23
 . rw[bj c23]
   have e1:Au p f x=[0]:=by unfold Au;rw[bX (by omega),bX (by omega),bX (by omega),bX (by omega),bX (by omega),bX (by omega),bX (by omega),bX (by omega),bj (by omega)]
   rw[e1];exact⟨fun _ _ _=>by simp,by simp⟩
 rw[bX c23];by_cases c28:x.op=28
 . rw[bj c28]
   obtain⟨q,fq,e1,e2⟩:=hx.callee c28;have hfq:CJ fq:=hpp.2.2.1.2.2.1 q (aE.1 e2).1 fq e2;rw[e1,aX,e2];simp only[];unfold BJ;by_cases hr:fq.result=0
   . rw[bj hr];exact⟨fun t ht=>(by cases ht),by simp⟩
   . rw[bX hr];exact one _ hr
 . rw[bX c28];exact⟨fun t ht=>(by cases ht),by simp⟩
end Go.Proofs.YtjcamlobelcepaaGreatDoor
