import Derived.Test.YtjcamlobelcepaaGreatDoorCt33
namespace Go.Proofs.YtjcamlobelcepaaGreatDoor
open Go.ChangeShapes Go.WideShapes Go.ChangeAt Go.RowKit
set_option linter.unusedVariables false
section
variable {w u u':World} {s:CR} {p:Int} {v:VP} {F:List (List Int×Value)} {G:List (MF×VF)} {cs:List MC} {ts:List MT} {D:List As}
theorem Bs.fn(h:Bs w u s p (Ai v F cs G ts D)){q:Nat}{y:MF×VF}(hq:G[q]?=some y):∃gf cf ap cp al cl ac cc,v.f=.slice (some ⟨gf,0,none⟩) G.length cf/\y.2=⟨.slice ap y.1.params.length cp,.slice al y.1.locals.length cl,.slice ac y.1.code.length cc⟩/\(u.cell? ⟨gf,q*4,none⟩=some (.slice ap y.1.params.length cp)/\u.cell? ⟨gf,q*4+1,none⟩=some (.int .i64 y.1.result)/\u.cell? ⟨gf,q*4+2,none⟩=some (.slice al y.1.locals.length cl)/\u.cell? ⟨gf,q*4+3,none⟩=some (.slice ac y.1.code.length cc))/\u.ownsRow w.heap.size 2 1 (.slice ap y.1.params.length cp) y.1.params.length (y.1.params.flatMap Ac)/\u.ownsRow w.heap.size 2 1 (.slice al y.1.locals.length cl) y.1.locals.length (y.1.locals.flatMap Ac)/\u.ownsRow w.heap.size 97 4 (.slice ac y.1.code.length cc) y.1.code.length (y.1.code.flatMap MI.cells):=by
 have hlt:=(aE.1 hq).1
 have m:∀r∈Co y,r∈Ai v F cs G ts D:=fun r hr=>by
  have:r∈BQ G:=cG.2 ⟨y,aF hq,hr⟩;simp[Ai,this]
 have o1:=h.sep.own _ (m (A8 y.2.p y.1.params) (by simp[Co]));have o2:=h.sep.own _ (m (A8 y.2.l y.1.locals) (by simp[Co]));have o3:=h.sep.own _ (m (Ca y.2.c y.1.code) (by simp[Co]));obtain⟨f,vp,vl,vc⟩:=y;obtain⟨ap,cp,e1⟩:∃a c,vp=.slice a f.params.length c:=A9 o1;obtain⟨al,cl,e2⟩:∃a c,vl=.slice a f.locals.length c:=A9 o2;obtain⟨ac,cc,e3⟩:∃a c,vc=.slice a f.code.length c:=A9 o3;subst e1 e2 e3;have o4:=h.prow.2.2.2.1;rcases Ci o4 with⟨e,h0⟩|⟨gf,cf,e⟩
 . omega
 rw[e]at o4;have c0:=bF o4 (q*4) (by omega);have c1:=bF o4 (q*4+1) (by omega);have c2:=bF o4 (q*4+2) (by omega);have c3:=bF o4 (q*4+3) (by omega);have hh:∀j,j<4->(G.flatMap AW)[q*4+j]?=(AW (f,⟨.slice ap f.params.length cp,.slice al f.locals.length cl,.slice ac f.code.length cc⟩))[j]?:=fun j hj=>C8 AW 4 Ag G q j _ hq hj
 rw[show q*4=q*4+0 from rfl,hh 0 (by omega)]at c0;rw[hh 1 (by omega)]at c1;rw[hh 2 (by omega)]at c2;rw[hh 3 (by omega)]at c3;exact⟨gf,cf,ap,cp,al,cl,ac,cc,e,rfl,⟨c0,c1,c2,c3⟩,o1,o2,o3⟩
theorem Bs.reg(h:Bs w u s p (Ai v F cs G ts D)){q:Nat}{y:List Int×Value}(hq:F[q]?=some y):∃gr cr a c,v.r=.slice (some ⟨gr,0,none⟩) F.length cr/\y.2=.slice a y.1.length c/\u.cell? ⟨gr,q,none⟩=some (.slice a y.1.length c)/\u.ownsRow w.heap.size 2 1 (.slice a y.1.length c) y.1.length (y.1.flatMap Ac):=by
 have hlt:=(aE.1 hq).1
 have m:A8 y.2 y.1∈Ai v F cs G ts D:=by
  have:A8 y.2 y.1∈BS F:=cE.2 ⟨y,aF hq,rfl⟩;simp[Ai,this]
 have o1:=h.sep.own _ m;obtain⟨f,vp⟩:=y;obtain⟨ap,cp,e1⟩:∃a c,vp=.slice a f.length c:=A9 o1;subst e1;have o4:=h.prow.2.1;rcases Ci o4 with⟨e,h0⟩|⟨gf,cf,e⟩
 . omega
 rw[e]at o4;have c0:=bF o4 q (by omega);have hh:=C8 BE 1 AK F q 0 _ hq (by omega);rw[bR,aT]at hh;rw[hh]at c0;exact⟨gf,cf,ap,cp,e,rfl,c0,o1⟩
end
section
variable {w u u':World} {s:CR} {k:GK} {p left lv:Int} {nt:Nat} {D:List As}
def Um(w:World)(s:CR)(k:GK)(p left lv:Int)(nt:Nat)(D:List As)(q:Nat->Prop)(e:Ending)(u':World):Prop:=∃r p':Int,e=.returned (iZ r)/\(r=-1\/∃b:Nat,r=b/\q b)/\(p<=p'/\p'<=p+1)/\Hid (GS w u' s k p' left lv nt D)
def MkG(w:World)(s:CR)(k:GK)(p left lv:Int)(nt:Nat)(D:List As)(q:Nat->Nat->Prop)(e:Ending)(u':World):Prop:=∃r m' p':Int,e=.returned (.tuple #[iZ r,iZ m'])/\(r=-1\/∃b m:Nat,r=b/\m'=m/\q b m)/\(p<=p'/\p'<=p+102)/\Hid (GS w u' s k p' left lv nt D)
theorem SA(E:Hid (GS w u s k p left lv nt D)){lv':Value}{xs:List Int}{t:Int}{q:Nat->Prop}(hr:Rd u 1 lv' xs.length (xs.flatMap Ac))(hl:xs.length<=1000)(hq:∀b,xs[b]?=some t->q b)(hp:p+1<=1000000000000):Calls Tryz.prog 86 #[.pointer (some ⟨s.S,0,none⟩),lv',iZ t,iZ 256] u (Um w s k p left lv nt D q):=
 (IV u s p t lv' xs E.o.src hp hr hl).mono fun e u' ⟨r,e1,h1,p',h2,hs,hd⟩=>⟨r,p',e1,h1.imp_right fun⟨b,e,h⟩=>⟨b,e,hq b h⟩,h2,E.o.draw hs hd⟩
theorem Si(E:Hid (GS w u s k p left lv nt D)){q:Nat}(hq:q<3)(hp:p+102<=1000000000000:=by omega):∃(gr cr:Nat) (a:Option Addr) (n c:Nat),u.cell? ⟨k.Gb,1,none⟩=some (.pointer (some ⟨k.P,0,none⟩))/\u.cell? ⟨k.P,0,none⟩=some (sG gr 3 cr)/\u.cell? ⟨gr,q,none⟩=some (.slice a n c)/\Hid (∀t,Calls Tryz.prog 86 #[.pointer (some ⟨s.S,0,none⟩),.slice a n c,iZ t,iZ 256] u (Um w s k p left lv nt D fun b=>Tp k q b t))/\Hid (∀t,Calls Tryz.prog 56 #[.pointer (some ⟨s.S,0,none⟩),.slice a n c,iZ t] u (MkG w s k p left lv nt D fun b m=>Mk m/\∀j,j<=m->Tp k q (b+j) t)):=by
 obtain⟨v,vc,g,h1,h2⟩:=E.o.ex;have hk:=E.o.ok;have hl:=hk.f3;obtain⟨y,hy⟩:∃y,k.F[q]?=some y:=⟨_,aA (by omega)⟩;obtain⟨gr,cr,a,c,e1,e2,h3,h4⟩:=h1.bl.reg hy;have hf:=hk.fr y (aF hy);have hp:=h1.pcells.1;rw[e1,hl]at hp
 exact⟨gr,cr,a,y.1.length,c,h1.cells.2.1,hp,h3,fun t=>SA E (Rd.of_own h4) (by omega) (fun b h=>⟨y,hy,h⟩) (by omega),fun t=>
  (Ku u s p t _ y.1 E.o.src (by omega) (RD.own h4 h1.bl.bel.lo) hf).mono fun e u' ⟨r,m',e1,h1,p',h2,hs,hd⟩=>⟨r,m',p',e1,h1.imp_right fun⟨b,m,e,e',h⟩=>⟨b,m,e,e',h.1,fun j hj=>⟨y,hy,h.2 j hj⟩⟩,h2,E.o.draw hs hd⟩⟩
theorem GS.fn(h:GS w u s k p left lv nt D){q:Nat}(hq:q<k.G.length):∃(gf cf:Nat) (xs:List Int) (a:Option Addr) (c:Nat),k.G[q]?.map (fun y=>y.1.params)=some xs/\u.cell? ⟨k.Gb,1,none⟩=some (.pointer (some ⟨k.P,0,none⟩))/\u.cell? ⟨k.P,2,none⟩=some (sG gf k.G.length cf)/\u.cell? ⟨gf,q*4,none⟩=some (.slice a xs.length c)/\Rd u 1 (.slice a xs.length c) xs.length (xs.flatMap Ac)/\xs.length<=3/\∀z∈xs,Ty z:=by
 obtain⟨v,vc,g,h1,h2⟩:=h.ex;obtain⟨y,hy⟩:∃y,k.G[q]?=some y:=⟨_,aA hq⟩;obtain⟨gf,cf,ap,cp,al,cl,ac,cc,e1,e2,⟨f0,f1,f2,f3⟩,o1,o2,o3⟩:=h1.bl.fn hy;have hp:=h1.pcells.2.2.1;rw[e1]at hp;have hf:=h.ok.fn y (aF hy);exact⟨gf,cf,y.1.params,ap,cp,by rw[hy];rfl,h1.cells.2.1,hp,f0,Rd.of_own o1,hf.pl,hf.pt⟩
abbrev Uu(k:GK)(gf cf:Nat)(f:MF)(ap:Option Addr)(cp:Nat)(al:Option Addr)(cl:Nat)(vc:Value)(W:World):Prop:=W.cell? ⟨k.Gb,1,none⟩=some (.pointer (some ⟨k.P,0,none⟩))/\W.cell? ⟨k.Gb,2,none⟩=some (iZ (k.fi:Int))/\W.cell? ⟨k.P,2,none⟩=some (sG gf k.G.length cf)/\W.cell? ⟨gf,k.fi*4,none⟩=some (.slice ap f.params.length cp)/\W.cell? ⟨gf,k.fi*4+1,none⟩=some (iZ f.result)/\W.cell? ⟨gf,k.fi*4+2,none⟩=some (.slice al f.locals.length cl)/\W.cell? ⟨gf,k.fi*4+3,none⟩=some vc
theorem GS.fc(h:GS w u s k p left lv nt D):∃gf cf f ap cp al cl ac n cc,(∃y,k.G[k.fi]?=some y/\y.1=f)/\Qb f/\(k.fi:Int)<(k.G.length:Int)/\Hid (∀W,Below u.heap.size u W->Uu k gf cf f ap cp al cl (.slice ac n cc) W/\W.ownsRow w.heap.size 2 1 (.slice ap f.params.length cp) f.params.length (f.params.flatMap Ac)/\W.ownsRow w.heap.size 2 1 (.slice al f.locals.length cl) f.locals.length (f.locals.flatMap Ac)):=by
 obtain⟨v,vc,g,h1,h2⟩:=h.ex;have hfi:=h.ok.fi;obtain⟨y,hy⟩:∃y,k.G[k.fi]?=some y:=⟨_,aA hfi⟩;obtain⟨gf,cf,ap,cp,al,cl,ac,cc,e1,e2,⟨f0,f1,f2,f3⟩,o1,o2,o3⟩:=h1.bl.fn hy;have p2:=h1.pcells.2.2.1;rw[e1]at p2;exact⟨gf,cf,y.1,ap,cp,al,cl,ac,_,cc,⟨y,hy,rfl⟩,h.ok.fn y (aF hy),by omega,fun W hW=>⟨⟨Ad hW h1.cells.2.1,Ad hW h1.cells.2.2.1,Ad hW p2,Ad hW f0,Ad hW f1,Ad hW f2,Ad hW f3⟩,Ah o1 hW lR,Ah o2 hW lR⟩⟩
end
theorem Lj{p:MP}{f:MF}{x:MI}{d me:Nat}{sh:List Int}{T:Nat->List Int}{D:Nat}(hx:f.code[d]?=some x)(hd:d<=me):FX p f (me+1-d) d sh T D=if Ha p f x sh=0 then FX p f (me+1-(d+1)) (d+1) (Np p f x sh) (Iq T d sh) (max D (Np p f x sh).length)else .inl (Ha p f x sh,d):=by
 have e:me+1-d=(me+1-(d+1))+1:=by omega
 rw[e,FX,hx]
theorem Nv{p:MP}{f:MF}{me d:Nat}{sh:List Int}{T:Nat->List Int}{D:Nat}(hd:d=me+1):FX p f (me+1-d) d sh T D=.inr (sh,T,D):=by
 have e:me+1-d=0:=by omega
 rw[e,FX]
theorem OK{α:Type}{l:List α}{k:Nat}{x:α}(h:l[k]?=some x):l.drop k=x::l.drop (k+1):=by
 obtain⟨i,rfl⟩:=aE.1 h;exact dt i
theorem O8{p:MP}{f:MF}{bs:List MB}{order:List Int}{k b:Nat}{z:Int}{m:MB}{s:WS}{RUN:Jw}(h:GZ p f bs ((order.map Int.toNat).drop k) s=RUN)(hz:order[k]?=some z)(ez:z=(b:Int))(hm:bs[b]?=some m):(match Ri p f m b s with|.inl e=>Sum.inl e|.inr s'=>GZ p f bs ((order.map Int.toNat).drop (k+1)) s')=RUN:=by
 have e:(order.map Int.toNat)[k]?=some b:=by rw[bQ,hz,ez];simp
 rw[OK e,GZ,hm]at h;exact h
def It(p:MP)(f:MF)(bs:List MB)(rest:List Nat)(me:Nat)(nx:List Nat)(sh:List Int)(C:Nat->Option (List Int))(T:Nat->List Int)(D:Nat)(RUN:Jw):Prop:=(match Ih nx sh C with|none=>Sum.inl (4,me)|some C'=>GZ p f bs rest ⟨C',T,D⟩)=RUN
theorem O6{p:MP}{f:MF}{m:MB}{b ma me:Nat}{s:WS}(h1:m.first=(ma:Int))(h2:m.last=(me:Int)):Ri p f m b s=(match FX p f (me+1-ma) ma ((s.c b).getD []) s.t s.d with|.inl e=>.inl e|.inr (sh,T,D)=>match Ih (m.next.map Int.toNat) sh s.c with|none=>.inl (4,me)|some C=>.inr ⟨C,T,D⟩):=by
 unfold Ri;have e:(m.last-m.first+1).toNat=me+1-ma:=by omega
 rw[e,h1,h2,aX,aX]<;>rfl
theorem It.bad{p:MP}{f:MF}{bs:List MB}{order:List Int}{k b ma me:Nat}{z:Int}{m:MB}{s:WS}{RUN:Jw}{e:Int×Nat}(h:GZ p f bs ((order.map Int.toNat).drop k) s=RUN)(hz:order[k]?=some z)(ez:z=(b:Int))(hm:bs[b]?=some m)(h1:m.first=(ma:Int))(h2:m.last=(me:Int))(hr:FX p f (me+1-ma) ma ((s.c b).getD []) s.t s.d=.inl e):RUN=.inl e:=by
 have:=O8 h hz ez hm;rw[O6 h1 h2,hr]at this;exact this.symm
theorem It.of{p:MP}{f:MF}{bs:List MB}{order:List Int}{k b ma me:Nat}{z:Int}{m:MB}{s:WS}{RUN:Jw}{sh sh':List Int}{T:Nat->List Int}{D:Nat}(h:GZ p f bs ((order.map Int.toNat).drop k) s=RUN)(hz:order[k]?=some z)(ez:z=(b:Int))(hm:bs[b]?=some m)(h1:m.first=(ma:Int))(h2:m.last=(me:Int))(hr:FX p f (me+1-ma) ma ((s.c b).getD []) s.t s.d=.inr (sh',T,D))(hs:sh'=sh\/m.next=[]):It p f bs ((order.map Int.toNat).drop (k+1)) me (m.next.map Int.toNat) sh s.c T D RUN:=by
 have h3:=O8 h hz ez hm;rw[O6 h1 h2,hr]at h3;unfold It;rcases hs with e|e
 . subst e
   rw[<-h3];simp only[];cases Ih (m.next.map Int.toNat) sh' s.c<;>rfl
 . rw[e]at h3⊢
   exact h3
theorem It.none_{p:MP}{f:MF}{bs:List MB}{rest nx:List Nat}{me t:Nat}{sh s':List Int}{C:Nat->Option (List Int)}{T:Nat->List Int}{D:Nat}{RUN:Jw}(h:It p f bs rest me (t::nx) sh C T D RUN)(hc:C t=some s')(hs:¬s'=sh):RUN=.inl (4,me):=by
 unfold It at h;rw[Ih,hc]at h;simp only[bX hs]at h;exact h.symm
theorem It.same{p:MP}{f:MF}{bs:List MB}{rest nx:List Nat}{me t:Nat}{sh s':List Int}{C:Nat->Option (List Int)}{T:Nat->List Int}{D:Nat}{RUN:Jw}(h:It p f bs rest me (t::nx) sh C T D RUN)(hc:C t=some s')(hs:s'=sh):It p f bs rest me nx sh C T D RUN:=by
 unfold It at h⊢;rw[Ih,hc]at h;simp only[bj hs]at h;exact h
theorem It.new{p:MP}{f:MF}{bs:List MB}{rest nx:List Nat}{me t:Nat}{sh:List Int}{C:Nat->Option (List Int)}{T:Nat->List Int}{D:Nat}{RUN:Jw}(h:It p f bs rest me (t::nx) sh C T D RUN)(hc:C t=none):It p f bs rest me nx sh (Jl C t sh) T D RUN:=by
 unfold It at h⊢;rw[Ih,hc]at h;exact h
theorem It.some_{p:MP}{f:MF}{bs:List MB}{rest:List Nat}{me:Nat}{sh:List Int}{C:Nat->Option (List Int)}{T:Nat->List Int}{D:Nat}{RUN:Jw}(h:It p f bs rest me [] sh C T D RUN):GZ p f bs rest ⟨C,T,D⟩=RUN:=h
theorem ME{p:MP}{f:MF}{x:MI}{sh:List Int}(h:CK p f x sh=0):(Hq p f x sh).length<=64:=by
 unfold CK at h;by_cases h1:sh.length<(Au p f x).length
 . rw[bj h1]at h;simp at h
 . rw[bX h1]at h
   split at h
   . simp at h
   . split at h
     . simp at h
     . omega
theorem Rf{xs:List MI}{b e:Nat}{m:MB}{x:MI}(h:(AE xs)[b]?=some m)(he:m.last=(e:Int))(hx:xs[e]?=some x)(hop:x.op=29):m.next=[]:=by
 unfold AE at h;rw[bQ]at h;obtain⟨m0,h1,rfl⟩:=bz.1 h;have he0:m0.last=(e:Int):=he
 have hB:(DB xs m0).next=DH xs x e:=by
  unfold DB;rw[he0,aX,aU,hx];rfl
 rw[hB];simp[DH,I6,Bj,hop]
end Go.Proofs.YtjcamlobelcepaaGreatDoor
