import Derived.Test.YtdipfjmlfbdkdaaGreatFc48
import Derived.Test.YtdipfjmlfbdkdaaGreatFc47
namespace Go.Proofs.YtdipfjmlfbdkdaaGreat
open Go.ChangeShapes Go.WideShapes Go.ChangeAt Go.RowKit
set_option linter.unusedVariables false
section
variable {r:Dm} {E:Nat->List Nat} {n:Nat} {O:List Nat} {D L:Nat->Nat->Bool} {h:Nat}
theorem Gd.inZ(g:Gd r E n O D L)(hh:h<n)(z:Nat):(z:Int)∈(Hi E D L n h).blocks↔L h z=true:=by
 simp only[Hi,ints,au,da,br];constructor
 . rintro⟨a,⟨_,h2⟩,h3⟩
   have:a=z:=by omega
   rw[<-this];exact h2
 . exact fun h1=>⟨z,⟨g.fl.in_lt hh ((g.il _ _).1 h1),h1⟩,rfl⟩
theorem Gd.inP_(g:Gd r E n O D L)(hh:h<n):Da (fun b=>decide ((b:Int)∈(Hi E D L n h).blocks)) n=fun b=>L h b=true:=by
 funext b
 apply propext;unfold Da;rw[cG,g.inZ hh];exact⟨fun q=>q.2,fun q=>⟨g.fl.in_lt hh ((g.il _ _).1 q),q⟩⟩
theorem PH.togV(g:Gd r (nx r.blocks) n O D L)(hnx:∀b m,r.blocks[b]?=some m->m.next=ints (nx r.blocks b)){I I':List Nat}{C C':List Int}{Dn:Nat->Prop}{t:Int}{b:Bool}(s:Hf (nx r.blocks) n D Dn (jf I))(q:NK (nx r.blocks) n D L Dn h)(hC:∀c,0<=cf C c)(ht:0<=t)(hT:PH (nx r.blocks) n r.blocks (Hi (nx r.blocks) D L n h) I C h (B8 O) t b I' C'):
 (b=false->JZ (nx r.blocks) (fun b=>L h b=true) (· ∈An (nx r.blocks) D n h) (jf I) h (cf C) t none)/\(b=true->∃v,JZ (nx r.blocks) (fun b=>L h b=true) (· ∈An (nx r.blocks) D n h) (jf I) h (cf C) t (some v)/\0<=v/\C'=C.set h v/\∀j,jf I' j=if j∈(Hi (nx r.blocks) D L n h).blocks.map Int.toNat then h else jf I j):=by
 have hR:=q.rgn g.fl s;have hin:(Ar (nx r.blocks) D n h)=fun b=>L h b=true:=funext fun b=>propext (g.il h b).symm
 rw[hin]at hR;have hRP:=hR;rw[<-g.inP_ q.lt]at hRP;obtain⟨Lc,small,hw,h1,h2⟩:=hT;cases small with
 | false=>
   have hn:=hw.noPass g.fl hRP hC;rw[g.inP_ q.lt]at hn;have hb:=h1 rfl;exact⟨fun _=>.inl ⟨rfl,hn⟩,fun e=>by rw[hb]at e;cases e⟩
 | true =>
   obtain⟨ar,ou,m1,m2,k1,k2⟩:=h2 rfl;have hp:=hw.pass g.fl s hRP hC;rw[g.inP_ q.lt]at hp;have m1':Br (fun b=>cf Lc (jf I b)) (· ∈An (nx r.blocks) D n h) ar:=m1.iff fun b=>(Gd.inB b).symm
   have m2':Br (fun b=>cf Lc (jf I b)) (PK (nx r.blocks) fun b=>L h b=true) ou:=m2.iff fun b=>by
    unfold PK KR;rw[g.inZ q.lt];constructor
    . rintro⟨i1,x,i2,i3⟩
      refine⟨i1,?_⟩;cases hm:r.blocks[b]? with
      |none=>unfold nx at i2;rw[hm]at i2;cases i2
      | some m=>
        refine⟨m,rfl,(x:Int),?_,fun e=>i3 ((g.inZ q.lt x).1 e)⟩;rw[hnx b m hm];exact au.2 ⟨x,i2,rfl⟩
    . rintro⟨i1,m,hm,z,i2,i3⟩
      rw[hnx b m hm]at i2;obtain⟨x,hx,rfl⟩:=au.1 i2;exact⟨i1,x,hx,fun e=>i3 ((g.inZ q.lt x).2 e)⟩
   by_cases hbig:4294967295<t*ar+ou
   . have hb:=k1 hbig
     exact⟨fun _=>.inr ⟨cf Lc,ar,ou,hp,m1',m2',by rw[a8 hbig]⟩,fun e=>by rw[hb]at e;cases e⟩
   . obtain⟨hb,hc,hi⟩:=k2 (by omega)
     refine⟨(fun e=>by rw[hb]at e;cases e),fun _=>⟨t*ar+ou,.inr ⟨cf Lc,ar,ou,hp,m1',m2',by rw[bF hbig]⟩,?_,hc,hi⟩⟩;have i1:=Int.mul_nonneg ht m1.nn;have i2:=m2.nn;omega
end
section
variable {p:MP} {fi:Int} {costs:List Int} {xs:List MI} {r:Dm} {O:List Nat} {D L:Nat->Nat->Bool} {sl:List ML} {k hd:Nat} {I I2:List Nat} {C C2:List Int} {l:ML}
theorem Fk.goI{t:Int}{b:Bool}(s:Fk p fi costs xs r D L sl k false I C)(g:Gd r (nx r.blocks) r.blocks.length O D L)(hnx:∀b m,r.blocks[b]?=some m->m.next=ints (nx r.blocks b))(hp:sl.Perm r.loops)(hs:sl.Pairwise Fs)(hk:sl[k]?=some l)(hm:l∈r.loops)(hh:l.head=(hd:Int))(h0:Au p fi xs r.blocks l 0)(hiv:Fp p fi r.blocks hd=t)(ht:0<=t)(hcl:C.length=r.blocks.length)(hG:PH (nx r.blocks) r.blocks.length r.blocks l I C hd (B8 O) t b I2 C2):
 (b=true->Fk p fi costs xs r D L sl (k+1) false I2 C2)/\(b=false->Ni (nx r.blocks) r.blocks.length D L (Fp p fi r.blocks) (Gi xs r.blocks) (sl.map hN) (jf (List.range r.blocks.length)) (cf (r.blocks.map (BH xs costs))) (-1)):=by
 obtain⟨rfl,h2⟩:=g.at_ hm hh;have hq:=g.nxt hp hs hk h2
 have hdrop:(sl.drop k).map hN=hd::(sl.drop (k+1)).map hN:=by
  obtain⟨l1,e1⟩:=aD.1 hk;rw[cE l1,e1,cZ,Im]
 obtain⟨q1,q2⟩:=hG.togV g hnx s.std hq s.cn ht;rw[<-hiv]at q1 q2;refine⟨fun e=> ?_,fun e=>(s.ok rfl).2 _ (by rw[hdrop];exact .bad (q1 e))⟩;obtain⟨v,t1,t2,rfl,t4⟩:=q2 e
 have hJ:jf I2=fun b=>if L hd b then hd else jf I b:=by
  funext b
  rw[t4 b];by_cases e:L hd b=true
  . rw[a8 ((g.inK hq.lt b).2 e),a8 e]
  . rw[bF (fun q=>e ((g.inK hq.lt b).1 q)),bF e]
 have hCc:cf (C.set hd v)=fun c=>if c=hd then v else cf C c:=funext fun c=>CE (aA (by rw[hcl];exact hq.lt))
 refine⟨fun l' hl'=> ?_,by rw[hJ];exact g.step hp hs hk h2 s.std,fun c=> ?_,(fun e=>by cases e),fun _=>⟨(s.ok rfl).1,fun v' hv=>(s.ok rfl).2 v' ?_⟩⟩
 . rw[List.take_add_one,hk]at hl'
   rcases aU.1 hl' with q|q
   . exact s.lf l' q
   . simp at q
     rw[q];exact h0
 . rw[hCc]
   by_cases q:c=hd
   . simp only[a8 q];exact t2
   . simp only[bF q];exact s.cn c
 . rw[hdrop]
   rw[hJ,hCc]at hv;exact .step t1 hv
theorem Ma.bad(g:Gd r (nx r.blocks) r.blocks.length O D L)(hp:sl.Perm r.loops)(hs:sl.Pairwise Fs)(hl:∀l∈r.loops,Au p fi xs r.blocks l 0)(hb:∀m∈r.blocks,¬B3 xs costs m)(hx:Ni (nx r.blocks) r.blocks.length D L (Fp p fi r.blocks) (Gi xs r.blocks) (sl.map hN) (jf (List.range r.blocks.length)) (cf (r.blocks.map (BH xs costs))) (-1)):Ma p fi costs xs r (-1):=
 .inr ⟨hl,hb,O,D,L,sl,g,hp,hs,hx⟩
theorem Fk.doneI{Lc:List Int}{small:Bool}{v:Int}(s:Fk p fi costs xs r D L sl sl.length false I C)(g:Gd r (nx r.blocks) r.blocks.length O D L)(hp:sl.Perm r.loops)(hs:sl.Pairwise Fs)(hW:QI (nx r.blocks) r.blocks.length (fun b=>decide ((b:Int)∈r.order)) I C 0 (B8 O) Lc small)(h0:small=false->v=-1)(h1:small=true->Br (fun b=>cf Lc (jf I b)) (fun b=>b<r.blocks.length/\Gi xs r.blocks b) v):Ma p fi costs xs r v:=by
 have hR:=s.fin g hp
 have hin:Da (fun b=>decide ((b:Int)∈r.order)) r.blocks.length=fun b=>b<r.blocks.length:=by
  funext b
  apply propext;unfold Da;rw[cG,g.ord];refine⟨fun q=>q.1,fun q=>⟨q,au.2 ⟨b,cW.2 ((g.om b).2 q),rfl⟩⟩⟩
 have hRP:=hR;rw[<-hin]at hRP;refine s.done g hp hs (fun _=> ?_) (fun e=>by cases e);cases small with
 | false=>
   have:=hW.noPass g.fl hRP s.cn;rw[hin]at this;exact .inl ⟨h0 rfl,this⟩
 | true=>
   have:=hW.pass g.fl s.std hRP s.cn;rw[hin]at this;exact .inr ⟨_,this,h1 rfl⟩
end
structure I4(u:World)(B CB TB:Nat)(v:Bz)(V S:Value)(k j:Nat)(C:List Int):Prop where
 blk:Ak u CB (FY v V S) 128
 co:u.ownsRow B 2 1 V k (C.flatMap Ac)
 st:u.ownsRow B 2 1 S j (nv (List.range j))
 ap:∀g,V.ownBlock=some g->S.ownBlock≠some g
 bl:B<=CB
 tb:Ak u TB #[.pointer (some ⟨CB,0,none⟩)] 126
theorem GJ{u u':World}{B kk n:Nat}{e:TypeId}{s:Value}{xs:List Value}{row:Option Nat}(h:u.ownsRow B e kk s n xs)(hg:u.grownBy u' row)(hne:∀g,s.ownBlock=some g->row≠some g):u'.ownsRow B e kk s n xs:=by
 refine⟨h.1,?_⟩;rcases h.2 with h|⟨g,cap,cur,e1,hb1,hgg,hr⟩
 . exact .inl h
 . refine .inr ⟨g,cap,cur,e1,hb1,?_,hr⟩
   rw[hg.block g (aQ.1 hgg).1 (fun e=>hne g (by rw[e1];rfl) e.symm)];exact hgg
theorem Pn{u:World}{B kk n:Nat}{e:TypeId}{s:Value}{xs:List Value}{g:Nat}(h:u.ownsRow B e kk s n xs)(hs:s.ownBlock=some g):g<u.heap.size:=by
 rcases Bv h with⟨rfl,rfl⟩|⟨g',c,rfl⟩
 . cases hs
 . obtain⟨_,cur,e⟩:=Am h
   cases hs
   exact(aQ.1 e).1
theorem Ff{u:World}{B kk n:Nat}{e t:TypeId}{s:Value}{xs:List Value}{b i:Nat}{cur:Array Value}(x:Value)(h:u.ownsRow B e kk s n xs)(hb:Ak u b cur t)(hne:t≠e):(u.setCell ⟨b,i,none⟩ x).ownsRow B e kk s n xs:=by
 rcases Bv h with⟨rfl,rfl⟩|⟨g',c,rfl⟩
 . refine⟨h.1,?_⟩
   rcases h.2 with h|⟨g,cap,cur,e1,hb1,hgg,hr⟩
   . exact .inl h
   . cases e1
 . obtain⟨_,cur',e1⟩:=Am h
   refine Bf h ?_;rintro rfl;unfold Ak at hb;rw[e1]at hb;cases hb
   exact hne rfl
section
variable {u u':World} {B CB TB:Nat} {v:Bz} {V S:Value} {k j:Nat} {C:List Int}
theorem I4.keep(h:I4 u B CB TB v V S k j C)(hb:Below u.heap.size u u'):I4 u' B CB TB v V S k j C:=
 {h with blk:=h.blk.keep hb,co:=Ag h.co hb lR,st:=Ag h.st hb lR,tb:=h.tb.keep hb}
theorem I4.cells(h:I4 u B CB TB v V S k j C):u.cell? ⟨TB,0,none⟩=some (.pointer (some ⟨CB,0,none⟩))/\u.cell? ⟨CB,15,none⟩=some V/\u.cell? ⟨CB,16,none⟩=some S:=
 ⟨by rw[h.tb.cell];rfl,by rw[h.blk.cell];rfl,by rw[h.blk.cell];rfl⟩
theorem I4.pushC{y:Int}{g cap:Nat}(h:I4 u B CB TB v V S k j C)(hown:u'.ownsRow B 2 1 (.slice (some ⟨g,0,none⟩) (k+1) cap) (k+1) (C.flatMap Ac++[.int .i64 y]))(hg:u.grownBy u' V.ownBlock)(hat:V.ownBlock=some g\/g=u.heap.size):
 I4 (u'.setCell ⟨CB,15,none⟩ (.slice (some ⟨g,0,none⟩) (k+1) cap)) B CB TB v (.slice (some ⟨g,0,none⟩) (k+1) cap) S (k+1) j (C++[y])/\u'.cell? ⟨TB,0,none⟩=some (.pointer (some ⟨CB,0,none⟩))/\u'.cell? ⟨CB,15,none⟩=some V/\u'.frozen? ⟨CB,15,none⟩=false:=by
 have b1:=h.blk.grown hg h.co (by decide);have b2:=h.tb.grown hg h.co (by decide);have s1:=GJ h.st hg (fun g' e e'=>h.ap g' e' e);refine⟨⟨b1.set 15 _,?_,Ff _ s1 b1 (by decide),?_,h.bl,b2.other (fun e=> ?_) _⟩,by rw[b2.cell];rfl,by rw[b1.cell];rfl,b1.frozen 15⟩
 . have:=Ff (i:=15) (.slice (some ⟨g,0,none⟩) (k+1) cap) hown b1 (by decide)
   rw[bP];exact this
 . rintro g' e e'
   cases e
   rcases hat with q|rfl
   . exact h.ap _ q e'
   . exact absurd (Pn h.st e') (Nat.lt_irrefl _)
 . unfold Ak at b1 b2
   simp only[]at e;rw[e,b1]at b2;cases b2
theorem I4.pushS{g cap:Nat}(h:I4 u B CB TB v V S k j C)(hown:u'.ownsRow B 2 1 (.slice (some ⟨g,0,none⟩) (j+1) cap) (j+1) (nv (List.range j)++[.int .i64 (j:Int)]))(hg:u.grownBy u' S.ownBlock)(hat:S.ownBlock=some g\/g=u.heap.size):
 I4 (u'.setCell ⟨CB,16,none⟩ (.slice (some ⟨g,0,none⟩) (j+1) cap)) B CB TB v V (.slice (some ⟨g,0,none⟩) (j+1) cap) k (j+1) C/\u'.cell? ⟨TB,0,none⟩=some (.pointer (some ⟨CB,0,none⟩))/\u'.cell? ⟨CB,16,none⟩=some S/\u'.frozen? ⟨CB,16,none⟩=false:=by
 have b1:=h.blk.grown hg h.st (by decide);have b2:=h.tb.grown hg h.st (by decide);have s1:=GJ h.co hg (fun g' e e'=>h.ap g' e e');refine⟨⟨b1.set 16 _,Ff _ s1 b1 (by decide),?_,?_,h.bl,b2.other (fun e=> ?_) _⟩,by rw[b2.cell];rfl,by rw[b1.cell];rfl,b1.frozen 16⟩
 . have:=Ff (i:=16) (.slice (some ⟨g,0,none⟩) (j+1) cap) hown b1 (by decide)
   rw[cj,DC];exact this
 . rintro g' e e'
   cases e'
   rcases hat with q|rfl
   . exact h.ap _ e q
   . exact absurd (Pn h.co e) (Nat.lt_irrefl _)
 . unfold Ak at b1 b2
   simp only[]at e;rw[e,b1]at b2;cases b2
theorem I4.whole{n:Nat}(h:I4 u B CB TB v V S n n C)(hn:0<n)(hl:C.length=n)(hc:∀y∈C,CW y):∃gC cC gS cS,BC u B CB v n gC cC gS cS (List.range n) C:=by
 obtain⟨h1,h2,h3,h4,h5,_⟩:=h;rcases Bv h2 with⟨_,e⟩|⟨gC,cC,rfl⟩
 . omega
 rcases Bv h3 with⟨_,e⟩|⟨gS,cS,rfl⟩
 . omega
 exact⟨gC,cC,gS,cS,h1,h2,h3,fun e=>h4 gC rfl (by rw[e];rfl),hl,by simp,hc,fun b hb=>br.1 hb,h5⟩
end
def RB(w:World)(l:ML)(x:LV):Prop:=x.h=l.head/\x.xn=l.back.length/\x.yn=l.blocks.length/\Nl w (l,.slice x.xa x.xn x.xc,.slice x.ya x.yn x.yc)
def QS(w:World)(g o k:Nat):LV:=match w.cell? ⟨g,o+k*3,none⟩,w.cell? ⟨g,o+k*3+1,none⟩,w.cell? ⟨g,o+k*3+2,none⟩with
 |some (.int _ h),some (.slice a n c),some (.slice a' n' c')=>⟨h,a,n,c,a',n',c'⟩
 |_,_,_=>default
theorem Rx{u:World}{a:Option Addr}{n c:Nat}{ls:List ML}(h:I6 u (.slice a n c) ls):∃zs:List LV,zs.length=ls.length/\(∀(k:Nat) (m:ML) (x:LV),ls[k]?=some m->zs[k]?=some x->RB u m x)/\Hn u u.heap.size a zs:=by
 cases hc:ls with
 |nil=>exact⟨[],rfl,fun k m x h=>by simp at h,fun e=>absurd rfl e⟩
 | cons l0 lr=>
   rw[<-hc];obtain⟨g,o,_,_,_,_,ea,e0,_⟩:=Hh h (k:=0) (m:=l0) (by rw[hc];rfl)
   have key:∀k m,ls[k]?=some m->∃a1 e1 a2 e2,QS u g o k=⟨m.head,a1,m.back.length,e1,a2,m.blocks.length,e2⟩/\u.cell? ⟨g,o+k*3,none⟩=some (.int .i64 m.head)/\u.cell? ⟨g,o+k*3+1,none⟩=some (.slice a1 m.back.length e1)/\u.cell? ⟨g,o+k*3+2,none⟩=some (.slice a2 m.blocks.length e2)/\Nl u (m,.slice a1 m.back.length e1,.slice a2 m.blocks.length e2):=fun k m hk=>by
    obtain⟨g',o',a1,e1,a2,e2,q,i0,i1,i2,i3⟩:=Hh h hk;rw[ea]at q;cases q
    refine⟨a1,e1,a2,e2,?_,i0,i1,i2,i3⟩;unfold QS;rw[i0,i1,i2]
   refine⟨(List.range ls.length).map (QS u g o),by simp,fun k m x hk hx=> ?_,fun _=>⟨g,o,ea,aC e0,fun j x hx=> ?_⟩⟩
   . obtain⟨a1,e1,a2,e2,q,_,_,_,i3⟩:=key k m hk
     rw[bB,eF (aD.1 hk).1]at hx;simp only[dS,aR]at hx;rw[<-hx,q];exact⟨rfl,rfl,rfl,i3⟩
   . have hj:j<ls.length:=by have:=(aD.1 hx).1;simpa using this
     obtain⟨a1,e1,a2,e2,q,i0,i1,i2,_⟩:=key j _ (aA hj);rw[bB,eF hj]at hx;simp only[dS,aR]at hx;rw[<-hx,q];exact⟨i0,i1,i2⟩
inductive Ng {α β:Type} (R:α->β->Prop):List α->List β->Prop
 |nil:Ng R [] []
 |cons {x:α} {m:β} {zs:List α} {ls:List β}:R x m->Ng R zs ls->Ng R (x::zs) (m::ls)
theorem M0{α β:Type}{R:α->β->Prop}{ts zs:List α}(hp:ts.Perm zs):∀{ls:List β},Ng R zs ls->∃sl:List β,sl.Perm ls/\Ng R ts sl:=by
 induction hp with
 |nil=>intro ls h;exact⟨ls,.refl _,h⟩
 | cons x _ ih=>
   intro ls h;cases h with
   | cons h1 h2=>
     obtain⟨sl,q1,q2⟩:=ih h2;exact⟨_::sl,q1.cons _,.cons h1 q2⟩
 | swap x y l=>
   intro ls h;cases h with
   | cons h1 h2=>
     cases h2 with
     |cons h3 h4=>exact⟨_::_::_,.swap _ _ _,.cons h3 (.cons h1 h4)⟩
 | trans _ _ ih1 ih2=>
   intro ls h;obtain⟨s1,p1,q1⟩:=ih2 h;obtain⟨s2,p2,q2⟩:=ih1 q1;exact⟨s2,p2.trans p1,q2⟩
section
variable {α β:Type} {R:α->β->Prop} {ts:List α} {sl:List β}
theorem Ng.len(h:Ng R ts sl):ts.length=sl.length:=by
 induction h with
 |nil=>rfl
 |cons _ _ ih=>simp[ih]
theorem Ng.at_(h:Ng R ts sl):∀{k:Nat} {x:α},ts[k]?=some x->∃l,sl[k]?=some l/\R x l:=by
 induction h with
 |nil=>intro k x h;simp at h
 | cons h1 _ ih=>
   intro k x h;cases k with
   |zero=>simp at h;exact⟨_,rfl,h▸h1⟩
   |succ k=>exact ih (k:=k) (by simpa using h)
theorem Ng.mem(h:Ng R ts sl):∀{l:β},l∈sl->∃x∈ts,R x l:=by
 induction h with
 |nil=>intro l h;simp at h
 | cons h1 _ ih=>
   intro l h;rcases aa.1 h with rfl|h
   . exact⟨_,by simp,h1⟩
   . obtain⟨x,hx,hr⟩:=ih h
     exact⟨x,bK _ hx,hr⟩
theorem Ng.pair{P:α->α->Prop}{Q T:β->β->Prop}(h:Ng R ts sl)(hT:∀a b l m,R a l->R b m->P a b->Q l m->T l m)(hP:ts.Pairwise P)(hQ:sl.Pairwise Q):sl.Pairwise T:=by
 induction h with
 |nil=>exact .nil
 | cons h1 h2 ih=>
   cases hP with
   | cons p1 p2=>
     cases hQ with
     | cons q1 q2=>
       refine .cons (fun m hm=> ?_) (ih p2 q2);obtain⟨x,hx,hr⟩:=h2.mem hm;exact hT _ _ _ _ h1 hr (p1 x hx) (q1 m hm)
end
theorem Nm{α β:Type}{R:α->β->Prop}:∀{zs:List α} {ls:List β},zs.length=ls.length->(∀(k:Nat) x m,zs[k]?=some x->ls[k]?=some m->R x m)->Ng R zs ls
 |[],[],_,_=>.nil
 |[],_::_,h,_=>by simp at h
 |_::_,[],h,_=>by simp at h
 |x::zs,m::ls,h,h2=>.cons (h2 0 x m rfl rfl) (Nm (by simpa using h) fun k x' m' e1 e2=>h2 (k+1) x' m' (by simpa using e1) (by simpa using e2))
theorem Q3{w:World}{ts zs:List LV}{ls:List ML}(hp:ts.Perm zs)(hs:I8 ts)(hl:zs.length=ls.length)(hz:∀(k:Nat) (m:ML) (x:LV),ls[k]?=some m->zs[k]?=some x->RB w m x)(hh:ls.Pairwise fun a b=>a.head≠b.head):∃sl:List ML,sl.Perm ls/\sl.Pairwise Fs/\ts.length=sl.length/\∀(k:Nat) (x:LV),ts[k]?=some x->∃l:ML,sl[k]?=some l/\l.head=x.h:=by
 obtain⟨sl,q1,q2⟩:=M0 hp (Nm (R:=fun(x:LV) (m:ML)=>x.h=m.head/\x.yn=m.blocks.length) hl fun k x m e1 e2=>⟨(hz k m x e2 e1).1,(hz k m x e2 e1).2.2.1⟩)
 have hh2:sl.Pairwise fun a b=>a.head≠b.head:=(q1.symm.pairwise_iff (fun h=>Ne.symm h)).1 hh
 refine⟨sl,q1,q2.pair (fun a b l m r1 r2 h1 h2=> ?_) hs hh2,q2.len,fun k x hx=> ?_⟩
 . rw[LV.lt_iff,dy]at h1
   unfold Fs;rw[<-r1.1,<-r2.1]at h2;rw[<-r1.1,<-r2.1,<-r1.2,<-r2.2];omega
 . obtain⟨l,h1,h2⟩:=q2.at_ hx
   exact⟨l,h1,h2.1.symm⟩
section
open Go.Shelf
section
variable {u u':World} {row:Option Nat}
theorem Ak.held{b:Nat}{cur:Array Value}{t:TypeId}(h:Ak u b cur t)(hg:u.grownBy u' row)(hr:∀r,row=some r->∃o:Obj,u.heap[r]?=some o/\o.isCells=false):Ak u' b cur t:=
 (grownBy_keeps_cells hg hr h rfl).trans h
theorem Ly{B kk n:Nat}{e:TypeId}{s:Value}{xs:List Value}(h:u.ownsRow B e kk s n xs)(hg:u.grownBy u' row)(hr:∀r,row=some r->∃o:Obj,u.heap[r]?=some o/\o.isCells=false):u'.ownsRow B e kk s n xs:=GJ h hg (fun g hs hrow=>by
 rcases Bv h with⟨rfl,rfl⟩|⟨g',c,rfl⟩
 . cases hs
 . obtain⟨_,cur,e⟩:=Am h
   cases hs
   obtain⟨o,ho,hc⟩:=hr _ hrow;rw[e]at ho;cases ho
   cases hc)
theorem BC.held{B CB:Nat}{v:Bz}{n gC cC gS cS:Nat}{I:List Nat}{C:List Int}(h:BC u B CB v n gC cC gS cS I C)(hg:u.grownBy u' row)(hr:∀r,row=some r->∃o:Obj,u.heap[r]?=some o/\o.isCells=false):BC u' B CB v n gC cC gS cS I C:=
 {h with blk:=h.blk.held hg hr,co:=Ly h.co hg hr,st:=Ly h.st hg hr}
theorem BC.sz{B CB:Nat}{v:Bz}{n gC cC gS cS:Nat}{I:List Nat}{C:List Int}(h:BC u B CB v n gC cC gS cS I C):gC<u.heap.size/\gS<u.heap.size:=by
 obtain⟨_,c1,e1⟩:=Am h.co;obtain⟨_,c2,e2⟩:=Am h.st;exact⟨(aQ.1 e1).1,(aQ.1 e2).1⟩
theorem Et.kpc{gC gS:Nat}(h:Et (Cg gC gS) u u'):Gs gC gS u u':=⟨h.size,fun k o h1 _ h3 h4=>(h.block k (aQ.1 h1).1 (fun e=>e.elim h3 h4)).trans h1⟩
theorem BC.keeps{A B CB:Nat}{v:Bz}{n gC cC gS cS:Nat}{I:List Nat}{C:List Int}(h:BC u B CB v n gC cC gS cS I C)(hc:Et (Cg gC gS) u u'):KeepsFrom A u u':=by
 obtain⟨_,c1,e1⟩:=Am h.co;obtain⟨_,c2,e2⟩:=Am h.st;refine⟨hc.size,fun k o _ h1 h2=>(hc.block k (aQ.1 h1).1 ?_).trans h1⟩;rintro(rfl|rfl)
 . rw[e1]at h1;cases h1;cases h2
 . rw[e2]at h1;cases h1;cases h2
end
structure L8(w u:World)(v:Bz)(y:Int):Prop where
 body:Ak u w.heap.size v.cells 85
 res:Ak u (w.heap.size+1) #[.int .i64 y] 2
 bel:Below w.heap.size w u
theorem L8.keep{w u u':World}{v:Bz}{y:Int}(h:L8 w u v y)(hb:Below u.heap.size u u'):L8 w u' v y:=⟨h.body.keep hb,h.res.keep hb,Ab h.bel lR hb⟩
theorem L8.set{w u:World}{v:Bz}{y:Int}(h:L8 w u v y)(z:Int):L8 w (u.setCell ⟨w.heap.size+1,0,none⟩ (.int .i64 z)) v z:=⟨h.body.other (by simp) _,h.res.set 0 _,h.bel.setCell (by simp) _⟩
def QA(p:MP)(fi:Int)(xs:List MI)(r:Dm)(costs:List Int)(D L:Nat->Nat->Bool)(sl:List ML)(v:Int):Prop:=Ni (nx r.blocks) r.blocks.length D L (Fp p fi r.blocks) (Gi xs r.blocks) (sl.map hN) (jf (List.range r.blocks.length)) (cf (r.blocks.map (BH xs costs))) v
def I5{zs:List LV}(pre:List {x:LV//x∈zs})(sl:List ML):Prop:=∀(k:Nat) (x:{x:LV//x∈zs}),pre[k]?=some x->∃l:ML,sl[k]?=some l/\l.head=x.1.h
theorem I5.init{zs:List LV}{pre:List {x:LV//x∈zs}}{x:{x:LV//x∈zs}}{sl:List ML}(h:I5 (pre++[x]) sl):I5 pre sl/\∃l:ML,sl[pre.length]?=some l/\l.head=x.1.h:=by
 refine⟨fun k y hy=>h k y ?_,h pre.length x (by simp)⟩;rw[bG (aD.1 hy).1];exact hy
structure PE(w0:World)(v:Bz)(p:MP)(fi:Int)(xs:List MI)(r:Dm)(costs:List Int)(D L:Nat->Nat->Bool)(gC cC gS cS:Nat)(zs:List LV)(pre:List {x:LV//x∈zs})(W:World):Prop where
 ex:∃(I:List Nat) (C:List Int),BC W w0.heap.size w0.heap.size v r.blocks.length gC cC gS cS I C/\∀sl:List ML,sl.Perm r.loops->sl.Pairwise Fs->I5 pre sl->Fk p fi costs xs r D L sl pre.length false I C
 tb:Ak W (w0.heap.size+1) #[.pointer (some ⟨w0.heap.size,0,none⟩)] 126
 bel:Below w0.heap.size w0 W
structure Rz(w:World)(v:Bz)(p:MP)(fi:Int)(xs:List MI)(r:Dm)(costs:List Int)(D L:Nat->Nat->Bool)(zs:List LV)(c:Code)(pre:List {x:LV//x∈zs})(W:World):Prop where
 ret:c=.ret
 fr:L8 w W v (-1)
 bad:∀sl:List ML,sl.Perm r.loops->sl.Pairwise Fs->I5 pre sl->QA p fi xs r costs D L sl (-1)
section
variable {w w0:World} {v:Bz} {p:MP} {fi:Int} {xs:List MI} {r:Dm} {costs:List Int} {D L:Nat->Nat->Bool} {gC cC gS cS:Nat} {zs:List LV}
theorem PE.own{B:Nat}(hB:w0.heap.size<=B):OwnFrom B (PE w0 v p fi xs r costs D L gC cC gS cS zs):=fun pre W W' row hs hg hr=>by
 obtain⟨⟨I,C,h1,h2⟩,h3,h4⟩:=hs;have hr':∀r,row=some r->∃o:Obj,W.heap[r]?=some o/\o.isCells=false:=fun r e=>(hr r e).2
 exact⟨⟨I,C,h1.held hg hr',h2⟩,h3.held hg hr',h4.grown hg h4.size (fun k e=>aY hB (hr k e).1)⟩
theorem Rz.own{B:Nat}(hB:w.heap.size<=B)(c:Code):OwnFrom B (Rz w v p fi xs r costs D L zs c):=fun pre W W' row hs hg hr=>by
 obtain⟨h1,⟨h2,h3,h4⟩,h5⟩:=hs;have hr':∀r,row=some r->∃o:Obj,W.heap[r]?=some o/\o.isCells=false:=fun r e=>(hr r e).2
 exact⟨h1,⟨h2.held hg hr',h3.held hg hr',h4.grown hg h4.size (fun k e=>aY hB (hr k e).1)⟩,h5⟩
theorem PE.keep{pre:List {x:LV//x∈zs}}{W W':World}(h:PE w0 v p fi xs r costs D L gC cC gS cS zs pre W)(hb:Below W.heap.size W W'):PE w0 v p fi xs r costs D L gC cC gS cS zs pre W':=by
 obtain⟨⟨I,C,h1,h2⟩,h3,h4⟩:=h;exact⟨⟨I,C,h1.keep hb,h2⟩,h3.keep hb,Ab h4 lR hb⟩
end
theorem Qb{zs:List LV}{g:Operand}{assign body:Code}{Q:Exit->Act->World->Prop}{a:Act}{w:World}{gf:Nat}{lb:Array Value}(gC gS:Nat)(hg:a.eval g=.func (.func gf) #[] lb)(eg:∀args w,(callFunc gf args).run Tryz.prog w=.ok (.enter gf args) w)
 {S Sp:List {x:LV//x∈zs}->Prop} {N:Nat} (hseq:SeqStopsK Fence.wide 4 Tryz.prog gf lb (fun x:{x:LV//x∈zs}=>#[.agg x.1.arr]) (Gs gC gS) S Sp N w)
 (I:List {x:LV//x∈zs}->World->Prop) (Ix:Code->List {x:LV//x∈zs}->World->Prop) (hI:OwnFrom w.heap.size I) (hIx:∀c,OwnFrom w.heap.size (Ix c)) (h0:I [] w)
 (hassign:∀(l:Nat) (pre:List {x:LV//x∈zs}) (x:{x:LV//x∈zs}) (W:World) (K:Act->World->Prop),I pre W->(∀W',KeepsFrom w.heap.size W W'->Gs gC gS W W'->I pre W'->∀Bx,Ak W' Bx x.1.arr 68->K {tmps:=(a.tmps.setIfInBounds 67 (.agg x.1.arr)).setIfInBounds 12 (.pointer (some ⟨Bx,0,none⟩)),defers:=[]} W')->
  assign.wpIn (Fence.wide.inRound l) 3 Tryz.prog (Exit.then K (fun _ _ _=>False)) {tmps:=a.tmps.setIfInBounds 67 (.agg x.1.arr),defers:=[]} W)
 (hbody:∀(l:Nat) (pre:List {x:LV//x∈zs}) (x:{x:LV//x∈zs}) (Bx:Nat) (W:World),Ak W Bx x.1.arr 68->I pre W->body.wpIn (Fence.wide.inRound l) 3 Tryz.prog (ownPostG w.heap.size (Gs gC gS) I Ix (pre++[x]) W) {tmps:=(a.tmps.setIfInBounds 67 (.agg x.1.arr)).setIfInBounds 12 (.pointer (some ⟨Bx,0,none⟩)),defers:=[]} W)
 (hdone:∀(D:Nat) (xs:List {x:LV//x∈zs}) (W:World),w.heap.size<=D->S xs->I xs W->W.heap[D]?=some (.deferred (some []))->Q .normal {a with defers:={target:=.collected D,args:=#[]}::a.defers} W)
 (hstop:∀(D:Nat) (c:Code) (pre:List {x:LV//x∈zs}) (W:World),w.heap.size<=D->Sp pre->Ix c pre W->W.heap[D]?=some (.deferred (some []))->c.wpIn Fence.wide 5 Tryz.prog Q {a with defers:={target:=.collected D,args:=#[]}::a.defers} W):
 (Code.rangeFunc g #[67] assign body).wpIn Fence.wide 5 Tryz.prog Q a w:=by
 refine wpIn_rangeFunc_ownH rfl (by omega) hg trivial eg hseq Gs.trans Gs.put (aX _ _) (fun _=>rfl) I Ix hI hIx h0
  (fun x a' W=>∃Bx,Ak W Bx x.1.arr 68/\a'={tmps:=(a.tmps.setIfInBounds 67 (.agg x.1.arr)).setIfInBounds 12 (.pointer (some ⟨Bx,0,none⟩)),defers:=[]})
  (fun x a' _ X Y row hs hg hr=>by
   obtain⟨Bx,h1,h2⟩:=hs;exact⟨Bx,h1.held hg (fun r e=>(hr r e).2),h2⟩) ?_ ?_ hdone hstop
 . intro l pre x W K hi hK
   have q:=hassign l pre x W K hi fun W' h1 h2 h3 Bx h4=>hK _ _ h1 h2 h3 ⟨Bx,h4,rfl⟩
   have e:((#[67]:Array Tmp).zip #[Value.agg x.1.arr]).foldl (fun(t:Array Value) (pv:Tmp×Value)=>match pv with|(p,v)=>t.setIfInBounds p v) a.tmps=a.tmps.setIfInBounds 67 (.agg x.1.arr):=by simp
   rw[<-e]at q;exact q
 . rintro l pre x a' W _ _ hi ⟨Bx,h1,rfl⟩ _
   exact hbody l pre x Bx W h1 hi
end
end Go.Proofs.YtdipfjmlfbdkdaaGreat
