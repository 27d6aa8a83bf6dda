import Derived.Test.YtdipfjmlfbdkdaaGreatFc39
import Derived.Test.YtdipfjmlfbdkdaaGreatFc41
namespace Go.Proofs.YtdipfjmlfbdkdaaGreat
open Go.ChangeShapes Go.WideShapes Go.ChangeAt Go.RowKit
set_option linter.unusedVariables false
set_option maxHeartbeats 4000000
set_option maxRecDepth 100000
structure Gd(r:Dm)(E:Nat->List Nat)(n:Nat)(O:List Nat)(D L:Nat->Nat->Bool):Prop where
 eE:E=nx r.blocks
 nn:n=r.blocks.length
 fl:EF E n (B8 O) D
 ord:r.order=ints O.reverse
 oa:∀b,b<n->∃j:Nat,O.reverse[j]?=some b
 il:∀h y,L h y=true↔Ar E D n h y
 loops:r.loops=AZ E D L n n
 nd:O.Nodup
 om:∀x,x∈O↔x<n
def Hi(E:Nat->List Nat)(D L:Nat->Nat->Bool)(n h:Nat):ML:=⟨(h:Int),ints (An E D n h),ints ((List.range n).filter (L h))⟩
theorem AR.gd{xs:List MI}{r:Dm}(h:AR xs r)(h0:r.code=0):∃O D L,Gd r (nx r.blocks) r.blocks.length O D L:=by
 cases h with
 |none _=>cases h0
 |off _ _ _=>cases h0
 |lost _ _ _ _ _ _ _ _=>cases h0
 |two _ _ _ _ _ _ _ _=>cases h0
 | @good x S O D L I g x1 o1 v1 s1 d1 b1 i1 l1=>
   obtain⟨hP,hnd,_,hm,_⟩:=C5 (Fe g) (Lu g) v1 s1;refine⟨O,D,L,rfl,rfl,⟨hP,d1,fun b hb t ht hl=> ?_,fun y hy=> ?_⟩,rfl,fun b hb=> ?_,l1,rfl,hnd,hm⟩
   . by_cases e:D t b=true
     . exact(d1 t b).1 e
     . exact absurd ⟨hl,e⟩ (b1 b hb t ht)
   . suffices ∀m y,B8 O y<=m->y<(Ao xs).length->CJ (nx (Ao xs)) (fun _=>True) 0 y from this _ y lR hy
     intro m;induction m with
     | zero=>
       intro y h1 h2;by_cases e:y=0
       . subst e;exact .here trivial
       . have:=hP.first y h2 e
         omega
     | succ m ih=>
       intro y h1 h2;by_cases e:y=0
       . subst e;exact .here trivial
       . obtain⟨q,q1,q2,q3⟩:=hP.par y h2 e
         exact .step (ih q (by omega) q1) q2 trivial
   . exact⟨_,FK ((hm b).2 hb)⟩
section
variable {r:Dm} {E:Nat->List Nat} {n:Nat} {O:List Nat} {D L:Nat->Nat->Bool} {sl:List ML} {k h:Nat} {l:ML}
theorem Gd.mem(g:Gd r E n O D L):l∈r.loops↔∃h,h<n/\An E D n h≠[]/\l=Hi E D L n h:=by
 rw[g.loops];unfold AZ;rw[List.mem_filterMap];constructor
 . rintro⟨h,h1,h2⟩
   by_cases e:An E D n h=[]
   . rw[a8 e]at h2;cases h2
   . rw[bF e]at h2
     cases h2
     exact⟨h,br.1 h1,e,rfl⟩
 . rintro⟨h,h1,h2,rfl⟩
   exact⟨h,br.2 h1,by rw[bF h2];rfl⟩
theorem Gd.rise(g:Gd r E n O D L):r.loops.Pairwise fun a b=>a.head<b.head:=by
 rw[g.loops];unfold AZ;rw[List.pairwise_filterMap];refine dg.imp ?_;intro a b hab x hx y hy;by_cases e:An E D n a=[]
 . rw[a8 e]at hx;cases hx
 . by_cases e':An E D n b=[]
   . rw[a8 e']at hy;cases hy
   . rw[bF e]at hx
     rw[bF e']at hy;cases hx
     cases hy
     show(a:Int)<(b:Int);omega
theorem Hu(g:EF E n (B8 O) D)(hb:An E D n h≠[]):h<n:=by
 obtain⟨p,hp⟩:=List.exists_mem_of_ne_nil _ hb;obtain⟨h1,h2,_⟩:=(Cu _ _ _ _ _).1 hp;exact g.P.edge p h1 h h2
def hN(l:ML):Nat:=l.head.toNat
theorem Im:hN (Hi E D L n h)=h:=by unfold hN Hi;exact aG h
theorem Kq:(Hi E D L n h).blocks.length=((List.range n).filter (L h)).length:=by simp[Hi,ints]
theorem Gd.nxt(g:Gd r E n O D L)(hp:sl.Perm r.loops)(hs:sl.Pairwise Fs)(hk:sl[k]?=some (Hi E D L n h))(hh:An E D n h≠[]):NK E n D L (fun x=>x∈(sl.take k).map hN) h where
 lt:=Hu g.fl hh
 il:=g.il
 s1 x hx hl:=by
  have hx':Hi E D L n x∈sl:=hp.symm.subset (g.mem.2 ⟨x,Hu g.fl hx,hx,rfl⟩);obtain⟨j,hj⟩:=bH hx';obtain⟨l1,e1⟩:=aD.1 hj;obtain⟨l2,e2⟩:=aD.1 hk;rw[<-Kq (E:=E) (D:=D),<-Kq (E:=E) (D:=D)]at hl
  have hjk:j<k:=by
   rcases Nat.lt_trichotomy j k with c|c|c
   . exact c
   . subst c
     rw[hj]at hk;simp only[aR]at hk;rw[hk]at hl;exact absurd hl (Nat.lt_irrefl _)
   . have:=(dL.1 hs) k j l2 l1 c
     rw[e1,e2]at this;rcases this with q|⟨q,_⟩<;>omega
  refine au.2 ⟨Hi E D L n x,?_,Im⟩;exact aE (i:=j) (by rw[eR hjk];exact hj)
 s2 x hx:=by
  obtain⟨lx,hx1,hx2⟩:=au.1 hx;obtain⟨j,hj⟩:=bH hx1
  have hjk:j<k:=by
   have:=(aD.1 hj).1;simp at this;omega
  rw[eR hjk]at hj;obtain⟨l1,e1⟩:=aD.1 hj;obtain⟨l2,e2⟩:=aD.1 hk;have hlt:=(dL.1 hs) j k l1 l2 hjk;rw[e1,e2]at hlt;obtain⟨h',_,_,e3⟩:=g.mem.1 (hp.subset (aE hj));rw[e3,Im]at hx2;subst hx2;rw[e3]at hlt;refine⟨fun e=>by subst e;exact Fs.irr _ hlt,?_⟩;rw[<-Kq (E:=E) (D:=D),<-Kq (E:=E) (D:=D)];rcases hlt with q|⟨q,_⟩<;>omega
theorem Hf.iff{Dn Dn':Nat->Prop}{J:Nat->Nat}(s:Hf E n D Dn J)(hd:∀x,Dn' x↔Dn x):Hf E n D Dn' J:=by
 have:Dn'=Dn:=funext fun x=>propext (hd x)
 rw[this];exact s
theorem Gd.step(g:Gd r E n O D L)(hp:sl.Perm r.loops)(hs:sl.Pairwise Fs)(hk:sl[k]?=some (Hi E D L n h))(hh:An E D n h≠[]){J:Nat->Nat}(s:Hf E n D (fun x=>x∈(sl.take k).map hN) J):Hf E n D (fun x=>x∈(sl.take (k+1)).map hN) (fun b=>if L h b then h else J b):=
 (NK.step g.fl s (g.nxt hp hs hk hh)).iff fun x=>by
  rw[List.take_add_one,hk,bx,aU];simp only[Option.toList,cZ,List.map_nil,aa,ao,cH,Im]
theorem Hf.start2:Hf E n D (fun x=>x∈(sl.take 0).map hN) (jf (List.range n)):=by
 refine⟨fun b hb=>.inl ⟨?_,fun x hx=>by simp at hx⟩,fun x hx=>by simp at hx⟩;exact Ir (eF hb)
theorem Gd.inn(g:Gd r E n O D L)(hh:h<n):Da (fun j=>decide (j∈(Hi E D L n h).blocks.map Int.toNat)) n=fun b=>L h b=true:=by
 funext b
 apply propext;unfold Da;simp only[cG,Hi,ints,dh,au,da,br,Function.comp,aG,exists_eq_right];constructor
 . exact fun h=>h.2.2
 . exact fun h=>⟨g.fl.in_lt hh ((g.il _ _).1 h),g.fl.in_lt hh ((g.il _ _).1 h),h⟩
theorem Gd.inK(g:Gd r E n O D L)(hh:h<n)(b:Nat):b∈(Hi E D L n h).blocks.map Int.toNat↔L h b=true:=by
 simp only[Hi,ints,dh,au,da,br,Function.comp,aG,exists_eq_right];exact⟨fun h=>h.2,fun h=>⟨g.fl.in_lt hh ((g.il _ _).1 h),h⟩⟩
theorem Gd.inB(b:Nat):(b:Int)∈(Hi E D L n h).back↔b∈An E D n h:=by
 simp only[Hi,ints,au];exact⟨fun⟨a,h1,h2⟩=>(show a=b by omega)▸h1,fun h=>⟨b,h,rfl⟩⟩
theorem Gd.bk(g:Gd r E n O D L)(b:Nat)(hb:b∈An E D n h):L h b=true:=by
 refine(g.il _ _).2 ?_;by_cases e:b=h
 . exact .inl e
 . exact .inr ⟨b,hb,.here e⟩
theorem Qm.togV(g:Gd r E n O D L){I:List Nat}{C:List Int}{Dn:Nat->Prop}{t tt:Int}{bd:Bool}(s:Hf E n D Dn (jf I))(q:NK E n D L Dn h)(hC:∀c,0<=cf C c)(hT:Qm E n ((Hi E D L n h).blocks.map Int.toNat) (Hi E D L n h).back I C h t false bd tt):
 JZ E (fun b=>L h b=true) (· ∈An E D n h) (jf I) h (cf C) t (if bd then none else some tt):=by
 have hR0:=q.rgn g.fl s;have hin:(Ar E D n h)=fun b=>L h b=true:=funext fun b=>propext (g.il h b).symm
 rw[hin]at hR0;have hR:=hR0;rw[<-g.inn q.lt]at hR;obtain⟨bd2,Lc,ar,ou,w1,w2,w3,m1,m2,hz⟩:=hT;cases bd2 with
 | true=>
   have hb:bd=true:=by rcases hz with⟨e,_⟩|⟨e,_⟩<;>exact e
   rw[hb];have:=w1.noPass g.fl hR hC;rw[g.inn q.lt]at this;exact .inl ⟨rfl,this⟩
 | false=>
   have hp:=w1.pass g.fl hR hC (w2 rfl) w3;rw[g.inn q.lt]at hp;refine .inr ⟨cf Lc,ar,ou,hp,m1.iff fun b=> ?_,m2.iff fun b=> ?_,?_⟩
   . rw[g.inK q.lt,Gd.inB]
     exact⟨fun h=>⟨g.bk b h,h⟩,fun h=>h.2⟩
   . unfold PK
     rw[g.inK q.lt];constructor
     . rintro⟨h1,y,h2,h3⟩
       exact⟨h1,y,h2,fun e=>h3 ((g.inK q.lt y).1 e)⟩
     . rintro⟨h1,y,h2,h3⟩
       exact⟨h1,y,h2,fun e=>h3 ((g.inK q.lt y).2 e)⟩
   . rcases hz with⟨e,e2,e3⟩|⟨e,e3⟩
     . rw[e,bF (show¬4294967295<t*ar+ou by omega),e2];rfl
     . rw[e,a8 e3];rfl
end
def KM(op:Int):Int:=match ((BO op)[1]?:Option Value)with|some (Value.int _ c)=>c|_=>0
def IZ(costs:List Int)(x:MI):Prop:=x.op=28->x.a.toNat<costs.length/\0<=cf costs x.a.toNat/\cf costs x.a.toNat<=4294967295
def D8(costs:List Int)(x:MI):Int:=KM x.op+if x.op=28 then cf costs x.a.toNat else 0
def Dk(xs:List MI)(costs:List Int)(a:Nat):Nat->Int
 |0=>0
 |k+1=>Dk xs costs a k+match xs[a+k]? with|some x=>D8 costs x|none=>0
def BH(xs:List MI)(costs:List Int)(m:MB):Int:=Dk xs costs m.first.toNat (m.last.toNat+1-m.first.toNat)
def B3(xs:List MI)(costs:List Int)(m:MB):Prop:=(∃(j:Nat) (x:MI),m.first<=(j:Int)/\(j:Int)<=m.last/\xs[j]?=some x/\¬IZ costs x)\/4294967295<BH xs costs m
def Fp(p:MP)(fi:Int)(bs:List MB)(h:Nat):Int:=match bs[h]? with|some m=>(match Bh p.certs fi m.first with|some c=>c.init|none=>0)|none=>0
def Gi(xs:List MI)(bs:List MB)(b:Nat):Prop:=∃m x,bs[b]?=some m/\xs[m.last.toNat]?=some x/\x.op=29
def Ma(p:MP)(fi:Int)(costs:List Int)(xs:List MI)(r:Dm)(v:Int):Prop:=
 (((∃l∈r.loops,∃k,k≠0/\Au p fi xs r.blocks l k)\/∃m∈r.blocks,B3 xs costs m)/\v=-1)\/
 ((∀l∈r.loops,Au p fi xs r.blocks l 0)/\(∀m∈r.blocks,¬B3 xs costs m)/\∃(O:List Nat) (D L:Nat->Nat->Bool) (sl:List ML),Gd r (nx r.blocks) r.blocks.length O D L/\sl.Perm r.loops/\sl.Pairwise Fs/\Ni (nx r.blocks) r.blocks.length D L (Fp p fi r.blocks) (Gi xs r.blocks) (sl.map hN) (jf (List.range r.blocks.length)) (cf (r.blocks.map (BH xs costs))) v)
def CC(p:MP)(fi:Int)(costs:List Int)(v:Int):Prop:=
 ((∀f r,Be p 0->0<=fi->p.funcs[fi.toNat]?=some f->AR f.code r->r.code≠0)/\v=-1)\/
 ∃f r,Be p 0/\0<=fi/\p.funcs[fi.toNat]?=some f/\AR f.code r/\r.code=0/\Ma p fi costs f.code r v
theorem Gd.same{r:Dm}{E:Nat->List Nat}{n:Nat}{O O':List Nat}{D D' L L':Nat->Nat->Bool}(g:Gd r E n O D L)(g':Gd r E n O' D' L'):D=D'/\L=L':=by
 have h1:D=D':=by
  funext d b
  have:=(g.fl.D d b).trans (g'.fl.D d b).symm;cases h:D d b<;>cases h':D' d b<;>simp[h,h']at this<;>rfl
 subst h1;refine⟨rfl,?_⟩;funext d b
 have:=(g.il d b).trans (g'.il d b).symm;cases h:L d b<;>cases h':L' d b<;>simp[h,h']at this<;>rfl
theorem Ma.one{p:MP}{fi:Int}{costs:List Int}{xs:List MI}{r:Dm}{v v':Int}(h:Ma p fi costs xs r v)(h':Ma p fi costs xs r v'):v=v':=by
 have key:∀{v':Int},((∃l∈r.loops,∃k,k≠0/\Au p fi xs r.blocks l k)\/∃m∈r.blocks,B3 xs costs m)->(∀l∈r.loops,Au p fi xs r.blocks l 0)->(∀m∈r.blocks,¬B3 xs costs m)->False:=by
  rintro _ (⟨l,hl,k,hk,h1⟩|⟨m,hm,h1⟩) h2 h3
  . exact hk (h1.one (h2 l hl))
  . exact h3 m hm h1
 rcases h with⟨h1,rfl⟩|⟨a1,a2,O,D,L,sl,g,p1,s1,c1⟩
 . rcases h' with⟨_,rfl⟩|⟨b1,b2,_⟩
   . rfl
   . exact(key (v':=0) h1 b1 b2).elim
 . rcases h' with⟨h1,rfl⟩|⟨_,_,O',D',L',sl',g',p2,s2,c2⟩
   . exact(key (v':=0) h1 a1 a2).elim
   . obtain⟨rfl,rfl⟩:=g.same g'
     obtain rfl:=Qg s1 s2 (p1.trans p2.symm);exact c1.one (fun h b hb=>g.bk b hb) c2
theorem CC.one{p:MP}{fi:Int}{costs:List Int}{v v':Int}(h:CC p fi costs v)(h':CC p fi costs v'):v=v':=by
 rcases h with⟨h1,rfl⟩|⟨f,r,a1,a2,a3,a4,a5,a6⟩
 . rcases h' with⟨_,rfl⟩|⟨f,r,b1,b2,b3,b4,b5,b6⟩
   . rfl
   . exact absurd b5 (h1 f r b1 b2 b3 b4)
 . rcases h' with⟨h1,rfl⟩|⟨f',r',b1,b2,b3,b4,b5,b6⟩
   . exact absurd a5 (h1 f r a1 a2 a3 a4)
   . rw[a3]at b3
     cases b3
     obtain rfl:=a4.one b4;exact a6.one b6
theorem MW{op:Int}{s:ByteArray}{c f:Int}(h:BO op=#[.string s,.int .i64 c,.int .i64 f]):KM op=c:=by unfold KM;rw[h];rfl
theorem OU(hop:∀op,0<=KM op){costs:List Int}{x:MI}(h:IZ costs x):0<=D8 costs x:=by
 unfold D8;have:=hop x.op;by_cases e:x.op=28
 . rw[a8 e]
   have:=(h e).2.1;omega
 . rw[bF e];omega
theorem GL(hop:∀op,0<=KM op){xs:List MI}{costs:List Int}{a k k':Nat}(hk:k<=k')(h:∀j x,k<=j->j<k'->xs[a+j]?=some x->IZ costs x):Dk xs costs a k<=Dk xs costs a k':=by
 induction k' with
 | zero=>
   obtain rfl:k=0:=by omega
   exact Int.le_refl _
 | succ k' ih=>
   by_cases e:k=k'+1
   . subst e;exact Int.le_refl _
   . have h1:=ih (by omega) fun j x h1 h2 h3=>h j x h1 (by omega) h3
     simp only[Dk];cases hx:xs[a+k']? with
     |none=>simp only[];omega
     | some x=>
       have:=OU hop (h k' x (by omega) (by omega) hx);simp only[];omega
theorem B3.of_part(hop:∀op,0<=KM op){xs:List MI}{costs:List Int}{m:MB}{a e k:Nat}(h1:m.first=(a:Int))(h2:m.last=(e:Int))(hk:k<=e+1-a){d:Int}(hd:d<=Dk xs costs a k\/∃x,xs[a+k]?=some x/\k<e+1-a/\d<=Dk xs costs a k+KM x.op)(hb:4294967295<d)(hae:a<=e+1):B3 xs costs m:=by
 by_cases hc:∃(j:Nat) (x:MI),m.first<=(j:Int)/\(j:Int)<=m.last/\xs[j]?=some x/\¬IZ costs x
 . exact .inl hc
 . have hall:∀j x,j<e+1-a->xs[a+j]?=some x->IZ costs x:=fun j x hj hx=>cQ fun q=>hc ⟨a+j,x,by omega,by omega,hx,q⟩
   right;unfold BH;rw[h1,h2,aG,aG];rcases hd with hd|⟨x,hx,hk',hd⟩
   . have:=GL hop (xs:=xs) (costs:=costs) (a:=a) hk fun j x _ h3 h4=>hall j x h3 h4
     omega
   . have h3:=GL hop (xs:=xs) (costs:=costs) (a:=a) (show k+1<=e+1-a by omega) fun j x _ h3 h4=>hall j x h3 h4
     have h4:Dk xs costs a (k+1)=Dk xs costs a k+D8 costs x:=by simp only[Dk,hx]
     have h5:KM x.op<=D8 costs x:=by
      unfold D8;by_cases e28:x.op=28
      . rw[a8 e28]
        have:=((hall k x hk' hx) e28).2.1;omega
      . rw[bF e28];omega
     omega
structure Fk(p:MP)(fi:Int)(costs:List Int)(xs:List MI)(r:Dm)(D L:Nat->Nat->Bool)(sl:List ML)(k:Nat)(bd:Bool)(I:List Nat)(C:List Int):Prop where
 lf:∀l∈sl.take k,Au p fi xs r.blocks l 0
 std:Hf (nx r.blocks) r.blocks.length D (fun x=>x∈(sl.take k).map hN) (jf I)
 cn:∀c,0<=cf C c
 bad:bd=true->(∃m∈r.blocks,B3 xs costs m)\/Ni (nx r.blocks) r.blocks.length D L (Fp p fi r.blocks) (Gi xs r.blocks) (sl.map hN) (jf (List.range r.blocks.length)) (cf (r.blocks.map (BH xs costs))) (-1)
 ok:bd=false->(∀m∈r.blocks,¬B3 xs costs m)/\∀v,Ni (nx r.blocks) r.blocks.length D L (Fp p fi r.blocks) (Gi xs r.blocks) ((sl.drop k).map hN) (jf I) (cf C) v->Ni (nx r.blocks) r.blocks.length D L (Fp p fi r.blocks) (Gi xs r.blocks) (sl.map hN) (jf (List.range r.blocks.length)) (cf (r.blocks.map (BH xs costs))) v
section
variable {p:MP} {fi:Int} {costs:List Int} {xs:List MI} {r:Dm} {O:List Nat} {D L:Nat->Nat->Bool} {sl:List ML} {k hd:Nat} {bd bd2:Bool} {I I2:List Nat} {C:List Int} {l:ML}
theorem Rj(h:∀y∈C,CW y)(c:Nat):0<=cf C c:=by
 unfold cf;rw[aJ];cases e:C[c]? with
 |none=>exact Int.le_refl _
 |some y=>exact(h y (aE e)).1
theorem Fk.start(g:Gd r (nx r.blocks) r.blocks.length O D L)(hl:C.length=r.blocks.length)(hcb:∀y∈C,CW y)(h:(bd=true->∃m∈r.blocks,B3 xs costs m)/\(bd=false->∀b m,b<r.blocks.length->r.blocks[b]?=some m->¬B3 xs costs m/\cf C b=BH xs costs m)):Fk p fi costs xs r D L sl 0 bd (List.range r.blocks.length) C:=by
 refine⟨fun l hl=>by simp at hl,Hf.start2,Rj hcb,fun e=>.inl (h.1 e),fun e=>⟨fun m hm=> ?_,fun v hv=> ?_⟩⟩
 . obtain⟨b,hb⟩:=bH hm
   exact(h.2 e b m (aD.1 hb).1 hb).1
 . have:cf C=cf (r.blocks.map (BH xs costs)):=by
    funext b
    by_cases hb:b<r.blocks.length
    . rw[(h.2 e b _ hb (aA hb)).2]
      exact(DI (by rw[bB,aA hb];rfl)).symm
    . unfold cf
      rw[aJ,aJ,aZ (by omega),aZ (by rw[a7];omega)]
   rw[this]at hv;simpa using hv
theorem Gd.at_(g:Gd r (nx r.blocks) r.blocks.length O D L)(hm:l∈r.loops)(hh:l.head=(hd:Int)):l=Hi (nx r.blocks) D L r.blocks.length hd/\An (nx r.blocks) D r.blocks.length hd≠[]:=by
 obtain⟨h,_,h2,h3⟩:=g.mem.1 hm
 have e:h=hd:=by
  have h4:l.head=(h:Int):=by rw[h3];rfl
  omega
 subst e;exact⟨h3,h2⟩
theorem Fk.rgn(s:Fk p fi costs xs r D L sl k bd I C)(g:Gd r (nx r.blocks) r.blocks.length O D L)(hp:sl.Perm r.loops)(hs:sl.Pairwise Fs)(hk:sl[k]?=some l)(hm:l∈r.loops)(hh:l.head=(hd:Int)):NN (nx r.blocks) r.blocks.length D (fun x=>x∈(sl.take k).map hN) (jf I) (fun b=>b∈l.blocks.map Int.toNat) hd:=by
 obtain⟨rfl,h2⟩:=g.at_ hm hh;have hq:=g.nxt hp hs hk h2;have:=hq.rgn g.fl s.std;have e:Ar (nx r.blocks) D r.blocks.length hd=fun b=>b∈(Hi (nx r.blocks) D L r.blocks.length hd).blocks.map Int.toNat:=funext fun b=>propext ((g.il hd b).symm.trans (g.inK hq.lt b).symm)
 rw[e]at this;exact this
theorem Fk.jo(s:Fk p fi costs xs r D L sl k bd I C)(g:Gd r (nx r.blocks) r.blocks.length O D L)(hp:sl.Perm r.loops)(hs:sl.Pairwise Fs)(hk:sl[k]?=some l)(hm:l∈r.loops)(hh:l.head=(hd:Int)):∀b,b∈l.blocks.map Int.toNat->jf I b=hd->b=hd:=(s.rgn g hp hs hk hm hh).jo
theorem Fk.jh(s:Fk p fi costs xs r D L sl k bd I C)(g:Gd r (nx r.blocks) r.blocks.length O D L)(hp:sl.Perm r.loops)(hs:sl.Pairwise Fs)(hk:sl[k]?=some l)(hm:l∈r.loops)(hh:l.head=(hd:Int)):jf I hd=hd:=(s.rgn g hp hs hk hm hh).jh
theorem Fk.next{t tt:Int}(s:Fk p fi costs xs r D L sl k bd I C)(g:Gd r (nx r.blocks) r.blocks.length O D L)(hp:sl.Perm r.loops)(hs:sl.Pairwise Fs)(hk:sl[k]?=some l)(hm:l∈r.loops)(hh:l.head=(hd:Int))(h0:Au p fi xs r.blocks l 0)(hiv:Fp p fi r.blocks hd=t)(hcl:C.length=r.blocks.length)(hI:∀b,jf I2 b=if b∈l.blocks.map Int.toNat then hd else jf I b)(hT:Qm (nx r.blocks) r.blocks.length (l.blocks.map Int.toNat) l.back I C hd t bd bd2 tt)(htt:CW tt):Fk p fi costs xs r D L sl (k+1) bd2 I2 (C.set hd tt):=by
 obtain⟨rfl,h2⟩:=g.at_ hm hh;have hq:=g.nxt hp hs hk h2
 have hJ:jf I2=fun b=>if L hd b then hd else jf I b:=by
  funext b
  rw[hI b];by_cases e:L hd b=true
  . rw[a8 ((g.inK hq.lt b).2 e),a8 e]
  . rw[bF (fun q=>e ((g.inK hq.lt b).1 q)),bF e]
 have hCc:cf (C.set hd tt)=fun c=>if c=hd then tt else cf C c:=funext fun c=>CE (aA (by rw[hcl];exact hq.lt))
 have hmono:bd=true->bd2=true:=fun e=>by
  obtain⟨b2,_,_,_,w1,_,_,_,_,hz⟩:=hT;rcases hz with⟨e2,_⟩|⟨e2,_⟩
  . rw[e2];exact w1.mono e
  . exact e2
 have hdrop:(sl.drop k).map hN=hd::(sl.drop (k+1)).map hN:=by
  obtain⟨l1,e1⟩:=aD.1 hk;rw[cE l1,e1,cZ,Im]
 have htog:bd=false->JZ (nx r.blocks) (fun b=>L hd b=true) (· ∈An (nx r.blocks) D r.blocks.length hd) (jf I) hd (cf C) (Fp p fi r.blocks hd) (if bd2 then none else some tt):=fun e=>by
  subst e;rw[hiv];exact Qm.togV g s.std hq s.cn hT
 refine⟨fun l' hl'=> ?_,by rw[hJ];exact g.step hp hs hk h2 s.std,fun c=> ?_,fun e=> ?_,fun e=> ?_⟩
 . rw[List.take_add_one,hk]at hl'
   rcases aU.1 hl' with q|q
   . exact s.lf l' q
   . simp at q
     rw[q];exact h0
 . rw[hCc]
   by_cases q:c=hd
   . simp only[a8 q];exact htt.1
   . simp only[bF q];exact s.cn c
 . cases hb:bd with
   |true=>exact s.bad hb
   | false=>
     right;refine(s.ok hb).2 _ ?_;rw[hdrop];have:=htog hb;rw[e]at this;exact .bad this
 . have hb:bd=false:=by
    cases hb:bd with
    |true=>rw[hmono hb]at e;cases e
    |false=>rfl
   refine⟨(s.ok hb).1,fun v hv=>(s.ok hb).2 v ?_⟩;rw[hdrop];have:=htog hb;rw[e]at this;rw[hJ,hCc]at hv;exact .step this hv
theorem Fk.fin(s:Fk p fi costs xs r D L sl sl.length bd I C)(g:Gd r (nx r.blocks) r.blocks.length O D L)(hp:sl.Perm r.loops):NN (nx r.blocks) r.blocks.length D (fun x=>x∈(sl.take sl.length).map hN) (jf I) (fun b=>b<r.blocks.length) 0:=by
 refine s.std.whole g.fl (fun x hx=> ?_) fun h=> ?_
 . rw[List.take_length]
   exact au.2 ⟨_,hp.symm.subset (g.mem.2 ⟨x,Hu g.fl hx,hx,rfl⟩),Im⟩
 . obtain⟨l,h1,h2⟩:=au.1 h
   have h3:=s.lf l h1;rw[List.take_length]at h1;obtain⟨h',_,_,e⟩:=g.mem.1 (hp.subset h1);rw[e,Im]at h2;subst h2;have hz:l.head=0:=by rw[e];rfl
   obtain⟨_,_,q⟩:=h3;rcases q with⟨_,q⟩|⟨_,_,_,_,⟨_,q⟩|⟨_,⟨_,q⟩|⟨_,⟨_,q⟩|⟨_,⟨_,q⟩|⟨q,_⟩⟩⟩⟩⟩
   . cases q
   . cases q
   . cases q
   . cases q
   . cases q
   . exact q (.inl hz)
theorem Fk.all(s:Fk p fi costs xs r D L sl sl.length bd I C)(hp:sl.Perm r.loops):∀l∈r.loops,Au p fi xs r.blocks l 0:=fun l hl=>s.lf l (by rw[List.take_length];exact hp.symm.subset hl)
theorem Fk.done{v:Int}(s:Fk p fi costs xs r D L sl sl.length bd I C)(g:Gd r (nx r.blocks) r.blocks.length O D L)(hp:sl.Perm r.loops)(hs:sl.Pairwise Fs)(hv:bd=false->OD (nx r.blocks) r.blocks.length (Gi xs r.blocks) (jf I) (cf C) v)(hb:bd=true->v=-1):Ma p fi costs xs r v:=by
 by_cases hB:∃m∈r.blocks,B3 xs costs m
 . cases e:bd with
   |true=>exact .inl ⟨.inr hB,hb e⟩
   |false=>obtain⟨m,h1,h2⟩:=hB;exact absurd h2 ((s.ok e).1 m h1)
 . refine .inr ⟨s.all hp,fun m hm q=>hB ⟨m,hm,q⟩,O,D,L,sl,g,hp,hs,?_⟩
   cases e:bd with
   | true=>
     rw[hb e];exact(s.bad e).resolve_left hB
   | false=>
     refine(s.ok e).2 v ?_;rw[List.drop_length];exact .nil (hv e)
theorem KQ.own{f:MF}{q:Nat}{n:Int}(h:KQ p (q:Int) l n)(h1:Be p 0)(h2:p.funcs[q]?=some f)(h3:AR f.code r)(h4:r.code=0)(h5:l∈r.loops):Au p (q:Int) f.code r.blocks l n:=by
 have ho:GP p (q:Int) l f r:=⟨h1,by omega,by rw[aG];exact h2,h3,h4,h5⟩;rcases h with⟨a,_⟩|⟨f',r',a,h⟩
 . exact absurd ho.own a
 . obtain⟨rfl,rfl⟩:=ho.one a
   exact h
end
def Q8(xs:List MI)(costs:List Int)(r:Dm)(C:List Int)(k:Nat):Prop:=∀b m,b<k->r.blocks[b]?=some m->¬B3 xs costs m/\cf C b=BH xs costs m
structure Ox(xs:List MI)(costs:List Int)(r:Dm)(C:List Int)(k ja:Nat)(bad:Bool)(c0:Int)(jj:Nat):Prop where
 le:ja<=jj
 bd:bad=true->∃m∈r.blocks,B3 xs costs m
 ok:bad=false->Q8 xs costs r C k/\(∀j x,ja<=j->j<jj->xs[j]?=some x->IZ costs x)/\c0=Dk xs costs ja (jj-ja)
section
variable {xs:List MI} {costs:List Int} {r:Dm} {C:List Int} {k ja je jj:Nat} {bad bad2 bad3:Bool} {c0 c7 c8 ci z:Int} {x:MI} {m:MB}
theorem MV(op:Int)(hop:∃(s:ByteArray) (c f:Int),BO op=#[.string s,.int .i64 c,.int .i64 f]/\CW c):0<=KM op:=by
 obtain⟨s,c,f,e,h⟩:=hop;rw[MW e];exact h.1
theorem Ox.mid(hop:∀op,0<=KM op)(h:Ox xs costs r C k ja bad c0 jj)(hm:r.blocks[k]?=some m)(h1:m.first=(ja:Int))(h2:m.last=(je:Int))(hj:jj<=je)(hx:xs[jj]?=some x)(hci:KM x.op=ci)(hU:(bad2=bad/\c7=c0+ci)\/bad2=true/\4294967295<c0+ci):(bad2=true->∃m∈r.blocks,B3 xs costs m)/\(bad2=false->bad=false/\c7=c0+ci):=by
 have hle:=h.le;rcases hU with⟨rfl,e⟩|⟨rfl,e⟩
 . exact⟨h.bd,fun q=>⟨q,e⟩⟩
 . refine⟨fun _=> ?_,fun q=>by cases q⟩
   cases hb:bad with
   |true=>exact h.bd hb
   | false=>
     obtain⟨_,_,e0⟩:=h.ok hb;exact⟨m,aE hm,B3.of_part hop h1 h2 (k:=jj-ja) (by omega) (d:=c0+ci) (.inr ⟨x,by rw[show ja+(jj-ja)=jj by omega];exact hx,by omega,by rw[<-e0,hci];exact Int.le_refl _⟩) e (by omega)⟩
theorem JU(hle:ja<=jj)(hx:xs[jj]?=some x):Dk xs costs ja (jj+1-ja)=Dk xs costs ja (jj-ja)+D8 costs x:=by
 rw[show jj+1-ja=(jj-ja)+1 by omega];simp only[Dk];rw[show ja+(jj-ja)=jj by omega,hx]
theorem Ox.plain(hop:∀op,0<=KM op)(h:Ox xs costs r C k ja bad c0 jj)(hx:xs[jj]?=some x)(hci:KM x.op=ci)(h28:x.op≠28)(hM:(bad2=true->∃m∈r.blocks,B3 xs costs m)/\(bad2=false->bad=false/\c7=c0+ci)):Ox xs costs r C k ja bad2 c7 (jj+1):=by
 have hle:=h.le;refine⟨by omega,hM.1,fun e=> ?_⟩;obtain⟨e1,e2⟩:=hM.2 e;obtain⟨q1,q2,q3⟩:=h.ok e1;refine⟨q1,fun j y h1 h2 h3=> ?_,?_⟩
 . by_cases e:j=jj
   . subst e
     rw[hx]at h3;cases h3
     exact fun q=>absurd q h28
   . exact q2 j y h1 (by omega) h3
 . rw[JU hle hx,e2,q3,<-hci]
   unfold D8;rw[bF h28];omega
theorem Ox.call(hop:∀op,0<=KM op)(h:Ox xs costs r C k ja bad c0 jj)(hm:r.blocks[k]?=some m)(h1:m.first=(ja:Int))(h2:m.last=(je:Int))(hj:jj<=je)(hx:xs[jj]?=some x)(hci:KM x.op=ci)(h28:x.op=28){cq:Nat}(hxa:x.a=(cq:Int))(hz:costs[cq]?=some z)(hz0:0<=z)(hz1:z<=4294967295)(hM:(bad2=true->∃m∈r.blocks,B3 xs costs m)/\(bad2=false->bad=false/\c7=c0+ci))(hU:(bad3=bad2/\c8=c7+z)\/bad3=true/\4294967295<c7+z):Ox xs costs r C k ja bad3 c8 (jj+1):=by
 have hle:=h.le;have hcz:cf costs x.a.toNat=z:=by rw[hxa,aG];exact DI hz
 have hok:IZ costs x:=fun _=>⟨by rw[hxa,aG];exact(aD.1 hz).1,by rw[hcz];exact hz0,by rw[hcz];exact hz1⟩
 have hsum:bad2=false->c7+z=Dk xs costs ja (jj+1-ja):=fun e=>by
  obtain⟨e1,e2⟩:=hM.2 e;obtain⟨q1,q2,q3⟩:=h.ok e1;rw[JU hle hx,e2,q3,<-hci];unfold D8;rw[a8 h28,hcz];omega
 refine⟨by omega,fun e=> ?_,fun e=> ?_⟩
 . rcases hU with⟨rfl,_⟩|⟨_,hb⟩
   . exact hM.1 e
   . cases hb2:bad2 with
     |true=>exact hM.1 hb2
     |false=>exact⟨m,aE hm,B3.of_part hop h1 h2 (k:=jj+1-ja) (by omega) (d:=c7+z) (.inl (by rw[hsum hb2];exact Int.le_refl _)) hb (by omega)⟩
 . rcases hU with⟨rfl,e8⟩|⟨e3,_⟩
   . obtain⟨e1,e2⟩:=hM.2 e
     obtain⟨q1,q2,q3⟩:=h.ok e1;refine⟨q1,fun j y h1 h2 h3=> ?_,by rw[e8];exact hsum e⟩;by_cases ej:j=jj
     . subst ej
       rw[hx]at h3;cases h3
       exact hok
     . exact q2 j y h1 (by omega) h3
   . rw[e3]at e;cases e
theorem QJ{C:List Int}{b:Nat}{c:Int}(hb:b<C.length):cf (C++[c]) b=cf C b:=by
 unfold cf;rw[aJ,aJ,bG hb]
theorem Ox.done(h:Ox xs costs r C k ja bad c0 (je+1))(hl:C.length=k)(hm:r.blocks[k]?=some m)(h1:m.first=(ja:Int))(h2:m.last=(je:Int))(hc:c0<=4294967295):(bad=true->∃m∈r.blocks,B3 xs costs m)/\(bad=false->Q8 xs costs r (C++[c0]) (k+1)):=by
 refine⟨h.bd,fun e b m' hb hm'=> ?_⟩;obtain⟨q1,q2,q3⟩:=h.ok e;by_cases eb:b=k
 . subst eb
   rw[hm]at hm';cases hm'
   have hbc:BH xs costs m=c0:=by unfold BH;rw[h1,h2,aG,aG,q3]
   refine⟨fun hB=> ?_,?_⟩
   . rcases hB with⟨j,x,i1,i2,i3,i4⟩|hB
     . exact i4 (q2 j x (by omega) (by omega) i3)
     . omega
   . rw[hbc]
     exact DI (by rw[aW (by omega),hl,cg];rfl)
 . obtain⟨i1,i2⟩:=q1 b m' (by omega) hm'
   exact⟨i1,by rw[QJ (by omega)];exact i2⟩
end
theorem Er(z:Int)(w:World):Calls Tryz.prog 92 #[.int .i64 z] w fun e w'=>e=.returned (.bool (decide (0<=z/\z<=4294967295)))/\w'=w:=by
 by_cases h0:0<=z
 . by_cases h1:z<=4294967295
   . rw[decide_eq_true ⟨h0,h1⟩]
     have h0':z>=0:=h0;go_enter Tryz.func92,Tryz.ntmps92;go_wp2_with fail
     go_ret
     exact⟨rfl,rfl⟩
   . rw[bI (fun h=>h1 h.2)]
     have h0':z>=0:=h0;go_enter Tryz.func92,Tryz.ntmps92;go_wp2_with fail
     go_ret
     exact⟨rfl,rfl⟩
 . rw[bI (fun h=>h0 h.1)]
   have h0':¬z>=0:=h0;go_enter Tryz.func92,Tryz.ntmps92;go_wp2_with fail
   go_ret
   exact⟨rfl,rfl⟩
structure RwS(w:World)(n gS gB:Nat)(I:List Nat)(L:List Int):Prop where
 st:∀b,b<n->w.cell? ⟨gS,b,none⟩=some (.int .i64 (jf I b:Int))/\jf I b<n
 su:∀c,c<n->w.cell? ⟨gB,c,none⟩=some (.int .i64 (cf L c))
theorem EI(CB n gS cS gB cB:Nat)(I:List Nat)(L:List Int)(a:Option Addr)(c:Nat)(es:List Int)(w:World)(hn:n<=1048576)(h16:w.cell? ⟨CB,16,none⟩=some (.slice (some ⟨gS,0,none⟩) n cS))(hR:RwS w n gS gB I L)(hl:es.length<=1048576)(he:Rd w 1 (.slice a es.length c) es.length (es.flatMap Ac))(hb:∀z∈es,∃b:Nat,z=(b:Int)/\b<n):
 Calls Tryz.prog 62 #[.pointer (some ⟨CB,0,none⟩),.slice (some ⟨gB,0,none⟩) n cB,.slice a es.length c] w fun e w'=>∃m,e=.returned (.int .i64 m)/\w'=w/\Br (fun b=>cf L (jf I b)) (fun b=>(b:Int)∈es) m:=by
 have H:=AS (aq hR (aq he hb));clear hR he hb;go_enter Tryz.func62,Tryz.ntmps62;go_wp2_with fail
 go_loopw [7,12] (fun m i wr=>∃(k:Nat) (m0:Int),k<=es.length/\m=.int .i64 m0/\i=.int .i64 k/\wr=w/\Hid (Br (fun b=>cf L (jf I b)) (fun b=>(b:Int)∈es.take k) m0)) (fun _ i _=>es.length-(intOf i).toNat)
 case atStart=>exact⟨0,0,by omega,rfl,rfl,rfl,Br.none (fun b hb=>by simp at hb)⟩
 case round=>
  obtain⟨k,m0,hk,rfl,rfl,rfl,HM⟩:=hrel;by_cases hlt:k<es.length
  case neg=>
   go_wp2_with fail
   go_ret
   exact⟨m0,rfl,rfl,by have:=HM.o;rw[an (show es.length<=k by omega)]at this;exact this⟩
  have hltI:(k:Int)<(es.length:Int):=by omega
  have hz:es[k]?=some es[k]:=aA hlt;obtain⟨b,eb,hbn⟩:=H.o.2.2 es[k] (bq hlt);rw[eb]at hz
  obtain⟨g,o,ea,e0⟩:∃g o,a=some ⟨g,o,none⟩/\wr.cell? ⟨g,o+k,none⟩=some (.int .i64 (b:Int)):=by
   rcases H.o.2.1.2 with⟨q,_⟩|⟨g,o,c',e1,hc⟩
   . omega
   . simp only[aF,aw]at e1
     exact⟨g,o,e1.1,hc k _ (Ew hz)⟩
  subst ea;obtain⟨s0,hs⟩:=H.o.1.st b hbn;have u0:=H.o.1.su _ hs;have hbI:(b:Int)<(n:Int):=by omega
  have hsI:(jf I b:Int)<(n:Int):=by omega
  have HZ:=AS hz;clear hz eb
  have HN:Hid (Br (fun b=>cf L (jf I b)) (fun b=>(b:Int)∈es.take (k+1)) (max m0 (cf L (jf I b)))):=HM.o.add fun y=>by
   rw[List.take_add_one,HZ.o,aU];simp only[Option.toList,aa,ao,cH];constructor
   . rintro(h|h)
     . exact .inl h
     . exact .inr (by omega)
   . rintro(h|rfl)
     . exact .inl h
     . exact .inr rfl
  generalize hy:cf L (jf I b)=y at u0 HN;clear hy;generalize jf I b=s at s0 hs u0 hsI;go_wp2_with fail
  go_roundw
  case rel=>exact⟨k+1,max m0 y,by omega,by trivial,by go_num,by trivial,HN⟩
  case measure=>simp[intOf];omega
end Go.Proofs.YtdipfjmlfbdkdaaGreat
