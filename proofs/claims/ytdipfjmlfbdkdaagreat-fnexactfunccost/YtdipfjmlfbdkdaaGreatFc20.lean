import Derived.Test.YtdipfjmlfbdkdaaGreatFc18
import Derived.Deep.RegionHeld3
namespace Go.Proofs.YtdipfjmlfbdkdaaGreat
open Go.ChangeShapes Go.WideShapes Go.ChangeAt Go.RowKit
set_option linter.unusedVariables false
set_option maxHeartbeats 8000000
set_option maxRecDepth 100000
structure OG(k:Nat)(w u:World)(tp tr:TypeId)(p r o:List Value):Prop where
 par:u.ownsRow w.heap.size tp k (.slice (some ⟨w.heap.size,0,none⟩) 1 1) 1 p
 res:u.ownsRow w.heap.size tr k (.slice (some ⟨w.heap.size+1,0,none⟩) 1 1) 1 r
 loc:u.ownsRow w.heap.size tr k (.slice (some ⟨w.heap.size+1+1,0,none⟩) 1 1) 1 o
 bel:Below w.heap.size w u
 siz:w.heap.size+3<=u.heap.size
theorem OG.of(k:Nat)(w:World)(tp tr:TypeId)(p r o:Array Value)(hp:p.size=k)(hr:r.size=k)(ho:o.size=k):
 OG k w (((w.alloc (.cells p tp)).alloc (.cells r tr)).alloc (.cells o tr)) tp tr p.toList r.toList o.toList:=by
 have b1:Below w.heap.size w (w.alloc (.cells p tp)):=(aX _ _).alloc lR _;have c2:Below (w.alloc (.cells p tp)).heap.size (w.alloc (.cells p tp)) ((w.alloc (.cells p tp)).alloc (.cells r tr)):=(aX _ _).alloc lR _;have c3:Below ((w.alloc (.cells p tp)).alloc (.cells r tr)).heap.size ((w.alloc (.cells p tp)).alloc (.cells r tr)) (((w.alloc (.cells p tp)).alloc (.cells r tr)).alloc (.cells o tr)):=(aX _ _).alloc lR _;have r1:=cX (base:=w.heap.size) (e:=tp) (size:=k) w p 1 lR (by unfold maxLen;omega) (by omega);have r2:=cX (base:=w.heap.size) (e:=tr) (size:=k) (w.alloc (.cells p tp)) r 1 (by simp) (by unfold maxLen;omega) (by omega);have r3:=cX (base:=w.heap.size) (e:=tr) (size:=k) ((w.alloc (.cells p tp)).alloc (.cells r tr)) o 1 (by simp<;>omega) (by unfold maxLen;omega) (by omega);refine⟨Ag (Ag r1 c2 lR) c3 lR,?_,?_,(b1.trans (c2.mono (by simp))).trans (c3.mono (by simp<;>omega)),by simp<;>omega⟩
 . have:=Ag r2 c3 lR
   simpa using this
 . simpa using r3
theorem OG.keep{k:Nat}{w u u':World}{tp tr:TypeId}{p r o:List Value}(h:OG k w u tp tr p r o)(hb:Below u.heap.size u u'):OG k w u' tp tr p r o:=
 ⟨Ag h.par hb lR,Ag h.res hb lR,Ag h.loc hb lR,h.bel.trans (hb.mono (by have:=h.siz;omega)),aY h.siz hb.size⟩
theorem OG.set{k:Nat}{w u:World}{tp tr:TypeId}{p r o:List Value}(h:OG k w u tp tr p r o)(j:Nat)(x:Value):OG k w (u.setCell ⟨w.heap.size+1+1,j,none⟩ x) tp tr p r (o.set j x):=
 ⟨aP h.par (by simp[Value.ownBlock]<;>omega) x,aP h.res (by simp[Value.ownBlock]) x,(h.loc.stored j x).1,h.bel.setCell (by simp<;>omega) x,by have:=h.siz;simpa using this⟩
theorem OG.set'{k:Nat}{w u:World}{tp tr:TypeId}{p r o:List Value}(h:OG k w u tp tr p r o)(j:Nat)(x:Value):OG k w (u.setCell ⟨w.heap.size+1,j,none⟩ x) tp tr p (r.set j x) o:=
 ⟨aP h.par (by simp[Value.ownBlock]<;>omega) x,(h.res.stored j x).1,aP h.loc (by simp[Value.ownBlock]) x,h.bel.setCell (by simp) x,by have:=h.siz;simpa using this⟩
structure VL where
 b:Value
 k:Value
def I7(w:World)(v:VL)(m:ML):Prop:=Nl w (m,v.b,v.k)
def ML.small(m:ML):Prop:=m.back.length<=1048576/\m.blocks.length<=1048576
def ML.fits(m:ML):Prop:=m.back.length<=9223372036854775807/\m.blocks.length<=9223372036854775807
def ML.wf(m:ML):Prop:=CD m.head
theorem I7.keep{w w':World}{v:VL}{m:ML}(h:I7 w v m){B:Nat}(hb:Below B w w')(hB:w.heap.size<=B):I7 w' v m:=⟨Rd.keep h.1 hb hB,Rd.keep h.2 hb hB⟩
theorem Pk(l:List Nat):nv l=(ints l).map (Value.int .i64):=by simp[nv,ints]
theorem OY(l:List Nat):ints l.reverse=(ints l).reverse:=by simp[ints]
theorem LG(g c base:Nat)(O:List Nat)(w:World)(hl:O.length<=1048576)(h:DQ w base (.slice (some ⟨g,0,none⟩) O.length c) O):
 Calls Tryz.prog 117 #[.slice (some ⟨g,0,none⟩) O.length c] w fun e w'=>e=.returned (.tuple #[])/\DQ w' base (.slice (some ⟨g,0,none⟩) O.length c) O.reverse/\w.grownBy w' (some g):=by
 rcases h.2 with⟨h',_⟩|⟨g',cap',cur,h',hb,hg,h3,h4,h5,h6⟩
 . cases h'
 . cases h'
   have hH:Go.Sort.Holds (Value.int .i64) w g 0 (ints O).toArray:=holds_of_blockI hg (by rw[AA,<-Pk];simpa using h6);have hc:=LF g c (ints O) w hH (by rw[AA];omega);rw[AA]at hc;refine hc.mono ?_;rintro e w' ⟨rfl,n,hw'⟩;have e1:w'=Go.Sort.grow (Go.Sort.putRow (Value.int .i64) (Go.Sort.ahead w n) g 0 (ints O).reverse.toArray) #[]:=by rw[Go.Sort.grow_empty];exact hw'
   refine⟨rfl,?_,?_⟩
   . have:=ownsRow_sortedI (w:=w) (base:=base) (g:=g) (cap:=c) (n:=n) (os:=#[]) (ss:=ints O) (ts:=(ints O).reverse) (by simp) hb hg (by rw[AA];exact h3) h4 h5
     rw[<-e1,AA,<-OY,<-Pk]at this;unfold DQ;rw[bV];exact this
   . rw[e1]
     exact grownBy_sortedI _
theorem Pu(g c base:Nat)(zs:List Int)(w:World)(hl:zs.length<=1048576)(h:w.ownsRow base 2 1 (.slice (some ⟨g,0,none⟩) zs.length c) zs.length (zs.flatMap Ac)):
 Calls Tryz.prog 122 #[.slice (some ⟨g,0,none⟩) zs.length c] w fun e w'=>e=.returned (.tuple #[])/\w'.ownsRow base 2 1 (.slice (some ⟨g,0,none⟩) zs.length c) zs.length ((zs.mergeSort fun x y=>decide (x<=y)).flatMap Ac)/\w.grownBy w' (some g):=by
 rcases h.2 with⟨h',_⟩|⟨g',cap',cur,h',hb,hg,h3,h4,h5,h6⟩
 . cases h'
 . cases h'
   have hH:Go.Sort.Holds (Value.int .i64) w g 0 zs.toArray:=holds_of_blockI hg (by rw[<-Cj];simpa using h6);refine(LJ g c zs w hH (aQ.1 hg).1 (by omega)).mono ?_;rintro e w' ⟨rfl,n,os,rfl⟩;refine⟨rfl,?_,grownBy_sortedI _⟩;rw[Cj];exact ownsRow_sortedI (dd zs _).length_eq hb hg h3 h4 h5
theorem CK.fxs{w u:World}{g n:Nat}{E:Nat->List Nat}{X:List Nat}(h:CK w g 0 n E)(hf:∀k,k<w.heap.size->k∉X->u.heap[k]?=w.heap[k]?)(hg:g∉X)(hr:∀b a m c,b<n->w.cell? ⟨g,b,none⟩=some (.slice (some a) m c)->0<m->a.block∉X):CK u g 0 n E:=fun b hb=>by
 have hc:∀{a:Addr} {x:Value},w.cell? a=some x->a.block∉X->u.cell? a=some x:=fun{a x} q hne=>by
  have:=hf a.block (aC q) hne;unfold World.cell? at*;rw[this];exact q
 obtain⟨a,c,h1,h2⟩:=h b hb;rw[bt]at h1;refine⟨a,c,by rw[bt];exact hc h1 hg,h2.1,h2.2.imp id ?_⟩;rintro⟨g',o',c',e,q⟩;refine⟨g',o',c',e,fun j v hj=>hc (q j v hj) ?_⟩;simp only[aF,aw]at e;exact hr b ⟨g',o',none⟩ _ c hb (by rw[h1,e.1]) (by have:=(aD.1 hj).1;rw[Oh]at this;omega)
structure GM(w u:World)(n G gN cN gF gO cO gP:Nat)(E:Nat->List Nat)(S O:List Nat):Prop where
 ge:w.heap.size<=G
 blk:Ak u G #[.slice (some ⟨gN,0,none⟩) n cN,.slice (some ⟨gF,0,none⟩) n n,.slice (some ⟨gO,0,none⟩) O.length cO,.slice (some ⟨gP,0,none⟩) n n,.slice none 0 0] 161
 nx:CK u gN 0 n E
 fr:CK u gF 0 n (AV E n)
 vs:Vs E [] [] [0] S O
 ord:DQ u w.heap.size (.slice (some ⟨gO,0,none⟩) O.length cO) O.reverse
 pl:∀x,x∈O->u.cell? ⟨gP,x,none⟩=some (.int .i64 (B8 O x:Int))
 bel:Below w.heap.size w u
 ne:gN≠G/\gF≠G/\gO≠G/\gP≠G
 nn:∀b a m c,b<n->u.cell? ⟨gN,b,none⟩=some (.slice (some a) m c)->0<m->a.block≠G
 nf:∀b a m c,b<n->u.cell? ⟨gF,b,none⟩=some (.slice (some a) m c)->a.block≠G
theorem Pi{w w2 u:World}{n G gF gN cN gP:Nat}{E:Nat->List Nat}{NS:List Value}{FS:List (Value×List Nat)}(h:NG w w2 u n G gF (.slice (some ⟨gP,0,none⟩) n n) (.slice (some ⟨gN,0,none⟩) n cN) NS FS)(hN:NS.length=n)(hF:FS.length=n)(hfs:∀x,x<n->∃V,FS[x]?=some (V,AV E n x))(hns:∀x,x<n->∃a c,NS[x]?=some (.slice a (E x).length c)/\DR w (.slice a (E x).length c) (E x))(hP:w2.ownsRow w.heap.size 2 1 (.slice (some ⟨gP,0,none⟩) n n) n (iv (fun _=>0) n))(hPG:gP≠G)(hPF:gP≠gF):CK u gN 0 n E/\CK u gF 0 n (AV E n)/\(gN≠G/\gF≠G/\gP≠G/\gN≠gP/\gF≠gP)/\(∀b a m c,b<n->u.cell? ⟨gN,b,none⟩=some (.slice (some a) m c)->0<m->a.block≠G/\a.block≠gP)/\(∀b a m c,b<n->u.cell? ⟨gF,b,none⟩=some (.slice (some a) m c)->a.block≠G/\a.block≠gP):=by
 have hgP:w.heap.size<=gP/\gP<w2.heap.size:=by
  obtain⟨h1,cur,h2⟩:=Am hP;exact⟨h1,(aQ.1 h2).1⟩
 have hG:=h.lt;have hr:=h.nrow;rw[hN]at hr;have hgN:=(Am hr).1
 have cN':∀b,b<n->u.cell? ⟨gN,b,none⟩=NS[b]?:=fun b hb=>by
  have:=hr.cellAt b (by omega);exact this
 have cF:∀b,b<n->u.cell? ⟨gF,b,none⟩=(FS.map Prod.fst)[b]?:=fun b hb=>h.frow.cellAt b (by omega)
 have hFG:gF≠G:=fun e=>DS h.blk h.frow (by decide) (by rw[e];rfl)
 refine⟨fun b hb=> ?_,fun b hb=> ?_,⟨by omega,hFG,hPG,by omega,Ne.symm hPF⟩,fun b a m c hb hc hm=> ?_,fun b a m c hb hc=> ?_⟩
 . obtain⟨a,c,h1,h2⟩:=hns b hb
   exact⟨a,c,by rw[bt,cN' b hb];exact h1,Rd.keep h2 h.bel lR⟩
 . obtain⟨V,hV⟩:=hfs b hb
   have ho:=h.fam.own (V,ints (AV E n b)) (au.2 ⟨(V,_),aE hV,rfl⟩);obtain⟨a,c,e⟩:=Ax ho;simp only[AA]at e;subst e;refine⟨a,c,by rw[bt,cF b hb,bB,hV];rfl,?_⟩;have:=Rd.of_own ho;simp only[AA]at this;rw[<-Ck]at this;exact this
 . rw[cN' b hb]at hc
   obtain⟨a',c',h1,h2⟩:=hns b hb;rw[h1]at hc;simp only[aR,aF]at hc;obtain⟨rfl,rfl,rfl⟩:=hc;rcases h2.2 with⟨e0,_⟩|⟨g',o',c',e1,q⟩
   . omega
   . simp only[aF,aR,aw]at e1
     obtain⟨rfl,rfl⟩:=e1;obtain⟨x,hx⟩:∃x,(E b)[0]?=some x:=⟨_,aA hm⟩;have:=aC (q 0 _ (JN hx));simp only[]at this⊢;omega
 . rw[cF b hb]at hc
   obtain⟨V,hV⟩:=hfs b hb;rw[bB,hV]at hc;simp only[dS,aR]at hc;subst hc;have ho:=h.fam.own _ (au.2 ⟨(_,_),aE hV,rfl⟩);have:=(ho.lt a.block rfl).1;omega
structure QD(w u3 u:World)(n G gN cN gF gO cO gP:Nat)(R:List Nat):Prop where
 blk:Ak u G #[.slice (some ⟨gN,0,none⟩) n cN,.slice (some ⟨gF,0,none⟩) n n,.slice (some ⟨gO,0,none⟩) R.length cO,.slice (some ⟨gP,0,none⟩) n n,.slice none 0 0] 161
 ord:DQ u u3.heap.size (.slice (some ⟨gO,0,none⟩) R.length cO) R
 prow:u.ownsRow w.heap.size 2 1 (.slice (some ⟨gP,0,none⟩) n n) n (iv (fun _=>0) n)
 fx:∀k,k<u3.heap.size->k≠G->k≠gP->u.heap[k]?=u3.heap[k]?
 size:u3.heap.size<=u.heap.size
 bel:Below w.heap.size w u
theorem QD.rev{w u3 u u':World}{n G gN cN gF gO cO gP:Nat}{O:List Nat}(h:QD w u3 u n G gN cN gF gO cO gP O)(hgO:u3.heap.size<=gO)(hG:G<u3.heap.size)(hP:gP<u3.heap.size)(hw:w.heap.size<=u3.heap.size)(ho:DQ u' u3.heap.size (.slice (some ⟨gO,0,none⟩) O.length cO) O.reverse)(hg:u.grownBy u' (some gO)):QD w u3 u' n G gN cN gF gO cO gP O.reverse:=by
 refine⟨?_,by rw[bV];exact ho,Cs h.prow hg (fun q hq e=>by simp only[Value.ownBlock,aR]at hq;have:=ae e;omega),fun k hk h1 h2=> ?_,aY h.size hg.size,h.bel.grown hg h.bel.size (fun j hj=>by cases hj;omega)⟩
 . rw[bV]
   exact h.blk.gb hg (fun e=>by have:=ae e;omega)
 . rw[hg.block k (bY hk h.size) (fun e=>by have:=ae e;omega)]
   exact h.fx k hk h1 h2
structure PJ(w u7 u:World)(n gP:Nat)(O:List Nat)(k:Nat):Prop where
 row:u.ownsRow w.heap.size 2 1 (.slice (some ⟨gP,0,none⟩) n n) n (iv (IE O k) n)
 fx:∀k,k<u7.heap.size->k≠gP->u.heap[k]?=u7.heap[k]?
 bel:Below w.heap.size w u
theorem PJ.set{w u7 u:World}{n gP k x:Nat}{O:List Nat}(h:PJ w u7 u n gP O k)(hd:O.Nodup)(hx:O.reverse[k]?=some x):PJ w u7 (u.setCell ⟨gP,x,none⟩ (.int .i64 (k:Int))) n gP O (k+1):=by
 refine⟨?_,fun k hk hne=>by rw[bi u _ k _ hne];exact h.fx k hk hne,h.bel.setCell (Am h.row).1 _⟩;have:=(h.row.stored x (.int .i64 (k:Int))).1;rw[O8 (JQ hd hx n)]at this;exact this
theorem PJ.cell{w u7 u:World}{n gP k:Nat}{O:List Nat}(h:PJ w u7 u n gP O k){a:Addr}{x:Value}(hb:u7.cell? a=some x)(hne:a.block≠gP):u.cell? a=some x:=by
 have:=h.fx a.block (aC hb) hne;unfold World.cell? at*;rw[this];exact hb
theorem QN{w u3 u7 u:World}{n G gN cN gF gO cO gP:Nat}{E:Nat->List Nat}{S O:List Nat}(h7:QD w u3 u7 n G gN cN gF gO cO gP O.reverse)(hp:PJ w u7 u n gP O O.length)(hv:Vs E [] [] [0] S O)(hOm:∀x∈O,x<n)(hG:w.heap.size<=G)(hG3:G<u3.heap.size)(hP3:gP<u3.heap.size)(hw3:w.heap.size<=u3.heap.size)(e1:CK u3 gN 0 n E)(e2:CK u3 gF 0 n (AV E n))(ne:gN≠G/\gF≠G/\gP≠G/\gN≠gP/\gF≠gP)(n1:∀b a m c,b<n->u3.cell? ⟨gN,b,none⟩=some (.slice (some a) m c)->0<m->a.block≠G/\a.block≠gP)(n2:∀b a m c,b<n->u3.cell? ⟨gF,b,none⟩=some (.slice (some a) m c)->a.block≠G/\a.block≠gP):GM w u n G gN cN gF gO cO gP E S O:=by
 have hgO:=(Am h7.ord).1
 have fx:∀k,k<u3.heap.size->k∉[G,gP]->u.heap[k]?=u3.heap[k]?:=fun k hk hne=>by
  simp only[aa,ao,cH,not_or]at hne;rw[hp.fx k (bY hk h7.size) hne.2];exact h7.fx k hk hne.1 hne.2
 have hcb:∀(g b:Nat),g∉[G,gP]->g<u3.heap.size->u.cell? ⟨g,b,none⟩=u3.cell? ⟨g,b,none⟩:=fun g b hne hlt=>by
  unfold World.cell?;rw[fx g hlt hne]
 have hgN:gN<u3.heap.size\/n=0:=by
  by_cases q:n=0
  . exact .inr q
  . obtain⟨a,c,h1,_⟩:=e1 0 (by omega)
    exact .inl (aC h1)
 have hgF:gF<u3.heap.size\/n=0:=by
  by_cases q:n=0
  . exact .inr q
  . obtain⟨a,c,h1,_⟩:=e2 0 (by omega)
    exact .inl (aC h1)
 have m1:gN∉[G,gP]:=by simp[ne]
 have m2:gF∉[G,gP]:=by simp[ne]
 have kb:Ak u G #[.slice (some ⟨gN,0,none⟩) n cN,.slice (some ⟨gF,0,none⟩) n n,.slice (some ⟨gO,0,none⟩) O.length cO,.slice (some ⟨gP,0,none⟩) n n,.slice none 0 0] 161:=by
  have h:=h7.blk;rw[bV]at h;unfold Ak at*;rw[hp.fx G h7.blk.lt (Ne.symm ne.2.2.1)];exact h
 refine⟨hG,kb,e1.fxs fx m1 (fun b a m c hb hc hm=>by have:=n1 b a m c hb hc hm;simp[this]),e2.fxs fx m2 (fun b a m c hb hc _=>by have:=n2 b a m c hb hc;simp[this]),hv,?_,fun x hx=> ?_,hp.bel,⟨ne.1,ne.2.1,by omega,ne.2.2.1⟩,fun b a m c hb hc hm=> ?_,fun b a m c hb hc=> ?_⟩
 . have h:=h7.ord
   have h2:DQ u u3.heap.size (.slice (some ⟨gO,0,none⟩) O.reverse.length cO) O.reverse:=h.fx hp.fx (fun g hg=>by simp only[Value.ownBlock,aR]at hg;omega);rw[bV]at h2;exact AF h2 hw3
 . have:=hp.row.cellAt x (by have:=hOm x hx;omega)
   rw[JG _ _ _ (hOm x hx),Lz O x hx]at this;exact this
 . rw[hcb gN b m1 (hgN.resolve_right (by omega))]at hc
   exact(n1 b a m c hb hc hm).1
 . rw[hcb gF b m2 (hgF.resolve_right (by omega))]at hc
   exact(n2 b a m c hb hc).1
structure BK(w u:World)(n gB:Nat)(FS:List (Value×List Nat)):Prop where
 frow:u.ownsRow w.heap.size 28 1 (.slice (some ⟨gB,0,none⟩) n n) n (FS.map Prod.fst)
 fam:Cc u w.heap.size (FS.map fun x=>(x.1,ints x.2))
 bel:Below w.heap.size w u
theorem BK.keep{w u u':World}{n gB:Nat}{FS:List (Value×List Nat)}(h:BK w u n gB FS)(hb:Below u.heap.size u u'):BK w u' n gB FS:=⟨Ag h.frow hb lR,h.fam.keepB hb,Ab h.bel lR hb⟩
theorem BK.app{w u u':World}{n gB g cap y b:Nat}{V:Value}{FS:List (Value×List Nat)}{l:List Nat}(h:BK w u n gB FS)(hy:FS[y]?=some (V,l))(hown:u'.ownsRow w.heap.size 2 1 (.slice (some ⟨g,0,none⟩) (l.length+1) cap) (l.length+1) (nv l++[.int .i64 (b:Int)]))(hg:u.grownBy u' V.ownBlock)(hat:V.ownBlock=some g\/g=u.heap.size):u'.ownsRow w.heap.size 28 1 (.slice (some ⟨gB,0,none⟩) n n) n (FS.map Prod.fst)/\BK w (u'.setCell ⟨gB,y,none⟩ (.slice (some ⟨g,0,none⟩) (l.length+1) cap)) n gB (FS.set y (.slice (some ⟨g,0,none⟩) (l.length+1) cap,l++[b])):=by
 obtain⟨hyl,hye⟩:=aD.1 hy;have hFS:FS=FS.take y++(V,l)::FS.drop (y+1):=by rw[<-hye,<-cE hyl,dm]
 have hlen:(FS.take y).length=y:=by rw[bp];omega
 have oV:=h.fam.own (V,ints l) (au.2 ⟨(V,l),aE hy,rfl⟩);have kf:u'.ownsRow w.heap.size 28 1 (.slice (some ⟨gB,0,none⟩) n n) n (FS.map Prod.fst):=Bg h.frow hg oV (by decide)
 have hset:FS.set y (.slice (some ⟨g,0,none⟩) (l.length+1) cap,l++[b])=FS.take y++(.slice (some ⟨g,0,none⟩) (l.length+1) cap,l++[b])::FS.drop (y+1):=by
  have:=NI (FS.take y) (FS.drop (y+1)) (V,l) (.slice (some ⟨g,0,none⟩) (l.length+1) cap,l++[b]);rw[hlen,<-hFS]at this;exact this
 have km:Cc u' w.heap.size ((FS.set y (.slice (some ⟨g,0,none⟩) (l.length+1) cap,l++[b])).map fun x=>(x.1,ints x.2)):=by
  have h0:=h.fam;rw[hFS,bx,cZ]at h0;rw[hset,bx,cZ];refine Cc.grow (g:=g) h0 ?_ rfl hg (hat.imp id fun e=>by omega);simp only[];rw[AA,aH,aI,<-Ck,DC];exact hown
 obtain⟨hge,cur,hcur⟩:=Am kf;refine⟨kf,?_,⟨fun x hx=>aP (km.own x hx) (a:=⟨gB,y,none⟩) (fun e=>Bc (km.own x hx) hcur (by decide) gB e rfl) _,km.sep⟩,(h.bel.grown hg h.bel.size (fun i hi=>(oV.lt i hi).1)).setCell hge _⟩;have:=(kf.stored y (.slice (some ⟨g,0,none⟩) (l.length+1) cap)).1;rw[List.map_set];exact this
theorem KU{E:Nat->List Nat}{D:Nat->Nat->Bool}{b k y:Nat}(hy:(E b)[k]?=some y)(x:Nat):Bt E D x b (k+1)=if x=y/\D y b=true then Bt E D x b k++[b]else Bt E D x b k:=by
 by_cases e:x=y
 . subst e
   by_cases q:D x b=true
   . rw[a8 ⟨rfl,q⟩,Jz hy q]
   . rw[bF (fun r=>q r.2),FU hy (fun r=>q r.2)]
 . rw[bF (fun r=>e r.1),FU hy (fun r=>e r.1.symm)]
def Qw(w w':World)(n:Nat)(E:Nat->List Nat)(O:List Nat)(D:Nat->Nat->Bool)(e:Ending):Prop:=(∃b k y:Nat,e=.returned (.tuple #[.slice none 0 0,.int .i64 (y:Int)])/\D1 E n (IX O D) b k y)\/∃gB FS,e=.returned (.tuple #[.slice (some ⟨gB,0,none⟩) n n,.int .i64 (-1)])/\(∀b,b<n->∀t∈E b,¬IX O D b t)/\BK w w' n gB FS/\FS.length=n/\∀x,x<n->∃V,FS[x]?=some (V,An E D n x)
theorem Ja (G n gN cN gP cP gi ci:Nat)(E:Nat->List Nat)(O:List Nat)(I:Nat->Int)(D:Nat->Nat->Bool)(w:World)(hn:n<=1024)(hP:Ce E n (B8 O))(hI:Hm E n (B8 O) I)(hD:∀d b,D d b=true↔Ca E d b)(hsz:∀b,(E b).length<=2)
 (h0:w.cell? ⟨G,0,none⟩=some (.slice (some ⟨gN,0,none⟩) n cN)) (hN:CK w gN 0 n E) (hG:GI w G n gP cP gi ci (B8 O) I):
 Calls Tryz.prog 88 #[.pointer (some ⟨G,0,none⟩)] w fun e w'=>Qw w w' n E O D e/\Below w.heap.size w w':=by
 obtain⟨k0,hk,hx0,hx1,hx2⟩:=bQ BE;obtain⟨j0,hj,hy0,hy1,hy2⟩:=bQ OX;have H:Hid (CK w gN 0 n E/\GI w G n gP cP gi ci (B8 O) I/\Ce E n (B8 O)/\Hm E n (B8 O) I/\(∀d b,D d b=true↔Ca E d b)/\(∀b,(E b).length<=2)/\w.cell? ⟨G,0,none⟩=some (.slice (some ⟨gN,0,none⟩) n cN)):=⟨hN,hG,hP,hI,hD,hsz,h0⟩
 clear hN hG hP hI hD hsz;go_enter Tryz.func88,Tryz.ntmps88;go_upto_region 2 with(at_make;refine bZ _ rfl _ _ 22 rfl w.heap.size 28 j0 (.slice none 0 0) 1 Tryz.underlying22 hj hy0 hy1 .i64 .i64 _ _ n rfl rfl rfl rfl (by rw[hy2];omega) (by unfold maxLen;omega) lR ?_;intro w3 hown hgrow)
 rw[JJ]at hown
 have HB0:Hid (BK w w3 n w.heap.size ((List.range n).map fun x=>((.slice none 0 0:Value),An E D 0 x))):=by
  refine⟨?_,⟨fun x hx=> ?_,?_⟩,Cr hgrow⟩
  . rw[dh]
    have e:(List.range n).map (Prod.fst ∘ fun x=>((.slice none 0 0:Value),An E D 0 x))=List.replicate n (.slice none 0 0):=by
     apply cI;intro j;by_cases hj:j<n
     . simp[hj]
     . rw[aZ (by simp;omega),aZ (by simp;omega)]
    rw[e];exact hown
  . simp only[au]at hx
    obtain⟨y,⟨z,_,rfl⟩,rfl⟩:=hx;have:ints (An E D 0 z)=[]:=by simp[An,ints]
    simp only[this];exact bL _ _ _ _
  . rw[dh]
    refine dH.2 (dg.imp fun _=> ?_);intro g hg;cases hg
 have x0:=Ad HB0.o.bel h0;clear hown hgrow h0;obtain⟨gB,hgB⟩:∃gB,gB=w.heap.size:=⟨_,rfl⟩;have HGB:Hid (gB=w.heap.size):=hgB;rw[<-hgB]at⊢;have HB1:Hid (BK w w3 n gB ((List.range n).map fun x=>((.slice none 0 0:Value),An E D 0 x))):=by rw[HGB.o];exact HB0
 clear hgB HB0;go_wp2
 go_loopw [20] (fun i wr=>∃(b:Nat) (FS:List (Value×List Nat)),b<=n/\i=.int .i64 b/\FS.length=n/\Hid (BK w wr n gB FS/\(∀x,x<n->∃V,FS[x]?=some (V,An E D b x))/\(∀b',b'<b->∀t∈E b',¬IX O D b' t))) (fun i _=>n-(intOf i).toNat)
 case atStart=>exact⟨0,_,by omega,rfl,by simp,HB1.o,fun x hx=>⟨.slice none 0 0,by simp[hx]⟩,fun b' hb'=>by omega⟩
 case round =>
  clear HB1 x0;obtain⟨b,FS,hb,rfl,hFS,HL⟩:=hrel;by_cases hlt:b<n
  . have hltI :(b:Int)<(n:Int):=by omega
    obtain⟨a,ca,g0,g1⟩:=H.o.1 b hlt;rw[bt]at g0;have HGR:Hid (DR w (.slice a (E b).length ca) (E b)):=g1;replace g0:=Ad HL.o.1.bel g0
    have hE2:=H.o.2.2.2.2.2.1 b;clear g1;go_wp2
    go_loopw [27] (fun i wr=>∃(k:Nat) (FS:List (Value×List Nat)),k<=(E b).length/\i=.int .i64 k/\FS.length=n/\Hid (BK w wr n gB FS/\(∀x,x<n->∃V,FS[x]?=some (V,An E D b x++Bt E D x b k))/\(∀b',b'<b->∀t∈E b',¬IX O D b' t)/\(∀k' t,k'<k->(E b)[k']?=some t->¬IX O D b t))) (fun i _=>2-(intOf i).toNat)
    case atStart=>exact⟨0,FS,by omega,rfl,hFS,HL.o.1,fun x hx=>by obtain⟨V,hV⟩:=HL.o.2.1 x hx;exact⟨V,by rw[Hv,dR];exact hV⟩,HL.o.2.2,fun k' t hk'=>by omega⟩
    case round=>
     clear HL g0;obtain⟨k,FS,hk',rfl,hFS,HL⟩:=hrel;by_cases hlt2:k<(E b).length
     . have hlt2I:(k:Int)<((E b).length:Int):=by omega
       obtain⟨y,hy⟩:∃y,(E b)[k]?=some y:=⟨_,aA hlt2⟩;have hyn:y<n:=H.o.2.2.1.edge b hlt y (aE hy);have hynI:(y:Int)<(n:Int):=by omega
       have HY:Hid ((E b)[k]?=some y):=hy;obtain⟨ga,oa,rfl,_,y0⟩:=HGR.o.at_ hy;replace y0:=Ad HL.o.1.bel y0
       have hg:=H.o.2.1.keep HL.o.1.bel;have p0:=hg.p;have py:=hg.pc y hyn;have pb:=hg.pc b hlt;clear hy hg
       have HNX:Hid (¬IX O D b y->∀k' t',k'<k+1->(E b)[k']?=some t'->¬IX O D b t'):=fun hnb k' t' h1 h2=>by
        by_cases e:k'=k
        . subst e
          rw[HY.o]at h2;cases h2
          exact hnb
        . exact HL.o.2.2.2 k' t' (by omega) h2
       by_cases hp:B8 O b<B8 O y
       . have hpI:(B8 O b:Int)<(B8 O y:Int):=by omega
         have HN:Hid ((∀x,x<n->∃V,FS[x]?=some (V,An E D b x++Bt E D x b (k+1)))/\∀k' t',k'<k+1->(E b)[k']?=some t'->¬IX O D b t'):=by
          refine⟨fun x hx=> ?_,HNX.o (fun q=>by have:=q.1;omega)⟩;rw[KU HY.o x,bF]
          . exact HL.o.2.1 x hx
          . rintro⟨_,q⟩
            have:=(((H.o.2.2.2.2.1 y b).1 q).way H.o.2.2.1 hlt).2.1;omega
         go_wp2
         go_quiet (fail)
         refine Av (fun u=>Hid (BK w u n gB FS)) (HL.o.1.keep (Af _ _ _)) ?_;intro U HU;clear y0 p0 py pb;go_wp2
         go_roundw
         case rel=>exact⟨k+1,FS,by omega,by go_num,hFS,HU.o,HN.o.1,HL.o.2.2.1,HN.o.2⟩
         case measure=>simp[intOf];omega
       . have hpI:¬(B8 O b:Int)<(B8 O y:Int):=by omega
         go_wp2
         go_quiet (fail)
         refine Av (fun u=>Hid (BK w u n gB FS)) (HL.o.1.keep (Af _ _ _)) ?_;intro U HU;clear y0 p0 py pb;go_wp2_with fail
         refine(Lq G n gP cP gi ci y b (B8 O) I U hn H.o.2.2.2.1.dinv.tree H.o.2.2.1.zero H.o.2.2.1.inj hyn hlt (H.o.2.2.2.1.all y hyn) (H.o.2.2.2.1.all b hlt) (H.o.2.1.keep HU.o.bel)).mono ?_;rintro e u5 ⟨m,rfl,hm,hkm,hM,b5⟩
         have HMY:Hid (m=y↔D y b=true):=by
          rw[H.o.2.2.2.2.1,<-H.o.2.2.2.1.dom y b hlt];constructor
          . intro e
            subst e;exact((hM m).1 .here).2
          . intro q
            exact CV.anti H.o.2.2.2.1.dinv.tree hyn ((hM m).1 .here).1 ((hM y).2 ⟨.here,q⟩)
         have HU5:Hid (BK w u5 n gB FS):=HU.o.keep b5;clear hM b5 HU;by_cases hmy:m=y
         . subst hmy
           have HDy:Hid (D m b=true):=HMY.o.1 rfl;obtain⟨V,hV⟩:=HL.o.2.1 m hyn;obtain⟨aV,cV,eV⟩:=Ax (HL.o.1.fam.own (V,ints (An E D b m++Bt E D m b k)) (au.2 ⟨(V,_),aE hV,rfl⟩));simp only[AA]at eV;subst eV
           have hll:(An E D b m++Bt E D m b k).length<=4096:=by
            have h1:=D7 H.o.2.2.2.2.2.1 D m b;have h2:=Gv E D m b k;rw[aH];omega
           generalize hLV:An E D b m++Bt E D m b k=lv at hV hll;have HLV:Hid (An E D b m++Bt E D m b k=lv/\FS[m]?=some (.slice aV lv.length cV,lv)):=⟨hLV,hV⟩
           clear hV hLV HMY
           have HFC:Hid (∀(u':World),u'.ownsRow w.heap.size 28 1 (.slice (some ⟨gB,0,none⟩) n n) n (FS.map Prod.fst)->u'.cell? ⟨gB,m,none⟩=some (.slice aV lv.length cV)):=fun u' hu'=>by
            have:=hu'.cellAt m (by omega);rw[bB,HLV.o.2]at this;exact this
           have bE:=Aa u5 (.cells #[.int .i64 (b:Int)] 2);have x2:=HFC.o _ HU5.o.frow;have HUE:Hid (BK w (u5.alloc (.cells #[.int .i64 (b:Int)] 2)) n gB FS/\w.heap.size<=(u5.alloc (.cells #[.int .i64 (b:Int)] 2)).heap.size):=⟨HU5.o.keep bE,aY HU5.o.bel.size bE.size⟩
           have HOW:Hid ((u5.alloc (.cells #[.int .i64 (b:Int)] 2)).ownsRow w.heap.size 2 1 (.slice aV lv.length cV) lv.length (nv lv)):=by
            have:=HUE.o.1.fam.own (.slice aV lv.length cV,ints lv) (au.2 ⟨(_,lv),aE HLV.o.2,rfl⟩);rw[AA,<-Ck]at this;exact this
           have HAP:Hid (∀g6 cap6 w6,w6.ownsRow w.heap.size 2 1 (.slice (some ⟨g6,0,none⟩) (lv.length+1) cap6) (lv.length+1) (nv lv++[.int .i64 (b:Int)])->(u5.alloc (.cells #[.int .i64 (b:Int)] 2)).grownBy w6 (Value.slice aV lv.length cV).ownBlock->((Value.slice aV lv.length cV).ownBlock=some g6\/g6=(u5.alloc (.cells #[.int .i64 (b:Int)] 2)).heap.size)->w6.cell? ⟨gB,m,none⟩=some (.slice aV lv.length cV)/\w6.frozen? ⟨gB,m,none⟩=false/\BK w (w6.setCell ⟨gB,m,none⟩ (.slice (some ⟨g6,0,none⟩) (lv.length+1) cap6)) n gB (FS.set m (.slice (some ⟨g6,0,none⟩) (lv.length+1) cap6,lv++[b]))):=fun g6 cap6 w6 hown hgrow hat=>by
            obtain⟨q1,q2⟩:=HUE.o.1.app HLV.o.2 hown hgrow hat;exact⟨HFC.o _ q1,q1.frozenAt m,q2⟩
           clear bE;go_wp2_with (at_builtin;refine wpList_append_lies _ rfl _ _ 28 rfl w.heap.size 2 k0 (.int .i64 0) 1 8 Tryz.underlying28 hk hx0 hx1 hx2 rfl (by decide) _ lv.length (nv lv) rfl HOW.o ⟨u5.heap.size,0,none⟩ 1 1 [.int .i64 (b:Int)] rfl rfl (A5 u5 (b:Int)) (fun u hu=>by simp at hu;subst hu;rfl) (by omega) (by simp[maxLen];omega) (by omega) HUE.o.2 _ rfl ?_;intro g6 cap6 w6 hown hgrow hat hlt9;obtain⟨t6,z6,l6⟩:=HAP.o g6 cap6 w6 hown hgrow hat;have HU6:Hid (BK w (w6.setCell ⟨gB,m,none⟩ (.slice (some ⟨g6,0,none⟩) (lv.length+1) cap6)) n gB (FS.set m (.slice (some ⟨g6,0,none⟩) (lv.length+1) cap6,lv++[b]))):=l6;clear hown hgrow hat hlt9 l6)
           have HN:Hid ((∀x,x<n->∃V,(FS.set m (.slice (some ⟨g6,0,none⟩) (lv.length+1) cap6,lv++[b]))[x]?=some (V,An E D b x++Bt E D x b (k+1)))/\∀k' t',k'<k+1->(E b)[k']?=some t'->¬IX O D b t'):=by
            refine⟨fun x hx=> ?_,HNX.o (fun q=>q.2 HDy.o)⟩;rw[KU HY.o x];by_cases e:x=m
            . subst e
              refine⟨.slice (some ⟨g6,0,none⟩) (lv.length+1) cap6,?_⟩;rw[a8 ⟨rfl,HDy.o⟩,<-dM,HLV.o.1,dK (by omega)]
            . rw[bF (fun r=>e r.1),dC (Ne.symm e)]
              exact HL.o.2.1 x hx
           clear x2 HUE HOW HAP HFC;go_roundw
           case rel=>exact⟨k+1,FS.set m (.slice (some ⟨g6,0,none⟩) (lv.length+1) cap6,lv++[b]),by omega,by go_num,by rw[dZ];exact hFS,HU6.o,HN.o.1,HL.o.2.2.1,HN.o.2⟩
           case measure=>simp[intOf];omega
         . have hmyB:((m:Int)==(y:Int))=false:=by simp;omega
           have hDy:¬D y b=true:=fun q=>hmy (HMY.o.2 q)
           have HFB:Hid (D1 E n (IX O D) b k y):=⟨hlt,HY.o,⟨by omega,hDy⟩,fun b' k' x' hb' hx' hl=>by
            rcases hl with q|⟨rfl,q⟩
            . exact HL.o.2.2.1 b' q x' (aE hx')
            . exact HL.o.2.2.2 k' x' q hx'⟩
           go_wp2
           go_ret2
           exact⟨Or.inl ⟨b,k,y,rfl,HFB.o⟩,HU5.o.bel⟩
     . obtain rfl:k=(E b).length:=by omega
       have HN:Hid ((∀x,x<n->∃V,FS[x]?=some (V,An E D (b+1) x))/\∀b',b'<b+1->∀t∈E b',¬IX O D b' t):=by
        refine⟨fun x hx=>by rw[FD];exact HL.o.2.1 x hx,fun b' hb' t ht=> ?_⟩;by_cases e:b'=b
        . subst e
          obtain⟨q,hq⟩:=bH ht;exact HL.o.2.2.2 q t (aD.1 hq).1 hq
        . exact HL.o.2.2.1 b' (by omega) t ht
       go_wp2
       go_roundw
       case rel=>exact⟨b+1,FS,by omega,by go_num,hFS,HL.o.1,HN.o.1,HN.o.2⟩
       case measure=>simp[intOf];omega
  . have ebn:b=n:=by omega
    have hltI:¬(b:Int)<(n:Int):=by omega
    rw[ebn]at HL;go_wp2
    go_ret2
    exact⟨Or.inr ⟨gB,FS,rfl,HL.o.2.2,HL.o.1,hFS,HL.o.2.1⟩,HL.o.1.bel⟩
end Go.Proofs.YtdipfjmlfbdkdaaGreat
