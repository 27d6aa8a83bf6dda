import Derived.Test.YtjpobijiblcgaaaGreatFw18
import Derived.Test.YtjpobijiblcgaaaGreatFw2
import Derived.Deep.RegionHeld3
import Derived.Test.YtjpobijiblcgaaaGreatFw0
import Derived.Sort.OwnSortedInts
namespace Go.Proofs.YtjpobijiblcgaaaGreat
open Go.ChangeShapes Go.WideShapes Go.ChangeAt Go.RowKit
set_option linter.unusedVariables false
structure VL where
 b:Value
 k:Value
def Ik(w:World)(v:VL)(m:ML):Prop:=Pt w (m,v.b,v.k)
def ML.small(m:ML):Prop:=m.back.length<=1048576/\m.blocks.length<=1048576
theorem Ik.keep{w w':World}{v:VL}{m:ML}(h:Ik w v m){B:Nat}(hb:Below B w w')(hB:w.heap.size<=B):Ik w' v m:=⟨Rd.keep h.1 hb hB,Rd.keep h.2 hb hB⟩
theorem OX(l:List Nat):nv l=(ints l).map (Value.int .i64):=by simp[nv,ints]
theorem OD(l:List Nat):ints l.reverse=(ints l).reverse:=by simp[ints]
theorem LB(g c base:Nat)(O:List Nat)(w:World)(hl:O.length<=1048576)(h:EM w base (sG g O.length c) O):
 Calls Tryz.prog 31 #[sG g O.length c] w fun e w'=>e=.returned (.tuple #[])/\EM w' base (sG g O.length c) O.reverse/\w.grownBy w' (some g):=by
 rcases h.2 with⟨h',_⟩|⟨g',cap',cur,h',hb,hg,h3,h4,h5,h6⟩
 . cases h'
 . cases h'
   have hH:Go.Sort.Holds (Value.int .i64) w g 0 (ints O).toArray:=holds_of_blockI hg (by rw[Az,<-OX];simpa using h6);have hc:=LA g c (ints O) w hH (by rw[Az];omega);rw[Az]at hc;refine hc.mono ?_;rintro e w' ⟨rfl,n,hw'⟩;have e1:w'=Go.Sort.grow (Go.Sort.putRow (Value.int .i64) (Go.Sort.ahead w n) g 0 (ints O).reverse.toArray) #[]:=by rw[Go.Sort.grow_empty];exact hw'
   refine⟨rfl,?_,?_⟩
   . have:=ownsRow_sortedI (w:=w) (base:=base) (g:=g) (cap:=c) (n:=n) (os:=#[]) (ss:=ints O) (ts:=(ints O).reverse) (by simp) hb hg (by rw[Az];exact h3) h4 h5
     rw[<-e1,Az,<-OD,<-OX]at this;unfold EM;rw[bg];exact this
   . rw[e1]
     exact grownBy_sortedI _
theorem Pd(g c base:Nat)(zs:List Int)(w:World)(hl:zs.length<=1048576)(h:w.ownsRow base 2 1 (sG g zs.length c) zs.length (zs.flatMap Ab)):
 Calls Tryz.prog 37 #[sG g zs.length c] w fun e w'=>e=.returned (.tuple #[])/\w'.ownsRow base 2 1 (sG g zs.length c) zs.length ((zs.mergeSort fun x y=>decide (x<=y)).flatMap Ab)/\w.grownBy w' (some g):=by
 rcases h.2 with⟨h',_⟩|⟨g',cap',cur,h',hb,hg,h3,h4,h5,h6⟩
 . cases h'
 . cases h'
   have hH:Go.Sort.Holds (Value.int .i64) w g 0 zs.toArray:=holds_of_blockI hg (by rw[<-Db];simpa using h6);refine(LE g c zs w hH (an.1 hg).1 (by omega)).mono ?_;rintro e w' ⟨rfl,n,os,rfl⟩;refine⟨rfl,?_,grownBy_sortedI _⟩;rw[Db];exact ownsRow_sortedI (dp zs _).length_eq hb hg h3 h4 h5
theorem Er.fxs{w u:World}{g n:Nat}{E:Nat->List Nat}{X:List Nat}(h:Er w g 0 n E)(hf:∀k,k<w.heap.size->k∉X->u.heap[k]?=w.heap[k]?)(hg:g∉X)(hr:∀b a m c,b<n->w.cell? ⟨g,b,none⟩=some (.slice (some a) m c)->0<m->a.block∉X):Er u g 0 n E:=fun b hb=>by
 have hc:∀{a:Addr} {x:Value},w.cell? a=some x->a.block∉X->u.cell? a=some x:=fun{a x} q hne=>by
  have:=hf a.block (aF q) hne;unfold World.cell? at*;rw[this];exact q
 obtain⟨a,c,h1,h2⟩:=h b hb;rw[bG]at h1;refine⟨a,c,by rw[bG];exact hc h1 hg,h2.1,h2.2.imp id ?_⟩;rintro⟨g',o',c',e,q⟩;refine⟨g',o',c',e,fun j v hj=>hc (q j v hj) ?_⟩;simp only[aI,bU]at e;exact hr b ⟨g',o',none⟩ _ c hb (by rw[h1,e.1]) (by have:=(aD.1 hj).1;rw[NL]at this;omega)
structure GM(w u:World)(n G gN cN gF gO cO gP:Nat)(E:Nat->List Nat)(S O:List Nat):Prop where
 ge:w.heap.size<=G
 blk:An u G #[sG gN n cN,sG gF n n,sG gO O.length cO,sG gP n n,sN] 51
 nx:Er u gN 0 n E
 fr:Er u gF 0 n (Bc E n)
 vs:Vs E [] [] [0] S O
 ord:EM u w.heap.size (sG gO O.length cO) O.reverse
 pl:∀x,x∈O->u.cell? ⟨gP,x,none⟩=some (iZ (DE O x:Int))
 bel:Below w.heap.size w u
 ne:gN≠G/\gF≠G/\gO≠G/\gP≠G
 nn:∀b a m c,b<n->u.cell? ⟨gN,b,none⟩=some (.slice (some a) m c)->0<m->a.block≠G
 nf:∀b a m c,b<n->u.cell? ⟨gF,b,none⟩=some (.slice (some a) m c)->a.block≠G
theorem OV{w w2 u:World}{n G gF gN cN gP:Nat}{E:Nat->List Nat}{NS:List Value}{FS:List (Value×List Nat)}(h:NG w w2 u n G gF (sG gP n n) (sG gN n cN) NS FS)(hN:NS.length=n)(hF:FS.length=n)(hfs:∀x,x<n->∃V,FS[x]?=some (V,Bc E n x))(hns:∀x,x<n->∃a c,NS[x]?=some (.slice a (E x).length c)/\Gk w (.slice a (E x).length c) (E x))(hP:w2.ownsRow w.heap.size 2 1 (sG gP n n) n (iv (fun _=>0) n))(hPG:gP≠G)(hPF:gP≠gF):Er u gN 0 n E/\Er u gF 0 n (Bc E n)/\(gN≠G/\gF≠G/\gP≠G/\gN≠gP/\gF≠gP)/\(∀b a m c,b<n->u.cell? ⟨gN,b,none⟩=some (.slice (some a) m c)->0<m->a.block≠G/\a.block≠gP)/\(∀b a m c,b<n->u.cell? ⟨gF,b,none⟩=some (.slice (some a) m c)->a.block≠G/\a.block≠gP):=by
 have hgP:w.heap.size<=gP/\gP<w2.heap.size:=by
  obtain⟨h1,cur,h2⟩:=At hP;exact⟨h1,(an.1 h2).1⟩
 have hG:=h.lt;have hr:=h.nrow;rw[hN]at hr;have hgN:=(At hr).1
 have cN':∀b,b<n->u.cell? ⟨gN,b,none⟩=NS[b]?:=fun b hb=>by
  have:=hr.cellAt b (by omega);exact this
 have cF:∀b,b<n->u.cell? ⟨gF,b,none⟩=(FS.map Prod.fst)[b]?:=fun b hb=>h.frow.cellAt b (by omega)
 have hFG:gF≠G:=fun e=>Ej h.blk h.frow (by decide) (by rw[e];rfl)
 refine⟨fun b hb=> ?_,fun b hb=> ?_,⟨by omega,hFG,hPG,by omega,Ne.symm hPF⟩,fun b a m c hb hc hm=> ?_,fun b a m c hb hc=> ?_⟩
 . obtain⟨a,c,h1,h2⟩:=hns b hb
   exact⟨a,c,by rw[bG,cN' b hb];exact h1,Rd.keep h2 h.bel lR⟩
 . obtain⟨V,hV⟩:=hfs b hb
   have ho:=h.fam.own (V,ints (Bc E n b)) (bJ.2 ⟨(V,_),aE hV,rfl⟩);obtain⟨a,c,e⟩:=AJ ho;simp only[Az]at e;subst e;refine⟨a,c,by rw[bG,cF b hb,a7,hV];rfl,?_⟩;have:=Rd.of_own ho;simp only[Az]at this;rw[<-CS]at this;exact this
 . rw[cN' b hb]at hc
   obtain⟨a',c',h1,h2⟩:=hns b hb;rw[h1]at hc;simp only[aJ,aI]at hc;obtain⟨rfl,rfl,rfl⟩:=hc;rcases h2.2 with⟨e0,_⟩|⟨g',o',c',e1,q⟩
   . omega
   . simp only[aI,aJ,bU]at e1
     obtain⟨rfl,rfl⟩:=e1;obtain⟨x,hx⟩:∃x,(E b)[0]?=some x:=⟨_,aA hm⟩;have:=aF (q 0 _ (M6 hx));simp only[]at this⊢;omega
 . rw[cF b hb]at hc
   obtain⟨V,hV⟩:=hfs b hb;rw[a7,hV]at hc;simp only[dZ,aJ]at hc;subst hc;have ho:=h.fam.own _ (bJ.2 ⟨(_,_),aE hV,rfl⟩);have:=(ho.lt a.block rfl).1;omega
structure Qr(w u3 u:World)(n G gN cN gF gO cO gP:Nat)(R:List Nat):Prop where
 blk:An u G #[sG gN n cN,sG gF n n,sG gO R.length cO,sG gP n n,sN] 51
 ord:EM u u3.heap.size (sG gO R.length cO) R
 prow:u.ownsRow w.heap.size 2 1 (sG gP n n) n (iv (fun _=>0) n)
 fx:∀k,k<u3.heap.size->k≠G->k≠gP->u.heap[k]?=u3.heap[k]?
 size:u3.heap.size<=u.heap.size
 bel:Below w.heap.size w u
theorem Qr.rev{w u3 u u':World}{n G gN cN gF gO cO gP:Nat}{O:List Nat}(h:Qr w u3 u n G gN cN gF gO cO gP O)(hgO:u3.heap.size<=gO)(hG:G<u3.heap.size)(hP:gP<u3.heap.size)(hw:w.heap.size<=u3.heap.size)(ho:EM u' u3.heap.size (sG gO O.length cO) O.reverse)(hg:u.grownBy u' (some gO)):Qr w u3 u' n G gN cN gF gO cO gP O.reverse:=by
 refine⟨?_,by rw[bg];exact ho,AW h.prow hg (fun q hq e=>by simp only[Value.ownBlock,aJ]at hq;have:=bC e;omega),fun k hk h1 h2=> ?_,aY h.size hg.size,h.bel.grown hg h.bel.size (fun j hj=>by cases hj;omega)⟩
 . rw[bg]
   exact h.blk.gb hg (fun e=>by have:=bC e;omega)
 . rw[hg.block k (bx hk h.size) (fun e=>by have:=bC e;omega)]
   exact h.fx k hk h1 h2
structure Qa(w u7 u:World)(n gP:Nat)(O:List Nat)(k:Nat):Prop where
 row:u.ownsRow w.heap.size 2 1 (sG gP n n) n (iv (II O k) n)
 fx:∀k,k<u7.heap.size->k≠gP->u.heap[k]?=u7.heap[k]?
 bel:Below w.heap.size w u
theorem Qa.set{w u7 u:World}{n gP k x:Nat}{O:List Nat}(h:Qa w u7 u n gP O k)(hd:O.Nodup)(hx:O.reverse[k]?=some x):Qa w u7 (u.setCell ⟨gP,x,none⟩ (iZ (k:Int))) n gP O (k+1):=by
 refine⟨?_,fun k hk hne=>by rw[bO u _ k _ hne];exact h.fx k hk hne,h.bel.setCell (At h.row).1 _⟩;have:=(h.row.stored x (iZ (k:Int))).1;rw[OH (JG hd hx n)]at this;exact this
theorem Qa.cell{w u7 u:World}{n gP k:Nat}{O:List Nat}(h:Qa w u7 u n gP O k){a:Addr}{x:Value}(hb:u7.cell? a=some x)(hne:a.block≠gP):u.cell? a=some x:=by
 have:=h.fx a.block (aF hb) hne;unfold World.cell? at*;rw[this];exact hb
theorem Qz{w u3 u7 u:World}{n G gN cN gF gO cO gP:Nat}{E:Nat->List Nat}{S O:List Nat}(h7:Qr w u3 u7 n G gN cN gF gO cO gP O.reverse)(hp:Qa w u7 u n gP O O.length)(hv:Vs E [] [] [0] S O)(hOm:∀x∈O,x<n)(hG:w.heap.size<=G)(hG3:G<u3.heap.size)(hP3:gP<u3.heap.size)(hw3:w.heap.size<=u3.heap.size)(e1:Er u3 gN 0 n E)(e2:Er u3 gF 0 n (Bc E n))(ne:gN≠G/\gF≠G/\gP≠G/\gN≠gP/\gF≠gP)(n1:∀b a m c,b<n->u3.cell? ⟨gN,b,none⟩=some (.slice (some a) m c)->0<m->a.block≠G/\a.block≠gP)(n2:∀b a m c,b<n->u3.cell? ⟨gF,b,none⟩=some (.slice (some a) m c)->a.block≠G/\a.block≠gP):GM w u n G gN cN gF gO cO gP E S O:=by
 have hgO:=(At h7.ord).1
 have fx:∀k,k<u3.heap.size->k∉[G,gP]->u.heap[k]?=u3.heap[k]?:=fun k hk hne=>by
  simp only[aX,bB,cW,not_or]at hne;rw[hp.fx k (bx hk h7.size) hne.2];exact h7.fx k hk hne.1 hne.2
 have hcb:∀(g b:Nat),g∉[G,gP]->g<u3.heap.size->u.cell? ⟨g,b,none⟩=u3.cell? ⟨g,b,none⟩:=fun g b hne hlt=>by
  unfold World.cell?;rw[fx g hlt hne]
 have hgN:gN<u3.heap.size\/n=0:=by
  by_cases q:n=0
  . exact .inr q
  . obtain⟨a,c,h1,_⟩:=e1 0 (by omega)
    exact .inl (aF h1)
 have hgF:gF<u3.heap.size\/n=0:=by
  by_cases q:n=0
  . exact .inr q
  . obtain⟨a,c,h1,_⟩:=e2 0 (by omega)
    exact .inl (aF h1)
 have m1:gN∉[G,gP]:=by simp[ne]
 have m2:gF∉[G,gP]:=by simp[ne]
 have kb:An u G #[sG gN n cN,sG gF n n,sG gO O.length cO,sG gP n n,sN] 51:=by
  have h:=h7.blk;rw[bg]at h;unfold An at*;rw[hp.fx G h7.blk.lt (Ne.symm ne.2.2.1)];exact h
 refine⟨hG,kb,e1.fxs fx m1 (fun b a m c hb hc hm=>by have:=n1 b a m c hb hc hm;simp[this]),e2.fxs fx m2 (fun b a m c hb hc _=>by have:=n2 b a m c hb hc;simp[this]),hv,?_,fun x hx=> ?_,hp.bel,⟨ne.1,ne.2.1,by omega,ne.2.2.1⟩,fun b a m c hb hc hm=> ?_,fun b a m c hb hc=> ?_⟩
 . have h:=h7.ord
   have h2:EM u u3.heap.size (sG gO O.reverse.length cO) O.reverse:=h.fx hp.fx (fun g hg=>by simp only[Value.ownBlock,aJ]at hg;omega);rw[bg]at h2;exact AP h2 hw3
 . have:=hp.row.cellAt x (by have:=hOm x hx;omega)
   rw[Jv _ _ _ (hOm x hx),Lv O x hx]at this;exact this
 . rw[hcb gN b m1 (hgN.resolve_right (by omega))]at hc
   exact(n1 b a m c hb hc hm).1
 . rw[hcb gF b m2 (hgF.resolve_right (by omega))]at hc
   exact(n2 b a m c hb hc).1
end Go.Proofs.YtjpobijiblcgaaaGreat
