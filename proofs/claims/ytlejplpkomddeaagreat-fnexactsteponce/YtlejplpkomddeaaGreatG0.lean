import Derived.Test.YtlejplpkomddeaaGreatRows
import Derived.WalkKit
import Derived.ProofKit
import Derived.Below
import Derived.OpenShut
import Derived.Outline
import Derived.WalkLawsBesides
import Derived.Laws.Tables
import Derived.Laws.Rows
import Derived.Deep.WholeRow
import Derived.Laws.OwnMore
import Derived.OwnWalk
import Derived.Deep.QuietTactic
import Derived.BigQuiet
import Derived.Great.BuildSlice
import Derived.Laws.CopyOwn
import Derived.Laws.EntriesVeiled
namespace Go.Proofs.YtlejplpkomddeaaGreat
open Go.ChangeShapes Go.WideShapes Go.ChangeAt Go.RowKit
set_option linter.unusedVariables false
set_option maxHeartbeats 400000
theorem lR{n:Nat}:n<=n:=Nat.le_refl n
theorem gA{α:Type}{l:List α}{i:Nat}:l.toArray[i]?=l[i]?:=List.getElem?_toArray
theorem gZ{α:Type}{l:List α}{a:α}:(a::l)[0]?=some a:=List.getElem?_cons_zero
theorem gS{α:Type}{l:List α}{a:α}{i:Nat}:(a::l)[i+1]?=l[i]?:=List.getElem?_cons_succ
theorem sA{α:Type}{l:List α}{i:Nat}{a:α}:l.toArray.setIfInBounds i a=(l.set i a).toArray:=List.setIfInBounds_toArray l i a
theorem AM{p:Prop}(h:p):Hid p:=h
theorem h2{p q:Prop}(a:p)(b:q):Hid (p/\q):=⟨a,b⟩
theorem h3{p q r:Prop}(a:p)(b:q)(c:r):Hid (p/\q/\r):=⟨a,b,c⟩
theorem h4{p q r s:Prop}(a:p)(b:q)(c:r)(d:s):Hid (p/\q/\r/\s):=⟨a,b,c,d⟩
theorem h5{p q r s t:Prop}(a:p)(b:q)(c:r)(d:s)(e:t):Hid (p/\q/\r/\s/\t):=⟨a,b,c,d,e⟩
theorem bL{w:World}{a:Addr}{v:Value}(h:w.cell? a=some v):a.block<w.heap.size:=block_lt_of_cell h
theorem mG{α:Type}{l:List α}{i:Nat}{a:α}(h:l[i]?=some a):a∈l:=List.mem_of_getElem? h
theorem gE{α:Type}{l:List α}{i:Nat}(h:i<l.length):l[i]?=some l[i]:=List.getElem?_eq_getElem h
theorem gI{α:Type}{l:List α}{i:Nat}{a:α}:l[i]?=some a↔∃h:i<l.length,l[i]=a:=List.getElem?_eq_some_iff
theorem sJ{a d:Option Addr}{b e c f:Nat}:(Value.slice a b c=.slice d e f)=(a=d/\b=e/\c=f):=Value.slice.injEq a b c d e f
def C9(t:Int):Bool:=decide (1<=t/\t<=3)
theorem JR{t:Int}(h:1<=t)(h':t<=3):C9 t=true:=by unfold C9;simp;omega
theorem Fq{t:Int}(h:t<1\/3<t):C9 t=false:=by unfold C9;simp;omega
def word(b:Bool):Int:=if b then 1 else 0
theorem BO(t:Int)(w:World):Calls Tryz.prog 190 #[.int .i64 t] w fun e w'=>e=.returned (.bool (C9 t))/\w'=w:=by
 by_cases h1:1<=t
 ·by_cases h3:t<=3
  ·rw[JR h1 h3]
   go_enter Tryz.func190,Tryz.ntmps190;go_wp2
   go_ret
   exact⟨rfl,rfl⟩
  ·rw[Fq (by omega)]
   go_enter Tryz.func190,Tryz.ntmps190;go_wp2
   go_ret
   exact⟨rfl,rfl⟩
 ·rw[Fq (by omega)]
  go_enter Tryz.func190,Tryz.ntmps190;go_wp2
  go_ret
  exact⟨rfl,rfl⟩
theorem Bp(t:Int)(w:World):Calls Tryz.prog 122 #[.int .i64 t] w fun e w'=>e=.returned (.bool (C9 t))/\w'=w:=by
 by_cases h1:1<=t
 ·by_cases h3:t<=3
  ·rw[JR h1 h3]
   go_enter Tryz.func122,Tryz.ntmps122;go_wp2
   go_ret
   exact⟨rfl,rfl⟩
  ·rw[Fq (by omega)]
   go_enter Tryz.func122,Tryz.ntmps122;go_wp2
   go_ret
   exact⟨rfl,rfl⟩
 ·rw[Fq (by omega)]
  go_enter Tryz.func122,Tryz.ntmps122;go_wp2
  go_ret
  exact⟨rfl,rfl⟩
theorem Dh(b:Bool)(w:World):Calls Tryz.prog 179 #[.bool b] w fun e w'=>e=.returned (.int .u32 (word b))/\w'=w:=by
 cases b<;>
 ·go_enter Tryz.func179,Tryz.ntmps179
  go_wp2
  go_ret
  exact⟨rfl,rfl⟩
theorem Bn(b:Bool)(w:World):Calls Tryz.prog 176 #[.bool b] w fun e w'=>e=.returned (.int .u32 (word b))/\w'=w:=by
 cases b<;>
 ·go_enter Tryz.func176,Tryz.ntmps176
  go_wp2
  go_ret
  exact⟨rfl,rfl⟩
def DD(P:Program):List Oper->Act->Option Act
 |[],a=>some a
 | o::r,a=>
  match o.guard,o.op with
  |none,.build t parts=>
   match P.built t (parts.map fun(i,x)=>(i,a.eval x)).toList with
   |some cells=>DD P r (a.put o.dst (.agg cells))
   |none=>none
  |_,_=>none
theorem Eh{P:Program}{ops:Array Oper}{Q:Exit->Act->World->Prop}{w:World}{a':Act}(rest:List Oper)(h:wpList P ops Q rest a' w):
  ∀(l:List Oper) (a:Act),DD P l a=some a'->wpList P ops Q (l++rest) a w
 |[],a,hb=>by
  simp only[DD,Option.some.injEq]at hb;subst hb;exact h
 | o::r,a,hb=>by
  unfold DD at hb;split at hb
  ·next t parts hg ho=>
   split at hb
   ·next cells hc=>
    refine wpList_build hg t parts ho (by rw[hc];rfl) ?_;rw[hc];exact Eh rest h r _ hb
   ·cases hb
  ·cases hb
theorem Jj{P:Program}{ops:Array Oper}{Q:Exit->Act->World->Prop}{w:World}{l:List Oper}{a:Act}(n:Nat)(ty t:TypeId)(x y:Operand)(g:Nat)(cells old:Array Value)(p:Tmp)
  (hb:(DD P (l.take n) a).map (fun a'=>(a'.eval x,a'.eval y,a'.tmps.getD p undef,a'.defers))=some (.pointer (some ⟨g,0,none⟩),.agg cells,.pointer (some ⟨g,0,none⟩),[]))
  (hd:(l.drop n).map (fun o=>(o.guard,o.op,o.dst))=[(none,.store ty x y,none)])
  (hg:w.heap[g]?=some (.cells old t (0,0))) (hi:(P.info? ty).map (·.size)=some cells.size)
  (hold:old.size=cells.size) (h1:cells.all (·.oneCell')=true)
  (h:∀a',a'.tmps.getD p undef=.pointer (some ⟨g,0,none⟩)->a'.defers=[]->Q .normal a' (w.setRow g cells)):wpList P ops Q l a w:=by
 rw[<-List.take_append_drop n l];obtain⟨a',ha,he⟩:=Option.map_eq_some_iff.1 hb;simp only[Prod.mk.injEq]at he;refine Eh (a':=a') _ ?_ _ _ ha;generalize l.drop n=l2 at hd;rcases l2 with _|⟨o,_|⟨o2,l3⟩⟩
 ·cases hd
 ·simp only[List.map_cons,List.map_nil,List.cons.injEq,Prod.mk.injEq,and_true]at hd
  refine wpList_store_row hd.1 ty x y hd.2.1 g cells he.1 he.2.1 t old hg hi hold h1 ?_;rw[hd.2.2];exact wpList_nil (h _ he.2.2.1 he.2.2.2)
 ·simp at hd
def Rd(w:World)(k:Nat)(s:Value)(n:Nat)(xs:List Value):Prop:=
 xs.length=n*k/\((n=0/\∃a c,s=.slice a 0 c)\/∃g o c,s=.slice (some ⟨g,o,none⟩) n c/\∀j u,xs[j]?=some u->w.cell? ⟨g,o+j,none⟩=some u)
theorem Rd.of_own{w:World}{base:Nat}{e:TypeId}{s:Value}{k n:Nat}{xs:List Value}(h:w.ownsRow base e k s n xs):Rd w k s n xs:=by
 refine⟨by simpa using h.1,?_⟩;rcases h.2 with⟨rfl,rfl⟩|⟨g,cap,cur,rfl,hb,hg,hnc,hcm,hcs,ht⟩
 ·exact .inl ⟨rfl,_,_,rfl⟩
 ·refine .inr ⟨g,0,cap,rfl,fun j u hj=> ?_⟩
  rw[cell_of_row w g _ cur e _ hg,Nat.zero_add];rw[<-ht]at hj;obtain⟨hlt,hj⟩:=gI.1 hj;rw[List.getElem_take]at hj;rw[<-hj];simp at hlt;rw[Array.getElem?_eq_getElem (by omega)];simp
theorem Rd.keep{w w':World}{s:Value}{k n:Nat}{xs:List Value}(h:Rd w k s n xs){B:Nat}(hb:Below B w w')(hB:w.heap.size<=B):Rd w' k s n xs:=by
 obtain⟨hl,h|⟨g,o,c,rfl,hc⟩⟩:=h
 ·exact⟨hl,.inl h⟩
 ·refine⟨hl,.inr ⟨g,o,c,rfl,fun j u hj=> ?_⟩⟩
  have h1:=hc j u hj;rw[hb.cell (Nat.lt_of_lt_of_le (bL h1) hB)];exact h1
theorem Rd.is_slice{w:World}{k:Nat}{s:Value}{n:Nat}{xs:List Value}(h:Rd w k s n xs):∃a c,s=.slice a n c:=by
 rcases h.2 with⟨rfl,a,c,rfl⟩|⟨g,o,c,rfl,_⟩<;>exact⟨_,_,rfl⟩
theorem Ai{w w':World}{base:Nat}{e:TypeId}{s:Value}{k n:Nat}{xs:List Value}(h:w.ownsRow base e k s n xs){B:Nat}(hb:Below B w w')(hB:w.heap.size<=B):w'.ownsRow base e k s n xs:=by
 refine⟨h.1,?_⟩;rcases h.2 with h|⟨g,cap,cur,e1,hb1,hg,hr⟩
 ·exact .inl h
 ·refine .inr ⟨g,cap,cur,e1,hb1,?_,hr⟩
  rw[hb.block g (Nat.lt_of_lt_of_le (Array.getElem?_eq_some_iff.1 hg).1 hB)];exact hg
theorem Aw{α:Type}(f:α->List Value)(m:Nat)(hf:∀y,(f y).length=m)(ys:List α):(ys.flatMap f).length=ys.length*m:=by
 induction ys with
 |nil=>simp
 |cons y r ih=>rw[List.flatMap_cons,List.length_append,ih,hf,List.length_cons,Nat.add_mul];omega
theorem Az{α:Type}(f:α->List Value)(m:Nat)(hf:∀y,(f y).length=m)(ys:List α)(k j:Nat)(y:α)(hk:ys[k]?=some y)(hj:j<m):(ys.flatMap f)[k*m+j]?=(f y)[j]?:=by
 induction ys generalizing k with
 |nil=>cases hk
 | cons x r ih=>
  rw[List.flatMap_cons];cases k with
  |zero=>
   simp only[gZ,Option.some.injEq]at hk;subst hk;rw[Nat.zero_mul,Nat.zero_add,List.getElem?_append_left (by rw[hf];exact hj)]
  |succ k=>
   rw[gS]at hk;rw[List.getElem?_append_right (by rw[hf,Nat.add_mul];omega),hf,<-ih k hk];congr 1;rw[Nat.add_mul];omega
def CU{α:Type}(f:α->List Value)(z:List Value)(ys:List α)(k n:Nat):List Value:=(ys.take k).flatMap f++(List.replicate (n-k) z).flatten
theorem Dj{α:Type}(f:α->List Value)(z:List Value)(ys:List α)(n:Nat)(h:ys.length=n):CU f z ys n n=ys.flatMap f:=by simp[CU,<-h]
theorem Cz{α:Type}(f:α->List Value)(z:List Value)(ys:List α)(n:Nat)(v:Value)(m:Nat)(hv:v.cells=z.toArray)(hm:z.length=m)(h0:0<m):(madeCells v.cells (n*m)).toList=CU f z ys 0 n:=by
 subst hm;rw[hv];unfold CU;rw[List.take_zero,List.flatMap_nil,List.nil_append,Nat.sub_zero];apply List.ext_getElem?;intro i;have hl:(List.replicate n z).flatten=(List.replicate n z).flatMap id:=by simp[List.flatMap_id]
 by_cases hi:i<n*z.length
 ·have hq:i / z.length<n:=(Nat.div_lt_iff_lt_mul h0).2 hi
  have hr:=Nat.mod_lt i h0;have e:i=i / z.length*z.length+i % z.length:=by rw[Nat.mul_comm];exact(Nat.div_add_mod i z.length).symm
  have hx:(List.replicate n z).flatten[i]?=z[i % z.length]?:=by
   conv=>lhs;rw[e]
   clear e;generalize i / z.length=q at hq;generalize i % z.length=r at hr;clear hi hl;induction n generalizing q with
   |zero=>omega
   | succ n ih=>
    rw[List.replicate_succ,List.flatten_cons];cases q with
    |zero=>rw[Nat.zero_mul,Nat.zero_add,List.getElem?_append_left hr]
    |succ q=>
     rw[List.getElem?_append_right (by rw[Nat.add_mul];omega),<-ih q (by omega)];congr 1;rw[Nat.add_mul];omega
  rw[hx];have hi':i<(madeCells z.toArray (n*z.length)).toList.length:=by simp[madeCells];exact hi
  rw[gE hi',gE hr];simp[madeCells];rw[gE hr];rfl
 ·have h1:(madeCells z.toArray (n*z.length)).toList.length<=i:=by simp[madeCells];omega
  have h2:(List.replicate n z).flatten.length<=i:=by
   rw[List.length_flatten];simp;omega
  rw[List.getElem?_eq_none h1,List.getElem?_eq_none h2]
theorem CI{α:Type}(f:α->List Value)(z:List Value)(ys:List α)(k n:Nat)(hk:k<n):CU f z ys k n=(ys.take k).flatMap f++(z++(List.replicate (n-(k+1)) z).flatten):=by
 unfold CU;have e:n-k=(n-(k+1))+1:=by omega
 rw[e,List.replicate_succ,List.flatten_cons]
theorem CV{α:Type}(f:α->List Value)(z:List Value)(ys:List α)(k n:Nat)(y:α)(hy:ys[k]?=some y):CU f z ys (k+1) n=(ys.take k).flatMap f++(f y++(List.replicate (n-(k+1)) z).flatten):=by
 unfold CU;obtain⟨hlt,rfl⟩:=gI.1 hy;rw[List.take_succ_eq_append_getElem hlt,List.flatMap_append,List.append_assoc];simp
theorem Pz(A R:List Value)(z0 c0:Value)(i:Nat)(h:A.length=i):(A++([z0]++R)).set i c0=A++([c0]++R):=by
 subst h;simp
theorem Oe(A R:List Value)(z0 z1 c0 c1:Value)(i:Nat)(h:A.length=i):((A++([z0,z1]++R)).set i c0).set (i+1) c1=A++([c0,c1]++R):=by
 subst h;simp[List.set_append_right]
theorem N6(A R:List Value)(z0 z1 z2 z3 c0 c1 c2 c3:Value)(i:Nat)(h:A.length=i):((((A++([z0,z1,z2,z3]++R)).set i c0).set (i+1) c1).set (i+2) c2).set (i+3) c3=A++([c0,c1,c2,c3]++R):=by
 subst h;simp[List.set_append_right]
theorem Rd.elem{α:Type}{f:α->List Value}{m:Nat}{w:World}{ys:List α}{g o:Nat}(hf:∀y,(f y).length=m)(h:∀j u,(ys.flatMap f)[j]?=some u->w.cell? ⟨g,o+j,none⟩=some u)(k:Nat)(y:α)(hy:ys[k]?=some y)(j:Nat)(u:Value)(hj:(f y)[j]?=some u):w.cell? ⟨g,o+k*m+j,none⟩=some u:=by
 have hjm:j<m:=by rw[<-hf y];exact(gI.1 hj).1
 rw[Nat.add_assoc];exact h _ u ((Az f m hf ys k j y hy hjm).trans hj)
def LA(x y:Int):Int:=if y==0 then 0 else wrap32 (x.tdiv y)
def LN(x y:Int):Int:=if y==0 then 0 else IntKind.u32.wrap (x.tdiv y)
def Md(x y:Int):Int:=if y==0 then 0 else x.tmod y
theorem JA(x y:Int)(w:World):Calls Tryz.prog 191 #[.int .i32 x,.int .i32 y] w fun e w'=>e=.returned (.int .i32 (LA x y))/\w'=w:=by
 cases hy:(y==0)
 ·have hn:¬y=0:=by simpa using hy
  have hr:LA x y=_:=if_neg (by rw[hy];simp);rw[hr];clear hr;go_enter Tryz.func191,Tryz.ntmps191;go_wp2;go_ret;exact⟨rfl,rfl⟩
 ·have hr:LA x y=_:=if_pos hy
  rw[hr];clear hr;go_enter Tryz.func191,Tryz.ntmps191;go_wp2
  go_ret
  exact⟨rfl,rfl⟩
theorem Jw(x y:Int)(w:World):Calls Tryz.prog 192 #[.int .u32 x,.int .u32 y] w fun e w'=>e=.returned (.int .u32 (LN x y))/\w'=w:=by
 cases hy:(y==0)
 ·have hn:¬y=0:=by simpa using hy
  have hr:LN x y=_:=if_neg (by rw[hy];simp);rw[hr];clear hr;go_enter Tryz.func192,Tryz.ntmps192;go_wp2;go_ret;exact⟨rfl,rfl⟩
 ·have hr:LN x y=_:=if_pos hy
  rw[hr];clear hr;go_enter Tryz.func192,Tryz.ntmps192;go_wp2
  go_ret
  exact⟨rfl,rfl⟩
theorem Iv(x y:Int)(w:World):Calls Tryz.prog 193 #[.int .i32 x,.int .i32 y] w fun e w'=>e=.returned (.int .i32 (Md x y))/\w'=w:=by
 cases hy:(y==0)
 ·have hn:¬y=0:=by simpa using hy
  have hr:Md x y=_:=if_neg (by rw[hy];simp);rw[hr];clear hr;go_enter Tryz.func193,Tryz.ntmps193;go_wp2;go_ret;exact⟨rfl,rfl⟩
 ·have hr:Md x y=_:=if_pos hy
  rw[hr];clear hr;go_enter Tryz.func193,Tryz.ntmps193;go_wp2
  go_ret
  exact⟨rfl,rfl⟩
theorem Im(x y:Int)(w:World):Calls Tryz.prog 194 #[.int .u32 x,.int .u32 y] w fun e w'=>e=.returned (.int .u32 (Md x y))/\w'=w:=by
 cases hy:(y==0)
 ·have hn:¬y=0:=by simpa using hy
  have hr:Md x y=_:=if_neg (by rw[hy];simp);rw[hr];clear hr;go_enter Tryz.func194,Tryz.ntmps194;go_wp2;go_ret;exact⟨rfl,rfl⟩
 ·have hr:Md x y=_:=if_pos hy
  rw[hr];clear hr;go_enter Tryz.func194,Tryz.ntmps194;go_wp2
  go_ret
  exact⟨rfl,rfl⟩
def Nh(t x y:Int):Int:=(x+y) % 4294967296
def Nn(t x y:Int):Int:=(x-y) % 4294967296
def Nx(t x y:Int):Int:=x*y % 4294967296
def Gu(t x y:Int):Int:=if t==2 then IntKind.u32.wrap (LA (wrap32 x) (wrap32 y))else LN x y
def Gt(t x y:Int):Int:=if t==2 then IntKind.u32.wrap (Md (wrap32 x) (wrap32 y))else Md x y
def Ny(t x y:Int):Int:=bits .and .u32 x y
def PP(t x y:Int):Int:=bits .or .u32 x y
def NB(t x y:Int):Int:=bits .xor .u32 x y
def JN(t x y:Int):Int:=if t==1 then word (x==0)else bits .xor .u32 IntKind.u32.max x
def On(t x y:Int):Int:=x*2 ^ (bits .and .u32 y 31).toNat % 4294967296
def Ot(t x y:Int):Int:=x / 2 ^ (bits .and .u32 y 31).toNat
def N7(t x y:Int):Int:=-x % 4294967296
def PI(t x y:Int):Int:=word (x==y)
def Gj(t x y:Int):Int:=if t==2 then word (decide (wrap32 x<wrap32 y))else word (decide (x<y))
theorem EP(y:Int):0<=bits .and .u32 y 31/\bits .and .u32 y 31<=31:=by
 have h1:(BitVec.ofInt 32 y &&& BitVec.ofInt 32 31).toNat<=31:=by
  rw[BitVec.toNat_and];have:(BitVec.ofInt 32 31).toNat=31:=by decide
  rw[this];exact Nat.and_le_right
 have h2:bits .and .u32 y 31=((BitVec.ofInt 32 y &&& BitVec.ofInt 32 31).toNat:Int) % 4294967296:=by
  rfl
 rw[h2];omega
theorem OY(t x y:Int)(w:World):Calls Tryz.prog 135 #[.int .i64 t,.int .u32 x,.int .u32 y] w fun e w'=>e=.returned (.int .u32 (Nh t x y))/\w'=w:=by
 have h31:=EP y;go_enter Tryz.func135,Tryz.ntmps135;go_wp2
 go_ret
 exact⟨rfl,rfl⟩
theorem K6(t x y:Int)(w:World):Calls Tryz.prog 136 #[.int .i64 t,.int .u32 x,.int .u32 y] w fun e w'=>e=.returned (.int .u32 (Nn t x y))/\w'=w:=by
 have h31:=EP y;go_enter Tryz.func136,Tryz.ntmps136;go_wp2
 go_ret
 exact⟨rfl,rfl⟩
theorem JY(t x y:Int)(w:World):Calls Tryz.prog 137 #[.int .i64 t,.int .u32 x,.int .u32 y] w fun e w'=>e=.returned (.int .u32 (Nx t x y))/\w'=w:=by
 have h31:=EP y;go_enter Tryz.func137,Tryz.ntmps137;go_wp2
 go_ret
 exact⟨rfl,rfl⟩
theorem MO(t x y:Int)(w:World):Calls Tryz.prog 140 #[.int .i64 t,.int .u32 x,.int .u32 y] w fun e w'=>e=.returned (.int .u32 (Ny t x y))/\w'=w:=by
 have h31:=EP y;go_enter Tryz.func140,Tryz.ntmps140;go_wp2
 go_ret
 exact⟨rfl,rfl⟩
theorem NI(t x y:Int)(w:World):Calls Tryz.prog 141 #[.int .i64 t,.int .u32 x,.int .u32 y] w fun e w'=>e=.returned (.int .u32 (PP t x y))/\w'=w:=by
 have h31:=EP y;go_enter Tryz.func141,Tryz.ntmps141;go_wp2
 go_ret
 exact⟨rfl,rfl⟩
theorem ML(t x y:Int)(w:World):Calls Tryz.prog 142 #[.int .i64 t,.int .u32 x,.int .u32 y] w fun e w'=>e=.returned (.int .u32 (NB t x y))/\w'=w:=by
 have h31:=EP y;go_enter Tryz.func142,Tryz.ntmps142;go_wp2
 go_ret
 exact⟨rfl,rfl⟩
theorem JF(t x y:Int)(w:World):Calls Tryz.prog 144 #[.int .i64 t,.int .u32 x,.int .u32 y] w fun e w'=>e=.returned (.int .u32 (On t x y))/\w'=w:=by
 have h31:=EP y;go_enter Tryz.func144,Tryz.ntmps144;go_wp2
 go_ret
 exact⟨rfl,rfl⟩
theorem H6(t x y:Int)(w:World):Calls Tryz.prog 145 #[.int .i64 t,.int .u32 x,.int .u32 y] w fun e w'=>e=.returned (.int .u32 (Ot t x y))/\w'=w:=by
 have h31:=EP y;go_enter Tryz.func145,Tryz.ntmps145;go_wp2
 go_ret
 exact⟨rfl,rfl⟩
theorem M5(t x y:Int)(w:World):Calls Tryz.prog 146 #[.int .i64 t,.int .u32 x,.int .u32 y] w fun e w'=>e=.returned (.int .u32 (N7 t x y))/\w'=w:=by
 have h31:=EP y;go_enter Tryz.func146,Tryz.ntmps146;go_wp2
 go_ret
 exact⟨rfl,rfl⟩
theorem ND(t x y:Int)(w:World):Calls Tryz.prog 147 #[.int .i64 t,.int .u32 x,.int .u32 y] w fun e w'=>e=.returned (.int .u32 (PI t x y))/\w'=w:=by
 go_enter Tryz.func147,Tryz.ntmps147;go_wp2_with (go_at_call 179;refine(Dh _ _).mono ?_;rintro e w' ⟨rfl,rfl⟩);go_ret;exact⟨rfl,rfl⟩
theorem N5(t x y:Int)(w:World):Calls Tryz.prog 148 #[.int .i64 t,.int .u32 x,.int .u32 y] w fun e w'=>e=.returned (.int .u32 (Gj t x y))/\w'=w:=by
 cases ht:(t==2)
 ·have hr:Gj t x y=_:=if_neg (by rw[ht];simp)
  rw[hr];clear hr;go_enter Tryz.func148,Tryz.ntmps148;go_wp2_with (go_at_call 179;refine(Dh _ _).mono ?_;rintro e w' ⟨rfl,rfl⟩);go_ret;exact⟨rfl,rfl⟩
 ·have hr:Gj t x y=_:=if_pos ht
  rw[hr];clear hr;go_enter Tryz.func148,Tryz.ntmps148;go_wp2_with (go_at_call 179;refine(Dh _ _).mono ?_;rintro e w' ⟨rfl,rfl⟩);go_ret;exact⟨rfl,rfl⟩
theorem OU(t x y:Int)(w:World):Calls Tryz.prog 143 #[.int .i64 t,.int .u32 x,.int .u32 y] w fun e w'=>e=.returned (.int .u32 (JN t x y))/\w'=w:=by
 cases ht:(t==1)
 ·have hr:JN t x y=_:=if_neg (by rw[ht];simp)
  rw[hr];clear hr;go_enter Tryz.func143,Tryz.ntmps143;go_wp2_with (go_at_call 179;refine(Dh _ _).mono ?_;rintro e w' ⟨rfl,rfl⟩);go_ret;exact⟨rfl,rfl⟩
 ·have hr:JN t x y=_:=if_pos ht
  rw[hr];clear hr;go_enter Tryz.func143,Tryz.ntmps143;go_wp2_with (go_at_call 179;refine(Dh _ _).mono ?_;rintro e w' ⟨rfl,rfl⟩);go_ret;exact⟨rfl,rfl⟩
theorem MM(t x y:Int)(w:World):Calls Tryz.prog 138 #[.int .i64 t,.int .u32 x,.int .u32 y] w fun e w'=>e=.returned (.int .u32 (Gu t x y))/\w'=w:=by
 cases ht:(t==2)
 ·have hr:Gu t x y=_:=if_neg (by rw[ht];simp)
  rw[hr];clear hr;go_enter Tryz.func138,Tryz.ntmps138;go_wp2_with (go_at_call 192;refine(Jw _ _ _).mono ?_;rintro e w' ⟨rfl,rfl⟩);go_ret;exact⟨rfl,rfl⟩
 ·have hr:Gu t x y=_:=if_pos ht
  rw[hr];clear hr;go_enter Tryz.func138,Tryz.ntmps138;go_wp2_with (go_at_call 191;refine(JA _ _ _).mono ?_;rintro e w' ⟨rfl,rfl⟩);go_ret;exact⟨rfl,rfl⟩
theorem Mv(t x y:Int)(w:World):Calls Tryz.prog 139 #[.int .i64 t,.int .u32 x,.int .u32 y] w fun e w'=>e=.returned (.int .u32 (Gt t x y))/\w'=w:=by
 cases ht:(t==2)
 ·have hr:Gt t x y=_:=if_neg (by rw[ht];simp)
  rw[hr];clear hr;go_enter Tryz.func139,Tryz.ntmps139;go_wp2_with (go_at_call 194;refine(Im _ _ _).mono ?_;rintro e w' ⟨rfl,rfl⟩);go_ret;exact⟨rfl,rfl⟩
 ·have hr:Gt t x y=_:=if_pos ht
  rw[hr];clear hr;go_enter Tryz.func139,Tryz.ntmps139;go_wp2_with (go_at_call 193;refine(Iv _ _ _).mono ?_;rintro e w' ⟨rfl,rfl⟩);go_ret;exact⟨rfl,rfl⟩
def En(f t v:Int):Int:=if C9 f&&(C9 t&& !(f==t))then(if t==1 then word (v != 0)else v)else 0
theorem Lj(f t v:Int)(w:World):Calls Tryz.prog 199 #[.int .i64 f,.int .i64 t,.int .u32 v] w fun e w'=>e=.returned (.int .u32 (En f t v))/\w'=w:=by
 cases hf:C9 f
 ·have hc:En f t v=0:=by simp[En,hf]
  rw[hc];go_enter Tryz.func199,Tryz.ntmps199;go_wp2_with (go_at_call 190;refine(BO _ _).mono ?_;rintro e w' ⟨rfl,rfl⟩);go_ret;exact⟨rfl,rfl⟩
 ·cases ht:C9 t
  ·have hc:En f t v=0:=by simp[En,ht]
   rw[hc];go_enter Tryz.func199,Tryz.ntmps199;go_wp2_with (go_at_call 190;refine(BO _ _).mono ?_;rintro e w' ⟨rfl,rfl⟩);go_ret;exact⟨rfl,rfl⟩
  ·cases he:(f==t)
   ·cases h1:(t==1)
    ·have hc:En f t v=v:=by simp only[En,hf,ht,he,h1];rfl
     rw[hc];go_enter Tryz.func199,Tryz.ntmps199;go_wp2_with (go_at_call 190;refine(BO _ _).mono ?_;rintro e w' ⟨rfl,rfl⟩);go_ret;exact⟨rfl,rfl⟩
    ·have hc:En f t v=word (v != 0):=by simp only[En,hf,ht,he,h1];rfl
     rw[hc];go_enter Tryz.func199,Tryz.ntmps199;go_wp2_with (first|(go_at_call 190;refine(BO _ _).mono ?_;rintro e w' ⟨rfl,rfl⟩)|(go_at_call 179;refine(Dh _ _).mono ?_;rintro e w' ⟨rfl,rfl⟩));go_ret;exact⟨rfl,rfl⟩
   ·have hc:En f t v=0:=by simp only[En,hf,ht,he];rfl
    rw[hc];go_enter Tryz.func199,Tryz.ntmps199;go_wp2_with (go_at_call 190;refine(BO _ _).mono ?_;rintro e w' ⟨rfl,rfl⟩);go_ret;exact⟨rfl,rfl⟩
theorem FU(f t v:Int)(w:World):Calls Tryz.prog 124 #[.int .i64 f,.int .i64 t,.int .u32 v] w fun e w'=>e=.returned (.int .u32 (En f t v))/\w'=w:=by
 cases hf:C9 f
 ·have hc:En f t v=0:=by simp[En,hf]
  rw[hc];go_enter Tryz.func124,Tryz.ntmps124;go_wp2_with (go_at_call 122;refine(Bp _ _).mono ?_;rintro e w' ⟨rfl,rfl⟩);go_ret;exact⟨rfl,rfl⟩
 ·cases ht:C9 t
  ·have hc:En f t v=0:=by simp[En,ht]
   rw[hc];go_enter Tryz.func124,Tryz.ntmps124;go_wp2_with (go_at_call 122;refine(Bp _ _).mono ?_;rintro e w' ⟨rfl,rfl⟩);go_ret;exact⟨rfl,rfl⟩
  ·cases he:(f==t)
   ·cases h1:(t==1)
    ·have hc:En f t v=v:=by simp only[En,hf,ht,he,h1];rfl
     rw[hc];go_enter Tryz.func124,Tryz.ntmps124;go_wp2_with (go_at_call 122;refine(Bp _ _).mono ?_;rintro e w' ⟨rfl,rfl⟩);go_ret;exact⟨rfl,rfl⟩
    ·have hc:En f t v=word (v != 0):=by simp only[En,hf,ht,he,h1];rfl
     rw[hc];go_enter Tryz.func124,Tryz.ntmps124;go_wp2_with (first|(go_at_call 122;refine(Bp _ _).mono ?_;rintro e w' ⟨rfl,rfl⟩)|(go_at_call 176;refine(Bn _ _).mono ?_;rintro e w' ⟨rfl,rfl⟩));go_ret;exact⟨rfl,rfl⟩
   ·have hc:En f t v=0:=by simp only[En,hf,ht,he];rfl
    rw[hc];go_enter Tryz.func124,Tryz.ntmps124;go_wp2_with (go_at_call 122;refine(Bp _ _).mono ?_;rintro e w' ⟨rfl,rfl⟩);go_ret;exact⟨rfl,rfl⟩
theorem Ga{P:Program}{ops:Array Oper}{Q:Exit->Act->World->Prop}{w:World}{l:List Oper}{a:Act}(n:Nat)(t e:TypeId)(len:Nat)(parts:Array (Nat×Operand))(s p m:Nat)(cells:Array Value)(ie:TypeInfo)(z:Value)
  (hb:(DD P (l.take n) a).map (fun a'=>(Instr.fill (fun i=>some (i*ie.size,ie.size)) ((Array.range (len*ie.size)).map (z.cells[· % z.cells.size]!)) (parts.map fun(i,x)=>(i,a'.eval x)).toList,a'.tmps.size,a'.defers))=some (some cells,m,[]))
  (hd:(l.drop n).map (fun o=>(o.guard,o.op,o.dst))=[(none,.buildSlice t len parts,some s),(none,.assign (.tmp s),some p)])
  (hs:s<m) (hp:p<m)
  (hu:P.underlying t=some (.slice e)) (hie:P.info? e=some ie) (hz:ie.zero=some z) (hsmall:¬len*ie.size>2 ^ 24) (hpos:¬len*ie.size=0)
  (h:∀a',a'.tmps.getD p undef=.slice (some ⟨w.heap.size,0,none⟩) len len->a'.defers=[]->Q .normal a' (w.alloc (.cells cells e))):wpList P ops Q l a w:=by
 rw[<-List.take_append_drop n l];obtain⟨a',ha,he⟩:=Option.map_eq_some_iff.1 hb;simp only[Prod.mk.injEq]at he;refine Eh (a':=a') _ ?_ _ _ ha;generalize l.drop n=l2 at hd;rcases l2 with _|⟨o,_|⟨o2,_|⟨o3,l3⟩⟩⟩
 ·cases hd
 ·simp at hd
 ·simp only[List.map_cons,List.map_nil,List.cons.injEq,Prod.mk.injEq,and_true]at hd
  obtain⟨⟨g1,o1,d1⟩,g2,o2',d2⟩:=hd;refine wpList_buildSlice g1 t e len parts o1 cells ie z hu hie hz hsmall hpos he.1 ?_;rw[d1];refine wpList_plain g2 fun K hK=> ?_
  unfold Oper.wp execOp;simp only[o2',Sem.run_pure];refine hK _ _ (wpList_nil (h _ ?_ ?_))
  ·simp[Act.put,Act.eval,hp,hs,he.2.1,d2]
  ·simp[Act.put,he.2.2,d2]
 ·simp at hd
def KQ:Array Value:=#[.string ⟨#[]⟩,.int .i64 0,.int .i64 0,.nilFunc,
  .string ⟨#[]⟩,.int .i64 0,.int .i64 0,.nilFunc,
  .string ⟨#[]⟩,.int .i64 0,.int .i64 0,.nilFunc,
  .string ⟨#[]⟩,.int .i64 0,.int .i64 0,.nilFunc,
  .string ⟨#[]⟩,.int .i64 0,.int .i64 0,.nilFunc,
  .string ⟨#[]⟩,.int .i64 0,.int .i64 0,.nilFunc,
  .string ⟨#[]⟩,.int .i64 0,.int .i64 0,.nilFunc,
  .string ⟨#[]⟩,.int .i64 0,.int .i64 0,.nilFunc,
  .string ⟨#[]⟩,.int .i64 0,.int .i64 0,.nilFunc,
  .string ⟨#[]⟩,.int .i64 0,.int .i64 0,.nilFunc,
  .string ⟨#[]⟩,.int .i64 0,.int .i64 0,.nilFunc,
  .string ⟨#[]⟩,.int .i64 0,.int .i64 0,.nilFunc,
  .string ⟨#[]⟩,.int .i64 0,.int .i64 0,.nilFunc,
  .string ⟨#[]⟩,.int .i64 0,.int .i64 0,.nilFunc,
  .string ⟨#[]⟩,.int .i64 0,.int .i64 0,.nilFunc,
  .string ⟨#[]⟩,.int .i64 0,.int .i64 0,.nilFunc,
  .string ⟨#[]⟩,.int .i64 0,.int .i64 0,.nilFunc,
  .string ⟨#[]⟩,.int .i64 0,.int .i64 0,.nilFunc,
  .string ⟨#[]⟩,.int .i64 0,.int .i64 0,.nilFunc,
  .string ⟨#[]⟩,.int .i64 0,.int .i64 0,.nilFunc,
  .string ⟨#[]⟩,.int .i64 0,.int .i64 0,.nilFunc,
  .string ⟨#[]⟩,.int .i64 0,.int .i64 0,.nilFunc,
  .string ⟨#[]⟩,.int .i64 0,.int .i64 0,.nilFunc,
  .string ⟨#[]⟩,.int .i64 0,.int .i64 0,.nilFunc,
  .string ⟨#[]⟩,.int .i64 0,.int .i64 0,.nilFunc,
  .string ⟨#[]⟩,.int .i64 0,.int .i64 0,.nilFunc,
  .string ⟨#[]⟩,.int .i64 0,.int .i64 0,.nilFunc,
  .string ⟨#[]⟩,.int .i64 0,.int .i64 0,.nilFunc,
  .string ⟨#[]⟩,.int .i64 0,.int .i64 0,.nilFunc,
  .string ⟨#[]⟩,.int .i64 0,.int .i64 0,.nilFunc]
def BA:Array Value:=#[.string ⟨#[110,111,112]⟩,.int .i64 1,.int .i64 0,.nilFunc,
  .string ⟨#[99,111,110,115,116]⟩,.int .i64 1,.int .i64 1,.nilFunc,
  .string ⟨#[108,111,97,100,108,111,99,97,108]⟩,.int .i64 1,.int .i64 2,.nilFunc,
  .string ⟨#[115,116,111,114,101,108,111,99,97,108]⟩,.int .i64 1,.int .i64 2,.nilFunc,
  .string ⟨#[108,111,97,100]⟩,.int .i64 2,.int .i64 3,.nilFunc,
  .string ⟨#[115,116,111,114,101]⟩,.int .i64 2,.int .i64 3,.nilFunc,
  .string ⟨#[108,111,97,100,97,116]⟩,.int .i64 3,.int .i64 4,.nilFunc,
  .string ⟨#[115,116,111,114,101,97,116]⟩,.int .i64 3,.int .i64 4,.nilFunc,
  .string ⟨#[97,100,100]⟩,.int .i64 1,.int .i64 5,.func (.func 135) #[] #[],
  .string ⟨#[115,117,98]⟩,.int .i64 1,.int .i64 5,.func (.func 136) #[] #[],
  .string ⟨#[109,117,108]⟩,.int .i64 3,.int .i64 5,.func (.func 137) #[] #[],
  .string ⟨#[100,105,118]⟩,.int .i64 8,.int .i64 5,.func (.func 138) #[] #[],
  .string ⟨#[109,111,100]⟩,.int .i64 8,.int .i64 5,.func (.func 139) #[] #[],
  .string ⟨#[97,110,100]⟩,.int .i64 1,.int .i64 6,.func (.func 140) #[] #[],
  .string ⟨#[111,114]⟩,.int .i64 1,.int .i64 6,.func (.func 141) #[] #[],
  .string ⟨#[120,111,114]⟩,.int .i64 1,.int .i64 6,.func (.func 142) #[] #[],
  .string ⟨#[110,111,116]⟩,.int .i64 1,.int .i64 6,.func (.func 143) #[] #[],
  .string ⟨#[115,104,108]⟩,.int .i64 1,.int .i64 0,.func (.func 144) #[] #[],
  .string ⟨#[115,104,114]⟩,.int .i64 1,.int .i64 0,.func (.func 145) #[] #[],
  .string ⟨#[110,101,103]⟩,.int .i64 1,.int .i64 0,.func (.func 146) #[] #[],
  .string ⟨#[101,113]⟩,.int .i64 1,.int .i64 7,.func (.func 147) #[] #[],
  .string ⟨#[108,101,115,115]⟩,.int .i64 1,.int .i64 5,.func (.func 148) #[] #[],
  .string ⟨#[99,111,110,118]⟩,.int .i64 1,.int .i64 8,.nilFunc,
  .string ⟨#[100,117,112]⟩,.int .i64 1,.int .i64 0,.nilFunc,
  .string ⟨#[100,114,111,112]⟩,.int .i64 1,.int .i64 0,.nilFunc,
  .string ⟨#[106,117,109,112]⟩,.int .i64 2,.int .i64 9,.nilFunc,
  .string ⟨#[106,117,109,112,122,101,114,111]⟩,.int .i64 2,.int .i64 9,.nilFunc,
  .string ⟨#[103,117,97,114,100]⟩,.int .i64 2,.int .i64 10,.nilFunc,
  .string ⟨#[99,97,108,108]⟩,.int .i64 4,.int .i64 11,.nilFunc,
  .string ⟨#[114,101,116,117,114,110]⟩,.int .i64 2,.int .i64 0,.nilFunc]
set_option maxRecDepth 100000 in
theorem MN(w:World):(zeroValue 89).run Tryz.prog w=.ok (.agg KQ) w:=by kernel_rfl
set_option maxRecDepth 100000 in
set_option maxHeartbeats 1000000 in
theorem Hq(w:World):Calls Tryz.prog 95 #[] w fun e w'=>e=.returned (.agg BA)/\Below w.heap.size w w':=by
  have hz:=MN;go_enter Tryz.func95,Tryz.ntmps95;go_wp2_with (show wpList _ _ _ ({dst:=some 1,op:=Op.build _ _,type:=_,pos:=_,after:=_,guard:=_}::_) _ _;refine Jj 61 89 89 (.tmp 0) (.tmp 61) w.heap.size BA KQ 0 (by kernel_rfl) rfl (heap_alloc_new _ _) (by kernel_rfl) (by kernel_rfl) (by kernel_rfl) ?_;intro a' hp hd);rw[World.setRow_alloc_new];exact bodyPost_ret (v:=.agg BA) (results_cell_row Tryz.results95 _ _ w.heap.size 89 BA (0,0) _ hp (heap_alloc_new _ _) Tryz.underlying89 rfl (by kernel_rfl)) hd ⟨rfl,(Below.refl _ _).alloc (Nat.le_refl _) _⟩
def Cq(k:Nat):Array Value:=BA.extract (4*k) (4*k+4)
set_option maxRecDepth 100000 in
theorem LU(k:Nat)(hk:k<30)(w:World):(Instr.index 89 (.agg BA) (.int .i64 (k:Int))).run Tryz.prog w=.ok (.agg (Cq k)) w:=by
  have h:k=0\/k=1\/k=2\/k=3\/k=4\/k=5\/k=6\/k=7\/k=8\/k=9\/k=10\/k=11\/k=12\/k=13\/k=14\/k=15\/k=16\/k=17\/k=18\/k=19\/k=20\/k=21\/k=22\/k=23\/k=24\/k=25\/k=26\/k=27\/k=28\/k=29:=by omega
  clear hk;rcases h with rfl|rfl|rfl|rfl|rfl|rfl|rfl|rfl|rfl|rfl|rfl|rfl|rfl|rfl|rfl|rfl|rfl|rfl|rfl|rfl|rfl|rfl|rfl|rfl|rfl|rfl|rfl|rfl|rfl|rfl<;>(show Sem.run _ _ _=Result.ok _ _;kernel_rfl)
theorem Ij(k:Nat)(hk:k<30):(Cq k).size=4:=by
  have h0:BA.size=120:=by kernel_rfl
  simp[Cq,h0];omega
set_option maxRecDepth 100000 in
theorem JG(k:Nat)(hk:k<30):(Cq k).all (·.oneCell')=true:=by
  have h0:BA.all (·.oneCell')=true:=by kernel_rfl
  rw[Array.all_eq_true_iff_forall_mem]at h0⊢;intro v hv;unfold Cq at hv;obtain⟨i,hi,rfl⟩:=Array.mem_iff_getElem.1 hv;rw[Array.getElem_extract];exact h0 _ (Array.getElem_mem _)
theorem JT(w:World):(zeroValue 88).run Tryz.prog w=.ok (.agg #[.string ⟨#[]⟩,.int .i64 0,.int .i64 0,.nilFunc]) w:=by kernel_rfl
set_option maxRecDepth 100000 in
theorem MU(op:Int)(w:World)(h:op<0\/29<op):Calls Tryz.prog 209 #[.int .i64 op] w fun e w'=>e=.returned (.agg #[.string ⟨#[]⟩,.int .i64 0,.int .i64 0,.nilFunc])/\Below w.heap.size w w':=by
  have hz:=JT;rcases h with h|h
  . go_enter Tryz.func209,Tryz.ntmps209
    go_wp2
    exact bodyPost_ret (v:=.agg #[.string ⟨#[]⟩,.int .i64 0,.int .i64 0,.nilFunc]) (by simp[results,Tryz.results209,go_sem]) rfl ⟨rfl,(Below.refl _ _).alloc (Nat.le_refl _) _⟩
  . have h0:decide (op<0)=false:=by simp;omega
    have h1:decide (29<op)=true:=by simp;omega
    go_enter Tryz.func209,Tryz.ntmps209;go_wp2
    exact bodyPost_ret (v:=.agg #[.string ⟨#[]⟩,.int .i64 0,.int .i64 0,.nilFunc]) (by simp[results,Tryz.results209,go_sem]) rfl ⟨rfl,(Below.refl _ _).alloc (Nat.le_refl _) _⟩
set_option maxRecDepth 100000 in
theorem Nr(k:Nat)(hk:k<30)(w:World):Calls Tryz.prog 209 #[.int .i64 (k:Int)] w fun e w'=>e=.returned (.agg (Cq k))/\Below w.heap.size w w':=by
  have hz:=JT;have h0:decide ((k:Int)<0)=false:=by simp
  have h1:decide (29<(k:Int))=false:=by simp;omega
  have hi:=LU k hk;have hs:=Ij k hk;have hone:=JG k hk;have HS:Hid ((Cq k).size=4/\(Cq k).all (·.oneCell')=true):=⟨hs,hone⟩
  clear hs hone;go_enter Tryz.func209,Tryz.ntmps209
  go_wp2_with (first
    |(go_at_call 95;refine(Hq _).mono ?_;rintro e w1 ⟨rfl,hb⟩;have hrow:w1.heap[w.heap.size]?=some (.cells #[.string ⟨#[]⟩,.int .i64 0,.int .i64 0,.nilFunc] 88):=(hb.block _ (by simp)).trans (heap_alloc_new _ _))
    |(show wpList _ _ _ ({dst:=none,op:=Op.store 88 _ _,type:=_,pos:=_,after:=_,guard:=_}::_) _ _;refine wpList_store_row rfl 88 (.tmp 2) (.tmp 12) rfl w.heap.size (Cq k) rfl rfl 88 #[.string ⟨#[]⟩,.int .i64 0,.int .i64 0,.nilFunc] hrow (by rw[HS.out.1];kernel_rfl) (by rw[HS.out.1];rfl) HS.out.2 ?_))
  refine bodyPost_ret (v:=.agg (Cq k)) (results_cell_row Tryz.results209 _ _ w.heap.size 88 (Cq k) (0,0) _ rfl (setRow_heap _ _ _ _ _ _ hrow) Tryz.underlying88 rfl (by rw[HS.out.1];kernel_rfl)) rfl ⟨rfl,?_⟩;exact below_setRow (((Below.refl _ _).alloc (Nat.le_refl _) _).trans (hb.mono (by simp))) (Nat.le_refl _) _
end Go.Proofs.YtlejplpkomddeaaGreat
