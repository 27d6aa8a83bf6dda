import Derived.Test.YtlejplpkomddeaaGreatRows
import Derived.WalkKit
import Derived.ProofKit
import Derived.Below
import Derived.OpenShut
import Derived.Outline
import Derived.WalkLawsBesides
import Derived.Laws.Tables
import Derived.Laws.Rows
import Derived.Deep.WholeRow
import Derived.Laws.OwnMore
import Derived.OwnWalk
import Derived.Deep.QuietTactic
import Derived.BigQuiet
import Derived.Great.BuildSlice
import Derived.Laws.CopyOwn
import Derived.Laws.EntriesVeiled
namespace Go.Proofs.YtlejplpkomddeaaGreat
open Go.ChangeShapes Go.WideShapes Go.ChangeAt Go.RowKit
set_option linter.unusedVariables false
set_option maxHeartbeats 400000
theorem lR{n:Nat}:n<=n:=Nat.le_refl n
theorem gA{α:Type}{l:List α}{i:Nat}:l.toArray[i]?=l[i]?:=List.getElem?_toArray
theorem gZ{α:Type}{l:List α}{a:α}:(a::l)[0]?=some a:=List.getElem?_cons_zero
theorem gS{α:Type}{l:List α}{a:α}{i:Nat}:(a::l)[i+1]?=l[i]?:=List.getElem?_cons_succ
theorem sA{α:Type}{l:List α}{i:Nat}{a:α}:l.toArray.setIfInBounds i a=(l.set i a).toArray:=List.setIfInBounds_toArray l i a
theorem AS{p:Prop}(h:p):Hid p:=h
theorem h2{p q:Prop}(a:p)(b:q):Hid (p/\q):=⟨a,b⟩
theorem h3{p q r:Prop}(a:p)(b:q)(c:r):Hid (p/\q/\r):=⟨a,b,c⟩
theorem h4{p q r s:Prop}(a:p)(b:q)(c:r)(d:s):Hid (p/\q/\r/\s):=⟨a,b,c,d⟩
theorem h5{p q r s t:Prop}(a:p)(b:q)(c:r)(d:s)(e:t):Hid (p/\q/\r/\s/\t):=⟨a,b,c,d,e⟩
theorem bL{w:World}{a:Addr}{v:Value}(h:w.cell? a=some v):a.block<w.heap.size:=block_lt_of_cell h
theorem mG{α:Type}{l:List α}{i:Nat}{a:α}(h:l[i]?=some a):a∈l:=List.mem_of_getElem? h
theorem gE{α:Type}{l:List α}{i:Nat}(h:i<l.length):l[i]?=some l[i]:=List.getElem?_eq_getElem h
theorem gI{α:Type}{l:List α}{i:Nat}{a:α}:l[i]?=some a↔∃h:i<l.length,l[i]=a:=List.getElem?_eq_some_iff
theorem sJ{a d:Option Addr}{b e c f:Nat}:(Value.slice a b c=.slice d e f)=(a=d/\b=e/\c=f):=Value.slice.injEq a b c d e f
def CE(t:Int):Bool:=decide (1<=t/\t<=3)
theorem K4{t:Int}(h:1<=t)(h':t<=3):CE t=true:=by unfold CE;simp;omega
theorem FG{t:Int}(h:t<1\/3<t):CE t=false:=by unfold CE;simp;omega
def word(b:Bool):Int:=if b then 1 else 0
theorem Ca(t:Int)(w:World):Calls Tryz.prog 190 #[.int .i64 t] w fun e w'=>e=.returned (.bool (CE t))/\w'=w:=by
 by_cases h1:1<=t
 ·by_cases h3:t<=3
  ·rw[K4 h1 h3]
   go_enter Tryz.func190,Tryz.ntmps190;go_wp2
   go_ret
   exact⟨rfl,rfl⟩
  ·rw[FG (by omega)]
   go_enter Tryz.func190,Tryz.ntmps190;go_wp2
   go_ret
   exact⟨rfl,rfl⟩
 ·rw[FG (by omega)]
  go_enter Tryz.func190,Tryz.ntmps190;go_wp2
  go_ret
  exact⟨rfl,rfl⟩
theorem BH(t:Int)(w:World):Calls Tryz.prog 122 #[.int .i64 t] w fun e w'=>e=.returned (.bool (CE t))/\w'=w:=by
 by_cases h1:1<=t
 ·by_cases h3:t<=3
  ·rw[K4 h1 h3]
   go_enter Tryz.func122,Tryz.ntmps122;go_wp2
   go_ret
   exact⟨rfl,rfl⟩
  ·rw[FG (by omega)]
   go_enter Tryz.func122,Tryz.ntmps122;go_wp2
   go_ret
   exact⟨rfl,rfl⟩
 ·rw[FG (by omega)]
  go_enter Tryz.func122,Tryz.ntmps122;go_wp2
  go_ret
  exact⟨rfl,rfl⟩
theorem CJ(b:Bool)(w:World):Calls Tryz.prog 179 #[.bool b] w fun e w'=>e=.returned (.int .u32 (word b))/\w'=w:=by
 cases b<;>
 ·go_enter Tryz.func179,Tryz.ntmps179
  go_wp2
  go_ret
  exact⟨rfl,rfl⟩
theorem Bj(b:Bool)(w:World):Calls Tryz.prog 176 #[.bool b] w fun e w'=>e=.returned (.int .u32 (word b))/\w'=w:=by
 cases b<;>
 ·go_enter Tryz.func176,Tryz.ntmps176
  go_wp2
  go_ret
  exact⟨rfl,rfl⟩
def D8(P:Program):List Oper->Act->Option Act
 |[],a=>some a
 | o::r,a=>
  match o.guard,o.op with
  |none,.build t parts=>
   match P.built t (parts.map fun(i,x)=>(i,a.eval x)).toList with
   |some cells=>D8 P r (a.put o.dst (.agg cells))
   |none=>none
  |_,_=>none
theorem EK{P:Program}{ops:Array Oper}{Q:Exit->Act->World->Prop}{w:World}{a':Act}(rest:List Oper)(h:wpList P ops Q rest a' w):
 ∀(l:List Oper) (a:Act),D8 P l a=some a'->wpList P ops Q (l++rest) a w
 |[],a,hb=>by
  simp only[D8,Option.some.injEq]at hb;subst hb;exact h
 | o::r,a,hb=>by
  unfold D8 at hb;split at hb
  ·next t parts hg ho=>
   split at hb
   ·next cells hc=>
    refine wpList_build hg t parts ho (by rw[hc];rfl) ?_;rw[hc];exact EK rest h r _ hb
   ·cases hb
  ·cases hb
theorem Jr{P:Program}{ops:Array Oper}{Q:Exit->Act->World->Prop}{w:World}{l:List Oper}{a:Act}(n:Nat)(ty t:TypeId)(x y:Operand)(g:Nat)(cells old:Array Value)(p:Tmp)
 (hb:(D8 P (l.take n) a).map (fun a'=>(a'.eval x,a'.eval y,a'.tmps.getD p undef,a'.defers))=some (.pointer (some ⟨g,0,none⟩),.agg cells,.pointer (some ⟨g,0,none⟩),[]))
 (hd:(l.drop n).map (fun o=>(o.guard,o.op,o.dst))=[(none,.store ty x y,none)])
 (hg:w.heap[g]?=some (.cells old t (0,0))) (hi:(P.info? ty).map (·.size)=some cells.size)
 (hold:old.size=cells.size) (h1:cells.all (·.oneCell')=true)
 (h:∀a',a'.tmps.getD p undef=.pointer (some ⟨g,0,none⟩)->a'.defers=[]->Q .normal a' (w.setRow g cells)):wpList P ops Q l a w:=by
 rw[<-List.take_append_drop n l];obtain⟨a',ha,he⟩:=Option.map_eq_some_iff.1 hb;simp only[Prod.mk.injEq]at he;refine EK (a':=a') _ ?_ _ _ ha;generalize l.drop n=l2 at hd;rcases l2 with _|⟨o,_|⟨o2,l3⟩⟩
 ·cases hd
 ·simp only[List.map_cons,List.map_nil,List.cons.injEq,Prod.mk.injEq,and_true]at hd
  refine wpList_store_row hd.1 ty x y hd.2.1 g cells he.1 he.2.1 t old hg hi hold h1 ?_;rw[hd.2.2];exact wpList_nil (h _ he.2.2.1 he.2.2.2)
 ·simp at hd
def Rd(w:World)(k:Nat)(s:Value)(n:Nat)(xs:List Value):Prop:=
 xs.length=n*k/\((n=0/\∃a c,s=.slice a 0 c)\/∃g o c,s=.slice (some ⟨g,o,none⟩) n c/\∀j u,xs[j]?=some u->w.cell? ⟨g,o+j,none⟩=some u)
theorem Rd.of_own{w:World}{base:Nat}{e:TypeId}{s:Value}{k n:Nat}{xs:List Value}(h:w.ownsRow base e k s n xs):Rd w k s n xs:=by
 refine⟨by simpa using h.1,?_⟩;rcases h.2 with⟨rfl,rfl⟩|⟨g,cap,cur,rfl,hb,hg,hnc,hcm,hcs,ht⟩
 ·exact .inl ⟨rfl,_,_,rfl⟩
 ·refine .inr ⟨g,0,cap,rfl,fun j u hj=> ?_⟩
  rw[cell_of_row w g _ cur e _ hg,Nat.zero_add];rw[<-ht]at hj;obtain⟨hlt,hj⟩:=gI.1 hj;rw[List.getElem_take]at hj;rw[<-hj];simp at hlt;rw[Array.getElem?_eq_getElem (by omega)];simp
theorem Rd.keep{w w':World}{s:Value}{k n:Nat}{xs:List Value}(h:Rd w k s n xs){B:Nat}(hb:Below B w w')(hB:w.heap.size<=B):Rd w' k s n xs:=by
 obtain⟨hl,h|⟨g,o,c,rfl,hc⟩⟩:=h
 ·exact⟨hl,.inl h⟩
 ·refine⟨hl,.inr ⟨g,o,c,rfl,fun j u hj=> ?_⟩⟩
  have h1:=hc j u hj;rw[hb.cell (Nat.lt_of_lt_of_le (bL h1) hB)];exact h1
theorem Rd.is_slice{w:World}{k:Nat}{s:Value}{n:Nat}{xs:List Value}(h:Rd w k s n xs):∃a c,s=.slice a n c:=by
 rcases h.2 with⟨rfl,a,c,rfl⟩|⟨g,o,c,rfl,_⟩<;>exact⟨_,_,rfl⟩
theorem Ag{w w':World}{base:Nat}{e:TypeId}{s:Value}{k n:Nat}{xs:List Value}(h:w.ownsRow base e k s n xs){B:Nat}(hb:Below B w w')(hB:w.heap.size<=B):w'.ownsRow base e k s n xs:=by
 refine⟨h.1,?_⟩;rcases h.2 with h|⟨g,cap,cur,e1,hb1,hg,hr⟩
 ·exact .inl h
 ·refine .inr ⟨g,cap,cur,e1,hb1,?_,hr⟩
  rw[hb.block g (Nat.lt_of_lt_of_le (Array.getElem?_eq_some_iff.1 hg).1 hB)];exact hg
theorem Az{α:Type}(f:α->List Value)(m:Nat)(hf:∀y,(f y).length=m)(ys:List α):(ys.flatMap f).length=ys.length*m:=by
 induction ys with
 |nil=>simp
 |cons y r ih=>rw[List.flatMap_cons,List.length_append,ih,hf,List.length_cons,Nat.add_mul];omega
theorem AF{α:Type}(f:α->List Value)(m:Nat)(hf:∀y,(f y).length=m)(ys:List α)(k j:Nat)(y:α)(hk:ys[k]?=some y)(hj:j<m):(ys.flatMap f)[k*m+j]?=(f y)[j]?:=by
 induction ys generalizing k with
 |nil=>cases hk
 | cons x r ih=>
  rw[List.flatMap_cons];cases k with
  |zero=>
   simp only[gZ,Option.some.injEq]at hk;subst hk;rw[Nat.zero_mul,Nat.zero_add,List.getElem?_append_left (by rw[hf];exact hj)]
  |succ k=>
   rw[gS]at hk;rw[List.getElem?_append_right (by rw[hf,Nat.add_mul];omega),hf,<-ih k hk];congr 1;rw[Nat.add_mul];omega
def CK{α:Type}(f:α->List Value)(z:List Value)(ys:List α)(k n:Nat):List Value:=(ys.take k).flatMap f++(List.replicate (n-k) z).flatten
theorem Dc{α:Type}(f:α->List Value)(z:List Value)(ys:List α)(n:Nat)(h:ys.length=n):CK f z ys n n=ys.flatMap f:=by simp[CK,<-h]
theorem Cv{α:Type}(f:α->List Value)(z:List Value)(ys:List α)(n:Nat)(v:Value)(m:Nat)(hv:v.cells=z.toArray)(hm:z.length=m)(h0:0<m):(madeCells v.cells (n*m)).toList=CK f z ys 0 n:=by
 subst hm;rw[hv];unfold CK;rw[List.take_zero,List.flatMap_nil,List.nil_append,Nat.sub_zero];apply List.ext_getElem?;intro i;have hl:(List.replicate n z).flatten=(List.replicate n z).flatMap id:=by simp[List.flatMap_id]
 by_cases hi:i<n*z.length
 ·have hq:i / z.length<n:=(Nat.div_lt_iff_lt_mul h0).2 hi
  have hr:=Nat.mod_lt i h0;have e:i=i / z.length*z.length+i % z.length:=by rw[Nat.mul_comm];exact(Nat.div_add_mod i z.length).symm
  have hx:(List.replicate n z).flatten[i]?=z[i % z.length]?:=by
   conv=>lhs;rw[e]
   clear e;generalize i / z.length=q at hq;generalize i % z.length=r at hr;clear hi hl;induction n generalizing q with
   |zero=>omega
   | succ n ih=>
    rw[List.replicate_succ,List.flatten_cons];cases q with
    |zero=>rw[Nat.zero_mul,Nat.zero_add,List.getElem?_append_left hr]
    |succ q=>
     rw[List.getElem?_append_right (by rw[Nat.add_mul];omega),<-ih q (by omega)];congr 1;rw[Nat.add_mul];omega
  rw[hx];have hi':i<(madeCells z.toArray (n*z.length)).toList.length:=by simp[madeCells];exact hi
  rw[gE hi',gE hr];simp[madeCells];rw[gE hr];rfl
 ·have h1:(madeCells z.toArray (n*z.length)).toList.length<=i:=by simp[madeCells];omega
  have h2:(List.replicate n z).flatten.length<=i:=by
   rw[List.length_flatten];simp;omega
  rw[List.getElem?_eq_none h1,List.getElem?_eq_none h2]
theorem Cw{α:Type}(f:α->List Value)(z:List Value)(ys:List α)(k n:Nat)(hk:k<n):CK f z ys k n=(ys.take k).flatMap f++(z++(List.replicate (n-(k+1)) z).flatten):=by
 unfold CK;have e:n-k=(n-(k+1))+1:=by omega
 rw[e,List.replicate_succ,List.flatten_cons]
theorem CN{α:Type}(f:α->List Value)(z:List Value)(ys:List α)(k n:Nat)(y:α)(hy:ys[k]?=some y):CK f z ys (k+1) n=(ys.take k).flatMap f++(f y++(List.replicate (n-(k+1)) z).flatten):=by
 unfold CK;obtain⟨hlt,rfl⟩:=gI.1 hy;rw[List.take_succ_eq_append_getElem hlt,List.flatMap_append,List.append_assoc];simp
theorem PA(A R:List Value)(z0 c0:Value)(i:Nat)(h:A.length=i):(A++([z0]++R)).set i c0=A++([c0]++R):=by
 subst h;simp
theorem Mu(A R:List Value)(z0 z1 c0 c1:Value)(i:Nat)(h:A.length=i):((A++([z0,z1]++R)).set i c0).set (i+1) c1=A++([c0,c1]++R):=by
 subst h;simp[List.set_append_right]
theorem Qa(A R:List Value)(z0 z1 z2 z3 c0 c1 c2 c3:Value)(i:Nat)(h:A.length=i):((((A++([z0,z1,z2,z3]++R)).set i c0).set (i+1) c1).set (i+2) c2).set (i+3) c3=A++([c0,c1,c2,c3]++R):=by
 subst h;simp[List.set_append_right]
theorem Rd.elem{α:Type}{f:α->List Value}{m:Nat}{w:World}{ys:List α}{g o:Nat}(hf:∀y,(f y).length=m)(h:∀j u,(ys.flatMap f)[j]?=some u->w.cell? ⟨g,o+j,none⟩=some u)(k:Nat)(y:α)(hy:ys[k]?=some y)(j:Nat)(u:Value)(hj:(f y)[j]?=some u):w.cell? ⟨g,o+k*m+j,none⟩=some u:=by
 have hjm:j<m:=by rw[<-hf y];exact(gI.1 hj).1
 rw[Nat.add_assoc];exact h _ u ((AF f m hf ys k j y hy hjm).trans hj)
def LJ(x y:Int):Int:=if y==0 then 0 else wrap32 (x.tdiv y)
def K5(x y:Int):Int:=if y==0 then 0 else IntKind.u32.wrap (x.tdiv y)
def KB(x y:Int):Int:=if y==0 then 0 else x.tmod y
theorem Jv(x y:Int)(w:World):Calls Tryz.prog 191 #[.int .i32 x,.int .i32 y] w fun e w'=>e=.returned (.int .i32 (LJ x y))/\w'=w:=by
 cases hy:(y==0)
 ·have hn:¬y=0:=by simpa using hy
  have hr:LJ x y=_:=if_neg (by rw[hy];simp);rw[hr];clear hr;go_enter Tryz.func191,Tryz.ntmps191;go_wp2;go_ret;exact⟨rfl,rfl⟩
 ·have hr:LJ x y=_:=if_pos hy
  rw[hr];clear hr;go_enter Tryz.func191,Tryz.ntmps191;go_wp2
  go_ret
  exact⟨rfl,rfl⟩
theorem JX(x y:Int)(w:World):Calls Tryz.prog 192 #[.int .u32 x,.int .u32 y] w fun e w'=>e=.returned (.int .u32 (K5 x y))/\w'=w:=by
 cases hy:(y==0)
 ·have hn:¬y=0:=by simpa using hy
  have hr:K5 x y=_:=if_neg (by rw[hy];simp);rw[hr];clear hr;go_enter Tryz.func192,Tryz.ntmps192;go_wp2;go_ret;exact⟨rfl,rfl⟩
 ·have hr:K5 x y=_:=if_pos hy
  rw[hr];clear hr;go_enter Tryz.func192,Tryz.ntmps192;go_wp2
  go_ret
  exact⟨rfl,rfl⟩
theorem IW(x y:Int)(w:World):Calls Tryz.prog 193 #[.int .i32 x,.int .i32 y] w fun e w'=>e=.returned (.int .i32 (KB x y))/\w'=w:=by
 cases hy:(y==0)
 ·have hn:¬y=0:=by simpa using hy
  have hr:KB x y=_:=if_neg (by rw[hy];simp);rw[hr];clear hr;go_enter Tryz.func193,Tryz.ntmps193;go_wp2;go_ret;exact⟨rfl,rfl⟩
 ·have hr:KB x y=_:=if_pos hy
  rw[hr];clear hr;go_enter Tryz.func193,Tryz.ntmps193;go_wp2
  go_ret
  exact⟨rfl,rfl⟩
theorem IZ(x y:Int)(w:World):Calls Tryz.prog 194 #[.int .u32 x,.int .u32 y] w fun e w'=>e=.returned (.int .u32 (KB x y))/\w'=w:=by
 cases hy:(y==0)
 ·have hn:¬y=0:=by simpa using hy
  have hr:KB x y=_:=if_neg (by rw[hy];simp);rw[hr];clear hr;go_enter Tryz.func194,Tryz.ntmps194;go_wp2;go_ret;exact⟨rfl,rfl⟩
 ·have hr:KB x y=_:=if_pos hy
  rw[hr];clear hr;go_enter Tryz.func194,Tryz.ntmps194;go_wp2
  go_ret
  exact⟨rfl,rfl⟩
def MA(t x y:Int):Int:=(x+y) % 4294967296
def MQ(t x y:Int):Int:=(x-y) % 4294967296
def MU(t x y:Int):Int:=x*y % 4294967296
def Gq(t x y:Int):Int:=if t==2 then IntKind.u32.wrap (LJ (wrap32 x) (wrap32 y))else K5 x y
def Gn(t x y:Int):Int:=if t==2 then IntKind.u32.wrap (KB (wrap32 x) (wrap32 y))else KB x y
def Nv(t x y:Int):Int:=bits .and .u32 x y
def Qo(t x y:Int):Int:=bits .or .u32 x y
def N4(t x y:Int):Int:=bits .xor .u32 x y
def IQ(t x y:Int):Int:=if t==1 then word (x==0)else bits .xor .u32 IntKind.u32.max x
def N3(t x y:Int):Int:=x*2 ^ (bits .and .u32 y 31).toNat % 4294967296
def Nw(t x y:Int):Int:=x / 2 ^ (bits .and .u32 y 31).toNat
def NE(t x y:Int):Int:=-x % 4294967296
def Qd(t x y:Int):Int:=word (x==y)
def FQ(t x y:Int):Int:=if t==2 then word (decide (wrap32 x<wrap32 y))else word (decide (x<y))
theorem Fg(y:Int):0<=bits .and .u32 y 31/\bits .and .u32 y 31<=31:=by
 have h1:(BitVec.ofInt 32 y &&& BitVec.ofInt 32 31).toNat<=31:=by
  rw[BitVec.toNat_and];have:(BitVec.ofInt 32 31).toNat=31:=by decide
  rw[this];exact Nat.and_le_right
 have h2:bits .and .u32 y 31=((BitVec.ofInt 32 y &&& BitVec.ofInt 32 31).toNat:Int) % 4294967296:=by
  rfl
 rw[h2];omega
theorem P7(t x y:Int)(w:World):Calls Tryz.prog 135 #[.int .i64 t,.int .u32 x,.int .u32 y] w fun e w'=>e=.returned (.int .u32 (MA t x y))/\w'=w:=by
 have h31:=Fg y;go_enter Tryz.func135,Tryz.ntmps135;go_wp2
 go_ret
 exact⟨rfl,rfl⟩
theorem Kh(t x y:Int)(w:World):Calls Tryz.prog 136 #[.int .i64 t,.int .u32 x,.int .u32 y] w fun e w'=>e=.returned (.int .u32 (MQ t x y))/\w'=w:=by
 have h31:=Fg y;go_enter Tryz.func136,Tryz.ntmps136;go_wp2
 go_ret
 exact⟨rfl,rfl⟩
theorem Kq(t x y:Int)(w:World):Calls Tryz.prog 137 #[.int .i64 t,.int .u32 x,.int .u32 y] w fun e w'=>e=.returned (.int .u32 (MU t x y))/\w'=w:=by
 have h31:=Fg y;go_enter Tryz.func137,Tryz.ntmps137;go_wp2
 go_ret
 exact⟨rfl,rfl⟩
theorem Nb(t x y:Int)(w:World):Calls Tryz.prog 140 #[.int .i64 t,.int .u32 x,.int .u32 y] w fun e w'=>e=.returned (.int .u32 (Nv t x y))/\w'=w:=by
 have h31:=Fg y;go_enter Tryz.func140,Tryz.ntmps140;go_wp2
 go_ret
 exact⟨rfl,rfl⟩
theorem N1(t x y:Int)(w:World):Calls Tryz.prog 141 #[.int .i64 t,.int .u32 x,.int .u32 y] w fun e w'=>e=.returned (.int .u32 (Qo t x y))/\w'=w:=by
 have h31:=Fg y;go_enter Tryz.func141,Tryz.ntmps141;go_wp2
 go_ret
 exact⟨rfl,rfl⟩
theorem MW(t x y:Int)(w:World):Calls Tryz.prog 142 #[.int .i64 t,.int .u32 x,.int .u32 y] w fun e w'=>e=.returned (.int .u32 (N4 t x y))/\w'=w:=by
 have h31:=Fg y;go_enter Tryz.func142,Tryz.ntmps142;go_wp2
 go_ret
 exact⟨rfl,rfl⟩
theorem JU(t x y:Int)(w:World):Calls Tryz.prog 144 #[.int .i64 t,.int .u32 x,.int .u32 y] w fun e w'=>e=.returned (.int .u32 (N3 t x y))/\w'=w:=by
 have h31:=Fg y;go_enter Tryz.func144,Tryz.ntmps144;go_wp2
 go_ret
 exact⟨rfl,rfl⟩
theorem IL(t x y:Int)(w:World):Calls Tryz.prog 145 #[.int .i64 t,.int .u32 x,.int .u32 y] w fun e w'=>e=.returned (.int .u32 (Nw t x y))/\w'=w:=by
 have h31:=Fg y;go_enter Tryz.func145,Tryz.ntmps145;go_wp2
 go_ret
 exact⟨rfl,rfl⟩
theorem Mx(t x y:Int)(w:World):Calls Tryz.prog 146 #[.int .i64 t,.int .u32 x,.int .u32 y] w fun e w'=>e=.returned (.int .u32 (NE t x y))/\w'=w:=by
 have h31:=Fg y;go_enter Tryz.func146,Tryz.ntmps146;go_wp2
 go_ret
 exact⟨rfl,rfl⟩
theorem NI(t x y:Int)(w:World):Calls Tryz.prog 147 #[.int .i64 t,.int .u32 x,.int .u32 y] w fun e w'=>e=.returned (.int .u32 (Qd t x y))/\w'=w:=by
 go_enter Tryz.func147,Tryz.ntmps147;go_wp2_with (go_at_call 179;refine(CJ _ _).mono ?_;rintro e w' ⟨rfl,rfl⟩);go_ret;exact⟨rfl,rfl⟩
theorem Pd(t x y:Int)(w:World):Calls Tryz.prog 148 #[.int .i64 t,.int .u32 x,.int .u32 y] w fun e w'=>e=.returned (.int .u32 (FQ t x y))/\w'=w:=by
 cases ht:(t==2)
 ·have hr:FQ t x y=_:=if_neg (by rw[ht];simp)
  rw[hr];clear hr;go_enter Tryz.func148,Tryz.ntmps148;go_wp2_with (go_at_call 179;refine(CJ _ _).mono ?_;rintro e w' ⟨rfl,rfl⟩);go_ret;exact⟨rfl,rfl⟩
 ·have hr:FQ t x y=_:=if_pos ht
  rw[hr];clear hr;go_enter Tryz.func148,Tryz.ntmps148;go_wp2_with (go_at_call 179;refine(CJ _ _).mono ?_;rintro e w' ⟨rfl,rfl⟩);go_ret;exact⟨rfl,rfl⟩
theorem P8(t x y:Int)(w:World):Calls Tryz.prog 143 #[.int .i64 t,.int .u32 x,.int .u32 y] w fun e w'=>e=.returned (.int .u32 (IQ t x y))/\w'=w:=by
 cases ht:(t==1)
 ·have hr:IQ t x y=_:=if_neg (by rw[ht];simp)
  rw[hr];clear hr;go_enter Tryz.func143,Tryz.ntmps143;go_wp2_with (go_at_call 179;refine(CJ _ _).mono ?_;rintro e w' ⟨rfl,rfl⟩);go_ret;exact⟨rfl,rfl⟩
 ·have hr:IQ t x y=_:=if_pos ht
  rw[hr];clear hr;go_enter Tryz.func143,Tryz.ntmps143;go_wp2_with (go_at_call 179;refine(CJ _ _).mono ?_;rintro e w' ⟨rfl,rfl⟩);go_ret;exact⟨rfl,rfl⟩
theorem ME(t x y:Int)(w:World):Calls Tryz.prog 138 #[.int .i64 t,.int .u32 x,.int .u32 y] w fun e w'=>e=.returned (.int .u32 (Gq t x y))/\w'=w:=by
 cases ht:(t==2)
 ·have hr:Gq t x y=_:=if_neg (by rw[ht];simp)
  rw[hr];clear hr;go_enter Tryz.func138,Tryz.ntmps138;go_wp2_with (go_at_call 192;refine(JX _ _ _).mono ?_;rintro e w' ⟨rfl,rfl⟩);go_ret;exact⟨rfl,rfl⟩
 ·have hr:Gq t x y=_:=if_pos ht
  rw[hr];clear hr;go_enter Tryz.func138,Tryz.ntmps138;go_wp2_with (go_at_call 191;refine(Jv _ _ _).mono ?_;rintro e w' ⟨rfl,rfl⟩);go_ret;exact⟨rfl,rfl⟩
theorem MO(t x y:Int)(w:World):Calls Tryz.prog 139 #[.int .i64 t,.int .u32 x,.int .u32 y] w fun e w'=>e=.returned (.int .u32 (Gn t x y))/\w'=w:=by
 cases ht:(t==2)
 ·have hr:Gn t x y=_:=if_neg (by rw[ht];simp)
  rw[hr];clear hr;go_enter Tryz.func139,Tryz.ntmps139;go_wp2_with (go_at_call 194;refine(IZ _ _ _).mono ?_;rintro e w' ⟨rfl,rfl⟩);go_ret;exact⟨rfl,rfl⟩
 ·have hr:Gn t x y=_:=if_pos ht
  rw[hr];clear hr;go_enter Tryz.func139,Tryz.ntmps139;go_wp2_with (go_at_call 193;refine(IW _ _ _).mono ?_;rintro e w' ⟨rfl,rfl⟩);go_ret;exact⟨rfl,rfl⟩
def Eo(f t v:Int):Int:=if CE f&&(CE t&& !(f==t))then(if t==1 then word (v != 0)else v)else 0
theorem Lo(f t v:Int)(w:World):Calls Tryz.prog 199 #[.int .i64 f,.int .i64 t,.int .u32 v] w fun e w'=>e=.returned (.int .u32 (Eo f t v))/\w'=w:=by
 cases hf:CE f
 ·have hc:Eo f t v=0:=by simp[Eo,hf]
  rw[hc];go_enter Tryz.func199,Tryz.ntmps199;go_wp2_with (go_at_call 190;refine(Ca _ _).mono ?_;rintro e w' ⟨rfl,rfl⟩);go_ret;exact⟨rfl,rfl⟩
 ·cases ht:CE t
  ·have hc:Eo f t v=0:=by simp[Eo,ht]
   rw[hc];go_enter Tryz.func199,Tryz.ntmps199;go_wp2_with (go_at_call 190;refine(Ca _ _).mono ?_;rintro e w' ⟨rfl,rfl⟩);go_ret;exact⟨rfl,rfl⟩
  ·cases he:(f==t)
   ·cases h1:(t==1)
    ·have hc:Eo f t v=v:=by simp only[Eo,hf,ht,he,h1];rfl
     rw[hc];go_enter Tryz.func199,Tryz.ntmps199;go_wp2_with (go_at_call 190;refine(Ca _ _).mono ?_;rintro e w' ⟨rfl,rfl⟩);go_ret;exact⟨rfl,rfl⟩
    ·have hc:Eo f t v=word (v != 0):=by simp only[Eo,hf,ht,he,h1];rfl
     rw[hc];go_enter Tryz.func199,Tryz.ntmps199;go_wp2_with (first|(go_at_call 190;refine(Ca _ _).mono ?_;rintro e w' ⟨rfl,rfl⟩)|(go_at_call 179;refine(CJ _ _).mono ?_;rintro e w' ⟨rfl,rfl⟩));go_ret;exact⟨rfl,rfl⟩
   ·have hc:Eo f t v=0:=by simp only[Eo,hf,ht,he];rfl
    rw[hc];go_enter Tryz.func199,Tryz.ntmps199;go_wp2_with (go_at_call 190;refine(Ca _ _).mono ?_;rintro e w' ⟨rfl,rfl⟩);go_ret;exact⟨rfl,rfl⟩
theorem Gz(f t v:Int)(w:World):Calls Tryz.prog 124 #[.int .i64 f,.int .i64 t,.int .u32 v] w fun e w'=>e=.returned (.int .u32 (Eo f t v))/\w'=w:=by
 cases hf:CE f
 ·have hc:Eo f t v=0:=by simp[Eo,hf]
  rw[hc];go_enter Tryz.func124,Tryz.ntmps124;go_wp2_with (go_at_call 122;refine(BH _ _).mono ?_;rintro e w' ⟨rfl,rfl⟩);go_ret;exact⟨rfl,rfl⟩
 ·cases ht:CE t
  ·have hc:Eo f t v=0:=by simp[Eo,ht]
   rw[hc];go_enter Tryz.func124,Tryz.ntmps124;go_wp2_with (go_at_call 122;refine(BH _ _).mono ?_;rintro e w' ⟨rfl,rfl⟩);go_ret;exact⟨rfl,rfl⟩
  ·cases he:(f==t)
   ·cases h1:(t==1)
    ·have hc:Eo f t v=v:=by simp only[Eo,hf,ht,he,h1];rfl
     rw[hc];go_enter Tryz.func124,Tryz.ntmps124;go_wp2_with (go_at_call 122;refine(BH _ _).mono ?_;rintro e w' ⟨rfl,rfl⟩);go_ret;exact⟨rfl,rfl⟩
    ·have hc:Eo f t v=word (v != 0):=by simp only[Eo,hf,ht,he,h1];rfl
     rw[hc];go_enter Tryz.func124,Tryz.ntmps124;go_wp2_with (first|(go_at_call 122;refine(BH _ _).mono ?_;rintro e w' ⟨rfl,rfl⟩)|(go_at_call 176;refine(Bj _ _).mono ?_;rintro e w' ⟨rfl,rfl⟩));go_ret;exact⟨rfl,rfl⟩
   ·have hc:Eo f t v=0:=by simp only[Eo,hf,ht,he];rfl
    rw[hc];go_enter Tryz.func124,Tryz.ntmps124;go_wp2_with (go_at_call 122;refine(BH _ _).mono ?_;rintro e w' ⟨rfl,rfl⟩);go_ret;exact⟨rfl,rfl⟩
theorem Gx{P:Program}{ops:Array Oper}{Q:Exit->Act->World->Prop}{w:World}{l:List Oper}{a:Act}(n:Nat)(t e:TypeId)(len:Nat)(parts:Array (Nat×Operand))(s p m:Nat)(cells:Array Value)(ie:TypeInfo)(z:Value)
 (hb:(D8 P (l.take n) a).map (fun a'=>(Instr.fill (fun i=>some (i*ie.size,ie.size)) ((Array.range (len*ie.size)).map (z.cells[· % z.cells.size]!)) (parts.map fun(i,x)=>(i,a'.eval x)).toList,a'.tmps.size,a'.defers))=some (some cells,m,[]))
 (hd:(l.drop n).map (fun o=>(o.guard,o.op,o.dst))=[(none,.buildSlice t len parts,some s),(none,.assign (.tmp s),some p)])
 (hs:s<m) (hp:p<m)
 (hu:P.underlying t=some (.slice e)) (hie:P.info? e=some ie) (hz:ie.zero=some z) (hsmall:¬len*ie.size>2 ^ 24) (hpos:¬len*ie.size=0)
 (h:∀a',a'.tmps.getD p undef=.slice (some ⟨w.heap.size,0,none⟩) len len->a'.defers=[]->Q .normal a' (w.alloc (.cells cells e))):wpList P ops Q l a w:=by
 rw[<-List.take_append_drop n l];obtain⟨a',ha,he⟩:=Option.map_eq_some_iff.1 hb;simp only[Prod.mk.injEq]at he;refine EK (a':=a') _ ?_ _ _ ha;generalize l.drop n=l2 at hd;rcases l2 with _|⟨o,_|⟨o2,_|⟨o3,l3⟩⟩⟩
 ·cases hd
 ·simp at hd
 ·simp only[List.map_cons,List.map_nil,List.cons.injEq,Prod.mk.injEq,and_true]at hd
  obtain⟨⟨g1,o1,d1⟩,g2,o2',d2⟩:=hd;refine wpList_buildSlice g1 t e len parts o1 cells ie z hu hie hz hsmall hpos he.1 ?_;rw[d1];refine wpList_plain g2 fun K hK=> ?_
  unfold Oper.wp execOp;simp only[o2',Sem.run_pure];refine hK _ _ (wpList_nil (h _ ?_ ?_))
  ·simp[Act.put,Act.eval,hp,hs,he.2.1,d2]
  ·simp[Act.put,he.2.2,d2]
 ·simp at hd
def Kw:Array Value:=#[.string ⟨#[]⟩,.int .i64 0,.int .i64 0,.nilFunc,
 .string ⟨#[]⟩,.int .i64 0,.int .i64 0,.nilFunc,
 .string ⟨#[]⟩,.int .i64 0,.int .i64 0,.nilFunc,
 .string ⟨#[]⟩,.int .i64 0,.int .i64 0,.nilFunc,
 .string ⟨#[]⟩,.int .i64 0,.int .i64 0,.nilFunc,
 .string ⟨#[]⟩,.int .i64 0,.int .i64 0,.nilFunc,
 .string ⟨#[]⟩,.int .i64 0,.int .i64 0,.nilFunc,
 .string ⟨#[]⟩,.int .i64 0,.int .i64 0,.nilFunc,
 .string ⟨#[]⟩,.int .i64 0,.int .i64 0,.nilFunc,
 .string ⟨#[]⟩,.int .i64 0,.int .i64 0,.nilFunc,
 .string ⟨#[]⟩,.int .i64 0,.int .i64 0,.nilFunc,
 .string ⟨#[]⟩,.int .i64 0,.int .i64 0,.nilFunc,
 .string ⟨#[]⟩,.int .i64 0,.int .i64 0,.nilFunc,
 .string ⟨#[]⟩,.int .i64 0,.int .i64 0,.nilFunc,
 .string ⟨#[]⟩,.int .i64 0,.int .i64 0,.nilFunc,
 .string ⟨#[]⟩,.int .i64 0,.int .i64 0,.nilFunc,
 .string ⟨#[]⟩,.int .i64 0,.int .i64 0,.nilFunc,
 .string ⟨#[]⟩,.int .i64 0,.int .i64 0,.nilFunc,
 .string ⟨#[]⟩,.int .i64 0,.int .i64 0,.nilFunc,
 .string ⟨#[]⟩,.int .i64 0,.int .i64 0,.nilFunc,
 .string ⟨#[]⟩,.int .i64 0,.int .i64 0,.nilFunc,
 .string ⟨#[]⟩,.int .i64 0,.int .i64 0,.nilFunc,
 .string ⟨#[]⟩,.int .i64 0,.int .i64 0,.nilFunc,
 .string ⟨#[]⟩,.int .i64 0,.int .i64 0,.nilFunc,
 .string ⟨#[]⟩,.int .i64 0,.int .i64 0,.nilFunc,
 .string ⟨#[]⟩,.int .i64 0,.int .i64 0,.nilFunc,
 .string ⟨#[]⟩,.int .i64 0,.int .i64 0,.nilFunc,
 .string ⟨#[]⟩,.int .i64 0,.int .i64 0,.nilFunc,
 .string ⟨#[]⟩,.int .i64 0,.int .i64 0,.nilFunc,
 .string ⟨#[]⟩,.int .i64 0,.int .i64 0,.nilFunc]
def BF:Array Value:=#[.string ⟨#[110,111,112]⟩,.int .i64 1,.int .i64 0,.nilFunc,
 .string ⟨#[99,111,110,115,116]⟩,.int .i64 1,.int .i64 1,.nilFunc,
 .string ⟨#[108,111,97,100,108,111,99,97,108]⟩,.int .i64 1,.int .i64 2,.nilFunc,
 .string ⟨#[115,116,111,114,101,108,111,99,97,108]⟩,.int .i64 1,.int .i64 2,.nilFunc,
 .string ⟨#[108,111,97,100]⟩,.int .i64 2,.int .i64 3,.nilFunc,
 .string ⟨#[115,116,111,114,101]⟩,.int .i64 2,.int .i64 3,.nilFunc,
 .string ⟨#[108,111,97,100,97,116]⟩,.int .i64 3,.int .i64 4,.nilFunc,
 .string ⟨#[115,116,111,114,101,97,116]⟩,.int .i64 3,.int .i64 4,.nilFunc,
 .string ⟨#[97,100,100]⟩,.int .i64 1,.int .i64 5,.func (.func 135) #[] #[],
 .string ⟨#[115,117,98]⟩,.int .i64 1,.int .i64 5,.func (.func 136) #[] #[],
 .string ⟨#[109,117,108]⟩,.int .i64 3,.int .i64 5,.func (.func 137) #[] #[],
 .string ⟨#[100,105,118]⟩,.int .i64 8,.int .i64 5,.func (.func 138) #[] #[],
 .string ⟨#[109,111,100]⟩,.int .i64 8,.int .i64 5,.func (.func 139) #[] #[],
 .string ⟨#[97,110,100]⟩,.int .i64 1,.int .i64 6,.func (.func 140) #[] #[],
 .string ⟨#[111,114]⟩,.int .i64 1,.int .i64 6,.func (.func 141) #[] #[],
 .string ⟨#[120,111,114]⟩,.int .i64 1,.int .i64 6,.func (.func 142) #[] #[],
 .string ⟨#[110,111,116]⟩,.int .i64 1,.int .i64 6,.func (.func 143) #[] #[],
 .string ⟨#[115,104,108]⟩,.int .i64 1,.int .i64 0,.func (.func 144) #[] #[],
 .string ⟨#[115,104,114]⟩,.int .i64 1,.int .i64 0,.func (.func 145) #[] #[],
 .string ⟨#[110,101,103]⟩,.int .i64 1,.int .i64 0,.func (.func 146) #[] #[],
 .string ⟨#[101,113]⟩,.int .i64 1,.int .i64 7,.func (.func 147) #[] #[],
 .string ⟨#[108,101,115,115]⟩,.int .i64 1,.int .i64 5,.func (.func 148) #[] #[],
 .string ⟨#[99,111,110,118]⟩,.int .i64 1,.int .i64 8,.nilFunc,
 .string ⟨#[100,117,112]⟩,.int .i64 1,.int .i64 0,.nilFunc,
 .string ⟨#[100,114,111,112]⟩,.int .i64 1,.int .i64 0,.nilFunc,
 .string ⟨#[106,117,109,112]⟩,.int .i64 2,.int .i64 9,.nilFunc,
 .string ⟨#[106,117,109,112,122,101,114,111]⟩,.int .i64 2,.int .i64 9,.nilFunc,
 .string ⟨#[103,117,97,114,100]⟩,.int .i64 2,.int .i64 10,.nilFunc,
 .string ⟨#[99,97,108,108]⟩,.int .i64 4,.int .i64 11,.nilFunc,
 .string ⟨#[114,101,116,117,114,110]⟩,.int .i64 2,.int .i64 0,.nilFunc]
set_option maxRecDepth 100000 in
theorem Nh(w:World):(zeroValue 89).run Tryz.prog w=.ok (.agg Kw) w:=by kernel_rfl
set_option maxRecDepth 100000 in
set_option maxHeartbeats 1000000 in
theorem Hl(w:World):Calls Tryz.prog 95 #[] w fun e w'=>e=.returned (.agg BF)/\Below w.heap.size w w':=by
 have hz:=Nh;go_enter Tryz.func95,Tryz.ntmps95;go_wp2_with (show wpList _ _ _ ({dst:=some 1,op:=Op.build _ _,type:=_,pos:=_,after:=_,guard:=_}::_) _ _;refine Jr 61 89 89 (.tmp 0) (.tmp 61) w.heap.size BF Kw 0 (by kernel_rfl) rfl (heap_alloc_new _ _) (by kernel_rfl) (by kernel_rfl) (by kernel_rfl) ?_;intro a' hp hd);rw[World.setRow_alloc_new];exact bodyPost_ret (v:=.agg BF) (results_cell_row Tryz.results95 _ _ w.heap.size 89 BF (0,0) _ hp (heap_alloc_new _ _) Tryz.underlying89 rfl (by kernel_rfl)) hd ⟨rfl,(Below.refl _ _).alloc (Nat.le_refl _) _⟩
def Cy(k:Nat):Array Value:=BF.extract (4*k) (4*k+4)
set_option maxRecDepth 100000 in
theorem LZ(k:Nat)(hk:k<30)(w:World):(Instr.index 89 (.agg BF) (.int .i64 (k:Int))).run Tryz.prog w=.ok (.agg (Cy k)) w:=by
 have h:k=0\/k=1\/k=2\/k=3\/k=4\/k=5\/k=6\/k=7\/k=8\/k=9\/k=10\/k=11\/k=12\/k=13\/k=14\/k=15\/k=16\/k=17\/k=18\/k=19\/k=20\/k=21\/k=22\/k=23\/k=24\/k=25\/k=26\/k=27\/k=28\/k=29:=by omega
 clear hk;rcases h with rfl|rfl|rfl|rfl|rfl|rfl|rfl|rfl|rfl|rfl|rfl|rfl|rfl|rfl|rfl|rfl|rfl|rfl|rfl|rfl|rfl|rfl|rfl|rfl|rfl|rfl|rfl|rfl|rfl|rfl<;>(show Sem.run _ _ _=Result.ok _ _;kernel_rfl)
theorem Ir(k:Nat)(hk:k<30):(Cy k).size=4:=by
 have h0:BF.size=120:=by kernel_rfl
 simp[Cy,h0];omega
set_option maxRecDepth 100000 in
theorem J9(k:Nat)(hk:k<30):(Cy k).all (·.oneCell')=true:=by
 have h0:BF.all (·.oneCell')=true:=by kernel_rfl
 rw[Array.all_eq_true_iff_forall_mem]at h0⊢;intro v hv;unfold Cy at hv;obtain⟨i,hi,rfl⟩:=Array.mem_iff_getElem.1 hv;rw[Array.getElem_extract];exact h0 _ (Array.getElem_mem _)
theorem Ls(w:World):(zeroValue 88).run Tryz.prog w=.ok (.agg #[.string ⟨#[]⟩,.int .i64 0,.int .i64 0,.nilFunc]) w:=by kernel_rfl
set_option maxRecDepth 100000 in
theorem Na(op:Int)(w:World)(h:op<0\/29<op):Calls Tryz.prog 209 #[.int .i64 op] w fun e w'=>e=.returned (.agg #[.string ⟨#[]⟩,.int .i64 0,.int .i64 0,.nilFunc])/\Below w.heap.size w w':=by
 have hz:=Ls;rcases h with h|h
 . go_enter Tryz.func209,Tryz.ntmps209
   go_wp2
   exact bodyPost_ret (v:=.agg #[.string ⟨#[]⟩,.int .i64 0,.int .i64 0,.nilFunc]) (by simp[results,Tryz.results209,go_sem]) rfl ⟨rfl,(Below.refl _ _).alloc (Nat.le_refl _) _⟩
 . have h0:decide (op<0)=false:=by simp;omega
   have h1:decide (29<op)=true:=by simp;omega
   go_enter Tryz.func209,Tryz.ntmps209;go_wp2
   exact bodyPost_ret (v:=.agg #[.string ⟨#[]⟩,.int .i64 0,.int .i64 0,.nilFunc]) (by simp[results,Tryz.results209,go_sem]) rfl ⟨rfl,(Below.refl _ _).alloc (Nat.le_refl _) _⟩
set_option maxRecDepth 100000 in
theorem NP(k:Nat)(hk:k<30)(w:World):Calls Tryz.prog 209 #[.int .i64 (k:Int)] w fun e w'=>e=.returned (.agg (Cy k))/\Below w.heap.size w w':=by
 have hz:=Ls;have h0:decide ((k:Int)<0)=false:=by simp
 have h1:decide (29<(k:Int))=false:=by simp;omega
 have hi:=LZ k hk;have hs:=Ir k hk;have hone:=J9 k hk;have HS:Hid ((Cy k).size=4/\(Cy k).all (·.oneCell')=true):=⟨hs,hone⟩
 clear hs hone;go_enter Tryz.func209,Tryz.ntmps209
 go_wp2_with (first
  |(go_at_call 95;refine(Hl _).mono ?_;rintro e w1 ⟨rfl,hb⟩;have hrow:w1.heap[w.heap.size]?=some (.cells #[.string ⟨#[]⟩,.int .i64 0,.int .i64 0,.nilFunc] 88):=(hb.block _ (by simp)).trans (heap_alloc_new _ _))
  |(show wpList _ _ _ ({dst:=none,op:=Op.store 88 _ _,type:=_,pos:=_,after:=_,guard:=_}::_) _ _;refine wpList_store_row rfl 88 (.tmp 2) (.tmp 12) rfl w.heap.size (Cy k) rfl rfl 88 #[.string ⟨#[]⟩,.int .i64 0,.int .i64 0,.nilFunc] hrow (by rw[HS.out.1];kernel_rfl) (by rw[HS.out.1];rfl) HS.out.2 ?_))
 refine bodyPost_ret (v:=.agg (Cy k)) (results_cell_row Tryz.results209 _ _ w.heap.size 88 (Cy k) (0,0) _ rfl (setRow_heap _ _ _ _ _ _ hrow) Tryz.underlying88 rfl (by rw[HS.out.1];kernel_rfl)) rfl ⟨rfl,?_⟩;exact below_setRow (((Below.refl _ _).alloc (Nat.le_refl _) _).trans (hb.mono (by simp))) (Nat.le_refl _) _
def Ec(P:Program):List Oper->Act->Option Act
 |[],a=>some a
 | o::r,a=>
  match o.guard,o.op with
  |none,.build t parts=>
   match P.built t (parts.map fun(i,x)=>(i,a.eval x)).toList with
   |some cells=>Ec P r (a.put o.dst (.agg cells))
   |none=>none
  |none,.move x=>Ec P r (a.put o.dst (a.eval x))
  |none,.makeFunc (.func f) first captured=>Ec P r (a.put o.dst (.func (.func f) (first.map a.eval) (captured.map a.eval)))
  |_,_=>none
theorem JL{P:Program}{ops:Array Oper}{rest:List Oper}{o:Oper}{a:Act}{w:World}{Q:Exit->Act->World->Prop}(hg:o.guard=none)(x:Operand)(ho:o.op=.move x)(h:wpList P ops Q rest (a.put o.dst (a.eval x)) w):wpList P ops Q (o::rest) a w:=
 wpList_plain hg fun K hK=>by
  unfold Oper.wp execOp;simp only[ho,Sem.run_pure];exact hK _ _ h
theorem GJ{P:Program}{ops:Array Oper}{rest:List Oper}{o:Oper}{a:Act}{w:World}{Q:Exit->Act->World->Prop}(hg:o.guard=none)(f:Nat)(first captured:Array Operand)(ho:o.op=.makeFunc (.func f) first captured)(h:wpList P ops Q rest (a.put o.dst (.func (.func f) (first.map a.eval) (captured.map a.eval))) w):wpList P ops Q (o::rest) a w:=
 wpList_plain hg fun K hK=>by
  unfold Oper.wp execOp;simp only[ho,Instr.makeFunc,Sem.run_bind,Sem.run_pure,Result.andThen_ok];exact hK _ _ h
theorem DF{P:Program}{ops:Array Oper}{Q:Exit->Act->World->Prop}{w:World}{a':Act}(rest:List Oper)(h:wpList P ops Q rest a' w):
 ∀(l:List Oper) (a:Act),Ec P l a=some a'->wpList P ops Q (l++rest) a w
 |[],a,hb=>by
  simp only[Ec,Option.some.injEq]at hb;subst hb;exact h
 | o::r,a,hb=>by
  unfold Ec at hb;split at hb
  ·next t parts hg ho=>
   split at hb
   ·next cells hc=>
    refine wpList_build hg t parts ho (by rw[hc];rfl) ?_;rw[hc];exact DF rest h r _ hb
   ·cases hb
  ·next x hg ho=>exact JL hg x ho (DF rest h r _ hb)
  ·next f first captured hg ho=>exact GJ hg f first captured ho (DF rest h r _ hb)
  ·cases hb
theorem IK{P:Program}{ops:Array Oper}{Q:Exit->Act->World->Prop}{w:World}{l:List Oper}{a:Act}(n:Nat)(ty t:TypeId)(x y:Operand)(g:Nat)(cells old:Array Value)(p:Tmp)
 (hb:(Ec P (l.take n) a).map (fun a'=>(a'.eval x,a'.eval y,a'.tmps.getD p undef,a'.defers))=some (.pointer (some ⟨g,0,none⟩),.agg cells,.pointer (some ⟨g,0,none⟩),[]))
 (hd:(l.drop n).map (fun o=>(o.guard,o.op,o.dst))=[(none,.store ty x y,none)])
 (hg:w.heap[g]?=some (.cells old t (0,0))) (hi:(P.info? ty).map (·.size)=some cells.size)
 (hold:old.size=cells.size) (h1:cells.all (·.oneCell')=true)
 (h:∀a',a'.tmps.getD p undef=.pointer (some ⟨g,0,none⟩)->a'.defers=[]->Q .normal a' (w.setRow g cells)):wpList P ops Q l a w:=by
 rw[<-List.take_append_drop n l];obtain⟨a',ha,he⟩:=Option.map_eq_some_iff.1 hb;simp only[Prod.mk.injEq]at he;refine DF (a':=a') _ ?_ _ _ ha;generalize l.drop n=l2 at hd;rcases l2 with _|⟨o,_|⟨o2,l3⟩⟩
 ·cases hd
 ·simp only[List.map_cons,List.map_nil,List.cons.injEq,Prod.mk.injEq,and_true]at hd
  refine wpList_store_row hd.1 ty x y hd.2.1 g cells he.1 he.2.1 t old hg hi hold h1 ?_;rw[hd.2.2];exact wpList_nil (h _ he.2.2.1 he.2.2.2)
 ·simp at hd
end Go.Proofs.YtlejplpkomddeaaGreat
