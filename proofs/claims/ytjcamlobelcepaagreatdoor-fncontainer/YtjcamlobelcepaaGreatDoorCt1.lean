import Derived.Test.YtjcamlobelcepaaGreatDoorCt0
import Derived.Laws.CopyOwn
import Derived.Laws.EntriesVeiled
import Derived.Great.BuildSlice
import Derived.Deep.MidRow
import Derived.OneCell
namespace Go.Proofs.YtjcamlobelcepaaGreatDoor
open Go.ChangeShapes Go.WideShapes Go.ChangeAt Go.RowKit
set_option linter.unusedVariables false
set_option maxHeartbeats 2000000
set_option maxRecDepth 100000
def Nz:Array Value:=#[.string ⟨#[]⟩,.int .i64 0,.int .i64 0,.nilFunc,
 .string ⟨#[]⟩,.int .i64 0,.int .i64 0,.nilFunc,
 .string ⟨#[]⟩,.int .i64 0,.int .i64 0,.nilFunc,
 .string ⟨#[]⟩,.int .i64 0,.int .i64 0,.nilFunc,
 .string ⟨#[]⟩,.int .i64 0,.int .i64 0,.nilFunc,
 .string ⟨#[]⟩,.int .i64 0,.int .i64 0,.nilFunc,
 .string ⟨#[]⟩,.int .i64 0,.int .i64 0,.nilFunc,
 .string ⟨#[]⟩,.int .i64 0,.int .i64 0,.nilFunc,
 .string ⟨#[]⟩,.int .i64 0,.int .i64 0,.nilFunc,
 .string ⟨#[]⟩,.int .i64 0,.int .i64 0,.nilFunc,
 .string ⟨#[]⟩,.int .i64 0,.int .i64 0,.nilFunc,
 .string ⟨#[]⟩,.int .i64 0,.int .i64 0,.nilFunc,
 .string ⟨#[]⟩,.int .i64 0,.int .i64 0,.nilFunc,
 .string ⟨#[]⟩,.int .i64 0,.int .i64 0,.nilFunc,
 .string ⟨#[]⟩,.int .i64 0,.int .i64 0,.nilFunc,
 .string ⟨#[]⟩,.int .i64 0,.int .i64 0,.nilFunc,
 .string ⟨#[]⟩,.int .i64 0,.int .i64 0,.nilFunc,
 .string ⟨#[]⟩,.int .i64 0,.int .i64 0,.nilFunc,
 .string ⟨#[]⟩,.int .i64 0,.int .i64 0,.nilFunc,
 .string ⟨#[]⟩,.int .i64 0,.int .i64 0,.nilFunc,
 .string ⟨#[]⟩,.int .i64 0,.int .i64 0,.nilFunc,
 .string ⟨#[]⟩,.int .i64 0,.int .i64 0,.nilFunc,
 .string ⟨#[]⟩,.int .i64 0,.int .i64 0,.nilFunc,
 .string ⟨#[]⟩,.int .i64 0,.int .i64 0,.nilFunc,
 .string ⟨#[]⟩,.int .i64 0,.int .i64 0,.nilFunc,
 .string ⟨#[]⟩,.int .i64 0,.int .i64 0,.nilFunc,
 .string ⟨#[]⟩,.int .i64 0,.int .i64 0,.nilFunc,
 .string ⟨#[]⟩,.int .i64 0,.int .i64 0,.nilFunc,
 .string ⟨#[]⟩,.int .i64 0,.int .i64 0,.nilFunc,
 .string ⟨#[]⟩,.int .i64 0,.int .i64 0,.nilFunc]
def EM:Array Value:=#[.string ⟨#[110,111,112]⟩,.int .i64 1,.int .i64 0,.nilFunc,
 .string ⟨#[99,111,110,115,116]⟩,.int .i64 1,.int .i64 1,.nilFunc,
 .string ⟨#[108,111,97,100,108,111,99,97,108]⟩,.int .i64 1,.int .i64 2,.nilFunc,
 .string ⟨#[115,116,111,114,101,108,111,99,97,108]⟩,.int .i64 1,.int .i64 2,.nilFunc,
 .string ⟨#[108,111,97,100]⟩,.int .i64 2,.int .i64 3,.nilFunc,
 .string ⟨#[115,116,111,114,101]⟩,.int .i64 2,.int .i64 3,.nilFunc,
 .string ⟨#[108,111,97,100,97,116]⟩,.int .i64 3,.int .i64 4,.nilFunc,
 .string ⟨#[115,116,111,114,101,97,116]⟩,.int .i64 3,.int .i64 4,.nilFunc,
 .string ⟨#[97,100,100]⟩,.int .i64 1,.int .i64 5,.func (.func 148) #[] #[],
 .string ⟨#[115,117,98]⟩,.int .i64 1,.int .i64 5,.func (.func 149) #[] #[],
 .string ⟨#[109,117,108]⟩,.int .i64 3,.int .i64 5,.func (.func 150) #[] #[],
 .string ⟨#[100,105,118]⟩,.int .i64 8,.int .i64 5,.func (.func 151) #[] #[],
 .string ⟨#[109,111,100]⟩,.int .i64 8,.int .i64 5,.func (.func 152) #[] #[],
 .string ⟨#[97,110,100]⟩,.int .i64 1,.int .i64 6,.func (.func 153) #[] #[],
 .string ⟨#[111,114]⟩,.int .i64 1,.int .i64 6,.func (.func 154) #[] #[],
 .string ⟨#[120,111,114]⟩,.int .i64 1,.int .i64 6,.func (.func 155) #[] #[],
 .string ⟨#[110,111,116]⟩,.int .i64 1,.int .i64 6,.func (.func 156) #[] #[],
 .string ⟨#[115,104,108]⟩,.int .i64 1,.int .i64 0,.func (.func 157) #[] #[],
 .string ⟨#[115,104,114]⟩,.int .i64 1,.int .i64 0,.func (.func 158) #[] #[],
 .string ⟨#[110,101,103]⟩,.int .i64 1,.int .i64 0,.func (.func 159) #[] #[],
 .string ⟨#[101,113]⟩,.int .i64 1,.int .i64 7,.func (.func 160) #[] #[],
 .string ⟨#[108,101,115,115]⟩,.int .i64 1,.int .i64 5,.func (.func 161) #[] #[],
 .string ⟨#[99,111,110,118]⟩,.int .i64 1,.int .i64 8,.nilFunc,
 .string ⟨#[100,117,112]⟩,.int .i64 1,.int .i64 0,.nilFunc,
 .string ⟨#[100,114,111,112]⟩,.int .i64 1,.int .i64 0,.nilFunc,
 .string ⟨#[106,117,109,112]⟩,.int .i64 2,.int .i64 9,.nilFunc,
 .string ⟨#[106,117,109,112,122,101,114,111]⟩,.int .i64 2,.int .i64 9,.nilFunc,
 .string ⟨#[103,117,97,114,100]⟩,.int .i64 2,.int .i64 10,.nilFunc,
 .string ⟨#[99,97,108,108]⟩,.int .i64 4,.int .i64 11,.nilFunc,
 .string ⟨#[114,101,116,117,114,110]⟩,.int .i64 2,.int .i64 0,.nilFunc]
theorem Qa(w:World):(zeroValue 239).run Tryz.prog w=.ok (.agg Nz) w:=by kernel_rfl
theorem On(w:World):Calls Tryz.prog 147 #[] w fun e w'=>e=.returned (.agg EM)/\Below w.heap.size w w':=by
 have hz:=Qa;go_enter Tryz.func147,Tryz.ntmps147;go_wp2_with (show wpList _ _ _ ({dst:=some 1,op:=Op.build _ _,type:=_,pos:=_,after:=_,guard:=_}::_) _ _;refine Ma 61 239 239 (.tmp 0) (.tmp 61) w.heap.size EM Nz 0 (by kernel_rfl) rfl (dB _ _) (by kernel_rfl) (by kernel_rfl) (by kernel_rfl) ?_;intro a' hp hd);rw[World.setRow_alloc_new];exact aW (v:=.agg EM) (results_cell_row Tryz.results147 _ _ w.heap.size 239 EM (0,0) _ hp (dB _ _) Tryz.underlying239 rfl (by kernel_rfl)) hd ⟨rfl,(aq _ _).alloc lR _⟩
def Cy(k:Nat):Array Value:=EM.extract (4*k) (4*k+4)
theorem NZ(k:Nat)(hk:k<30)(w:World):(Instr.index 239 (.agg EM) (.int .i64 (k:Int))).run Tryz.prog w=.ok (.agg (Cy k)) w:=by
 have h:k=0\/k=1\/k=2\/k=3\/k=4\/k=5\/k=6\/k=7\/k=8\/k=9\/k=10\/k=11\/k=12\/k=13\/k=14\/k=15\/k=16\/k=17\/k=18\/k=19\/k=20\/k=21\/k=22\/k=23\/k=24\/k=25\/k=26\/k=27\/k=28\/k=29:=by omega
 clear hk;rcases h with rfl|rfl|rfl|rfl|rfl|rfl|rfl|rfl|rfl|rfl|rfl|rfl|rfl|rfl|rfl|rfl|rfl|rfl|rfl|rfl|rfl|rfl|rfl|rfl|rfl|rfl|rfl|rfl|rfl|rfl<;>(show Sem.run _ _ _=Result.ok _ _;kernel_rfl)
theorem KD(k:Nat)(hk:k<30):(Cy k).size=4:=by
 have h0:EM.size=120:=by kernel_rfl
 simp[Cy,h0];omega
theorem LU(k:Nat)(hk:k<30):(Cy k).all (·.oneCell')=true:=by
 have h0:EM.all (·.oneCell')=true:=by kernel_rfl
 rw[Array.all_eq_true_iff_forall_mem]at h0⊢;intro v hv;unfold Cy at hv;obtain⟨i,hi,rfl⟩:=Array.mem_iff_getElem.1 hv;rw[Array.getElem_extract];exact h0 _ (Array.getElem_mem _)
theorem NB(w:World):(zeroValue 230).run Tryz.prog w=.ok (.agg #[.string ⟨#[]⟩,.int .i64 0,.int .i64 0,.nilFunc]) w:=by kernel_rfl
theorem PV(op:Int)(w:World)(h:op<0\/29<op):Calls Tryz.prog 140 #[.int .i64 op] w fun e w'=>e=.returned (.agg #[.string ⟨#[]⟩,.int .i64 0,.int .i64 0,.nilFunc])/\Below w.heap.size w w':=by
 have hz:=NB;rcases h with h|h
 . go_enter Tryz.func140,Tryz.ntmps140
   go_wp2
   exact aW (v:=.agg #[.string ⟨#[]⟩,.int .i64 0,.int .i64 0,.nilFunc]) (by simp[results,Tryz.results140,go_sem]) rfl ⟨rfl,(aq _ _).alloc lR _⟩
 . have h0:decide (op<0)=false:=by simp;omega
   have h1:decide (29<op)=true:=by simp;omega
   go_enter Tryz.func140,Tryz.ntmps140;go_wp2
   exact aW (v:=.agg #[.string ⟨#[]⟩,.int .i64 0,.int .i64 0,.nilFunc]) (by simp[results,Tryz.results140,go_sem]) rfl ⟨rfl,(aq _ _).alloc lR _⟩
theorem Rh(k:Nat)(hk:k<30)(w:World):Calls Tryz.prog 140 #[.int .i64 (k:Int)] w fun e w'=>e=.returned (.agg (Cy k))/\Below w.heap.size w w':=by
 have hz:=NB;have h0:decide ((k:Int)<0)=false:=by simp
 have h1:decide (29<(k:Int))=false:=by simp;omega
 have hi:=NZ k hk;have hs:=KD k hk;have hone:=LU k hk;have HS:Hid ((Cy k).size=4/\(Cy k).all (·.oneCell')=true):=⟨hs,hone⟩
 clear hs hone;go_enter Tryz.func140,Tryz.ntmps140
 go_wp2_with (first
  |(go_at_call 147;refine(On _).mono ?_;rintro e w1 ⟨rfl,hb⟩;have hrow:w1.heap[w.heap.size]?=some (.cells #[.string ⟨#[]⟩,.int .i64 0,.int .i64 0,.nilFunc] 230):=(hb.block _ (by simp)).trans (dB _ _))
  |(show wpList _ _ _ ({dst:=none,op:=Op.store 230 _ _,type:=_,pos:=_,after:=_,guard:=_}::_) _ _;refine wpList_store_row rfl 230 (.tmp 2) (.tmp 12) rfl w.heap.size (Cy k) rfl rfl 230 #[.string ⟨#[]⟩,.int .i64 0,.int .i64 0,.nilFunc] hrow (by rw[HS.o.1];kernel_rfl) (by rw[HS.o.1];rfl) HS.o.2 ?_))
 refine aW (v:=.agg (Cy k)) (results_cell_row Tryz.results140 _ _ w.heap.size 230 (Cy k) (0,0) _ rfl (setRow_heap _ _ _ _ _ _ hrow) Tryz.underlying230 rfl (by rw[HS.o.1];kernel_rfl)) rfl ⟨rfl,?_⟩;exact below_setRow (((aq _ _).alloc lR _).trans (hb.mono (by simp))) lR _
theorem Ir{P:Program}{ops:Array Oper}{Q:Exit->Act->World->Prop}{w:World}{l:List Oper}{a:Act}(n:Nat)(t e:TypeId)(len:Nat)(parts:Array (Nat×Operand))(s p m:Nat)(cells:Array Value)(ie:TypeInfo)(z:Value)
 (hb:(Ek P (l.take n) a).map (fun a'=>(Instr.fill (fun i=>some (i*ie.size,ie.size)) ((Array.range (len*ie.size)).map (z.cells[· % z.cells.size]!)) (parts.map fun(i,x)=>(i,a'.eval x)).toList,a'.tmps.size,a'.defers))=some (some cells,m,[]))
 (hd:(l.drop n).map (fun o=>(o.guard,o.op,o.dst))=[(none,.buildSlice t len parts,some s),(none,.assign (.tmp s),some p)])
 (hs:s<m) (hp:p<m)
 (hu:P.underlying t=some (.slice e)) (hie:P.info? e=some ie) (hz:ie.zero=some z) (hsmall:¬len*ie.size>2 ^ 24) (hpos:¬len*ie.size=0)
 (h:∀a',a'.tmps.getD p undef=.slice (some ⟨w.heap.size,0,none⟩) len len->a'.defers=[]->Q .normal a' (w.alloc (.cells cells e))):wpList P ops Q l a w:=by
 rw[<-dP n l];obtain⟨a',ha,he⟩:=bz.1 hb;simp only[Prod.mk.injEq]at he;refine Fc (a':=a') _ ?_ _ _ ha;generalize l.drop n=l2 at hd;rcases l2 with _|⟨o,_|⟨o2,_|⟨o3,l3⟩⟩⟩
 . cases hd
 . simp at hd
 . simp only[db,List.map_nil,eN,Prod.mk.injEq,cj]at hd
   obtain⟨⟨g1,o1,d1⟩,g2,o2',d2⟩:=hd;refine wpList_buildSlice g1 t e len parts o1 cells ie z hu hie hz hsmall hpos he.1 ?_;rw[d1];refine wpList_plain g2 fun K hK=> ?_
   unfold Oper.wp execOp;simp only[o2',Sem.run_pure];refine hK _ _ (wpList_nil (h _ ?_ ?_))
   . simp[Act.put,Act.eval,hp,hs,he.2.1,d2]
   . simp[Act.put,he.2.2,d2]
 . simp at hd
structure AR(g:Nat)(w w':World):Prop where
 os:w'.os=w.os
 tape:w'.tape=w.tape
 output:w'.output=w.output
 size:w.heap.size<=w'.heap.size
 block:∀k,k<w.heap.size->k≠g->w'.heap[k]?=w.heap[k]?
theorem AR.refl(g:Nat)(w:World):AR g w w:=⟨rfl,rfl,rfl,Nat.le_refl _,fun _ _ _=>rfl⟩
theorem AR.trans{g:Nat}{a b c:World}(h:AR g a b)(k:AR g b c):AR g a c:=
 ⟨k.os.trans h.os,k.tape.trans h.tape,k.output.trans h.output,aR h.size k.size,fun i hi hg=>(k.block i (bZ hi h.size) hg).trans (h.block i hi hg)⟩
theorem AR.alloc(g:Nat)(w:World)(o:Obj):AR g w (w.alloc o):=
 ⟨rfl,rfl,rfl,by simp,fun k hk _=>Below.heap_alloc w o k hk⟩
theorem AR.set(g:Nat)(w:World)(o:Nat)(v:Value)(nq:Nat):AR g w ((w.setCell ⟨g,o,none⟩ v).drewN nq):=
 ⟨rfl,rfl,rfl,by show _<=(w.setCell _ _).heap.size;simp,fun k hk hg=>Below.heap_setCell w _ v k hg⟩
theorem AR.below{g B:Nat}{w w':World}(h:AR g w w')(hB:B<=g)(hs:B<=w.heap.size):Below B w w':=
 ⟨h.os,h.tape,h.output,h.size,fun k hk=>h.block k (bZ hk hs) (by omega)⟩
theorem AR.of_below{g:Nat}{w w':World}(h:Below w.heap.size w w'):AR g w w':=
 ⟨h.os,h.tape,h.output,h.size,fun k hk _=>h.block k hk⟩
theorem AR.cell{g:Nat}{w w':World}(h:AR g w w'){p:Addr}(hp:p.block<w.heap.size)(hg:p.block≠g):w'.cell? p=w.cell? p:=ce (w:=w) (h.block p.block hp hg)
theorem AR.frozen{g:Nat}{w w':World}(h:AR g w w'){p:Addr}(hp:p.block<w.heap.size)(hg:p.block≠g):w'.frozen? p=w.frozen? p:=World.frozen?_of_block (w:=w) (h.block p.block hp hg)
theorem D8.lt{w:World}{g:Nat}{a:Option Addr}{len cap:Nat}{p:Int}(h:D8 w g a len cap p):g<w.heap.size:=aD h.code
theorem FZ.of_drawn{w w':World}{g g':Nat}{a:Option Addr}{len:Nat}(h:FZ w g a len)(hg:g<=g')(hs:g<=w.heap.size)(hd:∀k,k<g->w'.heap[k]?=w.heap[k]?):FZ w' g' a len:=by
 rcases h with h|⟨b,off,rfl,hb,hc⟩
 . exact .inl h
 . refine .inr ⟨b,off,rfl,by omega,fun i hi=> ?_⟩
   obtain⟨v,h0,h1,h2⟩:=hc i hi;exact⟨v,h0,h1,(ce (w:=w) (a:=⟨b,off+i,none⟩) (hd b hb)).trans h2⟩
theorem D8.keep{w w':World}{g:Nat}{a:Option Addr}{len cap:Nat}{p:Int}(h:D8 w g a len cap p)(hd:∀k,k<=g->w'.heap[k]?=w.heap[k]?):D8 w' g a len cap p:=by
 obtain⟨h1,h2,⟨sz,h3,h4,h5⟩,h6,h7,h8,h9,h10⟩:=h;have hgg:=hd g lR;refine⟨(ce (w:=w) (a:=⟨g,0,none⟩) hgg).trans h1,(ce (w:=w) (a:=⟨g,1,none⟩) hgg).trans h2,⟨sz,h3,h4,(ce (w:=w) (a:=⟨g,2,none⟩) hgg).trans h5⟩,(World.frozen?_of_block (w:=w) (a:=⟨g,1,none⟩) hgg).trans h6,h7,h8,h9,?_⟩;exact h10.of_drawn lR (dY (aD h1)) fun k hk=>hd k (dY hk)
theorem D8.alloc{w:World}{g:Nat}{a:Option Addr}{len cap:Nat}{p:Int}(h:D8 w g a len cap p)(o:Obj):D8 (w.alloc o) g a len cap p:=
 h.keep fun k hk=>Below.heap_alloc w o k (Nat.lt_of_le_of_lt hk h.lt)
theorem D8.below{w w':World}{g:Nat}{a:Option Addr}{len cap:Nat}{p:Int}(h:D8 w g a len cap p)(hb:Below w.heap.size w w'):D8 w' g a len cap p:=
 h.keep fun k hk=>hb.block k (Nat.lt_of_le_of_lt hk h.lt)
theorem D8.next{w:World}{g:Nat}{a:Option Addr}{len cap:Nat}{p:Int}(h:D8 w g a len cap p)(hp:p+1<=1000000000000)(nq:Nat):D8 ((w.setCell ⟨g,1,none⟩ (.int .i64 (p+1))).drewN nq) g a len cap (p+1):=by
 obtain⟨h1,h2,⟨sz,h3,h4,h5⟩,h6,h7,h8,h9,h10⟩:=h;refine⟨?_,?_,⟨sz,h3,h4,?_⟩,?_,by omega,hp,h9,?_⟩
 . show(w.setCell _ _).cell? _=_
   rw[dq _ _ _ _ (by simp)];exact h1
 . show(w.setCell _ _).cell? _=_
   exact dz w _ _ h2
 . show(w.setCell _ _).cell? _=_
   rw[dq _ _ _ _ (by simp)];exact h5
 . show(w.setCell _ _).frozen? _=_
   simpa using h6
 . exact h10.of_drawn lR (dY (aD h1)) fun k hk=>Below.heap_setCell w _ _ k (by show k≠g;omega)
theorem A5{w:World}{g:Nat}{a:Option Addr}{len cap:Nat}{p n:Int}(h:D8 w g a len cap p)(hp:p+1<=1000000000000:=by omega)(hn:1<=n:=by omega)(hn':n<=1000000:=by omega):
 Calls Tryz.prog 34 #[.pointer (some ⟨g,0,none⟩),.int .i64 n] w fun e w'=>∃r:Int,0<=r/\r<n/\e=.returned (.int .i64 r)/\D8 w' g a len cap (p+1)/\AR g w w':=by
 have fin:∀(e:Ending) (w':World),(∃(r:Int) (nq:Nat),0<=r/\r<n/\e=.returned (.int .i64 r)/\w'=(w.setCell ⟨g,1,none⟩ (.int .i64 (p+1))).drewN nq)->∃r:Int,0<=r/\r<n/\e=.returned (.int .i64 r)/\D8 w' g a len cap (p+1)/\AR g w w':=by
  rintro e w' ⟨r,nq,h0,h1,he,rfl⟩;exact⟨r,h0,h1,he,h.next hp nq,AR.set g w 1 _ nq⟩
 rcases Nat.eq_zero_or_pos len with rfl|hl
 . exact(QO h hn hn').mono fin
 . rcases h.bytes with h0|⟨b,off,rfl,hb,hc⟩
   . omega
   . have hm (q:Int):∃v:Int,0<=v/\v<=255/\w.cell? ⟨b,off+(q % len).toNat,none⟩=some (.int .u8 v):=hc _ (by
      have:=cM q (show(len:Int)≠0 by omega);have:=bw q (show 0<(len:Int)by omega);omega)
     obtain⟨v,v0,v1,v2⟩:=hm p;by_cases h200:n<=200
     . exact(QP h hl hb hn h200 v0 v1 v2).mono fin
     . obtain⟨u,u0,u1,u2⟩:=hm (p+1)
       exact(QQ h hl hb (by omega) hn' v0 v1 v2 u0 u1 u2).mono fin
theorem Rp(w:World):(zeroValue 79).run Tryz.prog w=.ok (.agg #[.slice none 0 0,.int .i64 0,.int .i64 0]) w:=by kernel_rfl
theorem LI(a:Option Addr)(len cap:Nat)(w:World)(hl:len<=140737488355328)(hc:FZ w w.heap.size a len):
 Calls Tryz.prog 11 #[.slice a len cap] w fun e w'=>e=.returned (.pointer (some ⟨w.heap.size,0,none⟩))/\D8 w' w.heap.size a len cap 0/\Below w.heap.size w w':=by
 have hz:=Rp
 have fin:∀sz:Int,0<=sz->sz<=12->D8 (w.alloc (.cells #[.slice a len cap,.int .i64 0,.int .i64 sz] 79)) w.heap.size a len cap 0:=fun sz h0 h1=>by
  have hb:=dB w (.cells #[.slice a len cap,.int .i64 0,.int .i64 sz] 79);refine⟨?_,?_,⟨sz,h0,h1,?_⟩,frozen_of_row _ _ _ _ _ hb,by omega,by omega,hl,?_⟩
  . rw[cu _ _ _ _ _ _ hb];rfl
  . rw[cu _ _ _ _ _ _ hb];rfl
  . rw[cu _ _ _ _ _ _ hb];rfl
  . exact hc.of_drawn lR lR fun k hk=>Below.heap_alloc w _ k hk
 have HF:Hid (∀sz:Int,0<=sz->sz<=12->D8 (w.alloc (.cells #[.slice a len cap,.int .i64 0,.int .i64 sz] 79)) w.heap.size a len cap 0):=fin;clear fin hc;have hq0:0<=(len:Int) / 16:=by omega
 by_cases h12:12<(len:Int) / 16
 . go_enter Tryz.func11,Tryz.ntmps11
   go_wp2
   go_ret
   exact⟨rfl,HF.o _ (by omega) (by omega),(aq _ _).alloc lR _⟩
 . go_enter Tryz.func11,Tryz.ntmps11
   go_wp2
   go_ret
   exact⟨rfl,HF.o _ (by omega) (by omega),(aq _ _).alloc lR _⟩
theorem Ib{w:World}{g:Nat}{a:Option Addr}{len cap:Nat}{p n:Int}(h:D8 w g a len cap p)(hp:p+1<=1000000000000:=by omega)(hn:1<=n:=by omega)(hn':n<=1000000:=by omega):
 Calls Tryz.prog 91 #[.pointer (some ⟨g,0,none⟩),.int .i64 n] w fun e w'=>∃b:Bool,e=.returned (.bool b)/\D8 w' g a len cap (p+1)/\AR g w w':=by
 have H:Hid (D8 w g a len cap p):=h;clear h;go_enter Tryz.func91,Tryz.ntmps91;go_wp2_with fail
 refine(A5 H.o hp hn hn').mono ?_;rintro e w1 ⟨r,h0,h1,rfl,hs,hd⟩;have HS:Hid (D8 w1 g a len cap (p+1)/\AR g w w1):=⟨hs,hd⟩
 clear hs hd;go_wp2
 go_ret
 exact⟨_,rfl,HS.o.1,HS.o.2⟩
structure MI where
 op:Int
 a:Int
 b:Int
 c:Int
structure MC where
 type:Int
 word:Int
structure MT where
 func:Int
 head:Int
 counter:Int
 init:Int
def MI.cells(x:MI):List Value:=[iZ x.op,iZ x.a,iZ x.b,iZ x.c]
def MC.cells(x:MC):List Value:=[iZ x.type,.int .u32 x.word]
def MT.cells(x:MT):List Value:=[iZ x.func,iZ x.head,iZ x.counter,.int .u32 x.init]
theorem MI.cells_length(x:MI):x.cells.length=4:=rfl
theorem MC.cells_length(x:MC):x.cells.length=2:=rfl
theorem MT.cells_length(x:MT):x.cells.length=4:=rfl
def Ac(z:Int):List Value:=[iZ z]
theorem Al(z:Int):(Ac z).length=1:=rfl
theorem CF:(Tryz.prog.info? 2).map (fun i=>(i.zero,i.size,i.bytes))=some (some (iZ 0),1,8):=by kernel_rfl
theorem QJ:(Tryz.prog.info? 97).map (fun i=>(i.zero,i.size,i.bytes))=some (some (.agg #[iZ 0,iZ 0,iZ 0,iZ 0]),4,32):=by kernel_rfl
theorem QI:(Tryz.prog.info? 53).map (fun i=>(i.zero,i.size,i.bytes))=some (some (.agg #[iZ 0,.int .u32 0]),2,16):=by kernel_rfl
theorem QL:(Tryz.prog.info? 62).map (fun i=>(i.zero,i.size,i.bytes))=some (some (.agg #[iZ 0,iZ 0,iZ 0,.int .u32 0]),4,32):=by kernel_rfl
def At(v:Int)(n:Nat):List Value:=(List.range n).map fun i=>.int .u8 (v / 2 ^ (8*i) % 256)
theorem Av(v:Int)(n:Nat):(At v n).length=n:=by simp[At]
theorem Qr(v:Int)(i M:Nat)(h:8*(i+1)<=M):v % 2 ^ M / 2 ^ (8*i) % 256=v / 2 ^ (8*i) % 256:=by
 obtain⟨d,rfl⟩:=Nat.exists_eq_add_of_le h
 have e1:(2:Int) ^ (8*(i+1)+d)=2 ^ (8*i)*(256*2 ^ d):=by
  rw[show 8*(i+1)+d=8*i+(8+d)by omega,Int.pow_add,Int.pow_add];rfl
 have hp:(0:Int)<2 ^ (8*i):=Int.pow_pos (by decide);rw[e1]
 have e2:v % (2 ^ (8*i)*(256*2 ^ d))=v-2 ^ (8*i)*(256*2 ^ d*(v / (2 ^ (8*i)*(256*2 ^ d)))):=by
  rw[Int.emod_def,Int.mul_assoc (2 ^ (8*i)) (256*2 ^ d)]
 rw[e2,Int.sub_ediv_of_dvd _ (Int.dvd_mul_right _ _),Int.mul_ediv_cancel_left _ (by omega)];generalize v / 2 ^ (8*i)=a;generalize v / (2 ^ (8*i)*(256*2 ^ d))=b;rw[Int.mul_assoc];generalize 2 ^ d*b=c;omega
theorem D6(v:Int)(n M:Nat)(h:8*n<=M):CX (v % 2 ^ M) n n=At v n:=by
 unfold CX At;apply dL;intro i hi;have hi':i<n:=by simpa using hi
 rw[bj hi',Qr v i M (by omega)]
theorem Mh(v:Int)(w:World):
 Calls Tryz.prog 45 #[.int .i64 v,.int .i64 1] w fun e w'=>∃r,e=.returned r/\w'.ownsRow w.heap.size 5 1 r 1 (At v 1)/\Below w.heap.size w w':=by
 have hp:Hid (∀w,Calls Tryz.prog 67 #[.int .u8 (IntKind.u8.wrap v),.int .i64 1] w fun e w'=>∃r,e=.returned r/\w'.ownsRow w.heap.size 5 1 r 1 (At v 1)/\Below w.heap.size w w'):=fun w=>by
  have h:=Ov (v % 2 ^ 8) 1 w (by omega) (cM _ (by decide)) (fun h=>by first|(cases h;done)|(simp at h;done)|(have:=bw v (show(0:Int)<2 ^ 8 by decide);omega));rw[D6 v 1 8 (by omega)]at h;exact h
 go_enter Tryz.func45,Tryz.ntmps45;go_wp2_with (go_at_call 67;refine(hp.o _).mono ?_;rintro e w1 ⟨r,rfl,hown,hb⟩);go_ret;exact⟨_,rfl,hown,hb⟩
theorem Mi(v:Int)(w:World):
 Calls Tryz.prog 45 #[.int .i64 v,.int .i64 2] w fun e w'=>∃r,e=.returned r/\w'.ownsRow w.heap.size 5 1 r 2 (At v 2)/\Below w.heap.size w w':=by
 have hp:Hid (∀w,Calls Tryz.prog 68 #[.int .u16 (IntKind.u16.wrap v),.int .i64 2] w fun e w'=>∃r,e=.returned r/\w'.ownsRow w.heap.size 5 1 r 2 (At v 2)/\Below w.heap.size w w'):=fun w=>by
  have h:=Nt (v % 2 ^ 16) 2 w (by omega) (cM _ (by decide)) (fun h=>by first|(cases h;done)|(simp at h;done)|(have:=bw v (show(0:Int)<2 ^ 16 by decide);omega));rw[D6 v 2 16 (by omega)]at h;exact h
 go_enter Tryz.func45,Tryz.ntmps45;go_wp2_with (go_at_call 68;refine(hp.o _).mono ?_;rintro e w1 ⟨r,rfl,hown,hb⟩);go_ret;exact⟨_,rfl,hown,hb⟩
theorem Mj(v:Int)(w:World):
 Calls Tryz.prog 45 #[.int .i64 v,.int .i64 3] w fun e w'=>∃r,e=.returned r/\w'.ownsRow w.heap.size 5 1 r 3 (At v 3)/\Below w.heap.size w w':=by
 have hp:Hid (∀w,Calls Tryz.prog 69 #[.int .u32 (IntKind.u32.wrap v),.int .i64 3] w fun e w'=>∃r,e=.returned r/\w'.ownsRow w.heap.size 5 1 r 3 (At v 3)/\Below w.heap.size w w'):=fun w=>by
  have h:=I9 (v % 2 ^ 32) 3 w (by omega) (cM _ (by decide)) (fun h=>by first|(cases h;done)|(simp at h;done)|(have:=bw v (show(0:Int)<2 ^ 32 by decide);omega));rw[D6 v 3 32 (by omega)]at h;exact h
 go_enter Tryz.func45,Tryz.ntmps45;go_wp2_with (go_at_call 69;refine(hp.o _).mono ?_;rintro e w1 ⟨r,rfl,hown,hb⟩);go_ret;exact⟨_,rfl,hown,hb⟩
theorem Ml(v:Int)(w:World):
 Calls Tryz.prog 45 #[.int .i64 v,.int .i64 4] w fun e w'=>∃r,e=.returned r/\w'.ownsRow w.heap.size 5 1 r 4 (At v 4)/\Below w.heap.size w w':=by
 have hp:Hid (∀w,Calls Tryz.prog 69 #[.int .u32 (IntKind.u32.wrap v),.int .i64 4] w fun e w'=>∃r,e=.returned r/\w'.ownsRow w.heap.size 5 1 r 4 (At v 4)/\Below w.heap.size w w'):=fun w=>by
  have h:=I9 (v % 2 ^ 32) 4 w (by omega) (cM _ (by decide)) (fun h=>by first|(cases h;done)|(simp at h;done)|(have:=bw v (show(0:Int)<2 ^ 32 by decide);omega));rw[D6 v 4 32 (by omega)]at h;exact h
 go_enter Tryz.func45,Tryz.ntmps45;go_wp2_with (go_at_call 69;refine(hp.o _).mono ?_;rintro e w1 ⟨r,rfl,hown,hb⟩);go_ret;exact⟨_,rfl,hown,hb⟩
theorem Mm(v:Int)(w:World):
 Calls Tryz.prog 45 #[.int .i64 v,.int .i64 5] w fun e w'=>∃r,e=.returned r/\w'.ownsRow w.heap.size 5 1 r 5 (At v 5)/\Below w.heap.size w w':=by
 have hp:Hid (∀w,Calls Tryz.prog 70 #[.int .u64 (IntKind.u64.wrap v),.int .i64 5] w fun e w'=>∃r,e=.returned r/\w'.ownsRow w.heap.size 5 1 r 5 (At v 5)/\Below w.heap.size w w'):=fun w=>by
  have h:=EP (v % 2 ^ 64) 5 w (by omega) (cM _ (by decide)) (fun h=>by first|(cases h;done)|(simp at h;done)|(have:=bw v (show(0:Int)<2 ^ 64 by decide);omega));rw[D6 v 5 64 (by omega)]at h;exact h
 go_enter Tryz.func45,Tryz.ntmps45;go_wp2_with (go_at_call 70;refine(hp.o _).mono ?_;rintro e w1 ⟨r,rfl,hown,hb⟩);go_ret;exact⟨_,rfl,hown,hb⟩
theorem Mn(v:Int)(w:World):
 Calls Tryz.prog 45 #[.int .i64 v,.int .i64 6] w fun e w'=>∃r,e=.returned r/\w'.ownsRow w.heap.size 5 1 r 6 (At v 6)/\Below w.heap.size w w':=by
 have hp:Hid (∀w,Calls Tryz.prog 70 #[.int .u64 (IntKind.u64.wrap v),.int .i64 6] w fun e w'=>∃r,e=.returned r/\w'.ownsRow w.heap.size 5 1 r 6 (At v 6)/\Below w.heap.size w w'):=fun w=>by
  have h:=EP (v % 2 ^ 64) 6 w (by omega) (cM _ (by decide)) (fun h=>by first|(cases h;done)|(simp at h;done)|(have:=bw v (show(0:Int)<2 ^ 64 by decide);omega));rw[D6 v 6 64 (by omega)]at h;exact h
 go_enter Tryz.func45,Tryz.ntmps45;go_wp2_with (go_at_call 70;refine(hp.o _).mono ?_;rintro e w1 ⟨r,rfl,hown,hb⟩);go_ret;exact⟨_,rfl,hown,hb⟩
theorem Mo(v:Int)(w:World):
 Calls Tryz.prog 45 #[.int .i64 v,.int .i64 7] w fun e w'=>∃r,e=.returned r/\w'.ownsRow w.heap.size 5 1 r 7 (At v 7)/\Below w.heap.size w w':=by
 have hp:Hid (∀w,Calls Tryz.prog 70 #[.int .u64 (IntKind.u64.wrap v),.int .i64 7] w fun e w'=>∃r,e=.returned r/\w'.ownsRow w.heap.size 5 1 r 7 (At v 7)/\Below w.heap.size w w'):=fun w=>by
  have h:=EP (v % 2 ^ 64) 7 w (by omega) (cM _ (by decide)) (fun h=>by first|(cases h;done)|(simp at h;done)|(have:=bw v (show(0:Int)<2 ^ 64 by decide);omega));rw[D6 v 7 64 (by omega)]at h;exact h
 go_enter Tryz.func45,Tryz.ntmps45;go_wp2_with (go_at_call 70;refine(hp.o _).mono ?_;rintro e w1 ⟨r,rfl,hown,hb⟩);go_ret;exact⟨_,rfl,hown,hb⟩
theorem Mp(v:Int)(w:World):
 Calls Tryz.prog 45 #[.int .i64 v,.int .i64 8] w fun e w'=>∃r,e=.returned r/\w'.ownsRow w.heap.size 5 1 r 8 (At v 8)/\Below w.heap.size w w':=by
 have hp:Hid (∀w,Calls Tryz.prog 70 #[.int .u64 (IntKind.u64.wrap v),.int .i64 8] w fun e w'=>∃r,e=.returned r/\w'.ownsRow w.heap.size 5 1 r 8 (At v 8)/\Below w.heap.size w w'):=fun w=>by
  have h:=EP (v % 2 ^ 64) 8 w (by omega) (cM _ (by decide)) (fun h=>by first|(cases h;done)|(simp at h;done)|(have:=bw v (show(0:Int)<2 ^ 64 by decide);omega));rw[D6 v 8 64 (by omega)]at h;exact h
 go_enter Tryz.func45,Tryz.ntmps45;go_wp2_with (go_at_call 70;refine(hp.o _).mono ?_;rintro e w1 ⟨r,rfl,hown,hb⟩);go_ret;exact⟨_,rfl,hown,hb⟩
theorem Kj(v n:Int)(w:World)(h:n<1\/8<n):
 Calls Tryz.prog 45 #[.int .i64 v,.int .i64 n] w fun e w'=>∃r,e=.returned r/\w'.ownsRow w.heap.size 5 1 r 0 (At v 0)/\Below w.heap.size w w':=by
 have e1:(n==1)=false:=by simp;omega
 have e2:(n==2)=false:=by simp;omega
 have e3:(n==3)=false:=by simp;omega
 have e4:(n==4)=false:=by simp;omega
 have e5:(n==5)=false:=by simp;omega
 have e6:(n==6)=false:=by simp;omega
 have e7:(n==7)=false:=by simp;omega
 have e8:(n==8)=false:=by simp;omega
 clear h;go_enter Tryz.func45,Tryz.ntmps45;go_wp2
 go_ret
 exact⟨_,rfl,bq _ _ _ _,aq _ _⟩
def PO(n:Int):Nat:=if 1<=n/\n<=8 then n.toNat else 0
theorem G7(v n:Int)(w:World):
 Calls Tryz.prog 45 #[.int .i64 v,.int .i64 n] w fun e w'=>∃r,e=.returned r/\w'.ownsRow w.heap.size 5 1 r (PO n) (At v (PO n))/\Below w.heap.size w w':=by
 by_cases h:1<=n/\n<=8
 . have hc:n=1\/n=2\/n=3\/n=4\/n=5\/n=6\/n=7\/n=8:=by omega
   rcases hc with rfl|rfl|rfl|rfl|rfl|rfl|rfl|rfl
   . exact Mh v w
   . exact Mi v w
   . exact Mj v w
   . exact Ml v w
   . exact Mm v w
   . exact Mn v w
   . exact Mo v w
   . exact Mp v w
 . have e:PO n=0:=bX h
   rw[e];exact Kj v n w (by omega)
def Dh:Array Value:=#[.string ⟨#[110,111,112]⟩,.int .i64 1,.int .i64 0,
 .string ⟨#[99,111,110,115,116]⟩,.int .i64 1,.int .i64 1,
 .string ⟨#[108,111,97,100,108,111,99,97,108]⟩,.int .i64 1,.int .i64 2,
 .string ⟨#[115,116,111,114,101,108,111,99,97,108]⟩,.int .i64 1,.int .i64 2,
 .string ⟨#[108,111,97,100]⟩,.int .i64 2,.int .i64 3,
 .string ⟨#[115,116,111,114,101]⟩,.int .i64 2,.int .i64 3,
 .string ⟨#[108,111,97,100,97,116]⟩,.int .i64 3,.int .i64 4,
 .string ⟨#[115,116,111,114,101,97,116]⟩,.int .i64 3,.int .i64 4,
 .string ⟨#[97,100,100]⟩,.int .i64 1,.int .i64 5,
 .string ⟨#[115,117,98]⟩,.int .i64 1,.int .i64 5,
 .string ⟨#[109,117,108]⟩,.int .i64 3,.int .i64 5,
 .string ⟨#[100,105,118]⟩,.int .i64 8,.int .i64 5,
 .string ⟨#[109,111,100]⟩,.int .i64 8,.int .i64 5,
 .string ⟨#[97,110,100]⟩,.int .i64 1,.int .i64 6,
 .string ⟨#[111,114]⟩,.int .i64 1,.int .i64 6,
 .string ⟨#[120,111,114]⟩,.int .i64 1,.int .i64 6,
 .string ⟨#[110,111,116]⟩,.int .i64 1,.int .i64 6,
 .string ⟨#[115,104,108]⟩,.int .i64 1,.int .i64 0,
 .string ⟨#[115,104,114]⟩,.int .i64 1,.int .i64 0,
 .string ⟨#[110,101,103]⟩,.int .i64 1,.int .i64 0,
 .string ⟨#[101,113]⟩,.int .i64 1,.int .i64 7,
 .string ⟨#[108,101,115,115]⟩,.int .i64 1,.int .i64 5,
 .string ⟨#[99,111,110,118]⟩,.int .i64 1,.int .i64 8,
 .string ⟨#[100,117,112]⟩,.int .i64 1,.int .i64 0,
 .string ⟨#[100,114,111,112]⟩,.int .i64 1,.int .i64 0,
 .string ⟨#[106,117,109,112]⟩,.int .i64 2,.int .i64 9,
 .string ⟨#[106,117,109,112,122,101,114,111]⟩,.int .i64 2,.int .i64 9,
 .string ⟨#[103,117,97,114,100]⟩,.int .i64 2,.int .i64 10,
 .string ⟨#[99,97,108,108]⟩,.int .i64 4,.int .i64 11,
 .string ⟨#[114,101,116,117,114,110]⟩,.int .i64 2,.int .i64 0]
theorem M7(w:World):Calls Tryz.prog 142 #[] w fun e w'=>e=.returned (.slice (some ⟨w.heap.size,0,none⟩) 30 30)/\w'=w.alloc (.cells Dh 179):=by
 go_enter Tryz.func142,Tryz.ntmps142;go_wp2_with (show wpList _ _ _ ({dst:=some 1,op:=Op.build _ _,type:=_,pos:=_,after:=_,guard:=_}::_) _ _;refine Ir 30 232 179 30 #[(0,.tmp 1),(1,.tmp 2),(2,.tmp 3),(3,.tmp 4),(4,.tmp 5),(5,.tmp 6),(6,.tmp 7),(7,.tmp 8),(8,.tmp 9),(9,.tmp 10),(10,.tmp 11),(11,.tmp 12),(12,.tmp 13),(13,.tmp 14),(14,.tmp 15),(15,.tmp 16),(16,.tmp 17),(17,.tmp 18),(18,.tmp 19),(19,.tmp 20),(20,.tmp 21),(21,.tmp 22),(22,.tmp 23),(23,.tmp 24),(24,.tmp 25),(25,.tmp 26),(26,.tmp 27),(27,.tmp 28),(28,.tmp 29),(29,.tmp 30)] 31 0 32 Dh ((Tryz.prog.info? 179).getD default) (.agg #[.string ⟨#[]⟩,.int .i64 0,.int .i64 0]) (by kernel_rfl) rfl (by decide) (by decide) Tryz.underlying232 (by kernel_rfl) (by kernel_rfl) (dm (by kernel_rfl)) (dm (by kernel_rfl)) ?_;intro a' hp hd);refine aW (v:=.slice (some ⟨w.heap.size,0,none⟩) 30 30) ?_ hd ⟨rfl,rfl⟩;rw[<-hp];exact results_tmp Tryz.results142 _ _ _
def BR(k:Nat):List Value:=(Dh.extract (3*k) (3*k+3)).toList
theorem JK(k:Nat)(hk:k<30):(BR k).length=3:=by
 have h0:Dh.size=90:=by kernel_rfl
 simp[BR,h0];omega
theorem M1(k:Nat)(hk:k<30):(BR k).toArray.all (·.oneCell')=true:=by
 have h0:Dh.all (·.oneCell')=true:=by kernel_rfl
 rw[Array.all_eq_true_iff_forall_mem]at h0⊢;intro v hv;simp only[BR,Array.toArray_toList]at hv;obtain⟨i,hi,rfl⟩:=Array.mem_iff_getElem.1 hv;rw[Array.getElem_extract];exact h0 _ (Array.getElem_mem _)
theorem Kt(w:World)(b k:Nat)(hk:k<30)(h:w.heap[b]?=some (.cells Dh 179)):w.rangeAt b (k*3) (BR k):=by
 intro j v hv;have h0:Dh.size=90:=by kernel_rfl
 rw[cu w b _ Dh _ _ h];simp only[BR,Array.getElem?_toList]at hv;rw[Array.getElem?_extract]at hv;split at hv
 . rw[<-hv,Nat.mul_comm]
 . cases hv
theorem IJ(w:World):(zeroValue 179).run Tryz.prog w=.ok (.agg #[.string ⟨#[]⟩,.int .i64 0,.int .i64 0]) w:=by kernel_rfl
theorem Pl(op:Int)(w:World)(h:op<0\/29<op):Calls Tryz.prog 121 #[.int .i64 op] w fun e w'=>e=.returned (.agg #[.string ⟨#[]⟩,.int .i64 0,.int .i64 0])/\Below w.heap.size w w':=by
 have hz:=IJ;rcases h with h|h
 . go_enter Tryz.func121,Tryz.ntmps121
   go_wp2
   exact aW (v:=.agg #[.string ⟨#[]⟩,.int .i64 0,.int .i64 0]) (by simp[results,Tryz.results121,go_sem]) rfl ⟨rfl,(aq _ _).alloc lR _⟩
 . have h0:decide (op<0)=false:=by simp;omega
   have h1:decide (29<op)=true:=by simp;omega
   go_enter Tryz.func121,Tryz.ntmps121;go_wp2
   exact aW (v:=.agg #[.string ⟨#[]⟩,.int .i64 0,.int .i64 0]) (by simp[results,Tryz.results121,go_sem]) rfl ⟨rfl,(aq _ _).alloc lR _⟩
theorem Qj(k:Nat)(hk:k<30)(w:World):Calls Tryz.prog 121 #[.int .i64 (k:Int)] w fun e w'=>e=.returned (.agg (BR k).toArray)/\Below w.heap.size w w':=by
 have hz:=IJ;have h0:decide ((k:Int)<0)=false:=by simp
 have h1:decide (29<(k:Int))=false:=by simp;omega
 have HS:Hid ((BR k).length=3/\(BR k).toArray.all (·.oneCell')=true):=⟨JK k hk,M1 k hk⟩
 go_enter Tryz.func121,Tryz.ntmps121
 go_wp2_with (first
  |(go_at_call 142;refine(M7 _).mono ?_;rintro e w1 ⟨rfl,rfl⟩)
  |(show wpList _ _ _ ({dst:=some 13,op:=Op.load 179 _,type:=_,pos:=_,after:=_,guard:=_}::_) _ _;refine wpList_load_mid rfl 179 (.tmp 12) rfl (w.heap.size+1) (k*3) rfl (BR k) _ (Kt _ _ _ hk (heap_alloc2_new _ _ _)) Tryz.underlying179 rfl (by rw[HS.o.1];kernel_rfl) ?_)
  |(show wpList _ _ _ ({dst:=none,op:=Op.store 179 _ _,type:=_,pos:=_,after:=_,guard:=_}::_) _ _;refine wpList_store_row rfl 179 (.tmp 2) (.tmp 13) rfl w.heap.size (BR k).toArray rfl rfl 179 #[.string ⟨#[]⟩,.int .i64 0,.int .i64 0] (heap_alloc2_old _ _ _) (by rw[List.size_toArray,HS.o.1];kernel_rfl) (by show 3=(BR k).length;rw[HS.o.1]) HS.o.2 ?_))
 refine aW (v:=.agg (BR k).toArray) (results_cell_row Tryz.results121 _ _ w.heap.size 179 (BR k).toArray (0,0) _ rfl (setRow_heap _ _ _ _ _ _ (heap_alloc2_old _ _ _)) Tryz.underlying179 rfl (by rw[List.size_toArray,HS.o.1];kernel_rfl)) rfl ⟨rfl,?_⟩;exact below_setRow (((aq _ _).alloc lR _).alloc (by simp) _) lR _
def wordCells:Array Value:=#[.int .u32 0,.int .u32 1,.int .u32 2,.int .u32 4294967295,.int .u32 2147483648,.int .u32 2147483647,.int .u32 31,.int .u32 32]
theorem L3(r:Int)(h0:0<=r)(h1:r<8):∃v:Int,0<=v/\v<4294967296/\wordCells[r.toNat]?=some (.int .u32 v):=by
 have h:r=0\/r=1\/r=2\/r=3\/r=4\/r=5\/r=6\/r=7:=by omega
 rcases h with rfl|rfl|rfl|rfl|rfl|rfl|rfl|rfl<;>exact⟨_,by omega,by omega,rfl⟩
theorem Jy(op:BinOp)(x y:Int):0<=bits op .u32 x y/\bits op .u32 x y<4294967296:=by
 have:∀n:Nat,IntKind.u32.wrap (n:Int)=(n:Int) % 4294967296:=fun _=>rfl
 unfold bits;simp only[this];omega
theorem N0{w:World}{g:Nat}{a:Option Addr}{len cap:Nat}{p:Int}(h:D8 w g a len cap p)(hp:p+4<=1000000000000):
 Calls Tryz.prog 89 #[.pointer (some ⟨g,0,none⟩)] w fun e w'=>∃x p':Int,0<=x/\x<4294967296/\e=.returned (.int .u32 x)/\p<=p'/\p'<=p+4/\D8 w' g a len cap p'/\AR g w w':=by
 have hlow:=h.low;have H:Hid (D8 w g a len cap p):=h;clear h;go_enter Tryz.func89,Tryz.ntmps89;go_wp2_with fail
 refine(A5 H.o).mono ?_;rintro e w1 ⟨r,h0,h1,rfl,hs,hd⟩;have HS:Hid (D8 w1 g a len cap (p+1)/\AR g w w1):=⟨hs,hd⟩
 clear hs hd;cases e0:(r==0)
 . cases e1:(r==1)
   . go_wp2_with fail
     refine(A5 HS.o.1).mono ?_;rintro e w2 ⟨r2,h2,h3,rfl,hs2,hd2⟩;have HS2:Hid (D8 w2 g a len cap (p+1+1)/\AR g w w2):=⟨hs2,HS.o.2.trans hd2⟩
     clear hs2 hd2;go_wp2
     go_ret
     exact⟨r2,p+1+1,by omega,by omega,rfl,by omega,by omega,HS2.o.1,HS2.o.2⟩
   . go_wp2_with fail
     refine(A5 HS.o.1).mono ?_;rintro e w2 ⟨r2,h2,h3,rfl,hs2,hd2⟩;have HS2:Hid (D8 w2 g a len cap (p+1+1)/\AR g w w2):=⟨hs2,HS.o.2.trans hd2⟩
     clear hs2 hd2;go_wp2_with fail
     refine(A5 HS2.o.1).mono ?_;rintro e w3 ⟨r3,h4,h5,rfl,hs3,hd3⟩;have HS3:Hid (D8 w3 g a len cap (p+1+1+1)/\AR g w w3):=⟨hs3,HS2.o.2.trans hd3⟩
     clear hs3 hd3;go_wp2_with fail
     refine(A5 HS3.o.1).mono ?_;rintro e w4 ⟨r4,h6,h7,rfl,hs4,hd4⟩;have HS4:Hid (D8 w4 g a len cap (p+1+1+1+1)/\AR g w w4):=⟨hs4,HS3.o.2.trans hd4⟩
     clear hs4 hd4;go_wp2
     go_ret
     exact⟨_,p+1+1+1+1,(Jy _ _ _).1,(Jy _ _ _).2,rfl,by omega,by omega,HS4.o.1,HS4.o.2⟩
 . go_wp2_with fail
   refine(A5 (HS.o.1.alloc _)).mono ?_;rintro e w2 ⟨r2,h2,h3,rfl,hs2,hd2⟩;obtain⟨v,v0,v1,hv⟩:=L3 r2 h2 h3;have hg:g≠w1.heap.size:=by have:=HS.o.1.lt;omega
   have hcell:w2.cell? ⟨w1.heap.size,r2.toNat,none⟩=some (.int .u32 v):=by
    rw[hd2.cell (by simp) (by simpa using hg.symm),cu _ _ _ _ _ _ (dB _ _)];exact hv
   have HS2:Hid (D8 w2 g a len cap (p+1+1)/\AR g w w2):=⟨hs2,(HS.o.2.trans (AR.alloc g w1 _)).trans hd2⟩
   clear hs2 hd2 hv;go_wp2
   go_ret
   exact⟨v,p+1+1,v0,v1,rfl,by omega,by omega,HS2.o.1,HS2.o.2⟩
structure MF where
 params:List Int
 result:Int
 locals:List Int
 code:List MI
structure VF where
 p:Value
 l:Value
 c:Value
def EI(w:World)(v:VF)(f:MF):Prop:=Rd w 1 v.p f.params.length (f.params.flatMap Ac)/\Rd w 1 v.l f.locals.length (f.locals.flatMap Ac)/\Rd w 4 v.c f.code.length (f.code.flatMap MI.cells)
def Ep(w:World)(base:Nat)(v:VF)(f:MF):Prop:=w.ownsRow base 2 1 v.p f.params.length (f.params.flatMap Ac)/\w.ownsRow base 2 1 v.l f.locals.length (f.locals.flatMap Ac)/\w.ownsRow base 97 4 v.c f.code.length (f.code.flatMap MI.cells)
def MF.small(f:MF):Prop:=f.params.length<=1048576/\f.locals.length<=1048576/\f.code.length<=1048576
theorem Ep.rd{w:World}{base:Nat}{v:VF}{f:MF}(h:Ep w base v f):EI w v f:=⟨Rd.of_own h.1,Rd.of_own h.2.1,Rd.of_own h.2.2⟩
theorem EI.keep{w w':World}{v:VF}{f:MF}(h:EI w v f){B:Nat}(hb:Below B w w')(hB:w.heap.size<=B):EI w' v f:=⟨h.1.keep hb hB,h.2.1.keep hb hB,h.2.2.keep hb hB⟩
theorem Ep.keep{w w':World}{base:Nat}{v:VF}{f:MF}(h:Ep w base v f){B:Nat}(hb:Below B w w')(hB:w.heap.size<=B):Ep w' base v f:=⟨Ah h.1 hb hB,Ah h.2.1 hb hB,Ah h.2.2 hb hB⟩
theorem Bv{w:World}{base base':Nat}{e:TypeId}{s:Value}{k n:Nat}{xs:List Value}(h:w.ownsRow base e k s n xs)(hb:base'<=base):w.ownsRow base' e k s n xs:=by
 refine⟨h.1,?_⟩;rcases h.2 with h|⟨g,cap,cur,e1,hb1,hg,hr⟩
 . exact .inl h
 . exact .inr ⟨g,cap,cur,e1,aR hb hb1,hg,hr⟩
theorem DA{w:World}{base:Nat}{e:TypeId}{g:Nat}{a b c d:Value}(h:w.ownsRow base e 4 (.slice (some ⟨g,0,none⟩) 1 1) 1 [a,b,c,d]):
 w.cell? ⟨g,0,none⟩=some a/\w.cell? ⟨g,1,none⟩=some b/\w.cell? ⟨g,2,none⟩=some c/\w.cell? ⟨g,3,none⟩=some d/\w.frozen? ⟨g,0,none⟩=false/\w.frozen? ⟨g,1,none⟩=false/\w.frozen? ⟨g,2,none⟩=false/\w.frozen? ⟨g,3,none⟩=false:=
 ⟨h.cellAt 0 (by omega),h.cellAt 1 (by omega),h.cellAt 2 (by omega),h.cellAt 3 (by omega),h.frozenAt 0,h.frozenAt 1,h.frozenAt 2,h.frozenAt 3⟩
structure Fr(w u:World)(tp tr:TypeId)(p r o:List Value):Prop where
 par:u.ownsRow w.heap.size tp 4 (.slice (some ⟨w.heap.size,0,none⟩) 1 1) 1 p
 res:u.ownsRow w.heap.size tr 4 (.slice (some ⟨w.heap.size+1,0,none⟩) 1 1) 1 r
 loc:u.ownsRow w.heap.size tr 4 (.slice (some ⟨w.heap.size+1+1,0,none⟩) 1 1) 1 o
 bel:Below w.heap.size w u
 siz:w.heap.size+3<=u.heap.size
theorem Fr.of(w:World)(tp tr:TypeId)(p r o:Array Value)(hp:p.size=4)(hr:r.size=4)(ho:o.size=4):
 Fr w (((w.alloc (.cells p tp)).alloc (.cells r tr)).alloc (.cells o tr)) tp tr p.toList r.toList o.toList:=by
 have b1:Below w.heap.size w (w.alloc (.cells p tp)):=(aq _ _).alloc lR _;have c2:Below (w.alloc (.cells p tp)).heap.size (w.alloc (.cells p tp)) ((w.alloc (.cells p tp)).alloc (.cells r tr)):=(aq _ _).alloc lR _;have c3:Below ((w.alloc (.cells p tp)).alloc (.cells r tr)).heap.size ((w.alloc (.cells p tp)).alloc (.cells r tr)) (((w.alloc (.cells p tp)).alloc (.cells r tr)).alloc (.cells o tr)):=(aq _ _).alloc lR _;have r1:=cF (base:=w.heap.size) (e:=tp) (size:=4) w p 1 lR (by unfold maxLen;omega) (by omega);have r2:=cF (base:=w.heap.size) (e:=tr) (size:=4) (w.alloc (.cells p tp)) r 1 (by simp) (by unfold maxLen;omega) (by omega);have r3:=cF (base:=w.heap.size) (e:=tr) (size:=4) ((w.alloc (.cells p tp)).alloc (.cells r tr)) o 1 (by simp<;>omega) (by unfold maxLen;omega) (by omega);refine⟨Ah (Ah r1 c2 lR) c3 lR,?_,?_,(b1.trans (c2.mono (by simp))).trans (c3.mono (by simp<;>omega)),by simp<;>omega⟩
 . have:=Ah r2 c3 lR
   simpa using this
 . simpa using r3
theorem Fr.keep{w u u':World}{tp tr:TypeId}{p r o:List Value}(h:Fr w u tp tr p r o)(hb:Below u.heap.size u u'):Fr w u' tp tr p r o:=
 ⟨Ah h.par hb lR,Ah h.res hb lR,Ah h.loc hb lR,h.bel.trans (hb.mono (by have:=h.siz;omega)),aR h.siz hb.size⟩
theorem Fr.set{w u:World}{tp tr:TypeId}{p r o:List Value}(h:Fr w u tp tr p r o)(j:Nat)(x:Value):Fr w (u.setCell ⟨w.heap.size+1+1,j,none⟩ x) tp tr p r (o.set j x):=
 ⟨aN h.par (by simp[Value.ownBlock]<;>omega) x,aN h.res (by simp[Value.ownBlock]) x,(h.loc.stored j x).1,h.bel.setCell (by simp<;>omega) x,by have:=h.siz;simpa using this⟩
def CL(op:Int):Array Value:=if 0<=op/\op<=29 then(BR op.toNat).toArray else #[.string ⟨#[]⟩,.int .i64 0,.int .i64 0]
theorem K7(k:Nat)(hk:k<30):CL (k:Int)=(BR k).toArray:=by
 unfold CL;rw[bj (by omega)];rfl
theorem JJ{op:Int}(h:op<0\/29<op):CL op=#[.string ⟨#[]⟩,.int .i64 0,.int .i64 0]:=by
 unfold CL;rw[bX (by omega)]
theorem Ia(k:Nat)(hk:k<30):∃(s:ByteArray) (c f:Int),(BR k).toArray=#[.string s,.int .i64 c,.int .i64 f]:=by
 have h:k=0\/k=1\/k=2\/k=3\/k=4\/k=5\/k=6\/k=7\/k=8\/k=9\/k=10\/k=11\/k=12\/k=13\/k=14\/k=15\/k=16\/k=17\/k=18\/k=19\/k=20\/k=21\/k=22\/k=23\/k=24\/k=25\/k=26\/k=27\/k=28\/k=29:=by omega
 clear hk;rcases h with rfl|rfl|rfl|rfl|rfl|rfl|rfl|rfl|rfl|rfl|rfl|rfl|rfl|rfl|rfl|rfl|rfl|rfl|rfl|rfl|rfl|rfl|rfl|rfl|rfl|rfl|rfl|rfl|rfl|rfl<;>exact⟨_,_,_,rfl⟩
theorem M0(op:Int):∃(s:ByteArray) (c f:Int),CL op=#[.string s,.int .i64 c,.int .i64 f]:=by
 by_cases h:0<=op/\op<=29
 . unfold CL
   rw[bj h];exact Ia _ (by omega)
 . unfold CL
   rw[bX h];exact⟨_,_,_,rfl⟩
theorem Cr(op:Int)(w:World):Calls Tryz.prog 121 #[.int .i64 op] w fun e w'=>e=.returned (.agg (CL op))/\Below w.heap.size w w':=by
 by_cases h:op<0\/29<op
 . rw[JJ h]
   exact Pl op w h
 . obtain⟨k,rfl⟩:=aS (show 0<=op by omega)
   rw[K7 k (by omega)];exact Qj k (by omega) w
theorem NU(k:Nat)(hk:k<30)(w:World):(Instr.field 230 (.agg (Cy k)) 0).run Tryz.prog w=.ok (.agg (BR k).toArray) w:=by
 have h:k=0\/k=1\/k=2\/k=3\/k=4\/k=5\/k=6\/k=7\/k=8\/k=9\/k=10\/k=11\/k=12\/k=13\/k=14\/k=15\/k=16\/k=17\/k=18\/k=19\/k=20\/k=21\/k=22\/k=23\/k=24\/k=25\/k=26\/k=27\/k=28\/k=29:=by omega
 clear hk;rcases h with rfl|rfl|rfl|rfl|rfl|rfl|rfl|rfl|rfl|rfl|rfl|rfl|rfl|rfl|rfl|rfl|rfl|rfl|rfl|rfl|rfl|rfl|rfl|rfl|rfl|rfl|rfl|rfl|rfl|rfl<;>(show Sem.run _ _ _=Result.ok _ _;kernel_rfl)
theorem NV(w:World):(Instr.field 230 (.agg #[.string ⟨#[]⟩,.int .i64 0,.int .i64 0,.nilFunc]) 0).run Tryz.prog w=.ok (.agg #[.string ⟨#[]⟩,.int .i64 0,.int .i64 0]) w:=by kernel_rfl
theorem OE(op:Int)(row:Value)(s:ByteArray)(c f:Int)(hi:CL op=#[.string s,.int .i64 c,.int .i64 f])
 (hrow:∀w,Calls Tryz.prog 140 #[.int .i64 op] w fun e w'=>e=.returned row/\Below w.heap.size w w')
 (hf:∀w,(Instr.field 230 row 0).run Tryz.prog w=.ok (.agg #[.string s,.int .i64 c,.int .i64 f]) w) (w:World):
 Calls Tryz.prog 105 #[.int .i64 op] w fun e w'=>e=.returned (.agg (CL op))/\Below w.heap.size w w':=by
 have hz:=IJ;rw[hi];clear hi;have H:Hid (∀w,Calls Tryz.prog 140 #[.int .i64 op] w fun e w'=>e=.returned row/\Below w.heap.size w w'):=hrow
 clear hrow;go_enter Tryz.func105,Tryz.ntmps105;go_wp2_with (go_at_call 140;refine(H.o _).mono ?_;rintro e w1 ⟨rfl,hb⟩;have hrow:w1.heap[w.heap.size]?=some (.cells #[.string ⟨#[]⟩,.int .i64 0,.int .i64 0] 179):=(hb.block _ (by simp)).trans (dB _ _);have hc0:=cu w1 _ 0 _ _ _ hrow;have hc1:=cu w1 _ 1 _ _ _ hrow;have hc2:=cu w1 _ 2 _ _ _ hrow;have hz0:=frozen_of_row w1 _ 0 _ _ hrow;have hz1:=frozen_of_row w1 _ 1 _ _ hrow;have hz2:=frozen_of_row w1 _ 2 _ _ hrow;simp at hc0 hc1 hc2);refine aW (v:=.agg #[.string s,.int .i64 c,.int .i64 f]) (by simp[results,Tryz.results105,go_sem,hc0,hc1,hc2]) rfl ⟨rfl,?_⟩;exact((((((aq _ _).alloc lR _).trans (hb.mono (by simp))).setCell (by simp) _).setCell (by simp) _).setCell (by simp) _)
theorem Qf(op:Int)(w:World):Calls Tryz.prog 105 #[.int .i64 op] w fun e w'=>e=.returned (.agg (CL op))/\Below w.heap.size w w':=by
 by_cases h:op<0\/29<op
 . exact OE op _ _ _ _ (JJ h) (fun w=>PV op w h) NV w
 . obtain⟨k,rfl⟩:=aS (show 0<=op by omega)
   obtain⟨s,c,f,hs⟩:=Ia k (by omega);exact OE _ _ s c f ((K7 k (by omega)).trans hs) (fun w=>Rh k (by omega) w) (fun w=>by rw[<-hs];exact NU k (by omega) w) w
end Go.Proofs.YtjcamlobelcepaaGreatDoor
