import Derived.Test.YtjpobijiblcgaaaGreatFw0
import Derived.Test.YtjpobijiblcgaaaGreatFw3
import Derived.Test.YtjpobijiblcgaaaGreatFw2
import Derived.Test.YtjpobijiblcgaaaGreatFw1
namespace Go.Proofs.YtjpobijiblcgaaaGreat
open Go.ChangeShapes Go.WideShapes Go.ChangeAt Go.RowKit
set_option linter.unusedVariables false
set_option maxHeartbeats 2000000
set_option maxRecDepth 100000
structure LQ(f:MF):Prop where
 par:f.params.length<=8
 loc:f.params.length+f.locals.length<=32
 pt:f.params.all FC=true
 lt:f.locals.all FC=true
 res:f.result=0\/FC f.result=true
 code0:¬f.code.length=0
 code1:f.code.length<=1024
def Ob(f:MF):Prop:=f.params.length=0/\f.result=0
def BX(f:MF)(main:Bool):Prop:=LQ f/\(main=true->Ob f)
theorem Mi(v:VF)(f:MF)(main:Bool)(w:World)(hs:f.small)(h:Hq w v f):
 Calls Tryz.prog 95 #[.agg #[v.p,.int .i64 f.result,v.l,v.c],.bool main] w fun e w'=>AM e (BX f main)/\Below w.heap.size w w':=by
 have H1:Hid (Hq w v f/\f.small):=⟨h,hs⟩
 obtain⟨a1,c1,e1⟩:=h.1.is_slice;obtain⟨a2,c2,e2⟩:=h.2.1.is_slice;obtain⟨a3,c3,e3⟩:=h.2.2.is_slice;obtain⟨vp,vl,vc⟩:=v;obtain⟨s1,s2,s3⟩:=hs;simp only[]at e1 e2 e3;subst e1 e2 e3;clear h;have HB:Hid (Below w.heap.size w (w.alloc (.cells #[.slice a1 f.params.length c1,.int .i64 f.result,.slice a2 f.locals.length c2,.slice a3 f.code.length c3] 68))):=Aa _ _;by_cases q1:8<f.params.length
 . have HN:Hid (¬(BX f main)):=fun e=>absurd e.1.par (by omega)
   clear H1;generalize f.params.length=n1 at*;go_enter Tryz.func95,Tryz.ntmps95;go_wp2
   go_ret
   exact⟨.no HN.o,HB.o⟩
 by_cases q2:32<f.params.length+f.locals.length
 . have HN:Hid (¬(BX f main)):=fun e=>absurd e.1.loc (by omega)
   clear H1;generalize f.params.length=n1 at*;generalize f.locals.length=n2 at*;go_enter Tryz.func95,Tryz.ntmps95;go_wp2
   go_ret
   exact⟨.no HN.o,HB.o⟩
 have q1':¬(8:Int)<(f.params.length:Int):=by omega
 have q2':¬(32:Int)<(f.params.length:Int)+(f.locals.length:Int):=by omega
 have HQ:Hid (f.params.length<=8/\f.params.length+f.locals.length<=32):=⟨by omega,by omega⟩
 go_enter Tryz.func95,Tryz.ntmps95;go_wp2_with fail
 refine(FE _ f.params _ H1.o.2.1 (H1.o.1.1.keep HB.o lR)).mono ?_;rintro e u ⟨rfl,rfl⟩;cases t1:f.params.all FC
 . have HN:Hid (¬(BX f main)):=fun e=>by have:=e.1.pt;simp[t1]at this
   clear t1;go_wp2
   go_ret
   exact⟨.no HN.o,HB.o⟩
 have HT1:Hid (f.params.all FC=true):=t1;clear t1;go_wp2_with fail
 refine(FE _ f.locals _ H1.o.2.2.1 (H1.o.1.2.1.keep HB.o lR)).mono ?_;rintro e u ⟨rfl,rfl⟩;cases t1:f.locals.all FC
 . have HN:Hid (¬(BX f main)):=fun e=>by have:=e.1.lt;simp[t1]at this
   clear t1;go_wp2
   go_ret
   exact⟨.no HN.o,HB.o⟩
 have HT2:Hid (f.locals.all FC=true):=t1;clear t1;generalize hR:f.result=R at*;generalize h1:f.params.length=n1 at*;generalize h3:f.code.length=n3 at*;have HE:Hid (f.result=R/\f.params.length=n1/\f.code.length=n3):=⟨hR,h1,h3⟩
 clear hR h1 h3 q1 q2;by_cases q3:R=0
 . subst q3
   by_cases q4:n3=0
   . subst q4
     have HN:Hid (¬(BX f main)):=fun e=>e.1.code0 HE.o.2.2
     go_wp2
     go_ret
     exact⟨.no HN.o,HB.o⟩
   have q4':((n3:Int)==0)=false:=by simpa using q4
   by_cases q5:1024<n3
   . have q5':(1024:Int)<(n3:Int):=by omega
     have HN:Hid (¬(BX f main)):=fun e=>absurd e.1.code1 (by rw[HE.o.2.2];omega)
     go_wp2
     go_ret
     exact⟨.no HN.o,HB.o⟩
   have q5':¬(1024:Int)<(n3:Int):=by omega
   cases main
   . have HY:Hid (BX f false):=⟨⟨by rw[HE.o.2.1];exact HQ.o.1,by rw[HE.o.2.1];exact HQ.o.2,HT1.o,HT2.o,.inl HE.o.1,by rw[HE.o.2.2];exact q4,by rw[HE.o.2.2];omega⟩,fun h=>by cases h⟩
     go_wp2
     go_ret
     exact⟨.yes HY.o,HB.o⟩
   . by_cases q6:n1=0
     . subst q6
       have HY:Hid (BX f true):=⟨⟨by rw[HE.o.2.1];exact HQ.o.1,by rw[HE.o.2.1];exact HQ.o.2,HT1.o,HT2.o,.inl HE.o.1,by rw[HE.o.2.2];exact q4,by rw[HE.o.2.2];omega⟩,fun _=>⟨HE.o.2.1,HE.o.1⟩⟩;go_wp2;go_ret;exact⟨.yes HY.o,HB.o⟩
     . have q6':((n1:Int)==0)=false:=by simpa using q6
       have HN:Hid (¬(BX f true)):=fun e=>q6 (by rw[<-HE.o.2.1];exact(e.2 rfl).1)
       go_wp2
       go_ret
       exact⟨.no HN.o,HB.o⟩
 . have q3':(R==0)=false:=by simpa using q3
   go_wp2_with fail
   refine(Dv R _).mono ?_;rintro e u ⟨rfl,rfl⟩;cases t1:FC R
   . have HN:Hid (¬(BX f main)):=fun e=>by have:=e.1.res;rw[HE.o.1]at this;simp[q3,t1]at this
     go_wp2
     go_ret
     exact⟨.no HN.o,HB.o⟩
   have HT3:Hid (FC R=true):=t1;clear t1;by_cases q4:n3=0
   . subst q4
     have HN:Hid (¬(BX f main)):=fun e=>e.1.code0 HE.o.2.2
     go_wp2
     go_ret
     exact⟨.no HN.o,HB.o⟩
   have q4':((n3:Int)==0)=false:=by simpa using q4
   by_cases q5:1024<n3
   . have q5':(1024:Int)<(n3:Int):=by omega
     have HN:Hid (¬(BX f main)):=fun e=>absurd e.1.code1 (by rw[HE.o.2.2];omega)
     go_wp2
     go_ret
     exact⟨.no HN.o,HB.o⟩
   have q5':¬(1024:Int)<(n3:Int):=by omega
   cases main
   . have HY:Hid (BX f false):=⟨⟨by rw[HE.o.2.1];exact HQ.o.1,by rw[HE.o.2.1];exact HQ.o.2,HT1.o,HT2.o,.inr (by rw[HE.o.1];exact HT3.o),by rw[HE.o.2.2];exact q4,by rw[HE.o.2.2];omega⟩,fun h=>by cases h⟩
     go_wp2
     go_ret
     exact⟨.yes HY.o,HB.o⟩
   . by_cases q6:n1=0
     . subst q6
       have HN:Hid (¬(BX f true)):=fun e=>q3 (by rw[<-HE.o.1];exact(e.2 rfl).2)
       go_wp2
       go_ret
       exact⟨.no HN.o,HB.o⟩
     . have q6':((n1:Int)==0)=false:=by simpa using q6
       have HN:Hid (¬(BX f true)):=fun e=>q6 (by rw[<-HE.o.2.1];exact(e.2 rfl).1)
       go_wp2
       go_ret
       exact⟨.no HN.o,HB.o⟩
section
variable {P:Program} {ops:Array Oper} {Q:Exit->Act->World->Prop} {md:Region.Mode} {S:World->Prop} {n f:Nat} {d:Array Bool} {a:Act} {w:World}
def Rr(md:Region.Mode)(ops:Array Oper)(d:Array Bool)(i:Nat):Bool:=Region.noSelect ops&&Region.free md ops d i&&(Region.ready md ops d).contains i
theorem Pf{i:Nat}(h:Rr md ops d i=true):Region.noSelect ops=true/\Region.free md ops d i=true/\(Region.ready md ops d).contains i=true:=by
 simp only[Rr,du]at h;exact⟨h.1.1,h.1.2,h.2⟩
theorem Ak(i:Nat){oi:Oper}{v:Value}(h:wpAnyH P md ops Q S f (d.setIfInBounds i true) (a.put oi.dst v) w)(hi:ops[i]?=some oi:=by rfl)(hb:Rr md ops d i=true:=by kernel_rfl)(hQ:∀c a w,Q (.panic c) (a.put oi.dst v) w->Q (.panic c) a w:=by exact fun _ _ _ h=>h)(hw:Region.wanted oi (yielded ops a.tmps)=true:=by rfl)
 (hy:∀w,S w->(execOp a.eval oi).run P w=.ok (.value v) w:=by(intro w hSw;(try dsimp only at hSw);(repeat obtain⟨hSa,hSw⟩:=hSw);go_simp;(try with_reducible rfl))) (hS:S w:=by assumption):wpAnyH P md ops Q S (f+1) d a w:=
 have k:=Pf hb
 wpAnyH_take hi k.1 k.2.1 k.2.2 hQ (.inl ⟨hw,hy⟩) hS h
theorem Kk(i:Nat){oi:Oper}(h:wpAnyH P md ops Q S f (d.setIfInBounds i true) (a.put oi.dst undef) w)(hi:ops[i]?=some oi:=by rfl)(hb:Rr md ops d i=true:=by kernel_rfl)(hQ:∀c a w,Q (.panic c) (a.put oi.dst undef) w->Q (.panic c) a w:=by exact fun _ _ _ h=>h)(hw:Region.wanted oi (yielded ops a.tmps)=false:=by rfl)(hS:S w:=by assumption):wpAnyH P md ops Q S (f+1) d a w:=
 have k:=Pf hb
 wpAnyH_take hi k.1 k.2.1 k.2.2 hQ (.inr ⟨hw,rfl⟩) hS h
theorem BM(i:Nat){oi:Oper}{v:Value}(h:CV P md ops Q S n f (d.setIfInBounds i true) (a.put oi.dst v) w)(hi:ops[i]?=some oi:=by rfl)(hb:(Rr md ops d i&&M0 md ops n d&&decide (i<n))=true:=by kernel_rfl)(hQ:∀c a w,Q (.panic c) (a.put oi.dst v) w->Q (.panic c) a w:=by exact fun _ _ _ h=>h)(hw:Region.wanted oi (yielded ops a.tmps)=true:=by rfl)
 (hy:∀w,S w->(execOp a.eval oi).run P w=.ok (.value v) w:=by(intro w hSw;(try dsimp only at hSw);(repeat obtain⟨hSa,hSw⟩:=hSw);go_simp;(try with_reducible rfl))) (hS:S w:=by assumption):CV P md ops Q S n (f+1) d a w:=
 have k0:=Bool.and_eq_true_iff.1 hb
 have k1:=Bool.and_eq_true_iff.1 k0.1
 have k:=Pf k1.1
 LG hi k.1 k.2.1 k.2.2 k1.2 (eJ k0.2) hQ (.inl ⟨hw,hy⟩) hS h
theorem rdH(i:Nat){o:Oper}(h:∀K':Act->World->Prop,Shut (∀a w,S w->(S w->wpAnyH P md ops Q S f (d.setIfInBounds i true) a w)->K' a w)->if Region.wanted o (yielded ops a.tmps)=true then Oper.wp P o a w K' Q else K' (a.put o.dst undef) w)(hr:Region.ready md ops d=[i]:=by kernel_rfl)(ho:ops[i]?=some o:=by rfl):wpAnyH P md ops Q S (f+1) d a w:=
 wpAnyH_ready hr (by simp) (AllReadyH.cons ho h AllReadyH.nil)
theorem DQ(i:Nat){o:Oper}(h:∀K':Act->World->Prop,Shut (∀a w,(i<n->S w)->((i<n->S w)->CV P md ops Q S n f (d.setIfInBounds i true) a w)->K' a w)->if Region.wanted o (yielded ops a.tmps)=true then Oper.wp P o a w K' Q else K' (a.put o.dst undef) w)(hr:Region.ready md ops d=[i]:=by kernel_rfl)(ho:ops[i]?=some o:=by rfl):CV P md ops Q S n (f+1) d a w:=
 Fm hr (by simp) (BO.cons ho h BO.nil)
end
theorem _root_.Go.Shut.o{p:Prop}(h:Shut p):p:=h
def Ps(w:World)(v:Value)(f:MB):Prop:=Rd w 1 v f.next.length (f.next.flatMap Ab)
theorem Ps.keep{w w':World}{v:Value}{f:MB}(h:Ps w v f){B:Nat}(hb:Below B w w')(hB:w.heap.size<=B):Ps w' v f:=Rd.keep h hb hB
def Ha(w:World)(s:Value)(fs:List MB):Prop:=∃xs:List (MB×Value),xs.map Prod.fst=fs/\Rd w 3 s fs.length (xs.flatMap Cg)/\∀x∈xs,Ps w x.2 x.1
theorem Ha.keep{w w':World}{s:Value}{fs:List MB}(h:Ha w s fs){B:Nat}(hb:Below B w w')(hB:w.heap.size<=B):Ha w' s fs:=by
 obtain⟨xs,h1,h2,h3⟩:=h;exact⟨xs,h1,h2.keep hb hB,fun x hx=>(h3 x hx).keep hb hB⟩
structure Cv where
 S:Nat
 a:Option Addr
 len:Nat
 cap:Nat
theorem AC.grow{g:Nat}{w w':World}(h:AC g w w'):w.grownBy w' (some g):=⟨h.os,h.tape,h.output,h.size,fun k hk hne=>h.block k hk (fun e=>hne (by rw[e]))⟩
theorem AC.setCell{g:Nat}{w u:World}(h:AC g w u){a:Addr}(ha:w.heap.size<=a.block)(x:Value):AC g w (u.setCell a x):=
 ⟨h.os,h.tape,h.output,by rw[bX];exact h.size,fun k hk hg=>(bO u a k x (by omega)).trans (h.block k hk hg)⟩
theorem AC.grown{g:Nat}{w u u':World}(h:AC g w u){r:Option Nat}(hg:u.grownBy u' r)(hr:∀k,r=some k->w.heap.size<=k):AC g w u':=
 ⟨hg.os.trans h.os,hg.tape.trans h.tape,hg.output.trans h.output,aY h.size hg.size,fun k hk hk'=>(hg.block k (bx hk h.size) (fun e=>by have:=hr k e.symm;omega)).trans (h.block k hk hk')⟩
structure LL(w u:World)(s:Cv)(p:Int):Prop where
 drw:AC s.S w u
 src:CU u s.S s.a s.len s.cap p
 lo:s.S<w.heap.size
section
variable {w u u':World} {s:Cv} {p p':Int}
theorem LL.size(h:LL w u s p):w.heap.size<=u.heap.size:=h.drw.size
theorem LL.on(h:LL w u s p)(hb:Below u.heap.size u u'):LL w u' s p:=⟨h.drw.trans (.of_below hb),h.src.below hb,h.lo⟩
theorem LL.draw(h:LL w u s p)(hs:CU u' s.S s.a s.len s.cap p')(hd:AC s.S u u'):LL w u' s p':=⟨h.drw.trans hd,hs,h.lo⟩
theorem LL.setCell(h:LL w u s p){a:Addr}(ha:w.heap.size<=a.block)(x:Value):LL w (u.setCell a x) s p:=
 ⟨h.drw.setCell ha x,h.src.keep fun k hk=>bO u a k x (by have:=h.lo;omega),h.lo⟩
theorem LL.grown(h:LL w u s p){r:Option Nat}(hg:u.grownBy u' r)(hr:∀k,r=some k->w.heap.size<=k):LL w u' s p:=
 ⟨h.drw.grown hg hr,h.src.keep fun k hk=>hg.block k (by have:=h.lo;have:=h.size;omega) (fun e=>by have:=hr k e.symm;have:=h.lo;omega),h.lo⟩
end
theorem Eb.drawn{w u u':World}{g:Nat}{L:List Av}(h:Eb u w.heap.size L)(hd:AC g u u')(hg:g<w.heap.size):Eb u' w.heap.size L:=
 ⟨fun r hr=>AW (h.own r hr) hd.grow (fun b hb e=>by have:=(h.lt r hr b hb).1;simp only[aJ]at e;omega),h.sep⟩
structure Bs(w u:World)(s:Cv)(p:Int)(Ls:List Av):Prop where
 sep:Eb u w.heap.size Ls
 bel:LL w u s p
section
variable {w u u':World} {s:Cv} {p:Int} {Ls:List Av} {v:VP} {F:List (List Int×Value)} {cs:List MC} {G:List (MF×VF)} {ts:List MT} {D:List Av}
theorem Bs.start(h:LL w u s p):Bs w u s p []:=⟨Eb.nil _ _,h⟩
theorem Bs.draw{p':Int}(h:Bs w u s p Ls)(hs:CU u' s.S s.a s.len s.cap p')(hd:AC s.S u u'):Bs w u' s p' Ls:=⟨h.sep.drawn hd h.bel.lo,h.bel.draw hs hd⟩
theorem Bs.size(h:Bs w u s p Ls):w.heap.size<=u.heap.size:=h.bel.size
theorem Bs.keep(h:Bs w u s p Ls)(hb:Below u.heap.size u u'):Bs w u' s p Ls:=⟨h.sep.keep hb,h.bel.on hb⟩
theorem Bs.box(h:Bs w u s p Ls)(t:TypeId)(q:Nat)(xs:List Value)(hk:xs.length=q):Bs w (u.alloc (.cells xs.toArray t)) s p (Ls++[BG u.heap.size t q xs]):=⟨h.sep.box h.size t q xs hk,h.bel.on (Aa _ _)⟩
theorem Bs.rows(h:Bs w u s p Ls)(hb:Below u.heap.size u u'){M:List Av}(hs:Eb u' u.heap.size M):Bs w u' s p (Ls++M):=
 ⟨(h.keep hb).sep.app hs (fun x hx g hgx=>(h.sep.lt x hx g hgx).2) h.size,(h.keep hb).bel⟩
theorem Bs.row(h:Bs w u s p Ls)(hb:Below u.heap.size u u'){r:Av}(ho:r.own u' u.heap.size):Bs w u' s p (Ls++[r]):=
 h.rows hb ⟨fun x hx=>by rw[am.1 hx];exact ho,fA _ _⟩
theorem Bs.set{A C:List Av}{X:Nat}{t:TypeId}{q:Nat}{xs:List Value}(h:Bs w u s p (A++BG X t q xs::C))(i:Nat)(hi:i<q)(x:Value):Bs w (u.setCell ⟨X,i,none⟩ x) s p (A++BG X t q (xs.set i x)::C):=
 ⟨h.sep.setBox i hi x,h.bel.setCell ((h.sep.lt (BG X t q xs) (by simp) X rfl).1) _⟩
theorem Bs.grow{A C:List Av}{r:Av}(h:Bs w u s p (A++r::C))(r':Av)(ho:r'.own u' w.heap.size)(hg:u.grownBy u' r.v.ownBlock)(hat:r'.v.ownBlock=r.v.ownBlock\/∀g,r'.v.ownBlock=some g->u.heap.size<=g):Bs w u' s p (A++r'::C):=
 ⟨h.sep.grow r' ho hg hat,h.bel.grown hg (fun k hk=>(h.sep.lt r (by simp) k hk).1)⟩
theorem Bs.app{A C:List Av}{r:Av}(h:Bs w u s p (A++r::C))(r':Av)(ho:r'.own u' w.heap.size)(hg:u.grownBy u' r.v.ownBlock)(hat:r'.v.ownBlock=r.v.ownBlock\/r'.v.ownBlock=some u.heap.size):Bs w u' s p (A++r'::C):=
 h.grow r' ho hg (hat.imp_right fun e g hg=>by rw[e]at hg;cases hg;exact Nat.le_refl _)
theorem Bs.sub{M:List Av}(h:Bs w u s p Ls)(hs:M.Sublist Ls):Bs w u s p M:=⟨h.sep.sub hs,h.bel⟩
theorem Bs.perm{M:List Av}(h:Bs w u s p Ls)(hs:Ls.Perm M):Bs w u s p M:=⟨h.sep.perm hs,h.bel⟩
theorem Bs.nil(h:Bs w u s p Ls)(e:TypeId)(q:Nat):Bs w u s p (Ls++[⟨e,q,sN,0,[]⟩]):=
 ⟨h.sep.snoc (N:=u.heap.size) (fun x hx g hg=>(h.sep.lt x hx g hg).2) (ba _ _ _ _) h.size,h.bel⟩
theorem Bs.cell{X:Nat}{t:TypeId}{q:Nat}{xs:List Value}(h:Bs w u s p Ls)(hm:BG X t q xs∈Ls)(i:Nat)(hi:i<q):u.cell? ⟨X,i,none⟩=xs[i]?:=BG.cell (h.sep.own _ hm) i hi
theorem Bs.frozen{X:Nat}{t:TypeId}{q:Nat}{xs:List Value}(h:Bs w u s p Ls)(hm:BG X t q xs∈Ls)(i:Nat):u.frozen? ⟨X,i,none⟩=false:=bz (show u.ownsRow w.heap.size t q (sG X 1 1) 1 xs from h.sep.own _ hm) i
theorem Bs.push_n{vc:Value}{code:List MI}(h:Bs w u s p (Ae v F cs G ts (AK vc code::D)))(xs:List MI)(V:Value)(ho:u'.ownsRow w.heap.size 43 4 V (code.length+xs.length) (code.flatMap MI.cells++xs.flatMap MI.cells))(hg:u.grownBy u' vc.ownBlock)(hat:V.ownBlock=vc.ownBlock\/V.ownBlock=some u.heap.size):Bs w u' s p (Ae v F cs G ts (AK V (code++xs)::D)):=by
 rw[CP]at h⊢;exact h.app (AK V (code++xs)) (by simpa[Av.own,AK]using ho) hg hat
theorem Bs.push_c(h:Bs w u s p (Ae v F cs G ts D))(x:MC)(V:Value)(ho:u'.ownsRow w.heap.size 102 2 V (cs.length+1) (cs.flatMap MC.cells++x.cells))(hg:u.grownBy u' v.k.ownBlock)(hat:V.ownBlock=v.k.ownBlock\/V.ownBlock=some u.heap.size):Bs w u' s p (Ae {v with k:=V} F (cs++[x]) G ts D):=
 Bs.app (A:=BR v.r F::Bv F) h (CQ V (cs++[x])) (by simpa[Av.own,CQ]using ho) hg hat
theorem Bs.push_f{y:MF×VF}(h:Bs w u s p (Ae v F cs G ts D++BQ y))(V:Value)(ho:u'.ownsRow w.heap.size 68 4 V (G.length+1) (G.flatMap AN++AN y))(hg:u.grownBy u' v.f.ownBlock)(hat:V.ownBlock=v.f.ownBlock\/V.ownBlock=some u.heap.size):Bs w u' s p (Ae {v with f:=V} F cs (G++[y]) ts D):=by
 have h1:Bs w u s p ((BR v.r F::Bv F++[CQ v.k cs])++A4 v.f G::(A6 G++(BQ y++(Cu v.t ts::D)))):=h.perm (by
  simp only[Ae,ah,cJ,bL];refine .cons _ (List.Perm.append_left _ (.cons _ (.cons _ (List.Perm.append_left _ ?_))));exact(eH (l₁:=Cu v.t ts::D) (l₂:=BQ y)))
 have h2:=h1.app (A4 V (G++[y])) (by simpa[Av.own,A4]using ho) hg hat;have e:(BR v.r F::Bv F++[CQ v.k cs])++A4 V (G++[y])::(A6 G++(BQ y++(Cu v.t ts::D)))=Ae {v with f:=V} F cs (G++[y]) ts D:=by simp[Ae,KJ,List.append_assoc]
 rwa [e]at h2
theorem Bs.push_t(h:Bs w u s p (Ae v F cs G ts D))(x:MT)(V:Value)(ho:u'.ownsRow w.heap.size 118 4 V (ts.length+1) (ts.flatMap MT.cells++x.cells))(hg:u.grownBy u' v.t.ownBlock)(hat:V.ownBlock=v.t.ownBlock\/V.ownBlock=some u.heap.size):Bs w u' s p (Ae {v with t:=V} F cs G (ts++[x]) D):=by
 have h1:Bs w u s p ((BR v.r F::Bv F++(CQ v.k cs::(A4 v.f G::A6 G)))++Cu v.t ts::D):=by simpa[Ae,List.append_assoc]using h
 have h2:=h1.app (Cu V (ts++[x])) (by simpa[Av.own,Cu]using ho) hg hat;have e:(BR v.r F::Bv F++(CQ v.k cs::(A4 v.f G::A6 G)))++Cu V (ts++[x])::D=Ae {v with t:=V} F cs G (ts++[x]) D:=by simp[Ae,List.append_assoc]
 rwa [e]at h2
theorem Bs.setp{X:Nat}{t:TypeId}{q:Nat}{xs:List Value}{E:List Av}(h:Bs w u s p (Ae v F cs G ts (D++BG X t q xs::E)))(i:Nat)(hi:i<q)(x:Value):Bs w (u.setCell ⟨X,i,none⟩ x) s p (Ae v F cs G ts (D++BG X t q (xs.set i x)::E)):=by
 rw[Fj]at h⊢;exact h.set i hi x
theorem As{r:Av}(h:r∈D):r∈Ae v F cs G ts D:=by simp[Ae,h]
theorem Bs.prow(h:Bs w u s p (Ae v F cs G ts D)):(∃a1 c1 a2 c2 a3 c3 a4 c4,v=⟨.slice a1 F.length c1,.slice a2 cs.length c2,.slice a3 G.length c3,.slice a4 ts.length c4⟩)/\u.ownsRow w.heap.size 26 1 v.r F.length (F.flatMap BL)/\u.ownsRow w.heap.size 102 2 v.k cs.length (cs.flatMap MC.cells)/\u.ownsRow w.heap.size 68 4 v.f G.length (G.flatMap AN)/\u.ownsRow w.heap.size 118 4 v.t ts.length (ts.flatMap MT.cells):=by
 refine⟨?_,h.sep.own (BR v.r F) (by simp[Ae]),h.sep.own (CQ v.k cs) (by simp[Ae]),h.sep.own (A4 v.f G) (by simp[Ae]),h.sep.own (Cu v.t ts) (by simp[Ae])⟩;obtain⟨v1,v2,v3,v4⟩:=v;obtain⟨a1,c1,e1⟩:∃a c,v1=.slice a F.length c:=BJ (h.sep.own (BR v1 F) (by simp[Ae]));obtain⟨a2,c2,e2⟩:∃a c,v2=.slice a cs.length c:=BJ (h.sep.own (CQ v2 cs) (by simp[Ae]));obtain⟨a3,c3,e3⟩:∃a c,v3=.slice a G.length c:=BJ (h.sep.own (A4 v3 G) (by simp[Ae]));obtain⟨a4,c4,e4⟩:∃a c,v4=.slice a ts.length c:=BJ (h.sep.own (Cu v4 ts) (by simp[Ae]));exact⟨a1,c1,a2,c2,a3,c3,a4,c4,by rw[e1,e2,e3,e4]⟩
theorem Bs.set_n{vc:Value}{g:Nat}{n cap:Nat}{code code':List MI}(hv:vc=sG g code.length cap)(hl:code'.length=code.length)(h:Bs w u s p (Ae v F cs G ts (AK vc code::D)))(i:Nat)(x:Value)(hx:(code.flatMap MI.cells).set i x=code'.flatMap MI.cells):Bs w (u.setCell ⟨g,i,none⟩ x) s p (Ae v F cs G ts (AK vc code'::D)):=by
 subst hv;rw[CP]at h⊢;have ho:u.ownsRow w.heap.size 43 4 (sG g code.length cap) code.length (code.flatMap MI.cells):=h.sep.own (AK (sG g code.length cap) code) (by simp);have hs:=ho.stored i x;have hlt:=(ho.lt g rfl).1;have:=h.sep.put (A:=Ae v F cs G ts []) (r:=AK (sG g code.length cap) code) (code'.flatMap MI.cells) (by rw[<-hx];exact hs.1) (D2 (⟨rfl,rfl,rfl,Nat.le_refl _,fun _ _ _=>rfl⟩:u.grownBy u (some g)) i x);refine⟨?_,h.bel.setCell hlt _⟩;simpa[AK,hl]using this
theorem Bs.nrow{vc:Value}{code:List MI}(h:Bs w u s p (Ae v F cs G ts (AK vc code::D))):(∃a c,vc=.slice a code.length c)/\u.ownsRow w.heap.size 43 4 vc code.length (code.flatMap MI.cells):=⟨BJ (h.sep.own (AK vc code) (by simp[Ae])),h.sep.own (AK vc code) (by simp[Ae])⟩
end
def AG(x:MI):Bool:=decide (x.op=25)||decide (x.op=26)||decide (x.op=27)
def Eg(x:MI):Bool:=decide (¬x.op=25)&&decide (¬x.op=29)
def AD(xs:List MI):Prop:=1<=xs.length/\xs.length<=1024/\∀(i:Nat) (x:MI),xs[i]?=some x->AG x=true->0<=x.c/\x.c<(xs.length:Int)
def Ef(x:MI)(i j:Nat):Bool:=(AG x&&decide (x.c=(j:Int)))||((AG x||decide (x.op=29))&&decide (j=i+1))
def BD(xs:List MI)(k j:Nat):Bool:=decide (j=0)||(List.range k).any fun i=>match xs[i]? with|some x=>Ef x i j|none=>false
theorem Fh(xs:List MI)(k:Nat):BD xs k 0=true:=by simp[BD]
theorem Hu(xs:List MI)(j:Nat):BD xs 0 j=decide (j=0):=by simp[BD]
theorem Dw(xs:List MI)(k j:Nat)(x:MI)(hx:xs[k]?=some x):BD xs (k+1) j=(BD xs k j||Ef x k j):=by
 simp[BD,List.range_succ,hx,Bool.or_assoc]
theorem GT(xs:List MI)(k i j:Nat)(x:MI)(hi:i<k)(hx:xs[i]?=some x)(h:Ef x i j=true):BD xs k j=true:=by
 simp only[BD,Bool.or_eq_true,List.any_eq_true,c6];exact .inr ⟨i,hi,by rw[hx];exact h⟩
def CA(xs:List MI)(i:Nat):List Nat:=(List.range i).filter (BD xs xs.length)
theorem IF(xs:List MI)(i:Nat):CA xs (i+1)=if BD xs xs.length i=true then CA xs i++[i]else CA xs i:=by
 unfold CA;rw[dL,dH];by_cases h:BD xs xs.length i=true
 . simp[h]
 . simp[h]
theorem Co(xs:List MI)(i j:Nat):j∈CA xs i↔j<i/\BD xs xs.length j=true:=by simp[CA]
theorem C8(xs:List MI)(i:Nat):(CA xs i).Pairwise (· < ·):=List.Pairwise.filter _ dt
theorem Gt(xs:List MI)(i:Nat)(h:0<i):CA xs i≠[]:=fun e=>by
 have:=(Co xs i 0).2 ⟨h,Fh _ _⟩;rw[e]at this;cases this
theorem NE(xs:List MI)(i n:Nat)(h:i<=n):∃r,CA xs n=CA xs i++r:=by
 induction n with
 | zero=>
   obtain rfl:i=0:=by omega
   exact⟨[],by simp⟩
 | succ n ih=>
   by_cases hi:i=n+1
   . subst hi
     exact⟨[],by simp⟩
   . obtain⟨r,hr⟩:=ih (by omega)
     rw[IF,hr];split
     . exact⟨r++[n],by simp⟩
     . exact⟨r,rfl⟩
theorem PR(xs:List MI)(p n:Nat)(hp:p<n)(hl:BD xs xs.length p=true):(CA xs n).idxOf p=(CA xs p).length/\(CA xs (p+1)).length=(CA xs p).length+1:=by
 have h1:=IF xs p;rw[cD hl]at h1;obtain⟨r,hr⟩:=NE xs (p+1) n hp;refine⟨?_,by rw[h1];simp⟩;rw[hr,h1,cJ,List.idxOf_append,bu (by rw[Co];omega)];simp
theorem PS(xs:List MI)(p q n:Nat)(hp:p<n)(hq:q<n)(hlp:BD xs xs.length p=true)(hlq:BD xs xs.length q=true)(h:(CA xs n).idxOf p=(CA xs n).idxOf q):p=q:=by
 have h1:p∈CA xs n:=(Co _ _ _).2 ⟨hp,hlp⟩;have h2:q∈CA xs n:=(Co _ _ _).2 ⟨hq,hlq⟩;have e1:=List.getElem_idxOf (dk.2 h1);have e2:=List.getElem_idxOf (dk.2 h2);rw[<-e1,<-e2];congr 1
def Ie(bs:List MB)(i:Int):List MB:=match bs.getLast? with|some b=>bs.dropLast++[⟨b.first,i,b.next⟩]|none=>[]
theorem DR(bs:List MB)(b:MB)(i:Int):Ie (bs++[b]) i=bs++[⟨b.first,i,b.next⟩]:=by simp[Ie]
def A8(xs:List MI):Nat->List MB
 |0=>[]
 |i+1=>Ie (if BD xs xs.length i=true then A8 xs i++[⟨i,0,[]⟩]else A8 xs i) i
def build(L:List Nat)(e:Nat):List MB:=List.zipWith (fun(a b:Nat)=>(⟨(a:Int),(b:Int)-1,[]⟩:MB)) L (L.tail++[e])
theorem Gm(L:List Nat)(i e:Nat)(h:L≠[]):build (L++[i]) e=build L i++[⟨(i:Int),(e:Int)-1,[]⟩]:=by
 unfold build
 rw[List.tail_append_of_ne_nil h,cJ,show(L.tail++([i]++[e]))=(L.tail++[i])++[e]by simp,List.zipWith_append (by
  cases L with
  |nil=>exact absurd rfl h
  |cons a r=>simp)]
 rfl
theorem Cb(xs:List MI)(i:Nat):A8 xs i=build (CA xs i) i:=by
 induction i with
 |zero=>rfl
 | succ i ih=>
   simp only[A8];rw[IF];by_cases h:BD xs xs.length i=true
   . rw[cD h,cD h,DR]
     by_cases h0:i=0
     . subst h0
       simp[A8,CA,build]
     . rw[Gm _ _ _ (Gt xs i (by omega)),ih]
       simp
   . rw[bu h,bu h]
     have h0:0<i:=by
      cases i with
      |zero=>exact absurd (Fh _ _) h
      |succ i=>omega
     obtain⟨M,a,hM⟩:∃M a,CA xs i=M++[a]:=⟨_,_,(List.dropLast_concat_getLast (Gt xs i h0)).symm⟩;rw[ih,hM];cases M with
     |nil=>simp[build,Ie]
     | cons m M=>
       rw[Gm _ _ _ (by simp),Gm _ _ _ (by simp),DR];simp
theorem GG(L:List Nat)(e:Nat):(build L e).length=L.length:=by
 unfold build;cases L with
 |nil=>rfl
 |cons a r=>simp
theorem BI(xs:List MI)(i:Nat):(A8 xs i).length=(CA xs i).length:=by rw[Cb,GG]
def AO(xs:List MI)(i:Nat):Int:=((CA xs (i+1)).length:Int)-1
theorem D7(xs:List MI)(p n:Nat)(hp:p<n)(hl:BD xs xs.length p=true):AO xs p=((CA xs n).idxOf p:Int):=by
 have:=PR xs p n hp hl;unfold AO;omega
theorem OW(xs:List MI)(p q n:Nat)(hp:p<n)(hq:q<n)(hlp:BD xs xs.length p=true)(hlq:BD xs xs.length q=true):AO xs p=AO xs q↔p=q:=by
 rw[D7 xs p n hp hlp,D7 xs q n hq hlq];exact⟨fun h=>PS xs p q n hp hq hlp hlq (by omega),fun h=>by rw[h]⟩
def AU(xs:List MI)(x:MI)(e:Nat):List Int:=
 (if Eg x=true/\e+1<xs.length then[((e+1:Nat):Int)]else[])++(if AG x=true/\¬(Eg x=true/\e+1<xs.length/\x.c=((e+1:Nat):Int))then[x.c]else[])
def Ds(xs:List MI)(x:MI)(e:Nat):List Int:=
 let n1:=if Eg x=true/\e+1<xs.length then[AO xs (e+1)]else[]
 n1++(if AG x=true/\(n1=[]\/¬n1=[AO xs x.c.toNat])then[AO xs x.c.toNat]else[])
theorem Iq(L:List Nat)(n b e:Nat)(m:MB)(h:(build L n)[b]?=some m)(he:m.last=(e:Int))(hn:e+1<n):e+1∈L:=by
 unfold build at h;rw[dS]at h;cases h1:L[b]? with
 |none=>rw[h1]at h;simp at h
 | some a=>
   cases h2:(L.tail++[n])[b]? with
   |none=>rw[h1,h2]at h;simp at h
   | some q=>
     rw[h1,h2]at h;simp only[aJ]at h;subst h;simp only[]at he;have hq:q=e+1:=by omega
     subst hq;have:=aE h2;rcases aS.1 this with h3|h3
     . exact eM h3
     . simp at h3
       omega
theorem Jz(xs:List MI)(b e:Nat)(x:MI)(m:MB)(hg:AD xs)(hb:(A8 xs xs.length)[b]?=some m)(he:m.last=(e:Int))(hx:xs[e]?=some x):Ds xs x e=(AU xs x e).map fun p=>((CA xs xs.length).idxOf p.toNat:Int):=by
 have hen:e<xs.length:=(aD.1 hx).1;rw[Cb]at hb;have hl1:e+1<xs.length->BD xs xs.length (e+1)=true:=fun h=>((Co _ _ _).1 (Iq _ _ _ _ _ hb he h)).2
 have hl2:AG x=true->x.c.toNat<xs.length/\BD xs xs.length x.c.toNat=true/\(x.c.toNat:Int)=x.c:=fun h=>by
  obtain⟨h1,h2⟩:=hg.2.2 e x hx h;have h3:(x.c.toNat:Int)=x.c:=d7 h1;exact⟨by omega,GT xs _ e _ x hen hx (by simp[Ef,h,h3]),h3⟩
 unfold Ds AU;by_cases h1:Eg x=true/\e+1<xs.length
 . have n1:=D7 xs (e+1) xs.length h1.2 (hl1 h1.2)
   simp only[cD h1];by_cases h2:AG x=true
   . obtain⟨c1,c2,c3⟩:=hl2 h2
     have n2:=D7 xs x.c.toNat xs.length c1 c2;have n3:=OW xs (e+1) x.c.toNat xs.length h1.2 c1 (hl1 h1.2) c2;by_cases h3:x.c=((e+1:Nat):Int)
     . have k1:¬(AG x=true/\([AO xs (e+1)]=[]\/¬[AO xs (e+1)]=[AO xs x.c.toNat])):=fun h=>h.2.elim (fun q=>by cases q) (fun q=>q (by rw[n3.2 (by omega)]))
       simp only[bu k1];rw[bu (fun h=>h.2 ⟨h1.1,h1.2,h3⟩)];simp[n1]
     . have k1:(AG x=true/\([AO xs (e+1)]=[]\/¬[AO xs (e+1)]=[AO xs x.c.toNat])):=⟨h2,.inr (fun q=>h3 (by have:=n3.1 (by simpa using q);omega))⟩
       simp only[cD k1];rw[cD ⟨h2,fun h=>h3 h.2.2⟩];simp[n1,n2]
   . simp only[h2,false_and,if_false,dx]
     simp[n1]
 . simp only[bu h1]
   by_cases h2:AG x=true
   . obtain⟨c1,c2,c3⟩:=hl2 h2
     have n2:=D7 xs x.c.toNat xs.length c1 c2;have k1:(AG x=true/\(True\/¬([]:List Int)=[AO xs x.c.toNat])):=⟨h2,.inl trivial⟩
     rw[cD k1,cD ⟨h2,fun h=>h1 ⟨h.1,h.2.1⟩⟩];simp[n2]
   . simp only[h2,false_and,if_false,dx]
     rfl
end Go.Proofs.YtjpobijiblcgaaaGreat
