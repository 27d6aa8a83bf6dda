import Derived.Test.YtdipfjmlfbdkdaaGreatFc30
import Derived.Test.YtdipfjmlfbdkdaaGreatFc29
namespace Go.Proofs.YtdipfjmlfbdkdaaGreat
open Go.ChangeShapes Go.WideShapes Go.ChangeAt Go.RowKit
set_option linter.unusedVariables false
set_option maxHeartbeats 4000000
set_option maxRecDepth 100000
structure Ev where
 a:Option Addr
 n:Nat
 c:Nat
structure Bz where
 r:Ev
 k:Ev
 f:Ev
 t:Ev
 p:Ev
 rs:Int
 l:Ev
 c:Ev
 nu:Int
 co:Int
 at_:Int
 b:Ev
 o:Ev
 i:Ev
 q:Ev
def Bz.cells(v:Bz):Array Value:=#[.slice v.r.a v.r.n v.r.c,.slice v.k.a v.k.n v.k.c,.slice v.f.a v.f.n v.f.c,.slice v.t.a v.t.n v.t.c,.slice v.p.a v.p.n v.p.c,.int .i64 v.rs,.slice v.l.a v.l.n v.l.c,.slice v.c.a v.c.n v.c.c,.int .i64 v.nu,.int .i64 v.co,.int .i64 v.at_,.slice v.b.a v.b.n v.b.c,.slice v.o.a v.o.n v.o.c,.slice v.i.a v.i.n v.i.c,.slice v.q.a v.q.n v.q.c]
structure KO(w u:World)(v:Bz)(hd:Int)(x y:Ev):Prop where
 body:Ak u w.heap.size v.cells 85
 loop:Ak u (w.heap.size+1) #[.int .i64 hd,.slice x.a x.n x.c,.slice y.a y.n y.c] 68
 res:Ak u (w.heap.size+1+1) #[.int .i64 0,.int .i64 0,.int .i64 0,.int .u32 0] 72
 bel:Below w.heap.size w u
theorem KO.keep{w u u':World}{v:Bz}{hd:Int}{x y:Ev}(h:KO w u v hd x y)(hb:Below u.heap.size u u'):KO w u' v hd x y:=⟨h.body.keep hb,h.loop.keep hb,h.res.keep hb,Ab h.bel lR hb⟩
theorem H6(v:Bz)(x y:Ev)(ts:List MT)(F:List (MB×Value))(h:Nat)(m:MB)(w:World)(hn:F.length<=1048576)(hb:Rd w 3 (.slice v.b.a v.b.n v.b.c) F.length (F.flatMap A9))(hm:(F.map Prod.fst)[h]?=some m)(htn:ts.length<=1048576)(ht:Rd w 4 (.slice v.t.a v.t.n v.t.c) ts.length (ts.flatMap MT.cells)):
 Calls Tryz.prog 100 #[.agg v.cells,.agg #[.int .i64 (h:Int),.slice x.a x.n x.c,.slice y.a y.n y.c]] w fun e w'=>(∃t b,e=.returned (.tuple #[.agg #[.int .i64 t.func,.int .i64 t.head,.int .i64 t.counter,.int .u32 t.init],.bool b])/\(b=true->Bh ts v.nu m.first=some t)/\(b=false->Bh ts v.nu m.first=none))/\Below w.heap.size w w':=by
 have HF:Hid (F.length<=1048576/\Rd w 3 (.slice v.b.a v.b.n v.b.c) F.length (F.flatMap A9)/\(F.map Prod.fst)[h]?=some m):=⟨hn,hb,hm⟩
 obtain⟨a1,c1,e1⟩:=ht.is_slice
 simp only[aF]at e1
 have HT:Hid (Rd w 4 (.slice v.t.a v.t.n v.t.c) ts.length (ts.flatMap MT.cells)):=ht
 have HN:Hid (ts.length=v.t.n):=e1.2.1.symm
 rw[HN.o]at htn HT
 clear hn hb hm ht e1 a1 c1
 have E0:=Ef w v.cells #[.int .i64 (h:Int),.slice x.a x.n x.c,.slice y.a y.n y.c] #[.int .i64 0,.int .i64 0,.int .i64 0,.int .u32 0] 85 68 72
 have E1:Hid (KO w (((w.alloc (.cells v.cells 85)).alloc (.cells #[.int .i64 (h:Int),.slice x.a x.n x.c,.slice y.a y.n y.c] 68)).alloc (.cells #[.int .i64 0,.int .i64 0,.int .i64 0,.int .u32 0] 72)) v h x y):=⟨E0.1,E0.2.1,E0.2.2.1,E0.2.2.2⟩
 clear E0
 go_enter Tryz.func100,Tryz.ntmps100
 go_upto_region 1 with fail
 refine Al (fun u=>Hid (KO w u v h x y)) E1 ?_
 rintro U HE
 clear E1
 have p3:=HE.o.body.cell 3
 simp only[Bz.cells]at p3
 go_wp2
 go_loopw [13] (fun i wr=>∃k:Nat,k<=v.t.n/\i=.int .i64 k/\Hid (∀j c,j<k->ts[j]?=some c->¬(c.func=v.nu/\c.head=m.first))/\Hid (KO w wr v h x y)) (fun i _=>v.t.n-(intOf i).toNat)
 case atStart=>exact⟨0,by omega,rfl,fun j c hj=>by omega,HE⟩
 case round=>
  clear p3 HE
  obtain⟨k,hk,rfl,HTS,HE⟩:=hrel
  by_cases hlt:k<v.t.n
  . obtain⟨⟨fu,hd,co,ini⟩,hx⟩:∃z,ts[k]?=some z:=⟨_,aA (by rw[HN.o];exact hlt)⟩
    rcases HT.o.2 with⟨e0,_⟩|⟨b,o,c,e1,hc1⟩
    . omega
    simp only[aF,aw]at e1
    obtain⟨e2,e3⟩:=e1
    have i0:=Rd.elem MT.cells_length hc1 k _ hx 0 _ rfl
    have i1:=Rd.elem MT.cells_length hc1 k _ hx 1 _ rfl
    have i2:=Rd.elem MT.cells_length hc1 k _ hx 2 _ rfl
    have i3:=Rd.elem MT.cells_length hc1 k _ hx 3 _ rfl
    rw[<-HE.o.bel.cell (aC i0),aS]at i0
    rw[<-HE.o.bel.cell (aC i1)]at i1
    rw[<-HE.o.bel.cell (aC i2)]at i2
    rw[<-HE.o.bel.cell (aC i3)]at i3
    simp only[]at i0 i1 i2 i3
    have HX:Hid (ts[k]?=some ⟨fu,hd,co,ini⟩):=hx
    clear hc1 hx e3
    have nb:¬b=wr.heap.size:=bJ (aC i0)
    have mb:b<wr.heap.size:=aC i0
    go_upto_region 4 with fail
    refine Al (fun u=>Hid (KO w u v h x y/\Ak u wr.heap.size #[.int .i64 fu,.int .i64 hd,.int .i64 co,.int .u32 ini] 72)) ⟨HE.o.keep (Aa _ _),Ak.new _ _ _⟩ ?_
    rintro W1 HW
    have inst:=Ai.some W1
    have p0:=fun n':Ai W1=>Ai.cell (HW.o.1.body.cell 0) n'
    have p1:=fun n':Ai W1=>Ai.cell (HW.o.1.body.cell 1) n'
    have p2:=fun n':Ai W1=>Ai.cell (HW.o.1.body.cell 2) n'
    have p3:=fun n':Ai W1=>Ai.cell (HW.o.1.body.cell 3) n'
    have p4:=fun n':Ai W1=>Ai.cell (HW.o.1.body.cell 4) n'
    have p5:=fun n':Ai W1=>Ai.cell (HW.o.1.body.cell 5) n'
    have p6:=fun n':Ai W1=>Ai.cell (HW.o.1.body.cell 6) n'
    have p7:=fun n':Ai W1=>Ai.cell (HW.o.1.body.cell 7) n'
    have p8:=fun n':Ai W1=>Ai.cell (HW.o.1.body.cell 8) n'
    have p9:=fun n':Ai W1=>Ai.cell (HW.o.1.body.cell 9) n'
    have p10:=fun n':Ai W1=>Ai.cell (HW.o.1.body.cell 10) n'
    have p11:=fun n':Ai W1=>Ai.cell (HW.o.1.body.cell 11) n'
    have p12:=fun n':Ai W1=>Ai.cell (HW.o.1.body.cell 12) n'
    have p13:=fun n':Ai W1=>Ai.cell (HW.o.1.body.cell 13) n'
    have p14:=fun n':Ai W1=>Ai.cell (HW.o.1.body.cell 14) n'
    simp only[Bz.cells]at p0 p1 p2 p3 p4 p5 p6 p7 p8 p9 p10 p11 p12 p13 p14
    obtain⟨l0,l1,l2⟩:=BI HW.o.1.loop
    have L0:=fun n':Ai W1=>Ai.cell l0 n'
    have L1:=fun n':Ai W1=>Ai.cell l1 n'
    have L2:=fun n':Ai W1=>Ai.cell l2 n'
    have C0:=fun n':Ai W1=>Ai.cell (HW.o.2.cell 0) n'
    have C1:=fun n':Ai W1=>Ai.cell (HW.o.2.cell 1) n'
    have C2:=fun n':Ai W1=>Ai.cell (HW.o.2.cell 2) n'
    have C3:=fun n':Ai W1=>Ai.cell (HW.o.2.cell 3) n'
    clear i0 i1 i2 i3 nb mb HE l0 l1 l2 e2
    by_cases q1:fu=v.nu
    case neg=>
     have q1':(fu==v.nu)=false:=by simp[q1]
     have HT':Hid (∀j c,j<k+1->ts[j]?=some c->¬(c.func=v.nu/\c.head=m.first)):=fun j c hj hc=>by
      by_cases e:j=k
      . subst e
        rw[HX.o]at hc
        cases hc
        exact fun e=>q1 e.1
      . exact HTS.o j c (by omega) hc
     refine At (by kernel_rfl) (by kernel_rfl) ?_
     repeat(go_big_quiet_step (fail))
     refine wpQuiet_nil ?_
     rintro w'' ⟨n',rfl⟩
     go_wp2
     go_roundw
     case rel=>exact⟨k+1,by omega,by go_num,HT'.o,HW.o.1.keep n'.h⟩
     case measure=>simp[intOf];omega
    case pos=>
     by_cases q2:hd=m.first
     case neg=>
      have q2':(hd==m.first)=false:=by simp[q2]
      have HT':Hid (∀j c,j<k+1->ts[j]?=some c->¬(c.func=v.nu/\c.head=m.first)):=fun j c hj hc=>by
       by_cases e:j=k
       . subst e
         rw[HX.o]at hc
         cases hc
         exact fun e=>q2 e.2
       . exact HTS.o j c (by omega) hc
      subst q1
      refine At (by kernel_rfl) (by kernel_rfl) ?_
      repeat(go_big_quiet_step ((first|(go_at_call 123;rename_i n';exact(EX (.slice v.r.a v.r.n v.r.c) (.slice v.k.a v.k.n v.k.c) (.slice v.f.a v.f.n v.f.c) (.slice v.t.a v.t.n v.t.c) (.slice v.p.a v.p.n v.p.c) (.int .i64 v.rs) (.slice v.l.a v.l.n v.l.c) (.slice v.c.a v.c.n v.c.c) (.int .i64 v.nu) (.int .i64 v.co) (.int .i64 v.at_) (.slice v.b.a v.b.n v.b.c) (.slice v.o.a v.o.n v.o.c) (.slice v.i.a v.i.n v.i.c) (.slice v.q.a v.q.n v.q.c) (.slice x.a x.n x.c) (.slice y.a y.n y.c) F h m n'.u HF.o.1 (HF.o.2.1.keep (Ab HW.o.1.bel lR n'.h) lR) HF.o.2.2).mono fun e w'' hh=>⟨hh.1,⟨⟨w'',Ab n'.h lR hh.2⟩,rfl⟩⟩))))
      refine wpQuiet_nil ?_
      rintro w'' ⟨n',rfl⟩
      go_wp2
      go_roundw
      case rel=>exact⟨k+1,by omega,by go_num,HT'.o,HW.o.1.keep n'.h⟩
      case measure=>simp[intOf];omega
     case pos=>
      subst q1 q2
      have HS:Hid (Bh ts v.nu m.first=some ⟨v.nu,m.first,co,ini⟩):=GT HX.o ⟨rfl,rfl⟩ fun j c hj hc=>HTS.o j c hj hc
      refine At (by kernel_rfl) (by kernel_rfl) ?_
      repeat(go_big_quiet_step ((first|(go_at_call 123;rename_i n';exact(EX (.slice v.r.a v.r.n v.r.c) (.slice v.k.a v.k.n v.k.c) (.slice v.f.a v.f.n v.f.c) (.slice v.t.a v.t.n v.t.c) (.slice v.p.a v.p.n v.p.c) (.int .i64 v.rs) (.slice v.l.a v.l.n v.l.c) (.slice v.c.a v.c.n v.c.c) (.int .i64 v.nu) (.int .i64 v.co) (.int .i64 v.at_) (.slice v.b.a v.b.n v.b.c) (.slice v.o.a v.o.n v.o.c) (.slice v.i.a v.i.n v.i.c) (.slice v.q.a v.q.n v.q.c) (.slice x.a x.n x.c) (.slice y.a y.n y.c) F h m n'.u HF.o.1 (HF.o.2.1.keep (Ab HW.o.1.bel lR n'.h) lR) HF.o.2.2).mono fun e w'' hh=>⟨hh.1,⟨⟨w'',Ab n'.h lR hh.2⟩,rfl⟩⟩))))
      refine wpQuiet_nil ?_
      rintro w'' ⟨n',rfl⟩
      have d0:=C0 n'
      have d1:=C1 n'
      have d2:=C2 n'
      have d3:=C3 n'
      have HC:Hid (KO w n'.u v h x y):=HW.o.1.keep n'.h
      have r0:=HC.o.res.cell 0
      have r1:=HC.o.res.cell 1
      have r2:=HC.o.res.cell 2
      have r3:=HC.o.res.cell 3
      have f0:=HC.o.res.frozen 0
      have f1:=HC.o.res.frozen 1
      have f2:=HC.o.res.frozen 2
      have f3:=HC.o.res.frozen 3
      generalize n'.u=u5 at*
      go_wp2
      exact bC (v:=.tuple #[.agg #[.int .i64 v.nu,.int .i64 m.first,.int .i64 co,.int .u32 ini],.bool true]) (by simp[results,Tryz.results100,go_sem,r0,r1,r2,r3]) rfl ⟨⟨⟨v.nu,m.first,co,ini⟩,true,rfl,fun _=>HS.o,fun e=>(by cases e)⟩,((((HC.o.bel.setCell (by simp only[];omega) _).setCell (by simp only[];omega) _).setCell (by simp only[];omega) _).setCell (by simp only[];omega) _)⟩
  . have hkn:k=v.t.n:=by omega
    have r0:=HE.o.res.cell 0
    have r1:=HE.o.res.cell 1
    have r2:=HE.o.res.cell 2
    have r3:=HE.o.res.cell 3
    have f0:=HE.o.res.frozen 0
    have f1:=HE.o.res.frozen 1
    have f2:=HE.o.res.frozen 2
    have f3:=HE.o.res.frozen 3
    go_wp2
    exact bC (v:=.tuple #[.agg #[.int .i64 0,.int .i64 0,.int .i64 0,.int .u32 0],.bool false]) (by simp[results,Tryz.results100,go_sem,r0,r1,r2,r3]) rfl ⟨⟨⟨0,0,0,0⟩,false,rfl,fun e=>(by cases e),fun _=>GS fun j c hj=>HTS.o j c (by have:=(aD.1 hj).1;rw[HN.o]at this;omega) hj⟩,((((HE.o.bel.setCell (by simp only[];omega) _).setCell (by simp only[];omega) _).setCell (by simp only[];omega) _).setCell (by simp only[];omega) _)⟩
theorem MM(s:Value)(n:Nat)(ys:List (ML×Value×Value))(w:World)(hN:ys.length=n)(hn:n<=1048576)(h:Rd w 3 s n (ys.flatMap Ba))(hS:∀y∈ys,Mf y)(hst:ys.Pairwise fun a b=>a.1.head<b.1.head):
 Calls Tryz.prog 19 #[s] w fun e w'=>∃V zs,e=.returned V/\Fj w w' V n ys zs/\zs.Perm ys/\(zs.map Prod.fst).Pairwise Fs:=by
 obtain⟨a1,c1,e1⟩:=Rd.is_slice h;subst e1;have H:=AS (aq h hS);have HN:=AS hN;have HS0:Hid (Oz Prod.fst ys ys 0):=Oz.start hst;clear hst;go_enter Tryz.func19,Tryz.ntmps19;go_wp2_with (at_builtin;refine KI rfl (.tmp 7) (.tmp 8) rfl w w.heap.size (.slice a1 n c1) ys rfl rfl (by rw[HN.o];exact H.o.1) H.o.2 lR (by rw[HN.o];exact hn) ?_;intro V w3 hown hb3);have E0:Hid (Fj w w3 V n ys ys):=⟨by rw[<-HN.o];exact hown,HN.o,fun z hz=>hz,hb3⟩;rcases Bv E0.o.own with⟨rfl,hz⟩|⟨g,c,rfl⟩
 . subst hz
   go_wp2_with fail
   go_loopw [4,5,6] (fun i _ _ wr=>i=.int .i64 0/\wr=w3) (fun _ _ _ _=>0)
   case atStart=>exact⟨rfl,rfl⟩
   case round=>
    obtain⟨rfl,rfl⟩:=hrel;go_wp2_with fail
    go_ret
    exact⟨.slice none 0 0,_,rfl,E0.o,HS0.o.perm,HS0.o.done (by rw[HN.o];exact Nat.le_refl _)⟩
 . go_wp2_with fail
   go_loopw [4,5,6] (fun i _ _ wr=>∃(m:Nat) (zs:List (ML×Value×Value)),m<=n/\i=.int .i64 m/\Hid (Fj w wr (.slice (some ⟨g,0,none⟩) n c) n ys zs/\Oz Prod.fst ys zs m)) (fun i _ _ _=>n-(intOf i).toNat)
   case atStart=>exact⟨0,_,by omega,rfl,E0.o,HS0.o⟩
   case round=>
    obtain⟨m,zs,hm,rfl,E0⟩:=hrel;by_cases hlt:m<n
    case neg=>
     go_wp2_with fail
     go_ret
     exact⟨.slice (some ⟨g,0,none⟩) n c,_,rfl,E0.o.1,E0.o.2.perm,E0.o.2.done (by rw[E0.o.1.len];omega)⟩
    have hltI:(m:Int)<(n:Int):=by omega
    go_wp2_with fail
    go_loopw [5,6] (fun k _ wr=>∃(q:Nat) (zs:List (ML×Value×Value)),q<n/\k=.int .i64 q/\Hid (Fj w wr (.slice (some ⟨g,0,none⟩) n c) n ys zs/\m<=q/\G8 Prod.fst ys zs m q)) (fun k _ _=>(intOf k).toNat)
    case atStart=>exact⟨n-1,zs,by omega,by go_num,E0.o.1,by omega,E0.o.2.toI E0.o.1.len⟩
    case round=>
     obtain⟨q,zs,hq,rfl,E0⟩:=hrel;by_cases hgt:m<q
     case neg=>
      go_wp2_with fail
      go_roundw
      case rel=>
       have h1:=E0.o.2.1;obtain rfl:m=q:=by omega
       exact⟨m+1,zs,by omega,by go_num,E0.o.1,E0.o.2.2.next⟩
      case measure=>simp[intOf];omega
     have hgtI:(q:Int)>(m:Int):=by omega
     have hqI:(q:Int)<(n:Int):=by omega
     obtain⟨r,hr⟩:∃r,q=r+1:=⟨q-1,by omega⟩;have HQ:=AS hr;have HI:Hid (G8 Prod.fst ys zs m (r+1)):=by rw[<-hr];exact E0.o.2.2
     have HMR:Hid (m<=r):=by show m<=r;omega
     obtain⟨z1,a1,b1,d1,e1,hz1,hm1,f1,f2,p0,p1,p2⟩:=E0.o.1.at_ H.o.2 hq;obtain⟨z2,a2,b2,d2,e2,hz2,hm2,f3,f4,q0,q1,q2⟩:=E0.o.1.at_ H.o.2 (show r<n by have:=HQ.o;omega);have HZ:Hid (zs[r+1]?=some z1/\zs[r]?=some z2):=⟨by rw[<-hr];exact hz1,hz2⟩
     have g6:(q:Int)-1=(r:Int):=by omega
     have g3:(0:Int)<=(r:Int):=by omega
     have g4:(r:Int)<(n:Int):=by omega
     clear hr;have g5:IntKind.i64.wrap (r:Int)=(r:Int):=IntWalk.i64_in _ ⟨by omega,by omega⟩;go_upto_region 8 with fail
     have ED:Hid (Fj w wr.drew (.slice (some ⟨g,0,none⟩) n c) n ys zs):=⟨Ag E0.o.1.own (Ae _) lR,E0.o.1.len,E0.o.1.sub,Ab E0.o.1.bel lR (Ae _)⟩;refine wp_region_held_drew (S:=fun W=>W.cell? ⟨g,q*3+2,none⟩=some (.slice d1 z1.1.blocks.length e1)/\W.cell? ⟨g,r*3+2,none⟩=some (.slice d2 z2.1.blocks.length e2)) (by kernel_rfl) (by exact⟨p2,q2⟩) (fun hHeld=> ?_)
     clear E0 p0 p1 p2 q0 q1 q2;generalize wr.drew=UD at ED hHeld⊢;refine AG 0 ?_;refine AG 1 ?_;refine AG 2 ?_;refine AG 3 ?_;refine AG 4 ?_;refine AG 5 ?_;refine AG 6 ?_;refine AG 7 ?_;refine AG 8 ?_;refine AG 9 ?_;refine AG 10 ?_;refine AG 11 ?_;refine AG 12 ?_;refine AG 13 ?_;refine wpAnyH_done (by kernel_rfl) ?_ _;go_simp;by_cases hls:z1.1.blocks.length<z2.1.blocks.length
     case neg=>
      rw[bI hls];go_wp2_with fail
      go_roundw
      case rel=>exact⟨r,zs,by have:=HQ.o;omega,by go_num,ED.o,HMR.o,HI.o.skip HZ.o.1 HZ.o.2 hls⟩
      case measure=>simp[intOf];have:=HQ.o;omega
     have HSW:Hid (G8 Prod.fst ys ((zs.set q z2).set r z1) m r):=by rw[HQ.o];exact HI.o.swap HMR.o HZ.o.1 HZ.o.2 hls
     rw[decide_eq_true hls];have PC:Hid _:=ED.o.cells2 H.o.2 hq (show r<n by have:=HQ.o;omega) hz1 hz2 f1 f2 f3 f4;obtain⟨p0,p1,p2,q0,q1,q2⟩:=PC.o;go_upto_region 10 with fail
     have E6:Hid (Fj w (UD.alloc (.cells #[.int .i64 z1.1.head,.slice a1 z1.1.back.length b1,.slice d1 z1.1.blocks.length e1] 68)) (.slice (some ⟨g,0,none⟩) n c) n ys zs/\Ak (UD.alloc (.cells #[.int .i64 z1.1.head,.slice a1 z1.1.back.length b1,.slice d1 z1.1.blocks.length e1] 68)) UD.heap.size #[.int .i64 z1.1.head,.slice a1 z1.1.back.length b1,.slice d1 z1.1.blocks.length e1] 68/\g≠UD.heap.size):=⟨ED.o.keep (Aa _ _),Ak.new _ _ _,fun e=>by obtain⟨_,_,h1⟩:=Am ED.o.own;have:=(aQ.1 h1).1;omega⟩
     generalize UD.heap.size=X at E6⊢;refine Al (fun U=>Hid (Fj w U (.slice (some ⟨g,0,none⟩) n c) n ys zs/\Ak U X #[.int .i64 z1.1.head,.slice a1 z1.1.back.length b1,.slice d1 z1.1.blocks.length e1] 68/\g≠X)) E6 ?_
     rintro U E6;have PC:Hid _:=E6.o.1.cells2 H.o.2 hq (show r<n by have:=HQ.o;omega) hz1 hz2 f1 f2 f3 f4;obtain⟨p0,p1,p2,q0,q1,q2⟩:=PC.o;have y0:=E6.o.1.own.frozenAt (q*3);have y1:=E6.o.1.own.frozenAt (q*3+1);have y2:=E6.o.1.own.frozenAt (q*3+2);go_upto_region 11 with fail
     have E7:Hid (Fj w (((U.setCell ⟨g,q*3,none⟩ (.int .i64 z2.1.head)).setCell ⟨g,q*3+1,none⟩ (.slice a2 z2.1.back.length b2)).setCell ⟨g,q*3+2,none⟩ (.slice d2 z2.1.blocks.length e2)) (.slice (some ⟨g,0,none⟩) n c) n ys (zs.set q z2)/\Ak (((U.setCell ⟨g,q*3,none⟩ (.int .i64 z2.1.head)).setCell ⟨g,q*3+1,none⟩ (.slice a2 z2.1.back.length b2)).setCell ⟨g,q*3+2,none⟩ (.slice d2 z2.1.blocks.length e2)) X #[.int .i64 z1.1.head,.slice a1 z1.1.back.length b1,.slice d1 z1.1.blocks.length e1] 68):=⟨E6.o.1.put3 hm2 f3 f4,((E6.o.2.1.other (a:=⟨g,q*3,none⟩) (fun e=>E6.o.2.2 e.symm) _).other (a:=⟨g,q*3+1,none⟩) (fun e=>E6.o.2.2 e.symm) _).other (a:=⟨g,q*3+2,none⟩) (fun e=>E6.o.2.2 e.symm) _⟩
     refine Al (fun U=>Hid (Fj w U (.slice (some ⟨g,0,none⟩) n c) n ys (zs.set q z2)/\Ak U X #[.int .i64 z1.1.head,.slice a1 z1.1.back.length b1,.slice d1 z1.1.blocks.length e1] 68)) E7 ?_
     rintro U' E7;have x0:U'.cell? ⟨X,0,none⟩=some (.int .i64 z1.1.head):=by rw[E7.o.2.cell];rfl
     have x1:U'.cell? ⟨X,1,none⟩=some (.slice a1 z1.1.back.length b1):=by rw[E7.o.2.cell];rfl
     have x2:U'.cell? ⟨X,2,none⟩=some (.slice d1 z1.1.blocks.length e1):=by rw[E7.o.2.cell];rfl
     obtain⟨zz,_,_,_,_,_,_,_,_,k4,k5,k6⟩:=E7.o.1.at_ H.o.2 (show r<n by have:=HQ.o;omega);have y0:=E7.o.1.own.frozenAt (r*3);have y1:=E7.o.1.own.frozenAt (r*3+1);have y2:=E7.o.1.own.frozenAt (r*3+2);have E8:Hid (Fj w (((U'.setCell ⟨g,r*3,none⟩ (.int .i64 z1.1.head)).setCell ⟨g,r*3+1,none⟩ (.slice a1 z1.1.back.length b1)).setCell ⟨g,r*3+2,none⟩ (.slice d1 z1.1.blocks.length e1)) (.slice (some ⟨g,0,none⟩) n c) n ys ((zs.set q z2).set r z1)):=E7.o.1.put3 hm1 f1 f2;go_wp2_with fail;go_roundw
     case rel=>exact⟨r,_,by have:=HQ.o;omega,by go_num,E8.o,HMR.o,HSW.o⟩
     case measure=>simp[intOf];have:=HQ.o;omega
def Nu(n:Int):Value:=if n=0 then .nilIface else .iface 152 (.int .i64 n)
def Ci(e:Ending)(p:MP):Prop:=∃n,e=.returned (Nu n)/\Be p n
theorem Ci.f1{p:MP}(h:¬Aq p.regions):Ci (.returned (.iface 152 (.int .i64 1))) p:=⟨1,rfl,.inl ⟨rfl,h⟩⟩
theorem Ci.f2{p:MP}(h1:Aq p.regions)(h:¬AH p.consts):Ci (.returned (.iface 152 (.int .i64 2))) p:=⟨2,rfl,.inr (.inl ⟨rfl,h1,h⟩)⟩
theorem Ci.f3{p:MP}(h1:Aq p.regions/\AH p.consts)(h:¬AO p.funcs):Ci (.returned (.iface 152 (.int .i64 3))) p:=⟨3,rfl,.inr (.inr (.inl ⟨rfl,h1.1,h1.2,h⟩))⟩
theorem Ci.f4{p:MP}(h1:Aq p.regions/\AH p.consts)(h2:AO p.funcs)(h:¬B4 p):Ci (.returned (.iface 152 (.int .i64 4))) p:=⟨4,rfl,.inr (.inr (.inr (.inl ⟨rfl,h1.1,h1.2,h2,h⟩)))⟩
theorem Ci.f5{p:MP}(h1:Aq p.regions/\AH p.consts)(h2:AO p.funcs)(h3:B4 p)(h:¬AY p):Ci (.returned (.iface 152 (.int .i64 5))) p:=⟨5,rfl,.inr (.inr (.inr (.inr (.inl ⟨rfl,h1.1,h1.2,h2,h3,h⟩))))⟩
theorem Ci.f0{p:MP}(h1:Aq p.regions/\AH p.consts)(h2:AO p.funcs)(h3:B4 p)(h:AY p):Ci (.returned .nilIface) p:=⟨0,rfl,.inr (.inr (.inr (.inr (.inr ⟨rfl,h1.1,h1.2,h2,h3,h⟩))))⟩
theorem Gy(v:VP)(p:MP)(w:World)(hs:p.small)(hw:p.wf)(h:Dg w v p)(hcap:Fo w v.r p.regions)(hfp:Gt w v.f p.funcs):
 Calls Tryz.prog 54 #[.agg #[v.r,v.k,v.f,v.t]] w fun e w'=>Ci e p/\Below w.heap.size w w':=by
 have H:Hid (p.small/\p.wf/\Dg w v p/\Fo w v.r p.regions/\Gt w v.f p.funcs):=⟨hs,hw,h,hcap,hfp⟩
 clear hs hw h hcap hfp;have HI:Hid _:=FQ.of w v.r v.k v.f v.t 35;go_enter Tryz.func54,Tryz.ntmps54;go_wp2_with fail
 refine(Hc v.r p.regions _ H.o.1.regions H.o.1.region (H.o.2.2.1.regions.keep HI.o.bel lR)).mono ?_;rintro e u1 ⟨⟨b1,rfl,hb1⟩,rfl⟩;cases b1
 . have HN:Hid (¬Aq p.regions):=fun e=>by simp[e]at hb1
   clear hb1;go_wp2
   go_ret
   exact⟨.f1 HN.o,HI.o.bel⟩
 have HR:Hid (Aq p.regions):=hb1.1 rfl;clear hb1;go_wp2_with fail
 refine(H8 v.k p.consts _ H.o.1.consts (fun c hc=>(NQ (H.o.2.1.consts c hc).2).1) (H.o.2.2.1.consts.keep HI.o.bel lR)).mono ?_;rintro e u2 ⟨⟨b2,rfl,hb2⟩,bl2⟩;have HI2:Hid (FQ w u2 v.r v.k v.f v.t):=HI.o.keep bl2;clear bl2;cases b2
 . have HN:Hid (¬AH p.consts):=fun e=>by simp[e]at hb2
   clear hb2;go_wp2
   go_ret
   exact⟨.f2 HR.o HN.o,HI2.o.bel⟩
 have HRC:Hid (Aq p.regions/\AH p.consts):=⟨HR.o,hb2.1 rfl⟩
 clear hb2;obtain⟨p0,p1,p2,p3⟩:=HI2.o.prog;go_wp2_with fail
 refine(Ji v.f p.funcs _ H.o.1.funcs H.o.1.func (H.o.2.2.1.funcs.keep HI2.o.bel lR)).mono ?_;rintro e u3 ⟨⟨b3,rfl,hb3⟩,bl3⟩;have HI3:Hid (FQ w u3 v.r v.k v.f v.t):=HI2.o.keep bl3;clear bl3 p0 p1 p2 p3;cases b3
 . have HN:Hid (¬AO p.funcs):=fun e=>by simp[e]at hb3
   clear hb3;go_wp2
   go_ret
   exact⟨.f3 HRC.o HN.o,HI3.o.bel⟩
 have HFo:Hid (AO p.funcs):=hb3.1 rfl;clear hb3;obtain⟨p0,p1,p2,p3⟩:=HI3.o.prog;go_wp2_with fail
 refine(Jd v p _ H.o.1 H.o.2.1 HRC.o.1 HFo.o (H.o.2.2.1.keep HI3.o.bel lR) (H.o.2.2.2.1.keep HI3.o.bel lR)).mono ?_;rintro e u4 ⟨⟨b4,rfl,hb4⟩,bl4⟩;have HI4:Hid (FQ w u4 v.r v.k v.f v.t):=HI3.o.keep bl4;clear bl4 p0 p1 p2 p3;cases b4
 . have HN:Hid (¬B4 p):=fun e=>by simp[e]at hb4
   clear hb4;go_wp2
   go_ret
   exact⟨.f4 HRC.o HFo.o HN.o,HI4.o.bel⟩
 have HCo:Hid (B4 p):=hb4.1 rfl;clear hb4;obtain⟨p0,p1,p2,p3⟩:=HI4.o.prog;go_wp2_with fail
 refine(Jc v p _ H.o.1 (H.o.2.2.1.keep HI4.o.bel lR) (H.o.2.2.2.2.keep HI4.o.bel lR)).mono ?_;rintro e u5 ⟨⟨b5,rfl,hb5⟩,bl5⟩;have HI5:Hid (Below w.heap.size w u5):=Ab HI4.o.bel lR bl5;clear bl5 p0 p1 p2 p3;cases b5
 . have HN:Hid (¬AY p):=fun e=>by simp[e]at hb5
   clear hb5;go_wp2
   go_ret
   exact⟨.f5 HRC.o HFo.o HCo.o HN.o,HI5.o⟩
 . have HY:Hid (AY p):=hb5.1 rfl
   clear hb5;go_wp2
   go_ret
   exact⟨.f0 HRC.o HFo.o HCo.o HY.o,HI5.o⟩
theorem Lx{w:World}{base:Nat}{e:TypeId}{s:Value}{k n:Nat}{xs:List Value}(h:w.ownsRow base e k s n xs):∃a c,s=.slice a n c/\n<=c:=by
 rcases h.2 with⟨rfl,rfl⟩|⟨g,cap,cur,rfl,_,_,hc,_⟩
 . exact⟨_,_,rfl,Nat.le_refl _⟩
 . exact⟨_,_,rfl,hc⟩
theorem ID{w:World}{base:Nat}{e:TypeId}{s:Value}{k n:Nat}{xs:List Value}(h:w.ownsRow base e k s n xs):FC s:=by
 rcases h.2 with⟨rfl,rfl⟩|⟨g,cap,cur,rfl,_⟩
 . exact .inl rfl
 . exact .inr ⟨_,_,_,rfl⟩
theorem Eh.rdc{w:World}{base:Nat}{s:Value}{rs:List (List Int)}(h:Eh w base s rs):Fo w s rs:=by
 obtain⟨xs,h1,h2,h3⟩:=h;exact⟨xs,h1,Rd.of_own h2,fun x hx=>⟨Rd.of_own (h3 x hx),Lx (h3 x hx)⟩⟩
theorem CI.rdp{w:World}{base:Nat}{s:Value}{fs:List MF}(h:CI w base s fs):Gt w s fs:=by
 obtain⟨xs,h1,h2,h3⟩:=h;exact⟨xs,h1,Rd.of_own h2,fun x hx=>⟨(h3 x hx).rd,ID (h3 x hx).1,ID (h3 x hx).2.1⟩⟩
end Go.Proofs.YtdipfjmlfbdkdaaGreat
