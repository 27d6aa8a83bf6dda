import Derived.Test.YtdipfjmlfbdkdaaGreatFc42
namespace Go.Proofs.YtdipfjmlfbdkdaaGreat
open Go.ChangeShapes Go.WideShapes Go.ChangeAt Go.RowKit
set_option linter.unusedVariables false
set_option maxHeartbeats 8000000
set_option maxRecDepth 100000
theorem Mk(r k f t pp ll cc b o i q:Ev)(rs co at_:Int)(n gk ok:Nat)(w:World)(hn:n<f.n)
 (m0:w.cell? ⟨gk,ok+n*4,none⟩=some (.slice pp.a pp.n pp.c)) (m1:w.cell? ⟨gk,ok+n*4+1,none⟩=some (.int .i64 rs)) (m2:w.cell? ⟨gk,ok+n*4+2,none⟩=some (.slice ll.a ll.n ll.c)) (m3:w.cell? ⟨gk,ok+n*4+3,none⟩=some (.slice cc.a cc.n cc.c)):
 Calls Tryz.prog 29 #[.agg #[.slice r.a r.n r.c,.slice k.a k.n k.c,.slice (some ⟨gk,ok,none⟩) f.n f.c,.slice t.a t.n t.c],.int .i64 (n:Int),.agg #[.int .i64 co,.int .i64 at_,.slice b.a b.n b.c,.slice o.a o.n o.c,.slice i.a i.n i.c,.slice q.a q.n q.c]] w fun e w'=>e=.returned (.agg (Bz.cells ⟨r,k,⟨some ⟨gk,ok,none⟩,f.n,f.c⟩,t,pp,rs,ll,cc,(n:Int),co,at_,b,o,i,q⟩))/\Below w.heap.size w w':=by
 have E0:=Ef w #[.slice r.a r.n r.c,.slice k.a k.n k.c,.slice (some ⟨gk,ok,none⟩) f.n f.c,.slice t.a t.n t.c] #[.int .i64 co,.int .i64 at_,.slice b.a b.n b.c,.slice o.a o.n o.c,.slice i.a i.n i.c,.slice q.a q.n q.c] #[.slice none 0 0,.slice none 0 0,.slice none 0 0,.slice none 0 0,.slice none 0 0,.int .i64 0,.slice none 0 0,.slice none 0 0,.int .i64 0,.int .i64 0,.int .i64 0,.slice none 0 0,.slice none 0 0,.slice none 0 0,.slice none 0 0] 35 52 85;have M:Hid (w.cell? ⟨gk,ok+n*4,none⟩=some (.slice pp.a pp.n pp.c)/\w.cell? ⟨gk,ok+n*4+1,none⟩=some (.int .i64 rs)/\w.cell? ⟨gk,ok+n*4+2,none⟩=some (.slice ll.a ll.n ll.c)/\w.cell? ⟨gk,ok+n*4+3,none⟩=some (.slice cc.a cc.n cc.c)):=⟨m0,m1,m2,m3⟩
 clear m0 m1 m2 m3;unfold Bz.cells;go_enter Tryz.func29,Tryz.ntmps29;go_upto_region 1 with fail
 refine Al (fun u=>Hid (Ak u w.heap.size #[.slice r.a r.n r.c,.slice k.a k.n k.c,.slice (some ⟨gk,ok,none⟩) f.n f.c,.slice t.a t.n t.c] 35/\Ak u (w.heap.size+1) #[.int .i64 co,.int .i64 at_,.slice b.a b.n b.c,.slice o.a o.n o.c,.slice i.a i.n i.c,.slice q.a q.n q.c] 52/\Ak u (w.heap.size+1+1) #[.slice none 0 0,.slice none 0 0,.slice none 0 0,.slice none 0 0,.slice none 0 0,.int .i64 0,.slice none 0 0,.slice none 0 0,.int .i64 0,.int .i64 0,.int .i64 0,.slice none 0 0,.slice none 0 0,.slice none 0 0,.slice none 0 0] 85/\Below w.heap.size w u)) E0 ?_
 rintro U E1;clear E0;obtain⟨p0,p1,p2,p3⟩:=Em E1.o.1;obtain⟨y0,y1,y2,y3,y4,y5⟩:=DT E1.o.2.1;obtain⟨m0,m1,m2,m3⟩:=M.o;rw[<-E1.o.2.2.2.cell (aC m0)]at m0;rw[<-E1.o.2.2.2.cell (aC m1)]at m1;rw[<-E1.o.2.2.2.cell (aC m2)]at m2;rw[<-E1.o.2.2.2.cell (aC m3)]at m3;have HR:Hid (Ak U (w.heap.size+1+1) #[.slice none 0 0,.slice none 0 0,.slice none 0 0,.slice none 0 0,.slice none 0 0,.int .i64 0,.slice none 0 0,.slice none 0 0,.int .i64 0,.int .i64 0,.int .i64 0,.slice none 0 0,.slice none 0 0,.slice none 0 0,.slice none 0 0] 85):=E1.o.2.2.1;have z0:=HR.o.cell 0;have fz0:=HR.o.frozen 0;have z1:=HR.o.cell 1;have fz1:=HR.o.frozen 1;have z2:=HR.o.cell 2;have fz2:=HR.o.frozen 2;have z3:=HR.o.cell 3;have fz3:=HR.o.frozen 3;have z4:=HR.o.cell 4;have fz4:=HR.o.frozen 4;have z5:=HR.o.cell 5;have fz5:=HR.o.frozen 5;have z6:=HR.o.cell 6;have fz6:=HR.o.frozen 6;have z7:=HR.o.cell 7;have fz7:=HR.o.frozen 7;have z8:=HR.o.cell 8;have fz8:=HR.o.frozen 8;have z9:=HR.o.cell 9;have fz9:=HR.o.frozen 9;have z10:=HR.o.cell 10;have fz10:=HR.o.frozen 10;have z11:=HR.o.cell 11;have fz11:=HR.o.frozen 11;have z12:=HR.o.cell 12;have fz12:=HR.o.frozen 12;have z13:=HR.o.cell 13;have fz13:=HR.o.frozen 13
 have z14:=HR.o.cell 14;have fz14:=HR.o.frozen 14;simp only[am,aM,aj]at z0 z1 z2 z3 z4 z5 z6 z7 z8 z9 z10 z11 z12 z13 z14;have hnI:(n:Int)<(f.n:Int):=by omega
 have s1:¬gk=w.heap.size+1+1:=by
  have:=M.o.1;have:=aC this;simp only[]at this;omega
 go_region
 have G:Hid _:=(((((((((((((((HR.o.set 0 (.slice r.a r.n r.c)).set 1 (.slice k.a k.n k.c)).set 2 (.slice (some ⟨gk,ok,none⟩) f.n f.c)).set 3 (.slice t.a t.n t.c)).set 4 (.slice pp.a pp.n pp.c)).set 5 (.int .i64 rs)).set 6 (.slice ll.a ll.n ll.c)).set 7 (.slice cc.a cc.n cc.c)).set 8 (.int .i64 (n:Int))).set 9 (.int .i64 co)).set 10 (.int .i64 at_)).set 11 (.slice b.a b.n b.c)).set 12 (.slice o.a o.n o.c)).set 13 (.slice i.a i.n i.c)).set 14 (.slice q.a q.n q.c));simp only[cu,b7,bj]at G;refine Av (fun u=>Hid (Ak u (w.heap.size+1+1) #[.slice r.a r.n r.c,.slice k.a k.n k.c,.slice (some ⟨gk,ok,none⟩) f.n f.c,.slice t.a t.n t.c,.slice pp.a pp.n pp.c,.int .i64 rs,.slice ll.a ll.n ll.c,.slice cc.a cc.n cc.c,.int .i64 (n:Int),.int .i64 co,.int .i64 at_,.slice b.a b.n b.c,.slice o.a o.n o.c,.slice i.a i.n i.c,.slice q.a q.n q.c] 85/\Below w.heap.size w u)) ?_ ?_
 . exact⟨Ak.keep (b:=w.heap.size+1+1) (t:=85) G.o (Ae _),Ab (((((((((((((((E1.o.2.2.2.setCell (by simp only[];omega) _).setCell (by simp only[];omega) _).setCell (by simp only[];omega) _).setCell (by simp only[];omega) _).setCell (by simp only[];omega) _).setCell (by simp only[];omega) _).setCell (by simp only[];omega) _).setCell (by simp only[];omega) _).setCell (by simp only[];omega) _).setCell (by simp only[];omega) _).setCell (by simp only[];omega) _).setCell (by simp only[];omega) _).setCell (by simp only[];omega) _).setCell (by simp only[];omega) _).setCell (by simp only[];omega) _) lR (Ae _)⟩
 rintro U2 E2;clear G HR E1 p0 p1 p2 p3 y0 y1 y2 y3 y4 y5 m0 m1 m2 m3 z0 fz0 z1 fz1 z2 fz2 z3 fz3 z4 fz4 z5 fz5 z6 fz6 z7 fz7 z8 fz8 z9 fz9 z10 fz10 z11 fz11 z12 fz12 z13 fz13 z14 fz14 s1;obtain⟨x0,x1,x2,x3,x4,x5,x6,x7,x8,x9,x10,x11,x12,x13,x14⟩:=Cl (v:=⟨r,k,⟨some ⟨gk,ok,none⟩,f.n,f.c⟩,t,pp,rs,ll,cc,(n:Int),co,at_,b,o,i,q⟩) E2.o.1;simp only[]at x0 x1 x2 x3 x4 x5 x6 x7 x8 x9 x10 x11 x12 x13 x14;go_wp2
 exact bC (v:=.agg #[.slice r.a r.n r.c,.slice k.a k.n k.c,.slice (some ⟨gk,ok,none⟩) f.n f.c,.slice t.a t.n t.c,.slice pp.a pp.n pp.c,.int .i64 rs,.slice ll.a ll.n ll.c,.slice cc.a cc.n cc.c,.int .i64 (n:Int),.int .i64 co,.int .i64 at_,.slice b.a b.n b.c,.slice o.a o.n o.c,.slice i.a i.n i.c,.slice q.a q.n q.c]) (by simp[results,Tryz.results29,go_sem,x0,x1,x2,x3,x4,x5,x6,x7,x8,x9,x10,x11,x12,x13,x14]) rfl ⟨rfl,E2.o.2⟩
structure Ow(w:World)(v:Bz)(p:MP)(fi:Int)(F:List (MB×Value))(xs:List MI)(r:Dm):Prop where
 bs:FA w v F xs.length
 nx:∀z∈F,NM w z.2 z.1/\z.1.next.length<=1048576
 cd:Mc w v xs p.consts
 tn:p.certs.length<=1048576
 tr:Rd w 4 (.slice v.t.a v.t.n v.t.c) p.certs.length (p.certs.flatMap MT.cells)
 nu:v.nu=fi
 eb:F.map Prod.fst=r.blocks
 inn:PG xs r
 ls:I6 w (.slice v.q.a v.q.n v.q.c) r.loops
 ln:v.q.n=r.loops.length
 od:Rd w 1 (.slice v.o.a v.o.n v.o.c) r.order.length (r.order.flatMap Ac)
section
variable {w u:World} {v:Bz} {p:MP} {fi:Int} {F:List (MB×Value)} {xs:List MI} {r:Dm}
theorem Ow.keep(H:Ow w v p fi F xs r)(hb:Below w.heap.size w u):Ow u v p fi F xs r:=
 ⟨H.bs.keep hb,fun z hz=>⟨(H.nx z hz).1.keep hb lR,(H.nx z hz).2⟩,H.cd.keep hb,H.tn,H.tr.keep hb lR,H.nu,H.eb,H.inn,H.ls.keep hb lR,H.ln,H.od.keep hb lR⟩
theorem Ow.fl(H:Ow w v p fi F xs r):F.length=r.blocks.length:=by rw[<-H.eb,a7]
theorem Ow.loop(H:Ow w v p fi F xs r){l:ML}(hl:l∈r.loops){y:Ev}(hy:Rd w 1 (.slice y.a y.n y.c) l.blocks.length (l.blocks.flatMap Ac)):∃(h:Nat) (m:MB),l.head=(h:Int)/\h<r.blocks.length/\NJ w v y p fi F xs h l m:=by
 obtain⟨⟨h,h1,h2⟩,h3,h4,h5⟩:=H.inn.loop l hl;exact⟨h,_,h1,h2,H.bs,H.nx,H.cd,H.tn,H.tr,H.nu,h1,by rw[H.eb];exact aA h2,hy,h4,by rw[H.fl];exact h3⟩
end
structure Qk(w u:World)(v:Bz):Prop where
 body:Ak u w.heap.size v.cells 85
 res:Ak u (w.heap.size+1) #[.int .i64 0,.slice none 0 0,.slice none 0 0] 68
 bel:Below w.heap.size w u
theorem Qk.keep{w u u':World}{v:Bz}(h:Qk w u v)(hb:Below u.heap.size u u'):Qk w u' v:=⟨h.body.keep hb,h.res.keep hb,Ab h.bel lR hb⟩
theorem Ig(v:Bz)(p:MP)(fi:Int)(F:List (MB×Value))(xs:List MI)(r:Dm)(w:World)(hB:Ow w v p fi F xs r):
 Calls Tryz.prog 57 #[.agg v.cells] w fun e w'=>(∃(h:Int) (x y:Ev) (b:Bool),e=.returned (.tuple #[.agg #[.int .i64 h,.slice x.a x.n x.c,.slice y.a y.n y.c],.bool b])/\(b=true->∃l∈r.loops,∃k,k≠0/\Au p fi xs r.blocks l k)/\(b=false->∀l∈r.loops,Au p fi xs r.blocks l 0))/\Below w.heap.size w w':=by
 have H:Hid (Ow w v p fi F xs r):=hB;have hnl:r.loops.length<=1024:=hB.inn.nl;have HN:Hid (v.q.n=r.loops.length):=hB.ln;obtain⟨qa,hqa⟩:∃qa,v.q.a=qa:=⟨_,rfl⟩;have HQA:=AS hqa;clear hqa hB;have E0:=Bw w v.cells #[.int .i64 0,.slice none 0 0,.slice none 0 0] 85 68;go_enter Tryz.func57,Tryz.ntmps57;go_upto_region 1 with fail
 refine Al (fun u=>Hid (Qk w u v)) ⟨E0.1,E0.2.1,E0.2.2⟩ ?_;rintro U HE;clear E0;have p14:=HE.o.body.cell 14;simp only[Bz.cells]at p14;simp only[HN.o,HQA.o]at p14;go_wp2_with fail
 clear p14;go_loopw [10] (fun i wr=>∃k:Nat,k<=r.loops.length/\i=.int .i64 k/\Hid (Qk w wr v/\∀l∈r.loops.take k,Au p fi xs r.blocks l 0)) (fun i _=>r.loops.length-(intOf i).toNat)
 case atStart=>exact⟨0,by omega,rfl,HE.o,fun l hl=>by simp at hl⟩
 case round=>
 clear HE;obtain⟨k,hk,rfl,HE⟩:=hrel;by_cases hlt:k<r.loops.length
 case neg=>
  have r0:=HE.o.1.res.cell 0;have r1:=HE.o.1.res.cell 1;have r2:=HE.o.1.res.cell 2;have f0:=HE.o.1.res.frozen 0;have f1:=HE.o.1.res.frozen 1;have f2:=HE.o.1.res.frozen 2;simp only[am,aM,aj]at r0 r1 r2
  have HA:Hid (∀l∈r.loops,Au p fi xs r.blocks l 0):=by
   have:=HE.o.2;rw[an (show r.loops.length<=k by omega)]at this;exact this
  go_wp2
  exact bC (v:=.tuple #[.agg #[.int .i64 0,.slice none 0 0,.slice none 0 0],.bool false]) (by simp[results,Tryz.results57,go_sem,r0,r1,r2]) rfl ⟨⟨0,⟨none,0,0⟩,⟨none,0,0⟩,false,rfl,(fun h=>by cases h),fun _=>HA.o⟩,(((HE.o.1.bel.setCell (by simp only[];omega) _).setCell (by simp only[];omega) _).setCell (by simp only[];omega) _)⟩
 have hltI:(k:Int)<(r.loops.length:Int):=by omega
 obtain⟨l,hl⟩:∃l,r.loops[k]?=some l:=⟨_,aA hlt⟩;have hB:=H.o.keep HE.o.1.bel;obtain⟨gl,ol,a1,x1,a2,x2,ev,i0,i1,i2,hrl⟩:=Hh hB.ls hl;rw[HQA.o]at ev;subst ev;have HL:Hid (r.loops[k]?=some l/\Nl wr (l,.slice a1 l.back.length x1,.slice a2 l.blocks.length x2)):=⟨hl,hrl⟩
 obtain⟨h,m,eh,_,hbd⟩:=hB.loop (aE hl) (y:=⟨a2,l.blocks.length,x2⟩) hrl.2;have HBD:=AS hbd;rw[eh]at i0;clear hbd hl hrl hB eh;generalize l.back.length=n1 at i1 HL;go_upto_region 4 with fail
 have E4:Hid (Qk w (wr.alloc (.cells #[.int .i64 (h:Int),.slice a1 n1 x1,.slice a2 l.blocks.length x2] 68)) v/\Ak (wr.alloc (.cells #[.int .i64 (h:Int),.slice a1 n1 x1,.slice a2 l.blocks.length x2] 68)) wr.heap.size #[.int .i64 (h:Int),.slice a1 n1 x1,.slice a2 l.blocks.length x2] 68/\Below wr.heap.size wr (wr.alloc (.cells #[.int .i64 (h:Int),.slice a1 n1 x1,.slice a2 l.blocks.length x2] 68))):=⟨HE.o.1.keep (Aa _ _),Ak.new _ _ _,Aa _ _⟩
 refine Al (fun u=>Hid (Qk w u v/\Ak u wr.heap.size #[.int .i64 (h:Int),.slice a1 n1 x1,.slice a2 l.blocks.length x2] 68/\Below wr.heap.size wr u)) E4 ?_
 rintro U4 E5;clear E4 i0 i1 i2;generalize hX:wr.heap.size=X at E5⊢;obtain⟨p0,p1,p2,p3,p4,p5,p6,p7,p8,p9,p10,p11,p12,p13,p14⟩:=Cl E5.o.1.body;obtain⟨l0,l1,l2⟩:=BI E5.o.2.1;go_wp2_with fail
 refine(Jp v h ⟨a1,n1,x1⟩ ⟨a2,l.blocks.length,x2⟩ p fi F xs l m U4 (HBD.o.keep (hX▸E5.o.2.2))).mono ?_;rintro e u5 ⟨⟨nn,rfl,hnn⟩,bb⟩;have E6:Hid (Qk w u5 v/\Ak u5 X #[.int .i64 (h:Int),.slice a1 n1 x1,.slice a2 l.blocks.length x2] 68):=⟨E5.o.1.keep bb,E5.o.2.1.keep bb⟩
 have HLI:Hid (Au p fi xs r.blocks l nn):=by rw[<-H.o.eb];exact hnn
 clear hnn bb E5 p0 p1 p2 p3 p4 p5 p6 p7 p8 p9 p10 p11 p12 p13 p14 l0 l1 l2;by_cases h0:nn=0
 . subst h0
   go_wp2
   go_roundw
   case rel=>
    refine⟨k+1,by omega,by go_num,E6.o.1,fun l' hl'=> ?_⟩;rw[List.take_add_one,HL.o.1]at hl';rcases aU.1 hl' with q|q
    . exact HE.o.2 l' q
    . simp at q
      rw[q];exact HLI.o
   case measure=>simp[intOf];omega
 . have h0':(nn==0)=false:=by simp[h0]
   obtain⟨l0,l1,l2⟩:=BI E6.o.2;have r0:=E6.o.1.res.cell 0;have r1:=E6.o.1.res.cell 1;have r2:=E6.o.1.res.cell 2;have f0:=E6.o.1.res.frozen 0;have f1:=E6.o.1.res.frozen 1;have f2:=E6.o.1.res.frozen 2;simp only[am,aM,aj]at r0 r1 r2;have HM:Hid (l∈r.loops):=aE HL.o.1;go_wp2
   exact bC (v:=.tuple #[.agg #[.int .i64 (h:Int),.slice a1 n1 x1,.slice a2 l.blocks.length x2],.bool true]) (by simp[results,Tryz.results57,go_sem,r0,r1,r2]) rfl ⟨⟨(h:Int),⟨a1,n1,x1⟩,⟨a2,l.blocks.length,x2⟩,true,rfl,fun _=>⟨l,HM.o,nn,h0,HLI.o⟩,fun h=>(by cases h)⟩,(((E6.o.1.bel.setCell (by simp only[];omega) _).setCell (by simp only[];omega) _).setCell (by simp only[];omega) _)⟩
theorem Mt{w w':World}{b g o:Nat}{v:Value}(hg:w.grownBy w' (some b))(h:w.cell? ⟨g,o,none⟩=some v)(hne:g≠b):w'.cell? ⟨g,o,none⟩=some v:=by
 have h1:=aC h;unfold World.cell? at h⊢;rw[hg.block g h1 (fun e=>hne (by cases e;rfl))];exact h
theorem Ak.apart{w w':World}{b g:Nat}{cur:Array Value}{t:TypeId}(h:Ak w b cur t)(hg:w.grownBy w' (some g))(hne:b≠g):Ak w' b cur t:=by
 have h1:=h.lt;unfold Ak at h⊢;rw[hg.block b h1 (fun e=>hne (by cases e;rfl))];exact h
theorem Mh(b:Nat)(a:Option Addr)(c:Nat)(ks:List Int)(w:World)(hn:ks.length<=1048576)(hw:∀z∈ks,CD z)(hk:Rd w 1 (.slice a ks.length c) ks.length (ks.flatMap Ac))(hab:∀g o,a=some ⟨g,o,none⟩->0<ks.length->g≠b)(h:AU w b 0 (.map [])):
 Calls Tryz.prog 102 #[.map (some b),.slice a ks.length c] w fun e w'=>e=.returned (.tuple #[])/\(∃cnt D,AU w' b cnt D/\∀z:Int,Go.Maps.has D (.int .i64 z)=decide (z∈ks))/\w.grownBy w' (some b):=by
 have H:=AS (aq hw (aq hk (aq hab h)));clear hw hk hab h;go_enter Tryz.func102,Tryz.ntmps102;go_wp2
 go_loopw [8] (fun i wr=>∃k:Nat,k<=ks.length/\i=.int .i64 k/\Hid (∃D,AU wr b k D/\(∀z:Int,Go.Maps.has D (.int .i64 z)=decide (z∈ks.take k))/\w.grownBy wr (some b))) (fun i _=>ks.length-(intOf i).toNat)
 case atStart=>exact⟨0,by omega,rfl,.map [],H.o.2.2.2,fun z=>by simp;rfl,⟨rfl,rfl,rfl,Nat.le_refl _,fun _ _ _=>rfl⟩⟩
 case round=>
  obtain⟨k,hk,rfl,HL⟩:=hrel;obtain⟨D,hset,hhas,hgr⟩:=HL.o;have HB:=AS (aq hhas hgr);clear HL hhas hgr;by_cases hlt:k<ks.length
  . have hltI:(k:Int)<(ks.length:Int):=by omega
    obtain⟨z,hz⟩:∃z,ks[k]?=some z:=⟨_,aA hlt⟩
    obtain⟨g,o,ea,e0⟩:∃g o,a=some ⟨g,o,none⟩/\w.cell? ⟨g,o+k,none⟩=some (.int .i64 z):=by
     rcases H.o.2.1.2 with⟨q,_⟩|⟨g,o,c',e1,hc⟩
     . omega
     . simp only[aF,aw]at e1
       exact⟨g,o,e1.1,hc k _ (Ew hz)⟩
    have e1:=Mt HB.o.2 e0 (H.o.2.2.1 g o ea (by omega));subst ea;have hzw:=H.o.1 z (aE hz);have hown:wr.ownsMap Tryz.prog 2 (unitElem (H:=Unit)) b k D:=hset;have HZ:=AS hz;clear hz hset e0;go_wp2_with (at_mapUpdate;refine wpList_mapUpdate_own _ rfl _ _ _ 174 rfl 2 201 Iw Tryz.underlying174 (unitElem (H:=Unit)) b k D rfl hown (by unfold maxLen;omega) _ _ _ rfl rfl (dt Tryz.underlying2 hzw) _ [] unitElem_mk ?_;intro w1 hown1 hgrow1)
    have HN:Hid (∃D,AU w1 b (k+1) D/\(∀z:Int,Go.Maps.has D (.int .i64 z)=decide (z∈ks.take (k+1)))/\w.grownBy w1 (some b)):=by
     refine⟨_,hown1,fun y=> ?_,HB.o.2.trans hgrow1⟩;rw[DJ D (dv hown),HB.o.1 y,List.take_add_one,HZ.o,db];simp
    clear hown1 hgrow1 hown;go_wp2
    go_roundw
    case rel=>exact⟨k+1,by omega,by go_num,HN⟩
    case measure=>simp[intOf];omega
  . have hltI:¬(k:Int)<(ks.length:Int):=by omega
    have HE:Hid ((∃cnt D,AU wr b cnt D/\∀z:Int,Go.Maps.has D (.int .i64 z)=decide (z∈ks))/\w.grownBy wr (some b)):=by
     refine⟨⟨k,D,hset,fun z=> ?_⟩,HB.o.2⟩;rw[HB.o.1 z,an (show ks.length<=k by omega)]
    clear hset;go_wp2
    go_end0
    exact⟨rfl,HE.o.1,HE.o.2⟩
def FY(v:Bz)(c s:Value):Array Value:=#[.slice v.r.a v.r.n v.r.c,.slice v.k.a v.k.n v.k.c,.slice v.f.a v.f.n v.f.c,.slice v.t.a v.t.n v.t.c,.slice v.p.a v.p.n v.p.c,.int .i64 v.rs,.slice v.l.a v.l.n v.l.c,.slice v.c.a v.c.n v.c.c,.int .i64 v.nu,.int .i64 v.co,.int .i64 v.at_,.slice v.b.a v.b.n v.b.c,.slice v.o.a v.o.n v.o.c,.slice v.i.a v.i.n v.i.c,.slice v.q.a v.q.n v.q.c,c,s]
structure BC(u:World)(B CB:Nat)(v:Bz)(n gC cC gS cS:Nat)(I:List Nat)(C:List Int):Prop where
 blk:Ak u CB (FY v (.slice (some ⟨gC,0,none⟩) n cC) (.slice (some ⟨gS,0,none⟩) n cS)) 128
 co:u.ownsRow B 2 1 (.slice (some ⟨gC,0,none⟩) n cC) n (C.flatMap Ac)
 st:u.ownsRow B 2 1 (.slice (some ⟨gS,0,none⟩) n cS) n (nv I)
 ne:gC≠gS
 lc:C.length=n
 li:I.length=n
 cc:∀y∈C,CW y
 ii:∀b∈I,b<n
 bl:B<=CB
section
variable {u u':World} {B CB:Nat} {v:Bz} {n gC cC gS cS:Nat} {I:List Nat} {C:List Int}
theorem BC.keep(h:BC u B CB v n gC cC gS cS I C)(hb:Below u.heap.size u u'):BC u' B CB v n gC cC gS cS I C:={h with blk:=h.blk.keep hb,co:=Ag h.co hb lR,st:=Ag h.st hb lR}
theorem BC.cAt(h:BC u B CB v n gC cC gS cS I C){c:Nat}(hc:c<n):u.cell? ⟨gC,c,none⟩=some (.int .i64 (cf C c)):=by
 have:=cD h.co c (by omega);rw[Ew (OO (by rw[h.lc];exact hc))]at this;exact this
theorem Rs{b:Nat}(h:b<I.length):I[b]?=some (jf I b):=by
 rw[aA h];exact congrArg some (Ir (aA h)).symm
theorem BC.sAt(h:BC u B CB v n gC cC gS cS I C){b:Nat}(hb:b<n):u.cell? ⟨gS,b,none⟩=some (.int .i64 (jf I b:Int))/\jf I b<n:=by
 have h1:=Rs (I:=I) (b:=b) (by rw[h.li];exact hb);have:=cD h.st b (by omega);rw[JN h1]at this;exact⟨this,h.ii _ (aE h1)⟩
theorem BC.cells(h:BC u B CB v n gC cC gS cS I C):u.cell? ⟨CB,11,none⟩=some (.slice v.b.a v.b.n v.b.c)/\u.cell? ⟨CB,12,none⟩=some (.slice v.o.a v.o.n v.o.c)/\u.cell? ⟨CB,15,none⟩=some (.slice (some ⟨gC,0,none⟩) n cC)/\u.cell? ⟨CB,16,none⟩=some (.slice (some ⟨gS,0,none⟩) n cS):=
 ⟨by rw[h.blk.cell];rfl,by rw[h.blk.cell];rfl,by rw[h.blk.cell];rfl,by rw[h.blk.cell];rfl⟩
end
structure Q9(w:World)(v:Bz)(n:Nat)(E:Nat->List Nat)(R:List Nat)(pl:Nat->Nat):Prop where
 gr:∃gb ob,v.b.a=some ⟨gb,ob,none⟩/\v.b.n=n/\D6 w gb ob n E
 eb:∀b,b<n->∀x∈E b,x<n
 sz:∀b,(E b).length<=1024
 od:∃go oo,v.o.a=some ⟨go,oo,none⟩/\v.o.n=R.length/\∀k y:Nat,R[k]?=some y->w.cell? ⟨go,oo+k,none⟩=some (.int .i64 (y:Int))
 rb:∀y∈R,y<n
 rl:R.length<=1024
 p1:∀b,b<n->R[pl b]?=some b
 p2:∀(k b:Nat),R[k]?=some b->pl b=k
theorem Q9.keep{w u:World}{v:Bz}{n:Nat}{E:Nat->List Nat}{R:List Nat}{pl:Nat->Nat}(h:Q9 w v n E R pl)(hb:Below w.heap.size w u):Q9 u v n E R pl:=by
 obtain⟨gb,ob,h1,h2,h3⟩:=h.gr;obtain⟨go,oo,k1,k2,k3⟩:=h.od;exact{h with gr:=⟨gb,ob,h1,h2,h3.keep hb⟩,od:=⟨go,oo,k1,k2,fun k y hy=>Ad hb (k3 k y hy)⟩}
structure Hg(w u:World)(SB h:Nat)(x:Ev)(ka:Option Addr)(kc:Nat)(ks:List Int)(n gL:Nat)(L:List Int):Prop where
 set:∃cnt D,AU u SB cnt D/\∀z:Int,Go.Maps.has D (.int .i64 z)=decide (z∈ks)
 lb:Ak u w.heap.size #[.int .i64 (h:Int),.slice x.a x.n x.c,.slice ka ks.length kc] 68
 row:u.ownsRow w.heap.size 2 1 (.slice (some ⟨gL,0,none⟩) n n) n (L.flatMap Ac)
 bel:Below w.heap.size w u
 lt:w.heap.size<gL
 ns:SB≠gL
section
variable {w u u':World} {SB h:Nat} {x:Ev} {ka:Option Addr} {kc:Nat} {ks:List Int} {n gL:Nat} {L:List Int}
theorem Hg.keep(H:Hg w u SB h x ka kc ks n gL L)(hb:Below u.heap.size u u'):Hg w u' SB h x ka kc ks n gL L:=by
 obtain⟨cnt,D,s1,s2⟩:=H.set;exact⟨⟨cnt,D,s1.keep hb,s2⟩,H.lb.keep hb,Ag H.row hb lR,Ab H.bel lR hb,H.lt,H.ns⟩
theorem Hg.put(H:Hg w u SB h x ka kc ks n gL L)(k:Nat)(y:Int):Hg w (u.setCell ⟨gL,k,none⟩ (.int .i64 y)) SB h x ka kc ks n gL (L.set k y):=by
 obtain⟨cnt,D,s1,s2⟩:=H.set;obtain⟨o1,o2⟩:=cT H.row k (.int .i64 y);rw[Kh]at o1;have:=H.lt;exact⟨⟨cnt,D,World.ownsMap.kept s1 o2 (by simp only[ne_eq,aR];exact H.ns),s2⟩,H.lb.other (a:=⟨gL,k,none⟩) (by simp only[];omega) _,o1,H.bel.setCell (by simp only[];omega) _,H.lt,H.ns⟩
theorem Hg.at_(H:Hg w u SB h x ka kc ks n gL L)(hl:L.length=n){c:Nat}(hc:c<n):u.cell? ⟨gL,c,none⟩=some (.int .i64 (cf L c))/\u.frozen? ⟨gL,c,none⟩=false:=by
 have h1:=cD H.row c (by omega);rw[Ew (OO (by rw[hl];exact hc))]at h1;obtain⟨_,cur,e⟩:=Am H.row;exact⟨h1,frozen_of_row u gL c cur _ e⟩
end
def RF(w:World)(n:Nat)(E:Nat->List Nat)(ks:List Int)(I:List Nat)(C:List Int)(h:Nat)(pl:Nat->Nat)(e:Ending)(w':World):Prop:=
 ∃(gL:Nat) (L:List Int) (small:Bool),e=.returned (.tuple #[.slice (some ⟨gL,0,none⟩) n n,.bool small])/\(small=true->(∀c,c<n->w'.cell? ⟨gL,c,none⟩=some (.int .i64 (cf L c)))/\∀y∈L,CW y)/\QI E n (fun b=>decide ((b:Int)∈ks)) I C h pl L small/\Below w.heap.size w w'
def OJ(xs:List MI)(bs:List MB)(b:Nat):Prop:=∃m x,bs[b]?=some m/\xs[m.last.toNat]?=some x/\x.op=29
theorem Jq(v:Bz)(F:List (MB×Value))(xs:List MI)(w:World)(hF:FA w v F xs.length)(hnx:∀z∈F,∃a n c,z.2=.slice a n c)(hc:Rd w 4 (.slice v.c.a v.c.n v.c.c) xs.length (xs.flatMap MI.cells)):
 Calls Tryz.prog 63 #[.agg v.cells] w fun e w'=>∃(a:Option Addr) (c:Nat) (ps:List Int),e=.returned (.slice a ps.length c)/\Rd w' 1 (.slice a ps.length c) ps.length (ps.flatMap Ac)/\(∀z,z∈ps↔∃b:Nat,z=(b:Int)/\b<F.length/\OJ xs (F.map Prod.fst) b)/\ps.length<=1024/\Below w.heap.size w w':=by
 obtain⟨k0,hk,hx0,hx1,hx2⟩:=bQ BE;have H:=AS (aq hF (aq hnx hc));have hlen:F.length<=1024:=hF.len;have htop:xs.length<=1024:=hF.top;obtain⟨ba,bc,eb⟩:=hF.rd.is_slice;simp only[aF]at eb;have HBN:Hid (v.b.n=F.length):=eb.2.1;clear hF hnx hc eb ba bc;obtain⟨ba,hba⟩:∃ba,v.b.a=ba:=⟨_,rfl⟩;have HBA:=AS hba;clear hba;have E0:Hid (Ak (w.alloc (.cells v.cells 85)) w.heap.size v.cells 85/\Below w.heap.size w (w.alloc (.cells v.cells 85))):=⟨Ak.new _ _ _,Aa _ _⟩
 go_enter Tryz.func63,Tryz.ntmps63;go_upto_region 1 with fail
 refine Al (fun u=>Hid (Ak u w.heap.size v.cells 85/\Below w.heap.size w u)) E0 ?_
 rintro U HE;clear E0;have p11:=HE.o.1.cell 11;simp only[Bz.cells]at p11;simp only[HBN.o,HBA.o]at p11;go_wp2_with fail
 clear p11;go_loopw [3,10] (fun s i wr=>∃(k:Nat) (ps:List Int),k<=F.length/\i=.int .i64 k/\Hid (wr.ownsRow U.heap.size 2 1 s ps.length (ps.flatMap Ac)/\(∀z,z∈ps↔∃b:Nat,z=(b:Int)/\b<k/\OJ xs (F.map Prod.fst) b)/\ps.length<=k/\Below U.heap.size U wr)) (fun _ i _=>F.length-(intOf i).toNat)
 case atStart=>exact⟨0,[],by omega,rfl,bL _ _ _ _,fun z=>⟨fun e=>(by cases e),fun⟨b,_,h,_⟩=>absurd h (Nat.not_lt_zero _)⟩,by simp,aX _ _⟩
 case round=>
 obtain⟨k,ps,hk1,rfl,HS⟩:=hrel;by_cases hlt:k<F.length
 case neg=>
  obtain⟨sa,sc,es⟩:=Ax HS.o.1;subst es;go_wp2_with fail
  go_ret
  refine⟨sa,sc,ps,rfl,Rd.of_own HS.o.1,fun z=> ?_,by have:=HS.o.2.2.1;omega,Ab HE.o.2 lR HS.o.2.2.2⟩;rw[HS.o.2.1 z];obtain rfl:k=F.length:=by omega
  exact Iff.rfl
 have hltI:(k:Int)<(F.length:Int):=by omega
 obtain⟨m,g,o,ma,me,nx,hm,eg,en,i0,i1,i2,e1,e2,hme,hme2,hFk⟩:=H.o.1.at hlt;obtain⟨na,nn,nc,enx⟩:=H.o.2.1 _ (aE hFk);simp only[]at enx;subst enx;obtain⟨x,hx⟩:∃x,xs[me]?=some x:=⟨_,aA hme2⟩;rcases H.o.2.2.2 with⟨q0,_⟩|⟨gc,oc,cc,q1,hcc⟩
 . omega
 simp only[aF]at q1;have y0:=Rd.elem MI.cells_length hcc me x hx 0 _ rfl;rw[aS]at y0
 have HRT:Hid (OJ xs (F.map Prod.fst) k↔x.op=29):=⟨fun⟨m',x',h1,h2,h3⟩=>by
  rw[hm]at h1;cases h1
  rw[e2,aG,hx]at h2;cases h2
  exact h3,fun h=>⟨m,x,hm,by rw[e2,aG];exact hx,h⟩⟩
 have HBel:Hid (Below w.heap.size w wr):=Ab HE.o.2 lR HS.o.2.2.2;have HY:Hid (w.cell? ⟨gc,oc+me*4,none⟩=some (.int .i64 x.op)/\v.c.a=some ⟨gc,oc,none⟩/\v.c.n=xs.length):=⟨y0,q1.1,q1.2.1⟩
 rw[<-HBel.o.cell (aC i0)]at i0;rw[<-HBel.o.cell (aC i1)]at i1;rw[<-HBel.o.cell (aC i2)]at i2;obtain rfl:ba=some ⟨g,o,none⟩:=by rw[<-HBA.o];exact eg
 obtain⟨sa,sc,es⟩:=Ax HS.o.1;subst es;have hmeI:(me:Int)<(xs.length:Int):=by omega
 clear y0 q1 hcc hm hx e1 e2 hFk;go_upto_region 5 with fail
 have E5:Hid (Ak (wr.alloc (.cells #[.int .i64 (ma:Int),.int .i64 (me:Int),.slice na nn nc] 58)) w.heap.size v.cells 85/\Ak (wr.alloc (.cells #[.int .i64 (ma:Int),.int .i64 (me:Int),.slice na nn nc] 58)) wr.heap.size #[.int .i64 (ma:Int),.int .i64 (me:Int),.slice na nn nc] 58/\(wr.alloc (.cells #[.int .i64 (ma:Int),.int .i64 (me:Int),.slice na nn nc] 58)).ownsRow U.heap.size 2 1 (.slice sa ps.length sc) ps.length (ps.flatMap Ac)/\Below U.heap.size U (wr.alloc (.cells #[.int .i64 (ma:Int),.int .i64 (me:Int),.slice na nn nc] 58))):=⟨(HE.o.1.keep HS.o.2.2.2).keep (Aa _ _),Ak.new _ _ _,HS.o.1.alloc _,HS.o.2.2.2.alloc HS.o.2.2.2.size _⟩
 generalize wr.heap.size=X at E5⊢;refine Al (fun u=>Hid (Ak u w.heap.size v.cells 85/\Ak u X #[.int .i64 (ma:Int),.int .i64 (me:Int),.slice na nn nc] 58/\u.ownsRow U.heap.size 2 1 (.slice sa ps.length sc) ps.length (ps.flatMap Ac)/\Below U.heap.size U u)) E5 ?_
 rintro U5 E6;clear E5 i0 i1 i2 HBel;have b1:=E6.o.2.1.cell 1;simp only[am,aM,aj]at b1;have p7:=E6.o.1.cell 7;simp only[Bz.cells]at p7;simp only[HY.o.2.1,HY.o.2.2]at p7;have y0:=HY.o.1;rw[<-(Ab HE.o.2 lR E6.o.2.2.2).cell (aC y0)]at y0;by_cases hop:x.op=29
 . rw [hop]at y0
   have hpl:=HS.o.2.2.1;go_wp2_with (at_builtin;refine wpList_append_own _ rfl _ _ 28 rfl U.heap.size 2 k0 (.int .i64 0) 1 8 Tryz.underlying28 hk hx0 hx1 hx2 rfl (by decide) _ ps.length (ps.flatMap Ac) rfl (E6.o.2.2.1.alloc _) ⟨U5.heap.size,0,none⟩ 1 1 [.int .i64 (k:Int)] rfl rfl (Go.cell_one_new _ _ _) (fun u hu=>by simp at hu;subst hu;rfl) (by unfold maxLen;omega) (by omega) (by have:=E6.o.2.2.2.size;simp;omega) ?_;intro v' w3 hown3 hgrow3 hnil3)
   have HQ3:Hid (w3.ownsRow U.heap.size 2 1 v' (ps++[(k:Int)]).length ((ps++[(k:Int)]).flatMap Ac)/\Below U.heap.size U w3):=by
    have o1:=E6.o.2.2.1;refine⟨?_,(E6.o.2.2.2.alloc E6.o.2.2.2.size _).grown hgrow3 (by have:=E6.o.2.2.2.size;simp;omega) (fun i hi=>(o1.lt i hi).1)⟩;rw[bP,aH];exact hown3
   clear hown3 hgrow3 hnil3;go_roundw
   case rel=>
    refine⟨k+1,ps++[(k:Int)],by omega,by go_num,HQ3.o.1,fun z=> ?_,by rw[aH];simp;omega,HQ3.o.2⟩;rw[aU,HS.o.2.1 z];simp only[aa,ao,cH];constructor
    . rintro(⟨b,h1,h2,h3⟩|rfl)
      . exact⟨b,h1,by omega,h3⟩
      . exact⟨k,rfl,by omega,HRT.o.2 hop⟩
    . rintro⟨b,h1,h2,h3⟩
      by_cases e:b=k
      . exact .inr (by rw[h1,e])
      . exact .inl ⟨b,h1,by omega,h3⟩
   case measure=>simp[intOf];omega
 . have hop':(x.op==29)=false:=by simpa using hop
   go_wp2_with fail
   go_roundw
   case rel=>
    refine⟨k+1,ps,by omega,by go_num,E6.o.2.2.1,fun z=> ?_,by have:=HS.o.2.2.1;omega,E6.o.2.2.2⟩;rw[HS.o.2.1 z];constructor
    . rintro⟨b,h1,h2,h3⟩
      exact⟨b,h1,by omega,h3⟩
    . rintro⟨b,h1,h2,h3⟩
      refine⟨b,h1,?_,h3⟩;by_cases e:b=k
      . subst e;exact absurd (HRT.o.1 h3) hop
      . omega
   case measure=>simp[intOf];omega
end Go.Proofs.YtdipfjmlfbdkdaaGreat
