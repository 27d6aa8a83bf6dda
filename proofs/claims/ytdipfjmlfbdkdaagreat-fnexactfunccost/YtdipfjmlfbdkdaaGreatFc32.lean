import Derived.Test.YtdipfjmlfbdkdaaGreatFc31
namespace Go.Proofs.YtdipfjmlfbdkdaaGreat
open Go.ChangeShapes Go.WideShapes Go.ChangeAt Go.RowKit
set_option linter.unusedVariables false
set_option maxHeartbeats 8000000
set_option maxRecDepth 100000
theorem N9{bs:List MB}{l:List Int}{k b:Nat}{z:Int}{m:MB}(hz:l[k]?=some z)(hb:z=(b:Int))(hm:bs[b]?=some m)(a:Int):Cb bs (l.take (k+1)) a↔Cb bs (l.take k) a\/(m.first<=a/\a<=m.last):=by
 have hlt:=(aD.1 hz).1
 have e:l.take (k+1)=l.take k++[z]:=by
  rw[ah hlt];congr 2
  exact(aD.1 hz).2
 rw[e];unfold Cb;constructor
 . rintro⟨y,hy,m',h1,h2⟩
   rcases aU.1 hy with hy|hy
   . exact .inl ⟨y,hy,m',h1,h2⟩
   . simp only[aa,ao,cH]at hy
     subst hy;rw[hb,aG,hm]at h1;have em:=ae h1;subst em;exact .inr h2
 . rintro(⟨y,hy,m',h1,h2⟩|h)
   . exact⟨y,aU.2 (.inl hy),m',h1,h2⟩
   . exact⟨z,by simp,m,by rw[hb,aG];exact hm,h⟩
theorem OV{bs:List MB}(l:List Int)(a:Int):¬Cb bs (l.take 0) a:=by
 rintro⟨y,hy,_⟩;simp at hy
structure FA(w:World)(v:Bz)(F:List (MB×Value))(N:Nat):Prop where
 len:F.length<=1024
 top:N<=1024
 rd:Rd w 3 (.slice v.b.a v.b.n v.b.c) F.length (F.flatMap A9)
 blk:∀(i:Nat) (m:MB),(F.map Prod.fst)[i]?=some m->∃a e:Nat,m.first=(a:Int)/\m.last=(e:Int)/\a<=e/\e<N
theorem FA.keep{w u:World}{v:Bz}{F:List (MB×Value)}{N:Nat}(h:FA w v F N)(hb:Below w.heap.size w u):FA u v F N:=⟨h.len,h.top,h.rd.keep hb lR,h.blk⟩
theorem FA.at{w:World}{v:Bz}{F:List (MB×Value)}{N:Nat}(h:FA w v F N){b:Nat}(hb:b<F.length):∃(m:MB) (g o a e:Nat) (nx:Value),(F.map Prod.fst)[b]?=some m/\v.b.a=some ⟨g,o,none⟩/\v.b.n=F.length/\w.cell? ⟨g,o+b*3,none⟩=some (.int .i64 (a:Int))/\w.cell? ⟨g,o+b*3+1,none⟩=some (.int .i64 (e:Int))/\w.cell? ⟨g,o+b*3+2,none⟩=some nx/\m.first=(a:Int)/\m.last=(e:Int)/\a<=e/\e<N/\F[b]?=some (m,nx):=by
 obtain⟨x,hx⟩:∃x,F[b]?=some x:=⟨_,aA hb⟩;have hm:(F.map Prod.fst)[b]?=some x.1:=by rw[bB,hx];rfl
 obtain⟨a,e,h1,h2,h3,h4⟩:=h.blk b x.1 hm;rcases h.rd.2 with⟨e0,_⟩|⟨g,o,cc,e1,hc1⟩
 . omega
 simp only[aF]at e1;have i0:=Rd.elem AJ hc1 b x hx 0 _ rfl;have i1:=Rd.elem AJ hc1 b x hx 1 _ rfl;have i2:=Rd.elem AJ hc1 b x hx 2 _ rfl;rw[aS,h1]at i0;rw[h2]at i1;exact⟨x.1,g,o,a,e,x.2,hm,e1.1,e1.2.1,i0,i1,i2,h1,h2,h3,h4,hx⟩
theorem Dz(v:Bz)(hd:Int)(x y:Ev)(F:List (MB×Value))(N:Nat)(bl:List Int)(w:World)(hF:FA w v F N)(hy:Rd w 1 (.slice y.a y.n y.c) bl.length (bl.flatMap Ac))(hbl:bl.length<=1024)(hz:∀z∈bl,∃b:Nat,z=(b:Int)/\b<F.length):
 Calls Tryz.prog 125 #[.agg v.cells,.agg #[.int .i64 hd,.slice x.a x.n x.c,.slice y.a y.n y.c]] w fun e w'=>∃(a:Option Addr) (c:Nat) (ps:List Int),e=.returned (.slice a ps.length c)/\Rd w' 1 (.slice a ps.length c) ps.length (ps.flatMap Ac)/\(∀z,z∈ps↔Cb (F.map Prod.fst) bl z)/\ps.length<=1048576/\Below w.heap.size w w':=by
 obtain⟨k0,hk,hx0,hx1,hx2⟩:=bQ BE;have H:Hid (FA w v F N/\Rd w 1 (.slice y.a y.n y.c) bl.length (bl.flatMap Ac)/\∀z∈bl,∃b:Nat,z=(b:Int)/\b<F.length):=⟨hF,hy,hz⟩
 obtain⟨ya,yc,ey⟩:=hy.is_slice;simp only[aF]at ey;have hyn:y.n=bl.length:=ey.2.1;clear hF hy hz ey ya yc;obtain⟨ya,yn,yc⟩:=y;simp only[]at hyn H⊢;subst hyn;have E0:=Bw w v.cells #[.int .i64 hd,.slice x.a x.n x.c,.slice ya bl.length yc] 85 68;go_enter Tryz.func125,Tryz.ntmps125;go_upto_region 2 with fail
 refine Al (fun u=>Hid (Ak u w.heap.size v.cells 85/\Ak u (w.heap.size+1) #[.int .i64 hd,.slice x.a x.n x.c,.slice ya bl.length yc] 68/\Below w.heap.size w u)) E0 ?_
 rintro U HE;clear E0;obtain⟨l0,l1,l2⟩:=BI HE.o.2.1;go_wp2_with fail
 clear l0 l1 l2;go_loopw [5,12] (fun s i wr=>∃(k:Nat) (ps:List Int),k<=bl.length/\i=.int .i64 k/\Hid (wr.ownsRow U.heap.size 2 1 s ps.length (ps.flatMap Ac)/\(∀z,z∈ps↔Cb (F.map Prod.fst) (bl.take k) z)/\ps.length<=k*1024/\Below U.heap.size U wr)) (fun _ i _=>bl.length-(intOf i).toNat)
 case atStart=>exact⟨0,[],by omega,rfl,bL _ _ _ _,fun z=>⟨fun e=>(by cases e),fun e=>absurd e (OV _ _)⟩,by simp,aX _ _⟩
 case round=>
 obtain⟨k,ps,hk1,rfl,HS⟩:=hrel;by_cases hlt:k<bl.length
 case pos=>
  obtain⟨z,hz⟩:∃z,bl[k]?=some z:=⟨_,aA hlt⟩;obtain⟨b,ez,hb⟩:=H.o.2.2 z (aE hz);obtain⟨m,g,o,ma,me,nx,hm,eg,en,i0,i1,i2,e1,e2,hme,hme2,_⟩:=H.o.1.at hb;rcases H.o.2.1.2 with⟨q0,_⟩|⟨gd,od,cd,q1,hcd⟩
  . omega
  simp only[aF,aw]at q1;obtain⟨rfl,rfl⟩:=q1;have z0:=Rd.elem Ap hcd k z hz 0 _ rfl;rw[bf,aS,ez]at z0;have HZ:Hid (bl[k]?=some z/\z=(b:Int)/\(F.map Prod.fst)[b]?=some m/\m.first=(ma:Int)/\m.last=(me:Int)):=⟨hz,ez,hm,e1,e2⟩
  clear hz ez hm e1 e2 hcd;have HBel:Hid (Below w.heap.size w wr):=Ab HE.o.2.2 lR HS.o.2.2.2;have HEr:Hid (Ak wr w.heap.size v.cells 85/\w.cell? ⟨g,o+b*3+1,none⟩=some (.int .i64 (me:Int))):=⟨HE.o.1.keep HS.o.2.2.2,i1⟩
  rw[<-HBel.o.cell (aC z0)]at z0;rw[<-HBel.o.cell (aC i0)]at i0;have p11:=HEr.o.1.cell 11;simp only[Bz.cells]at p11;simp only[eg,en]at p11;have hlen:F.length<=1024:=H.o.1.len;have htop:N<=1024:=H.o.1.top;have hbI:(b:Int)<(F.length:Int):=by omega
  go_wp2_with fail
  clear i0 p11 z0;go_loopw [5,8] (fun s i wr=>∃(d:Nat) (qs:List Int),ma<=d/\d<=me+1/\i=.int .i64 d/\Hid (wr.ownsRow U.heap.size 2 1 s qs.length (qs.flatMap Ac)/\(∀z,z∈qs↔Cb (F.map Prod.fst) (bl.take k) z\/((ma:Int)<=z/\z<(d:Int)))/\qs.length<=k*1024+(d-ma)/\Below U.heap.size U wr)) (fun _ i _=>me+1-(intOf i).toNat)
  case atStart=>exact⟨ma,ps,by omega,by omega,rfl,HS.o.1,fun z=>⟨fun e=>.inl ((HS.o.2.1 z).1 e),fun e=>(HS.o.2.1 z).2 (e.elim id fun e=>absurd e.2 (by omega))⟩,by have:=HS.o.2.2.1;omega,HS.o.2.2.2⟩
  case round=>
  clear HS HBel;obtain⟨d,qs,hd1,hd2,rfl,HQ⟩:=hrel;have HBel:Hid (Below w.heap.size w wr):=Ab HE.o.2.2 lR HQ.o.2.2.2;have i1:=HEr.o.2;rw[<-HBel.o.cell (aC i1)]at i1;have p11:=(HE.o.1.keep HQ.o.2.2.2).cell 11;simp only[Bz.cells]at p11;simp only[eg,en]at p11;by_cases hle:d<=me
  case pos=>
   have hleI:(d:Int)<=(me:Int):=by omega
   obtain⟨sa,sc,es⟩:=Ax HQ.o.1;subst es;have hql:qs.length<=k*1024+(d-ma):=HQ.o.2.2.1;go_wp2_with (at_builtin;refine wpList_append_own _ rfl _ _ 28 rfl U.heap.size 2 k0 (.int .i64 0) 1 8 Tryz.underlying28 hk hx0 hx1 hx2 rfl (by decide) _ qs.length (qs.flatMap Ac) rfl (HQ.o.1.alloc _) ⟨wr.heap.size,0,none⟩ 1 1 [.int .i64 (d:Int)] rfl rfl (Go.cell_one_new _ _ _) (fun u hu=>by simp at hu;subst hu;rfl) (by unfold maxLen;omega) (by omega) (by have:=HQ.o.2.2.2.size;simp;omega) ?_;intro v' w3 hown3 hgrow3 hnil3)
   have HQ3:Hid (w3.ownsRow U.heap.size 2 1 v' (qs++[(d:Int)]).length ((qs++[(d:Int)]).flatMap Ac)/\Below U.heap.size U w3):=by
    have o1:=HQ.o.1;refine⟨?_,(HQ.o.2.2.2.alloc HQ.o.2.2.2.size _).grown hgrow3 (by have:=HQ.o.2.2.2.size;simp;omega) (fun i hi=>(o1.lt i hi).1)⟩;rw[bP,aH];exact hown3
   clear hown3 hgrow3 hnil3
   have HM:Hid (∀z,z∈qs++[(d:Int)]↔Cb (F.map Prod.fst) (bl.take k) z\/((ma:Int)<=z/\z<((d+1:Nat):Int))):=fun z=>by
    rw[aU,HQ.o.2.1 z];simp only[aa,ao,cH];constructor
    . rintro((h|h)|h)
      . exact .inl h
      . exact .inr (by omega)
      . exact .inr (by omega)
    . rintro(h|h)
      . exact .inl (.inl h)
      . by_cases e:z=(d:Int)
        . exact .inr e
        . exact .inl (.inr (by omega))
   clear i1 p11;go_wp2
   go_roundw
   case rel=>exact⟨d+1,qs++[(d:Int)],by omega,by omega,by go_num,HQ3.o.1,HM.o,by rw[aH,aI];omega,HQ3.o.2⟩
   case measure=>simp[intOf];omega
  have hdn:d=me+1:=by omega
  have hleI:¬(d:Int)<=(me:Int):=by omega
  have HM:Hid ((∀z,z∈qs↔Cb (F.map Prod.fst) (bl.take (k+1)) z)/\qs.length<=(k+1)*1024):=⟨fun z=>by
   rw[HQ.o.2.1 z,N9 HZ.o.1 HZ.o.2.1 HZ.o.2.2.1,HZ.o.2.2.2.1,HZ.o.2.2.2.2];constructor
   . rintro(h|h)
     . exact .inl h
     . exact .inr (by omega)
   . rintro(h|h)
     . exact .inl h
     . exact .inr (by omega),by have:=HQ.o.2.2.1;omega⟩
  go_wp2
  go_roundw
  case rel=>exact⟨k+1,qs,by omega,by go_num,HQ.o.1,HM.o.1,HM.o.2,HQ.o.2.2.2⟩
  case measure=>simp[intOf];omega
 have hkn:k=bl.length:=by omega
 subst hkn;obtain⟨sa,sc,es⟩:=Ax HS.o.1;subst es;have HR:Hid ((∀z,z∈ps↔Cb (F.map Prod.fst) bl z)/\ps.length<=1048576):=⟨fun z=>by have:=HS.o.2.1 z;rw[List.take_length]at this;exact this,by have:=HS.o.2.2.1;omega⟩
 go_wp2
 go_ret
 exact⟨sa,sc,ps,rfl,Rd.of_own HS.o.1,HR.o.1,HR.o.2,Ab HE.o.2.2 lR HS.o.2.2.2⟩
def OE(xs:List MI):Prop:=∃r,AR xs r/\r.code=0
theorem Em{w:World}{b:Nat}{t:TypeId}{a0 a1 a2 a3:Value}(h:Ak w b #[a0,a1,a2,a3] t):w.cell? ⟨b,0,none⟩=some a0/\w.cell? ⟨b,1,none⟩=some a1/\w.cell? ⟨b,2,none⟩=some a2/\w.cell? ⟨b,3,none⟩=some a3:=⟨h.cell 0,h.cell 1,h.cell 2,h.cell 3⟩
theorem Dg.sl{w:World}{v:VP}{p:MP}(h:Dg w v p):∃r1 r3 k1 k3 t1 t3 f1 f3,v=⟨.slice r1 p.regions.length r3,.slice k1 p.consts.length k3,.slice f1 p.funcs.length f3,.slice t1 p.certs.length t3⟩:=by
 obtain⟨r1,r3,er⟩:=(show∃a c,v.r=.slice a p.regions.length c from by obtain⟨_,_,h2,_⟩:=h.regions;exact h2.is_slice);obtain⟨k1,k3,ek⟩:=h.consts.is_slice;obtain⟨t1,t3,et⟩:=h.certs.is_slice;obtain⟨f1,f3,ef⟩:=(show∃a c,v.f=.slice a p.funcs.length c from by obtain⟨_,_,h2,_⟩:=h.funcs;exact h2.is_slice);obtain⟨vr,vk,vf,vt⟩:=v;simp only[]at er ek et ef;subst er ek et ef;exact⟨r1,r3,k1,k3,t1,t3,f1,f3,rfl⟩
theorem Kv{w:World}{g:VF}{f:MF}(h:C9 w g f):∃g1 g3 g4 g6 g7 g9,g=⟨.slice g1 f.params.length g3,.slice g4 f.locals.length g6,.slice g7 f.code.length g9⟩:=by
 obtain⟨g1,g3,e1⟩:=h.1.is_slice;obtain⟨g4,g6,e2⟩:=h.2.1.is_slice;obtain⟨g7,g9,e3⟩:=h.2.2.is_slice;obtain⟨gp,gl,gc⟩:=g;simp only[]at e1 e2 e3;subst e1 e2 e3;exact⟨g1,g3,g4,g6,g7,g9,rfl⟩
theorem DT{w:World}{b:Nat}{t:TypeId}{a0 a1 a2 a3 a4 a5:Value}(h:Ak w b #[a0,a1,a2,a3,a4,a5] t):w.cell? ⟨b,0,none⟩=some a0/\w.cell? ⟨b,1,none⟩=some a1/\w.cell? ⟨b,2,none⟩=some a2/\w.cell? ⟨b,3,none⟩=some a3/\w.cell? ⟨b,4,none⟩=some a4/\w.cell? ⟨b,5,none⟩=some a5:=⟨h.cell 0,h.cell 1,h.cell 2,h.cell 3,h.cell 4,h.cell 5⟩
theorem QL{w:World}{b:Nat}{t:TypeId}{cur:Array Value}(h:Ak w b cur t):w.frozen? ⟨b,0,none⟩=false/\w.frozen? ⟨b,1,none⟩=false/\w.frozen? ⟨b,2,none⟩=false/\w.frozen? ⟨b,3,none⟩=false/\w.frozen? ⟨b,4,none⟩=false/\w.frozen? ⟨b,5,none⟩=false:=⟨h.frozen 0,h.frozen 1,h.frozen 2,h.frozen 3,h.frozen 4,h.frozen 5⟩
theorem Km(n c:Int)(w:World):Calls Tryz.prog 55 #[.int .i64 n,.int .i64 c] w fun e w'=>Aj e (0<=n/\n<c)/\w'=w:=(Ay n c w).mono fun e w' h=>⟨⟨_,h.1,by simp⟩,h.2⟩
def Nj(p:MP)(fi:Int):Prop:=Be p 0/\0<=fi/\∃f,p.funcs[fi.toNat]?=some f/\OE f.code
theorem Cq.keepF{w w':World}{base:Nat}{vb vo vi vl:Value}{F:List (MB×Value)}{ys:List (ML×Value×Value)}{r:Dm}(h:Cq w base vb vo vi vl F ys r)(hb:Below w.heap.size w w'):Cq w' base vb vo vi vl F ys r:=⟨Ag h.brow hb lR,Ag h.lrow hb lR,h.fam.keep hb,h.eb,h.el⟩
theorem Cq.sl{w:World}{base:Nat}{vb vo vi vl:Value}{F:List (MB×Value)}{ys:List (ML×Value×Value)}{r:Dm}(h:Cq w base vb vo vi vl F ys r):∃v1 n1 c1 v2 n2 c2 v3 n3 c3 v4 n4 c4,vb=.slice v1 n1 c1/\vo=.slice v2 n2 c2/\vi=.slice v3 n3 c3/\vl=.slice v4 n4 c4:=by
 obtain⟨v1,c1,e1⟩:=Ax h.brow;obtain⟨v4,c4,e4⟩:=Ax h.lrow;obtain⟨v2,c2,e2⟩:=Ax (h.fam.own (vo,r.order) (by simp));obtain⟨v3,c3,e3⟩:=Ax (h.fam.own (vi,r.idom) (by simp));exact⟨v1,_,c1,v2,_,c2,v3,_,c3,v4,_,c4,e1,e2,e3,e4⟩
theorem NU{B:Nat}{w u:World}(h:Below B w u)(g i:Nat)(hg:B<=g)(x:Value):Below B w (u.setCell ⟨g,i,none⟩ x):=h.setCell hg x
theorem Cq.set{w:World}{base:Nat}{vb vo vi vl:Value}{F:List (MB×Value)}{ys:List (ML×Value×Value)}{r:Dm}(h:Cq w base vb vo vi vl F ys r){a:Addr}(ha:a.block<base)(x:Value):Cq (w.setCell a x) base vb vo vi vl F ys r:=⟨bu h.brow ha x,bu h.lrow ha x,⟨fun r hr=>bu (h.fam.own r hr) ha x,h.fam.sep⟩,h.eb,h.el⟩
theorem Cq.down{w:World}{base base':Nat}{vb vo vi vl:Value}{F:List (MB×Value)}{ys:List (ML×Value×Value)}{r:Dm}(h:Cq w base vb vo vi vl F ys r)(hb:base'<=base):Cq w base' vb vo vi vl F ys r:=⟨A6 h.brow hb,A6 h.lrow hb,⟨fun r hr=>A6 (h.fam.own r hr) hb,h.fam.sep⟩,h.eb,h.el⟩
def Rc(w:World)(p:MP)(fi:Int)(e:Ending)(w':World):Prop:=∃(c a:Int) (v1:Option Addr) (n1 c1:Nat) (v2:Option Addr) (n2 c2:Nat) (v3:Option Addr) (n3 c3:Nat) (v4:Option Addr) (n4 c4:Nat) (bb:Bool),e=.returned (.tuple #[.agg #[.int .i64 c,.int .i64 a,.slice v1 n1 c1,.slice v2 n2 c2,.slice v3 n3 c3,.slice v4 n4 c4],.bool bb])/\(bb=true↔Nj p fi)/\(bb=true->∃f r F ys,p.funcs[fi.toNat]?=some f/\AR f.code r/\r.code=0/\c=0/\Cq w' w.heap.size (.slice v1 n1 c1) (.slice v2 n2 c2) (.slice v3 n3 c3) (.slice v4 n4 c4) F ys r)/\Below w.heap.size w w'
theorem Ih(v:VP)(p:MP)(fi:Int)(w:World)(hs:p.small)(hw:p.wf)(h:Dg w v p)(hcap:Fo w v.r p.regions)(hfp:Gt w v.f p.funcs):Calls Tryz.prog 28 #[.agg #[v.r,v.k,v.f,v.t],.int .i64 fi] w (Rc w p fi):=by
 have H:Hid (p.small/\p.wf/\Dg w v p/\Fo w v.r p.regions/\Gt w v.f p.funcs):=⟨hs,hw,h,hcap,hfp⟩
 obtain⟨r1,r3,k1,k3,t1,t3,f1,f3,rfl⟩:=h.sl;clear hs hw h hcap hfp;have HFL:Hid (p.funcs.length<=1048576):=H.o.1.funcs;generalize hnf:p.funcs.length=nf at H HFL⊢;have HNF:Hid (p.funcs.length=nf):=hnf;clear hnf;generalize p.regions.length=nr at H⊢;generalize p.consts.length=nk at H⊢;generalize p.certs.length=nt at H⊢;simp only[]at H
 have E0:Hid (Ak ((w.alloc (.cells #[.slice r1 nr r3,.slice k1 nk k3,.slice f1 nf f3,.slice t1 nt t3] 35)).alloc (.cells #[.int .i64 0,.int .i64 0,.slice none 0 0,.slice none 0 0,.slice none 0 0,.slice none 0 0] 52)) w.heap.size #[.slice r1 nr r3,.slice k1 nk k3,.slice f1 nf f3,.slice t1 nt t3] 35/\Ak ((w.alloc (.cells #[.slice r1 nr r3,.slice k1 nk k3,.slice f1 nf f3,.slice t1 nt t3] 35)).alloc (.cells #[.int .i64 0,.int .i64 0,.slice none 0 0,.slice none 0 0,.slice none 0 0,.slice none 0 0] 52)) (w.heap.size+1) #[.int .i64 0,.int .i64 0,.slice none 0 0,.slice none 0 0,.slice none 0 0,.slice none 0 0] 52/\Below w.heap.size w ((w.alloc (.cells #[.slice r1 nr r3,.slice k1 nk k3,.slice f1 nf f3,.slice t1 nt t3] 35)).alloc (.cells #[.int .i64 0,.int .i64 0,.slice none 0 0,.slice none 0 0,.slice none 0 0,.slice none 0 0] 52))):=by
  have b1:=Aa w (.cells #[.slice r1 nr r3,.slice k1 nk k3,.slice f1 nf f3,.slice t1 nt t3] 35);have b2:=Aa (w.alloc (.cells #[.slice r1 nr r3,.slice k1 nk k3,.slice f1 nf f3,.slice t1 nt t3] 35)) (.cells #[.int .i64 0,.int .i64 0,.slice none 0 0,.slice none 0 0,.slice none 0 0,.slice none 0 0] 52);refine⟨(Ak.new w _ _).keep b2,?_,Ab b1 lR b2⟩;have k2:=Ak.new (w.alloc (.cells #[.slice r1 nr r3,.slice k1 nk k3,.slice f1 nf f3,.slice t1 nt t3] 35)) #[.int .i64 0,.int .i64 0,.slice none 0 0,.slice none 0 0,.slice none 0 0,.slice none 0 0] 52;have e1:(w.alloc (.cells #[.slice r1 nr r3,.slice k1 nk k3,.slice f1 nf f3,.slice t1 nt t3] 35)).heap.size=w.heap.size+1:=by simp
  rw[e1]at k2;exact k2
 go_enter Tryz.func28,Tryz.ntmps28;go_upto_region 1 with fail
 refine Al (fun u=>Hid (Ak u w.heap.size #[.slice r1 nr r3,.slice k1 nk k3,.slice f1 nf f3,.slice t1 nt t3] 35/\Ak u (w.heap.size+1) #[.int .i64 0,.int .i64 0,.slice none 0 0,.slice none 0 0,.slice none 0 0,.slice none 0 0] 52/\Below w.heap.size w u)) E0 ?_
 rintro U E1;clear E0;obtain⟨p0,p1,p2,p3⟩:=Em E1.o.1;go_wp2_with fail
 refine(Gy ⟨.slice r1 nr r3,.slice k1 nk k3,.slice f1 nf f3,.slice t1 nt t3⟩ p U H.o.1 H.o.2.1 (H.o.2.2.1.keep E1.o.2.2 lR) (H.o.2.2.2.1.keep E1.o.2.2 lR) (H.o.2.2.2.2.keep E1.o.2.2 lR)).mono ?_;rintro e u1 ⟨⟨n,rfl,hn⟩,b1⟩;have E2:Hid (Ak u1 w.heap.size #[.slice r1 nr r3,.slice k1 nk k3,.slice f1 nf f3,.slice t1 nt t3] 35/\Ak u1 (w.heap.size+1) #[.int .i64 0,.int .i64 0,.slice none 0 0,.slice none 0 0,.slice none 0 0,.slice none 0 0] 52/\Below w.heap.size w u1):=⟨E1.o.1.keep b1,E1.o.2.1.keep b1,Ab E1.o.2.2 lR b1⟩
 have HN:Hid (Be p n):=hn;clear b1 hn E1 p0 p1 p2 p3;obtain⟨q0,q1,q2,q3,q4,q5⟩:=DT E2.o.2.1;obtain⟨z0,z1,z2,z3,z4,z5⟩:=QL E2.o.2.1;by_cases hn0:n=0
 . subst hn0
   rw[show Nu 0=.nilIface from rfl];obtain⟨p0,p1,p2,p3⟩:=Em E2.o.1;go_wp2_with fail
   refine(Km fi (nf:Int) u1).mono ?_;rintro e u2 ⟨⟨b2,rfl,hb2⟩,rfl⟩;have HB2:Hid (b2=true↔(0<=fi/\fi<(nf:Int))):=hb2
   clear hb2;cases b2
   . have HNP:Hid (¬Nj p fi):=fun e=>by
      obtain⟨f,hf,_⟩:=e.2.2;have h1:=(aD.1 hf).1;have h2:=HNF.o;have:=HB2.o.2 ⟨e.2.1,by have:=e.2.1;omega⟩;cases this
     go_wp2_with fail
     have G:Hid _:=(((((E2.o.2.1.set 0 (.int .i64 0)).set 1 (.int .i64 0)).set 2 (.slice none 0 0)).set 3 (.slice none 0 0)).set 4 (.slice none 0 0)).set 5 (.slice none 0 0);simp only[cu,b7,bj]at G;clear q0 q1 q2 q3 q4 q5;obtain⟨q0,q1,q2,q3,q4,q5⟩:=DT G.o;exact bC (v:=.tuple #[.agg #[.int .i64 0,.int .i64 0,.slice none 0 0,.slice none 0 0,.slice none 0 0,.slice none 0 0],.bool false]) (by simp[results,Tryz.results28,go_sem,q0,q1,q2,q3,q4,q5]) rfl ⟨0,0,_,_,_,_,_,_,_,_,_,_,_,_,false,rfl,⟨fun e=>(by cases e),fun e=>absurd e HNP.o⟩,fun e=>(by cases e),(((((E2.o.2.2.setCell (by simp only[];omega) _).setCell (by simp only[];omega) _).setCell (by simp only[];omega) _).setCell (by simp only[];omega) _).setCell (by simp only[];omega) _).setCell (by simp only[];omega) _⟩
   . have hfi:=HB2.o.1 (by first|rfl|trivial)
     obtain⟨q,rfl⟩:=aT hfi.1;obtain⟨f,hf⟩:∃f,p.funcs[q]?=some f:=⟨_,aA (by rw[HNF.o];omega)⟩;obtain⟨gk,ok,ck,efn,g,hrf,m0,m1,m2,m3⟩:=Nv (H.o.2.2.1.keep E2.o.2.2 lR).funcs hf;simp only[aF,HNF.o,aw]at efn;obtain⟨rfl,rfl⟩:=efn;obtain⟨g1,g3,g4,g6,g7,g9,rfl⟩:=Kv hrf;have hqL:(q:Int)<(nf:Int):=hfi.2;have HF:Hid (p.funcs[q]?=some f/\f.small/\C9 u2 ⟨.slice g1 f.params.length g3,.slice g4 f.locals.length g6,.slice g7 f.code.length g9⟩ f):=⟨hf,H.o.1.func f (aE hf),hrf⟩
     clear hf hrf hfi HB2;simp only[]at m0 m1 m2 m3;go_wp2_with fail
     refine(Kj (.slice g7 f.code.length g9) f.code u2 HF.o.2.1.2.2 HF.o.2.2.2.2).mono ?_;rintro e u3 ⟨r,vb,vo,vi,vl,F,ys,rfl,hfl,how,b3⟩;obtain⟨v1,n1,c1,v2,n2,c2,v3,n3,c3,v4,n4,c4,rfl,rfl,rfl,rfl⟩:=how.sl;have E3:Hid (AR f.code r/\Cq u3 u2.heap.size (.slice v1 n1 c1) (.slice v2 n2 c2) (.slice v3 n3 c3) (.slice v4 n4 c4) F ys r/\Ak u3 (w.heap.size+1) #[.int .i64 0,.int .i64 0,.slice none 0 0,.slice none 0 0,.slice none 0 0,.slice none 0 0] 52/\Below w.heap.size w u3/\w.heap.size+1<u2.heap.size):=⟨hfl,how,E2.o.2.1.keep b3,Ab E2.o.2.2 lR b3,E2.o.2.1.lt⟩
     clear hfl how b3 E2 m0 m1 m2 m3 p0 p1 p2 p3 q0 q1 q2 q3 q4 q5 z0 z1 z2 z3 z4 z5;have E4:Hid (Ak (u3.alloc (.cells #[.int .i64 r.code,.int .i64 r.at_,.slice v1 n1 c1,.slice v2 n2 c2,.slice v3 n3 c3,.slice v4 n4 c4] 52)) u3.heap.size #[.int .i64 r.code,.int .i64 r.at_,.slice v1 n1 c1,.slice v2 n2 c2,.slice v3 n3 c3,.slice v4 n4 c4] 52/\Ak (u3.alloc (.cells #[.int .i64 r.code,.int .i64 r.at_,.slice v1 n1 c1,.slice v2 n2 c2,.slice v3 n3 c3,.slice v4 n4 c4] 52)) (w.heap.size+1) #[.int .i64 0,.int .i64 0,.slice none 0 0,.slice none 0 0,.slice none 0 0,.slice none 0 0] 52/\Cq (u3.alloc (.cells #[.int .i64 r.code,.int .i64 r.at_,.slice v1 n1 c1,.slice v2 n2 c2,.slice v3 n3 c3,.slice v4 n4 c4] 52)) u2.heap.size (.slice v1 n1 c1) (.slice v2 n2 c2) (.slice v3 n3 c3) (.slice v4 n4 c4) F ys r/\Below w.heap.size w (u3.alloc (.cells #[.int .i64 r.code,.int .i64 r.at_,.slice v1 n1 c1,.slice v2 n2 c2,.slice v3 n3 c3,.slice v4 n4 c4] 52))/\w.heap.size+1<u3.heap.size):=⟨Ak.new _ _ _,E3.o.2.2.1.keep (Aa _ _),E3.o.2.1.keepF (Aa _ _),Ab E3.o.2.2.2.1 lR (Aa _ _),E3.o.2.2.1.lt⟩
     have HFO:Hid (AR f.code r/\w.heap.size+1<u2.heap.size):=⟨E3.o.1,E3.o.2.2.2.2⟩
     go_upto_region 4 with fail
     clear E3;generalize u3.heap.size=Y at E4⊢;refine Al (fun u=>Hid (Ak u Y #[.int .i64 r.code,.int .i64 r.at_,.slice v1 n1 c1,.slice v2 n2 c2,.slice v3 n3 c3,.slice v4 n4 c4] 52/\Ak u (w.heap.size+1) #[.int .i64 0,.int .i64 0,.slice none 0 0,.slice none 0 0,.slice none 0 0,.slice none 0 0] 52/\Cq u u2.heap.size (.slice v1 n1 c1) (.slice v2 n2 c2) (.slice v3 n3 c3) (.slice v4 n4 c4) F ys r/\Below w.heap.size w u/\w.heap.size+1<Y)) E4 ?_
     rintro U5 E5;clear E4;have E6:Hid (Cq U5 u2.heap.size (.slice v1 n1 c1) (.slice v2 n2 c2) (.slice v3 n3 c3) (.slice v4 n4 c4) F ys r/\Below w.heap.size w U5):=⟨E5.o.2.2.1,E5.o.2.2.2.1⟩
     obtain⟨y0,y1,y2,y3,y4,y5⟩:=DT (E5.o.1.keep (Ae _));obtain⟨q0,q1,q2,q3,q4,q5⟩:=DT (E5.o.2.1.keep (Ae _));obtain⟨z0,z1,z2,z3,z4,z5⟩:=QL (E5.o.2.1.keep (Ae _));obtain⟨y0',y1',y2',y3',y4',y5'⟩:=DT E5.o.1;obtain⟨q0',q1',q2',q3',q4',q5'⟩:=DT E5.o.2.1;obtain⟨z0',z1',z2',z3',z4',z5'⟩:=QL E5.o.2.1;have hYne:¬Y=w.heap.size+1:=by have:=E5.o.2.2.2.2;omega
     have hYne':¬w.heap.size+1=Y:=by have:=E5.o.2.2.2.2;omega
     go_region
     have G:Hid _:=(((((E5.o.2.1.set 0 (.int .i64 r.code)).set 1 (.int .i64 r.at_)).set 2 (.slice v1 n1 c1)).set 3 (.slice v2 n2 c2)).set 4 (.slice v3 n3 c3)).set 5 (.slice v4 n4 c4);simp only[cu,b7,bj]at G;have hb2:=HFO.o.2;have OW:Hid _:=((((((E6.o.1.set (a:=⟨w.heap.size+1,0,none⟩) hb2 (.int .i64 r.code)).set (a:=⟨w.heap.size+1,1,none⟩) hb2 (.int .i64 r.at_)).set (a:=⟨w.heap.size+1,2,none⟩) hb2 (.slice v1 n1 c1)).set (a:=⟨w.heap.size+1,3,none⟩) hb2 (.slice v2 n2 c2)).set (a:=⟨w.heap.size+1,4,none⟩) hb2 (.slice v3 n3 c3)).set (a:=⟨w.heap.size+1,5,none⟩) hb2 (.slice v4 n4 c4)).keepF (Ae _);have BB:Hid _:=Ab (NU (NU (NU (NU (NU (NU E6.o.2 (w.heap.size+1) 0 (Nat.le_succ _) (.int .i64 r.code)) (w.heap.size+1) 1 (Nat.le_succ _) (.int .i64 r.at_)) (w.heap.size+1) 2 (Nat.le_succ _) (.slice v1 n1 c1)) (w.heap.size+1) 3 (Nat.le_succ _) (.slice v2 n2 c2)) (w.heap.size+1) 4 (Nat.le_succ _) (.slice v3 n3 c3)) (w.heap.size+1) 5 (Nat.le_succ _) (.slice v4 n4 c4)) lR (Ae _);clear q0 q1 q2 q3 q4 q5 q0' q1' q2' q3' q4' q5' y0 y1 y2 y3 y4 y5 y0' y1' y2' y3' y4' y5' z0 z1 z2 z3 z4 z5 z0' z1' z2' z3' z4' z5' hYne hYne'
     obtain⟨q0,q1,q2,q3,q4,q5⟩:=DT (Ak.keep (w:=(((((U5.setCell ⟨w.heap.size+1,0,none⟩ (.int .i64 r.code)).setCell ⟨w.heap.size+1,1,none⟩ (.int .i64 r.at_)).setCell ⟨w.heap.size+1,2,none⟩ (.slice v1 n1 c1)).setCell ⟨w.heap.size+1,3,none⟩ (.slice v2 n2 c2)).setCell ⟨w.heap.size+1,4,none⟩ (.slice v3 n3 c3)).setCell ⟨w.heap.size+1,5,none⟩ (.slice v4 n4 c4)) (b:=w.heap.size+1) (t:=52) G.o (Ae _));go_wp2_with fail
     have hb3:w.heap.size<=u2.heap.size:=by omega
     exact bC (v:=.tuple #[.agg #[.int .i64 r.code,.int .i64 r.at_,.slice v1 n1 c1,.slice v2 n2 c2,.slice v3 n3 c3,.slice v4 n4 c4],.bool (r.code==0)]) (by simp[results,Tryz.results28,go_sem,q0,q1,q2,q3,q4,q5]) rfl ⟨r.code,r.at_,v1,n1,c1,v2,n2,c2,v3,n3,c3,v4,n4,c4,r.code==0,rfl,⟨fun e=>⟨HN.o,by omega,f,by rw[aG];exact HF.o.1,r,HFO.o.1,by simpa using e⟩,fun e=>by
      obtain⟨f',hf',r',hr',hc'⟩:=e.2.2;rw[aG,HF.o.1]at hf';obtain rfl:=ae hf';have:=hr'.one HFO.o.1;rw[<-this];simpa using hc'⟩,fun e=>⟨f,r,F,ys,by rw[aG];exact HF.o.1,HFO.o.1,by simpa using e,by simpa using e,OW.o.down hb3⟩,BB.o⟩
 . rw[show Nu n=.iface 152 (.int .i64 n)from by unfold Nu;rw[bF hn0]]
   have HNP:Hid (¬Nj p fi):=fun e=>hn0 (HN.o.one e.1)
   clear hn0;go_wp2_with fail
   have G:Hid _:=(((((E2.o.2.1.set 0 (.int .i64 0)).set 1 (.int .i64 0)).set 2 (.slice none 0 0)).set 3 (.slice none 0 0)).set 4 (.slice none 0 0)).set 5 (.slice none 0 0);simp only[cu,b7,bj]at G;clear q0 q1 q2 q3 q4 q5;obtain⟨q0,q1,q2,q3,q4,q5⟩:=DT G.o;exact bC (v:=.tuple #[.agg #[.int .i64 0,.int .i64 0,.slice none 0 0,.slice none 0 0,.slice none 0 0,.slice none 0 0],.bool false]) (by simp[results,Tryz.results28,go_sem,q0,q1,q2,q3,q4,q5]) rfl ⟨0,0,_,_,_,_,_,_,_,_,_,_,_,_,false,rfl,⟨fun e=>(by cases e),fun e=>absurd e HNP.o⟩,fun e=>(by cases e),(((((E2.o.2.2.setCell (by simp only[];omega) _).setCell (by simp only[];omega) _).setCell (by simp only[];omega) _).setCell (by simp only[];omega) _).setCell (by simp only[];omega) _).setCell (by simp only[];omega) _⟩
end Go.Proofs.YtdipfjmlfbdkdaaGreat
