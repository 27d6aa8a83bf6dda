import Derived.Test.YtlejplpkomddeaaGreatR0
import Derived.Test.YtlejplpkomddeaaGreatR4
import Derived.Test.YtlejplpkomddeaaGreatR13
import Derived.Test.YtlejplpkomddeaaGreatR26
import Derived.Test.YtlejplpkomddeaaGreatR11
namespace Go.Proofs.YtlejplpkomddeaaGreat
open Go.ChangeShapes Go.WideShapes Go.ChangeAt Go.RowKit
set_option linter.unusedVariables false
set_option maxHeartbeats 8000000
set_option maxRecDepth 100000
structure DH(w u:World)(B:Nat)(v:VP)(t c n:Int)(x:VS)(C:List (Value×List MC))(K:List MC)(F:List (MG×Value)):Prop where
 pb:Ap u w.heap.size #[v.r,v.k,v.f,v.t] 45
 sb:Ap u (w.heap.size+1) #[.int .i64 t,.bool false,.int .i64 c,.int .i64 n,x.c,x.k,x.f] 39
 rb:Ap u (w.heap.size+1+1) #[.int .i64 0,.bool false,.int .i64 0,.int .i64 0,.slice none 0 0,.slice none 0 0,.slice none 0 0] 39
 own:Ah u B x C K F
 bel:Co B w u
 le:w.heap.size<=u.heap.size
 hB:B<=w.heap.size
theorem DH.keep{w u u':World}{B:Nat}{v:VP}{t c n:Int}{x:VS}{C:List (Value×List MC)}{K:List MC}{F:List (MG×Value)}(h:DH w u B v t c n x C K F)(hb:Below u.heap.size u u'):DH w u' B v t c n x C K F:=⟨h.pb.keep hb,h.sb.keep hb,h.rb.keep hb,h.own.grow hb,h.bel.on hb,Nat.le_trans h.le hb.size,h.hB⟩
theorem DH.of{w:World}{B:Nat}(v:VP)(t c n:Int){x:VS}{C:List (Value×List MC)}{K:List MC}{F:List (MG×Value)}(h:Ah w B x C K F)(hB:B<=w.heap.size):DH w (((w.alloc (.cells #[v.r,v.k,v.f,v.t] 45)).alloc (.cells #[.int .i64 t,.bool false,.int .i64 c,.int .i64 n,x.c,x.k,x.f] 39)).alloc (.cells #[.int .i64 0,.bool false,.int .i64 0,.int .i64 0,.slice none 0 0,.slice none 0 0,.slice none 0 0] 39)) B v t c n x C K F:=by
 have b1:=Aa w (.cells #[v.r,v.k,v.f,v.t] 45);have k1:=Ap.new w #[v.r,v.k,v.f,v.t] 45;generalize hU1:w.alloc (.cells #[v.r,v.k,v.f,v.t] 45)=U1 at b1 k1⊢;have z1:U1.heap.size=w.heap.size+1:=by rw[<-hU1];simp
 have b2:=Aa U1 (.cells #[.int .i64 t,.bool false,.int .i64 c,.int .i64 n,x.c,x.k,x.f] 39);have k2:=Ap.new U1 #[.int .i64 t,.bool false,.int .i64 c,.int .i64 n,x.c,x.k,x.f] 39;rw[z1]at k2;generalize hU2:U1.alloc (.cells #[.int .i64 t,.bool false,.int .i64 c,.int .i64 n,x.c,x.k,x.f] 39)=U2 at b2 k2⊢;have z2:U2.heap.size=w.heap.size+1+1:=by rw[<-hU2];simp[z1]
 have b3:=Aa U2 (.cells #[.int .i64 0,.bool false,.int .i64 0,.int .i64 0,.slice none 0 0,.slice none 0 0,.slice none 0 0] 39);have k3:=Ap.new U2 #[.int .i64 0,.bool false,.int .i64 0,.int .i64 0,.slice none 0 0,.slice none 0 0,.slice none 0 0] 39;rw[z2]at k3;have bb:=Ab (Ab b1 lR b2) lR b3;exact⟨(k1.keep b2).keep b3,k2.keep b3,k3,h.grow bb,.of bb hB,bb.size,hB⟩
theorem DH.setAt{w u:World}{B:Nat}{v:VP}{t c n:Int}{x:VS}{C:List (Value×List MC)}{K:List MC}{F:List (MG×Value)}(h:DH w u B v t c n x C K F){g m cp i:Nat}{y:MG×Value}(hv:x.f=.slice (some ⟨g,0,none⟩) m cp)(hx:F[i]?=some y)(z:Int):DH w (u.setCell ⟨g,i*4+1,none⟩ (.int .i64 z)) B v t c n x C K (F.set i ({y.1 with at_:=z},y.2)):=by
 obtain⟨o1,g1⟩:=h.own.setAt hv hx z;have hf:=h.own.frames;rw[hv]at hf;have hm:m=F.length:=BG hf;subst hm;obtain⟨hb,cur,hg⟩:=Bq hf
 have ne:∀{b:Nat} {cu:Array Value} {ty:TypeId},Ap u b cu ty->ty≠123->b≠g:=fun hk hne e=>by
  subst e;unfold Ap at hk;rw[hk]at hg;simp only[Option.some.injEq,Obj.cells.injEq]at hg;exact hne hg.2.1
 exact⟨h.pb.other (ne h.pb (by decide)) _,h.sb.other (ne h.sb (by decide)) _,h.rb.other (ne h.rb (by decide)) _,o1,h.bel.other hg (by decide) hb _ _,by rw[World.size_setCell];exact h.le,h.hB⟩
theorem DH.setK{w u u':World}{B:Nat}{v:VP}{t c n:Int}{x:VS}{C:List (Value×List MC)}{K K':List MC}{F:List (MG×Value)}(h:DH w u B v t c n x C K F)(hb:Below u.heap.size u u'){k:Value}(ho:u'.ownsRow u.heap.size 128 2 k K'.length (K'.flatMap MC.cells)):DH w (u'.setCell ⟨w.heap.size+1,5,none⟩ k) B v t c n {x with k:=k} C K' F:=by
 have h1:=h.keep hb;have hBu:B<=u.heap.size:=Nat.le_trans h.hB h.le;have o1:Ah u' B {x with k:=k} C K' F:=h.own.stack hBu ⟨hb.os,hb.tape,hb.output,hb.size,fun j hj _=>hb.block j hj⟩ (AK ho hBu) (.inr (fun g hg=>(ho.lt g hg).1));have hB:=h.hB;exact⟨h1.pb.other (by simp only[];omega) _,h1.sb.set 5 k,h1.rb.other (by simp only[];omega) _,o1.other h1.sb (by decide) (by decide) (by decide) 5 k,h1.bel.setCell (by simp only[];omega) _,by rw[World.size_setCell];exact h1.le,h.hB⟩
theorem DH.pushF{w u u6 u8:World}{B:Nat}{v:VP}{t c n:Int}{x:VS}{C:List (Value×List MC)}{K:List MC}{F:List (MG×Value)}(h:DH w u B v t c n x C K F)(hb:Below u.heap.size u u6){y:MG×Value}(ho:u6.ownsRow u.heap.size 128 2 y.2 y.1.locals.length (y.1.locals.flatMap MC.cells)){b:Value}(hg:u6.grownBy u8 x.f.ownBlock)(hown:u8.ownsRow B 123 4 b (F.length+1) (F.flatMap AA++AA y)):DH w (u8.setCell ⟨w.heap.size+1,6,none⟩ b) B v t c n {x with f:=b} C K (F++[y]):=by
 have h7:=h.keep hb;have hBu:B<=u.heap.size:=Nat.le_trans h.hB h.le;have h8:=h.own.pushF hBu hb ho hg hown;have p8:=h7.pb.grown hg h7.own.frames (by decide);have s8:=h7.sb.grown hg h7.own.frames (by decide);have r8:=h7.rb.grown hg h7.own.frames (by decide);have hB:=h.hB;refine⟨p8.other (by simp only[];omega) _,s8.set 6 b,r8.other (by simp only[];omega) _,h8.other s8 (by decide) (by decide) (by decide) 6 b,?_,?_,h.hB⟩
 ·exact(h7.bel.grown hg h7.own.frames (by decide)).setCell (by simp only[];omega) _
 ·rw[World.size_setCell]
  exact Nat.le_trans h7.le hg.size
theorem M8(g:VF)(f:MF)(num base:Int)(aa:Option Addr)(ca:Nat)(ar:List MC)(na:Nat)(w:World)(hna:ar.length=na)(hs:f.small)(h:CP w g f)(ha:na<=1048576)(hr:Rd w 2 (.slice aa na ca) na (ar.flatMap MC.cells)):
 Calls Tryz.prog 111 #[.agg #[g.p,.int .i64 f.result,g.l,g.c],.int .i64 num,.int .i64 base,.slice aa na ca] w fun e w'=>∃a c,e=.returned (.agg #[.int .i64 num,.int .i64 0,.int .i64 base,.slice a (na+f.locals.length) c])/\w'.ownsRow w.heap.size 128 2 (.slice a (na+f.locals.length) c) (na+f.locals.length) ((ar++Aq f.locals).flatMap MC.cells)/\Below w.heap.size w w':=by
 subst hna;exact Jp g f num base aa ca ar w hs h ha hr
theorem P4{w u u6:World}{B:Nat}{v:VP}{t c n:Int}{x:VS}{C:List (Value×List MC)}{K:List MC}{F:List (MG×Value)}{i top:Nat}{z:MG×Value}(h:DH w u B v t c n x C K (F.set i z)){gf c3:Nat}{a6:Option Addr}{n6 c6:Nat}{q b:Int}{ls:List MC}(hb:Below u.heap.size u (u6.alloc (.cells #[.int .i64 q,.int .i64 0,.int .i64 b,.slice a6 n6 c6] 123)))(hF:F.length=top+1)(hx:x.f=.slice (some ⟨gf,0,none⟩) (top+1) c3):
 (u6.alloc (.cells #[.int .i64 q,.int .i64 0,.int .i64 b,.slice a6 n6 c6] 123)).ownsRow B 123 4 (.slice (some ⟨gf,0,none⟩) (top+1) c3) (top+1) ((F.set i z).flatMap AA)/\(∀j y,(AA (⟨q,0,b,ls⟩,.slice a6 n6 c6))[j]?=some y->(u6.alloc (.cells #[.int .i64 q,.int .i64 0,.int .i64 b,.slice a6 n6 c6] 123)).cell? ((⟨u6.heap.size,0,none⟩:Addr).add j)=some y)/\B<=(u6.alloc (.cells #[.int .i64 q,.int .i64 0,.int .i64 b,.slice a6 n6 c6] 123)).heap.size:=by
 have h7:=h.keep hb;refine⟨?_,fun j y hj=> ?_,Nat.le_trans h.hB h7.le⟩
 ·have:=h7.own.frames
  rw[hx,List.length_set,hF]at this;exact this
 ·rw[CW,Nat.zero_add,cell_of_row _ _ _ _ _ _ (Ck u6 #[.int .i64 q,.int .i64 0,.int .i64 b,.slice a6 n6 c6] 123)]
  simpa[AA]using hj
def Mr(w:World)(B:Nat)(t c n:Int)(x:VS)(C:List (Value×List MC))(F:List (MG×Value))(q:Nat)(y:MG×Value)(K:List MC)(m:Int)(ls:List MC)(e:Ending)(w':World):Prop:=
 (F.length=32/\e=.returned (.agg #[.int .i64 5,.bool false,.int .i64 c,.int .i64 n,x.c,x.k,x.f])/\Below w.heap.size w w')\/(F.length≠32/\∃x' vl,e=.returned (.agg #[.int .i64 t,.bool false,.int .i64 c,.int .i64 n,x'.c,x'.k,x'.f])/\Ah w' B x' C K (F.set (F.length-1) ({y.1 with at_:=y.1.at_+1},y.2)++[(⟨q,0,m,ls⟩,vl)])/\Co B w w')
theorem LL(v:VP)(p:MP)(t c n:Int)(x:VS)(C:List (Value×List MC))(K:List MC)(F:List (MG×Value))(B q:Nat)(fq:MF)(aa:Option Addr)(ca:Nat)(ar:List MC)(y:MG×Value)(w:World)(hB:B<=w.heap.size)(h:Ah w B x C K F)(hP:∀u,Below B w u->Gc u v.f p.funcs)(hps:p.funcs.length<=1048576)(hq:p.funcs[q]?=some fq)(hqs:fq.small)(ha:ar.length<=K.length)(hK:K.length<=1048576)(hF:F.length<=1048576)(hy:F[F.length-1]?=some y)(hat:0<=y.1.at_/\y.1.at_<=1048576)(har:w.ownsRow B 128 2 (.slice aa ar.length ca) ar.length (ar.flatMap MC.cells)):
 Calls Tryz.prog 78 #[.agg #[v.r,v.k,v.f,v.t],.agg #[.int .i64 t,.bool false,.int .i64 c,.int .i64 n,x.c,x.k,x.f],.int .i64 q,.slice aa ar.length ca] w (Mr w B t c n x C F q y (K.take (K.length-ar.length)) ((K.length-ar.length:Nat):Int) (ar++Aq fq.locals)):=by
 obtain⟨j0,hj,hy0,hy1,hy2⟩:=info_parts Mg;have H:Hid (Ah w B x C K F/\(∀u,Below B w u->Gc u v.f p.funcs)/\p.funcs[q]?=some fq/\fq.small/\F[F.length-1]?=some y/\w.ownsRow B 128 2 (.slice aa ar.length ca) ar.length (ar.flatMap MC.cells)):=⟨h,hP,hq,hqs,hy,har⟩
 have hlq:q<p.funcs.length:=(gI.1 hq).1;obtain⟨top,htop⟩:∃top,F.length=top+1:=⟨F.length-1,by have:=(gI.1 hy).1;omega⟩;obtain⟨m,hm⟩:∃m,K.length=m+ar.length:=⟨K.length-ar.length,by omega⟩;have hck:K.length<=_:=Nat.le_refl _;obtain⟨a1,c1,e1⟩:=Al h.cells;obtain⟨a2,c2,e2⟩:=Al (h.fam.own (x.k,K) (by simp))
 have hcap:K.length<=c2:=by
  have:=h.fam.own (x.k,K) (by simp);simp only[]at this;have h2:w.ownsRow B 128 2 (.slice a2 K.length c2) K.length (K.flatMap MC.cells):=by rw[<-e2];exact this
  exact CR h2
 rcases At h.frames with⟨_,e⟩|⟨gf,c3,e3⟩
 ·omega
 obtain⟨af,cf,ef⟩:∃a c,v.f=.slice a p.funcs.length c:=by
  obtain⟨_,_,h2,_⟩:=hP w (Below.refl _ _);exact h2.is_slice
 obtain⟨vc,vk',vf'⟩:=x;obtain⟨vr,vk,vf,vt⟩:=v;simp only[]at e1 e2 e3 ef;rw[hm]at e2 hcap;rw[htop]at e3;subst e1 e2 e3 ef;have HM:Hid (K.length=m+ar.length/\F.length=top+1):=⟨hm,htop⟩
 have hmL:m+ar.length<=1048576:=by omega
 generalize hna:ar.length=na at*;have HNA:Hid (ar.length=na):=hna;have E0':Hid (Below w.heap.size w (((w.alloc (.cells #[vr,vk,.slice af p.funcs.length cf,vt] 45)).alloc (.cells #[.int .i64 t,.bool false,.int .i64 c,.int .i64 n,.slice a1 C.length c1,.slice a2 (m+na) c2,.slice (some ⟨gf,0,none⟩) (top+1) c3] 39)).alloc (.cells #[.int .i64 0,.bool false,.int .i64 0,.int .i64 0,.slice none 0 0,.slice none 0 0,.slice none 0 0] 39))):=Ab (Ab (Aa _ _) lR (Aa _ _)) lR (Aa _ _);have E0:Hid _:=DH.of ⟨vr,vk,.slice af p.funcs.length cf,vt⟩ t c n h hB;obtain⟨fg,vl⟩:=y;simp only[]at hat;have hat1:=hat.1;have hat2:=hat.2;have hsn:K.length-na=m:=by omega
 rw[hsn];clear h hP hq hqs hy har hck ha hat hm hna hsn;have hcapI:((m:Int))<=(c2:Int):=by omega
 go_enter Tryz.func78,Tryz.ntmps78;by_cases h32:F.length=32
 ·have ht32:top=31:=by omega
  subst ht32;have E1:Hid _:=E0.out;obtain⟨m0,m1,m2,m3,m4,m5,m6⟩:=E0.out.sb.c7;try dsimp only at m0 m1 m2 m3 m4 m5 m6
  go_wp2_with fail
  refine(BJ t c n 5 false a1 a2 (some ⟨gf,0,none⟩) C.length c1 (m+na) c2 (31+1) c3 _).mono ?_;rintro e u2 ⟨rfl,bl2⟩;have E2:Hid _:=E0.out.keep bl2;have E2':Hid (Below w.heap.size w u2):=Ab E0'.out lR bl2;clear bl2 m0 m1 m2 m3 m4 m5 m6 E1 E0 E0';obtain⟨r0,r1,r2,r3,r4,r5,r6⟩:=E2.out.rb.c7;obtain⟨rz0,rz1,rz2,rz3,rz4,rz5,rz6⟩:=E2.out.rb.z7;try dsimp only at r0 r1 r2 r3 r4 r5 r6
  go_wp2_with fail
  have R0:=E2.out.rb.set 0 (.int .i64 5);have R1:=R0.set 1 (.bool false);have R2:=R1.set 2 (.int .i64 c);have R3:=R2.set 3 (.int .i64 n);have R4:=R3.set 4 (.slice a1 C.length c1);have R5:=R4.set 5 (.slice a2 (m+na) c2);have R6:=R5.set 6 (.slice (some ⟨gf,0,none⟩) (31+1) c3);obtain⟨q0,q1,q2,q3,q4,q5,q6⟩:=R6.c7;try simp only[sA,List.set_cons_zero,List.set_cons_succ,gA,gZ,gS]at q0 q1 q2 q3 q4 q5 q6
  exact bodyPost_ret (v:=.agg #[.int .i64 5,.bool false,.int .i64 c,.int .i64 n,.slice a1 C.length c1,.slice a2 (m+na) c2,.slice (some ⟨gf,0,none⟩) (31+1) c3]) (by simp[results,Tryz.results78,go_sem,q0,q1,q2,q3,q4,q5,q6]) rfl (.inl ⟨h32,rfl,((((((((((((((E2'.out).setCell (by first|omega|(simp only[];omega)) _)).setCell (by first|omega|(simp only[];omega)) _)).setCell (by first|omega|(simp only[];omega)) _)).setCell (by first|omega|(simp only[];omega)) _)).setCell (by first|omega|(simp only[];omega)) _)).setCell (by first|omega|(simp only[];omega)) _)).setCell (by first|omega|(simp only[];omega)) _)⟩)
 ·have ht32:¬top=31:=by omega
  have hl31:top+1<=1048576:=by omega
  obtain⟨m0,m1,m2,m3,m4,m5,m6⟩:=E0.out.sb.c7;try dsimp only at m0 m1 m2 m3 m4 m5 m6
  have fr1:(((w.alloc (.cells #[vr,vk,.slice af p.funcs.length cf,vt] 45)).alloc (.cells #[.int .i64 t,.bool false,.int .i64 c,.int .i64 n,.slice a1 C.length c1,.slice a2 (m+na) c2,.slice (some ⟨gf,0,none⟩) (top+1) c3] 39)).alloc (.cells #[.int .i64 0,.bool false,.int .i64 0,.int .i64 0,.slice none 0 0,.slice none 0 0,.slice none 0 0] 39)).cell? ⟨gf,top*4+1,none⟩=some (.int .i64 fg.at_):=by
   have ho:=E0.out.own.frames
   have hl:(F.flatMap AA)[top*4+1]?=some (.int .i64 fg.at_):=by
    rw[AF AA 4 Au F top 1 (fg,vl) (by have:=H.out.2.2.2.2.1;rw[HM.out.2]at this;exact this) (by omega)];rfl
   simp only[]at ho;rw[HM.out.2]at ho;rw[ho.cellAt (top*4+1) (by omega)];exact hl
  have fr2:=E0.out.own.frames;simp only[]at fr2;rw[HM.out.2]at fr2;have fr3:=fr2.frozenAt (top*4+1);clear fr2;go_upto_region 5 with fail
  refine Af (fun u=>Hid (DH w u B ⟨vr,vk,.slice af p.funcs.length cf,vt⟩ t c n ⟨.slice a1 C.length c1,.slice a2 (m+na) c2,.slice (some ⟨gf,0,none⟩) (top+1) c3⟩ C K (F.set top ({fg with at_:=fg.at_+1},vl))/\u.ownsRow B 128 2 (.slice aa na ca) na (ar.flatMap MC.cells))) ?_ ?_
  ·have e1:=E0.out.setAt rfl (show F[top]?=some (fg,vl)by have:=H.out.2.2.2.2.1;rw[HM.out.2]at this;exact this) (fg.at_+1)
   have e2:=Ag H.out.2.2.2.2.2 E0'.out lR;have e3:=E0.out.own.frames;simp only[]at e3;rw[HM.out.2]at e3;obtain⟨_,cur,hg⟩:=Bq e3;exact⟨e1,ownsRow_setCell_other e2 (a:=⟨gf,top*4+1,none⟩) (fun e=>AJ e2 hg (by decide) _ e rfl) _⟩
  rintro U1 HI1;clear E0 E0' fr1 fr3 m0 m1 m2 m3 m4 m5 m6;have m5:=HI1.out.1.sb.cell 5;have z5:=HI1.out.1.sb.frozen 5;simp only[gA,gZ,gS]at m5
  have HK1:Hid (Rd U1 2 (.slice a2 m c2) (K.take m).length ((K.take m).flatMap MC.cells)):=by
   have:=HI1.out.1.own.fam.own (.slice a2 (m+na) c2,K) (by simp);simp only[]at this;rw[HM.out.1]at this;have h2:=FI this (m:=m) (by omega);rw[FH MC.cells 2 MC.cells_length]at h2;have:=Rd.of_own h2;rw[List.length_take,HM.out.1,Nat.min_eq_left (by omega)];exact this
  have hmn:(K.take m).length=m:=by rw[List.length_take,HM.out.1,Nat.min_eq_left (by omega)]
  rw[hmn]at HK1;go_wp2_with fail
  refine(Cs (.slice a2 m c2) (K.take m) _ (by rw[hmn];omega) (by rw[hmn];exact HK1.out)).mono ?_;rw[hmn];rintro e U2 ⟨ak,ck,rfl,own2,b2⟩;have own2':U2.ownsRow U1.heap.size 128 2 (.slice ak m ck) (K.take m).length ((K.take m).flatMap MC.cells):=by rw[hmn];exact own2
  have HI2:Hid (DH w (U2.setCell ⟨w.heap.size+1,5,none⟩ (.slice ak m ck)) B ⟨vr,vk,.slice af p.funcs.length cf,vt⟩ t c n ⟨.slice a1 C.length c1,.slice ak m ck,.slice (some ⟨gf,0,none⟩) (top+1) c3⟩ C (K.take m) (F.set top ({fg with at_:=fg.at_+1},vl))/\(U2.setCell ⟨w.heap.size+1,5,none⟩ (.slice ak m ck)).ownsRow B 128 2 (.slice aa na ca) na (ar.flatMap MC.cells)):=by
   refine⟨HI1.out.1.setK b2 own2',?_⟩;have e2:=Ag HI1.out.2 b2 lR;exact ownsRow_setCell_other e2 (a:=⟨w.heap.size+1,5,none⟩) (fun e=>AJ e2 (HI1.out.1.keep b2).sb (by decide) _ e rfl) _
  have m5':=(HI1.out.1.keep b2).sb.cell 5;have z5':=(HI1.out.1.keep b2).sb.frozen 5;simp only[gA,gZ,gS]at m5';clear own2 own2' b2 m5 z5 HK1 HI1;go_upto_region 6 with fail
  refine Af (fun u=>Hid (DH w u B ⟨vr,vk,.slice af p.funcs.length cf,vt⟩ t c n ⟨.slice a1 C.length c1,.slice ak m ck,.slice (some ⟨gf,0,none⟩) (top+1) c3⟩ C (K.take m) (F.set top ({fg with at_:=fg.at_+1},vl))/\u.ownsRow B 128 2 (.slice aa na ca) na (ar.flatMap MC.cells))) HI2 ?_
  rintro U3 HI3;clear HI2 m5' z5';obtain⟨xs,h1,h2,h3⟩:=H.out.2.1 U3 HI3.out.1.bel.low;obtain⟨⟨f',z⟩,hx⟩:∃x,xs[q]?=some x:=⟨_,gE (by rw[<-List.length_map (f:=Prod.fst),h1];exact hlq)⟩;have e2:=Bh h1 hx;rw[H.out.2.2.1]at e2;obtain rfl:fq=f':=Option.some.inj e2;have hz:=h3 _ (mG hx);simp only[]at hz;rcases h2.2 with⟨e0,_⟩|⟨g,o,c',e1,hc⟩
  ·omega
  simp only[sJ,true_and]at e1;obtain⟨rfl,rfl⟩:=e1;obtain⟨zp,zl,zc⟩:=z;obtain⟨ap,cp,rfl⟩:∃a c,zp=.slice a fq.params.length c:=hz.1.is_slice;obtain⟨al,cl,rfl⟩:∃a c,zl=.slice a fq.locals.length c:=hz.2.1.is_slice;obtain⟨ac,cc,rfl⟩:∃a c,zc=.slice a fq.code.length c:=hz.2.2.is_slice;have k1:=Rd.elem Ai hc q _ hx 0 _ rfl;have k2:=Rd.elem Ai hc q _ hx 1 _ rfl;have k3:=Rd.elem Ai hc q _ hx 2 _ rfl;have k4:=Rd.elem Ai hc q _ hx 3 _ rfl;rw[Nat.add_zero]at k1;simp only[]at k1 k2 k3 k4;have k1':=Ac (Ad U3) k1;have k2':=Ac (Ad U3) k2;have k3':=Ac (Ad U3) k3;have k4':=Ac (Ad U3) k4;have HZ:Hid (CP U3 ⟨.slice ap fq.params.length cp,.slice al fq.locals.length cl,.slice ac fq.code.length cc⟩ fq/\fq.small):=⟨hz,H.out.2.2.2.1⟩
  clear hc hx hz h1 h2 h3 e2 k1 k2 k3 k4;have hqI:(q:Int)<(p.funcs.length:Int):=by omega
  have p2:=(HI3.out.1.pb.keep (Ad U3)).cell 2;have s5:=(HI3.out.1.sb.keep (Ad U3)).cell 5;have s6:=(HI3.out.1.sb.keep (Ad U3)).cell 6;simp only[gA,gZ,gS]at p2 s5 s6
  go_region_law (first
   |(refine step_append_lies _ rfl (.tmp 41) (.tmp 53) 37 rfl B 123 j0 (.agg #[.int .i64 0,.int .i64 0,.int .i64 0,.slice none 0 0]) 4 48 Tryz.underlying37 hj hy0 hy1 hy2 rfl (by decide) (.slice (some ⟨gf,0,none⟩) (top+1) c3) (top+1) ((F.set top ({fg with at_:=fg.at_+1},vl)).flatMap AA) (by simp[Act.eval]) O6.out.1 ⟨u6.heap.size,0,none⟩ 1 1 (AA (⟨q,0,m,ar++Aq fq.locals⟩,.slice a6 (na+fq.locals.length) c6)) (by simp[Act.eval]) rfl O6.out.2.1 (fun u hu=>by simp[AA]at hu;rcases hu with rfl|rfl|rfl|rfl<;>rfl) (by omega) (by unfold maxLen;omega) (by omega) O6.out.2.2 _ rfl ?_;intro gg cap u8 hown hgrow hat' hlt8;have HN:Hid (DH w (u8.setCell ⟨w.heap.size+1,6,none⟩ (.slice (some ⟨gg,0,none⟩) (top+1+1) cap)) B ⟨vr,vk,.slice (some ⟨g,o,none⟩) p.funcs.length cf,vt⟩ t c n ⟨.slice a1 C.length c1,.slice ak m ck,.slice (some ⟨gg,0,none⟩) (top+1+1) cap⟩ C (K.take m) ((F.set top ({fg with at_:=fg.at_+1},vl))++[(⟨q,0,m,ar++Aq fq.locals⟩,.slice a6 (na+fq.locals.length) c6)])):=(HI3.out.1.pushF (y:=(⟨q,0,m,ar++Aq fq.locals⟩,.slice a6 (na+fq.locals.length) c6)) B6.out.2.1 B6.out.2.2 hgrow (by rw[List.length_set,HM.out.2];exact hown));have st8:=(HI3.out.1.keep B6.out.2.1).sb.grown hgrow (HI3.out.1.keep B6.out.2.1).own.frames (by decide);have y0:=st8.cell 6;have y1:=st8.frozen 6;simp only[gA,gZ,gS]at y0;clear hown hgrow hat' hlt8 st8)
   |(go_simp;go_at_call 111;refine(M8 ⟨.slice ap fq.params.length cp,.slice al fq.locals.length cl,.slice ac fq.code.length cc⟩ fq q m aa ca ar na _ HNA.out HZ.out.2 (HZ.out.1.keep (Ad _) lR) (by omega) (Rd.of_own (Ag HI3.out.2 (Ad _) lR))).mono ?_;rintro e u6 ⟨a6,c6,rfl,own6,b6⟩;have B6:Hid (Below U3.heap.size U3 u6/\Below U3.heap.size U3 (u6.alloc (.cells #[.int .i64 q,.int .i64 0,.int .i64 m,.slice a6 (na+fq.locals.length) c6] 123))/\(u6.alloc (.cells #[.int .i64 q,.int .i64 0,.int .i64 m,.slice a6 (na+fq.locals.length) c6] 123)).ownsRow U3.heap.size 128 2 (.slice a6 (na+fq.locals.length) c6) (ar++Aq fq.locals).length ((ar++Aq fq.locals).flatMap MC.cells)):=⟨As b6 lR,Ab (As b6 lR) lR (Aa _ _),Ag (by rw[List.length_append,BW,HNA.out];exact own6) (Aa _ _) lR⟩;have O6:Hid ((u6.alloc (.cells #[.int .i64 q,.int .i64 0,.int .i64 m,.slice a6 (na+fq.locals.length) c6] 123)).ownsRow B 123 4 (.slice (some ⟨gf,0,none⟩) (top+1) c3) (top+1) ((F.set top ({fg with at_:=fg.at_+1},vl)).flatMap AA)/\(∀j y,(AA (⟨q,0,m,ar++Aq fq.locals⟩,.slice a6 (na+fq.locals.length) c6))[j]?=some y->(u6.alloc (.cells #[.int .i64 q,.int .i64 0,.int .i64 m,.slice a6 (na+fq.locals.length) c6] 123)).cell? ((⟨u6.heap.size,0,none⟩:Addr).add j)=some y)/\B<=(u6.alloc (.cells #[.int .i64 q,.int .i64 0,.int .i64 m,.slice a6 (na+fq.locals.length) c6] 123)).heap.size):=P4 HI3.out.1 B6.out.2.1 HM.out.2 rfl;have x0:=(HI3.out.1.keep B6.out.1).sb.cell 6;have x1:=(HI3.out.1.keep B6.out.2.1).sb.cell 6;have x2:=(HI3.out.1.keep B6.out.1).sb.cell 5;simp only[gA,gZ,gS]at x0 x1 x2;clear own6 b6))
  all_goals
   clear p2 s5 s6 k1' k2' k3' k4';try clear x0 x1 x2 y0 y1
   obtain⟨m0,m1,m2,m3,m4,m5,m6⟩:=HN.out.sb.c7;try dsimp only at m0 m1 m2 m3 m4 m5 m6
   obtain⟨r0,r1,r2,r3,r4,r5,r6⟩:=HN.out.rb.c7;obtain⟨rz0,rz1,rz2,rz3,rz4,rz5,rz6⟩:=HN.out.rb.z7;try dsimp only at r0 r1 r2 r3 r4 r5 r6
   go_wp2_with fail
   have hBw:=HN.out.hB;have R0:=HN.out.rb.set 0 (.int .i64 t);have R1:=R0.set 1 (.bool false);have R2:=R1.set 2 (.int .i64 c);have R3:=R2.set 3 (.int .i64 n);have R4:=R3.set 4 (.slice a1 C.length c1);have R5:=R4.set 5 (.slice ak m ck);have R6:=R5.set 6 (.slice (some ⟨gg,0,none⟩) (top+1+1) cap);obtain⟨q0,q1,q2,q3,q4,q5,q6⟩:=R6.c7;try simp only[sA,List.set_cons_zero,List.set_cons_succ,gA,gZ,gS]at q0 q1 q2 q3 q4 q5 q6
   have OW:=(((((((HN.out.own.other HN.out.rb (by decide) (by decide) (by decide) 0 (.int .i64 t)).other R0 (by decide) (by decide) (by decide) 1 (.bool false)).other R1 (by decide) (by decide) (by decide) 2 (.int .i64 c)).other R2 (by decide) (by decide) (by decide) 3 (.int .i64 n)).other R3 (by decide) (by decide) (by decide) 4 (.slice a1 C.length c1)).other R4 (by decide) (by decide) (by decide) 5 (.slice ak m ck)).other R5 (by decide) (by decide) (by decide) 6 (.slice (some ⟨gg,0,none⟩) (top+1+1) cap))
   exact bodyPost_ret (v:=.agg #[.int .i64 t,.bool false,.int .i64 c,.int .i64 n,.slice a1 C.length c1,.slice ak m ck,.slice (some ⟨gg,0,none⟩) (top+1+1) cap]) (by simp[results,Tryz.results78,go_sem,q0,q1,q2,q3,q4,q5,q6]) rfl (.inr ⟨h32,⟨.slice a1 C.length c1,.slice ak m ck,.slice (some ⟨gg,0,none⟩) (top+1+1) cap⟩,_,rfl,(by rw[HM.out.2];exact OW),((((((((((((((HN.out.bel).setCell (by first|omega|(simp only[];omega)) _)).setCell (by first|omega|(simp only[];omega)) _)).setCell (by first|omega|(simp only[];omega)) _)).setCell (by first|omega|(simp only[];omega)) _)).setCell (by first|omega|(simp only[];omega)) _)).setCell (by first|omega|(simp only[];omega)) _)).setCell (by first|omega|(simp only[];omega)) _)⟩)
end Go.Proofs.YtlejplpkomddeaaGreat
