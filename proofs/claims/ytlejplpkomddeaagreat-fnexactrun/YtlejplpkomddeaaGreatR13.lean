import Derived.Test.YtlejplpkomddeaaGreatR0
import Derived.Test.YtlejplpkomddeaaGreatR11
import Derived.Test.YtlejplpkomddeaaGreatR12
import Derived.Deep.RegionHeld3
import Derived.Test.YtlejplpkomddeaaGreatR4
import Derived.Test.YtlejplpkomddeaaGreatR6
namespace Go.Proofs.YtlejplpkomddeaaGreat
open Go.ChangeShapes Go.WideShapes Go.ChangeAt Go.RowKit
set_option linter.unusedVariables false
set_option maxHeartbeats 8000000
set_option maxRecDepth 100000
def BD(m:MM)(r0 r1 r2:List Int)(f:MF):MS:=⟨0,false,0,0,[Aw r0 m.ins,Aw r1 m.outs,Aw r2 m.keeps],[],[⟨0,0,0,Aq f.locals⟩]⟩
def GV:MS:=⟨7,false,0,0,[],[],[]⟩
def Er(p:MP)(m:MM)(s:MS):Prop:=(Bp p m/\∃r0 r1 r2 f fs,p.regions=[r0,r1,r2]/\p.funcs=f::fs/\s=BD m r0 r1 r2 f)\/(¬Bp p m/\s=GV)
theorem Er.one{p:MP}{m:MM}{s s':MS}(h:Er p m s)(h':Er p m s'):s=s':=by
 rcases h with⟨hv,r0,r1,r2,f,fs,e1,e2,rfl⟩|⟨hv,rfl⟩<;>rcases h' with⟨hv',q0,q1,q2,g,gs,e3,e4,rfl⟩|⟨hv',rfl⟩
 . rw[e1]at e3
   rw[e2]at e4;simp only[List.cons.injEq,and_true]at e3 e4;obtain⟨rfl,rfl,rfl⟩:=e3;obtain⟨rfl,_⟩:=e4;rfl
 . exact absurd hv hv'
 . exact absurd hv' hv
 . rfl
structure En(w u:World)(v:VP)(vm:VM):Prop where
 pb:Ap u w.heap.size #[v.r,v.k,v.f,v.t] 45
 mb:Ap u (w.heap.size+1) #[vm.i,vm.o,vm.k] 58
 rb:Ap u (w.heap.size+1+1) #[.int .i64 0,.bool false,.int .i64 0,.int .i64 0,.slice none 0 0,.slice none 0 0,.slice none 0 0] 39
 bel:Below w.heap.size w u
theorem En.keep{w u u':World}{v:VP}{vm:VM}(h:En w u v vm)(hb:Below u.heap.size u u'):En w u' v vm:=⟨h.pb.keep hb,h.mb.keep hb,h.rb.keep hb,Ab h.bel (Nat.le_refl _) hb⟩
theorem En.of(w:World)(v:VP)(vm:VM):En w (((w.alloc (.cells #[v.r,v.k,v.f,v.t] 45)).alloc (.cells #[vm.i,vm.o,vm.k] 58)).alloc (.cells #[.int .i64 0,.bool false,.int .i64 0,.int .i64 0,.slice none 0 0,.slice none 0 0,.slice none 0 0] 39)) v vm:=by
 have b1:=Aa w (.cells #[v.r,v.k,v.f,v.t] 45);have k1:=Ap.new w #[v.r,v.k,v.f,v.t] 45;generalize hU1:w.alloc (.cells #[v.r,v.k,v.f,v.t] 45)=U1 at b1 k1⊢;have z1:U1.heap.size=w.heap.size+1:=by rw[<-hU1];simp
 have b2:=Aa U1 (.cells #[vm.i,vm.o,vm.k] 58);have k2:=Ap.new U1 #[vm.i,vm.o,vm.k] 58;generalize hU2:U1.alloc (.cells #[vm.i,vm.o,vm.k] 58)=U2 at b2 k2⊢;have z2:U2.heap.size=w.heap.size+1+1:=by rw[<-hU2];simp[z1]
 have b3:=Aa U2 (.cells #[.int .i64 0,.bool false,.int .i64 0,.int .i64 0,.slice none 0 0,.slice none 0 0,.slice none 0 0] 39);have k3:=Ap.new U2 #[.int .i64 0,.bool false,.int .i64 0,.int .i64 0,.slice none 0 0,.slice none 0 0,.slice none 0 0] 39;rw[z1]at k2;rw[z2]at k3;exact⟨(k1.keep b2).keep b3,k2.keep b3,k3,Ab (Ab b1 (Nat.le_refl _) b2) (Nat.le_refl _) b3⟩
theorem CI(w:World):Below w.heap.size w w:=⟨rfl,rfl,rfl,Nat.le_refl _,fun _ _=>rfl⟩
structure Qe(w W:World)(g o c:Nat)(vi vo vk y0 y1 y2:Value):Prop where
 m0:W.cell? ⟨w.heap.size+1,0,none⟩=some vi
 m1:W.cell? ⟨w.heap.size+1,1,none⟩=some vo
 m2:W.cell? ⟨w.heap.size+1,2,none⟩=some vk
 pr:W.cell? ⟨w.heap.size,0,none⟩=some (.slice (some ⟨g,o,none⟩) 3 c)
 i0:W.cell? ⟨g,o,none⟩=some y0
 i1:W.cell? ⟨g,o+1,none⟩=some y1
 i2:W.cell? ⟨g,o+2,none⟩=some y2
theorem BI{W u:World}(hb:Below W.heap.size W u){a:Addr}{x:Value}(h:W.cell? a=some x):u.cell? a=some x:=by rw[hb.cell (bL h)];exact h
theorem Qe.keep{w W u:World}{g o c:Nat}{vi vo vk y0 y1 y2:Value}(h:Qe w W g o c vi vo vk y0 y1 y2)(hb:Below W.heap.size W u):Qe w u g o c vi vo vk y0 y1 y2:=
 ⟨BI hb h.m0,BI hb h.m1,BI hb h.m2,BI hb h.pr,BI hb h.i0,BI hb h.i1,BI hb h.i2⟩
theorem Qe.all{w W:World}{g o c:Nat}{vi vo vk y0 y1 y2:Value}(h:Qe w W g o c vi vo vk y0 y1 y2):W.cell? ⟨w.heap.size+1,0,none⟩=some vi/\W.cell? ⟨w.heap.size+1,1,none⟩=some vo/\W.cell? ⟨w.heap.size+1,2,none⟩=some vk/\W.cell? ⟨w.heap.size,0,none⟩=some (.slice (some ⟨g,o,none⟩) 3 c)/\W.cell? ⟨g,o,none⟩=some y0/\W.cell? ⟨g,o+1,none⟩=some y1/\W.cell? ⟨g,o+2,none⟩=some y2:=⟨h.m0,h.m1,h.m2,h.pr,h.i0,h.i1,h.i2⟩
structure BQ(w U:World)(v:VP)(vm:VM)(L:List (Value×List MC))(x y:Nat)(fr:Value):Prop where
 args:En w U v vm
 st:Ap U x #[.int .i64 0,.bool false,.int .i64 0,.int .i64 0,.slice (some ⟨y,0,none⟩) 3 3,.slice none 0 0,fr] 39
 ar:Ap U y (L.map Prod.fst).toArray 36
 own:∀r∈L,U.ownsRow w.heap.size 128 2 r.1 r.2.length (r.2.flatMap MC.cells)
 xge:w.heap.size+1+1<x
 yge:w.heap.size+1+1<y
theorem En.lt{w u:World}{v:VP}{vm:VM}(h:En w u v vm):w.heap.size+1+1<u.heap.size:=h.rb.lt
theorem BQ.last{w u:World}{v:VP}{vm:VM}{L:List (Value×List MC)}(h:En w u v vm)(ho:∀r∈L,u.ownsRow w.heap.size 128 2 r.1 r.2.length (r.2.flatMap MC.cells)):BQ w ((u.alloc (.cells (L.map Prod.fst).toArray 36)).alloc (.cells #[.int .i64 0,.bool false,.int .i64 0,.int .i64 0,.slice (some ⟨u.heap.size,0,none⟩) 3 3,.slice none 0 0,.slice none 0 0] 39)) v vm L (u.heap.size+1) u.heap.size (.slice none 0 0):=by
 have b1:=Aa u (.cells (L.map Prod.fst).toArray 36);have k1:=Ap.new u (L.map Prod.fst).toArray 36;generalize hU1:u.alloc (.cells (L.map Prod.fst).toArray 36)=U1 at b1 k1⊢;have z1:U1.heap.size=u.heap.size+1:=by rw[<-hU1];simp
 have b2:=Aa U1 (.cells #[.int .i64 0,.bool false,.int .i64 0,.int .i64 0,.slice (some ⟨u.heap.size,0,none⟩) 3 3,.slice none 0 0,.slice none 0 0] 39);have k2:=Ap.new U1 #[.int .i64 0,.bool false,.int .i64 0,.int .i64 0,.slice (some ⟨u.heap.size,0,none⟩) 3 3,.slice none 0 0,.slice none 0 0] 39;rw[z1]at k2;have hl:=h.lt;exact⟨(h.keep b1).keep b2,k2,k1.keep b2,fun r hr=>Ag (Ag (ho r hr) b1 (Nat.le_refl _)) b2 (Nat.le_refl _),by omega,hl⟩
theorem BQ.first{w u:World}{v:VP}{vm:VM}{L:List (Value×List MC)}(h:En w u v vm)(ho:∀r∈L,u.ownsRow w.heap.size 128 2 r.1 r.2.length (r.2.flatMap MC.cells)):BQ w ((u.alloc (.cells #[.int .i64 0,.bool false,.int .i64 0,.int .i64 0,.slice (some ⟨u.heap.size+1,0,none⟩) 3 3,.slice none 0 0,.slice none 0 0] 39)).alloc (.cells (L.map Prod.fst).toArray 36)) v vm L u.heap.size (u.heap.size+1) (.slice none 0 0):=by
 have b1:=Aa u (.cells #[.int .i64 0,.bool false,.int .i64 0,.int .i64 0,.slice (some ⟨u.heap.size+1,0,none⟩) 3 3,.slice none 0 0,.slice none 0 0] 39);have k1:=Ap.new u #[.int .i64 0,.bool false,.int .i64 0,.int .i64 0,.slice (some ⟨u.heap.size+1,0,none⟩) 3 3,.slice none 0 0,.slice none 0 0] 39;generalize hU1:u.alloc (.cells #[.int .i64 0,.bool false,.int .i64 0,.int .i64 0,.slice (some ⟨u.heap.size+1,0,none⟩) 3 3,.slice none 0 0,.slice none 0 0] 39)=U1 at b1 k1⊢;have z1:U1.heap.size=u.heap.size+1:=by rw[<-hU1];simp
 have b2:=Aa U1 (.cells (L.map Prod.fst).toArray 36);have k2:=Ap.new U1 (L.map Prod.fst).toArray 36;rw[z1]at k2;have hl:=h.lt;exact⟨(h.keep b1).keep b2,k1.keep b2,k2,fun r hr=>Ag (Ag (ho r hr) b1 (Nat.le_refl _)) b2 (Nat.le_refl _),hl,by omega⟩
theorem En.set{w u:World}{v:VP}{vm:VM}(h:En w u v vm){x:Nat}(hx:w.heap.size+1+1<x)(i:Nat)(z:Value):En w (u.setCell ⟨x,i,none⟩ z) v vm:=
 ⟨h.pb.other (by simp only[];omega) _,h.mb.other (by simp only[];omega) _,h.rb.other (by simp only[];omega) _,h.bel.setCell (by simp only[];omega) _⟩
theorem DG{u:World}{B x:Nat}{L:List (Value×List MC)}{cur:Array Value}(ho:∀r∈L,u.ownsRow B 128 2 r.1 r.2.length (r.2.flatMap MC.cells))(hb:Ap u x cur 39)(i:Nat)(z:Value):∀r∈L,(u.setCell ⟨x,i,none⟩ z).ownsRow B 128 2 r.1 r.2.length (r.2.flatMap MC.cells):=
 fun r hr=>ownsRow_setCell_other (ho r hr) (a:=⟨x,i,none⟩) (fun e=>AJ (ho r hr) hb (by decide) _ e rfl) z
theorem BQ.early{w u:World}{v:VP}{vm:VM}{L:List (Value×List MC)}{x:Nat}(h:En w u v vm)(ho:∀r∈L,u.ownsRow w.heap.size 128 2 r.1 r.2.length (r.2.flatMap MC.cells))(hb:Ap u x #[.int .i64 0,.bool false,.int .i64 0,.int .i64 0,.slice none 0 0,.slice none 0 0,.slice none 0 0] 39)(hx:w.heap.size+1+1<x):BQ w ((((((((u.setCell ⟨x,0,none⟩ (.int .i64 0)).setCell ⟨x,1,none⟩ (.bool false)).setCell ⟨x,2,none⟩ (.int .i64 0)).setCell ⟨x,3,none⟩ (.int .i64 0)).setCell ⟨x,4,none⟩ (.slice (some ⟨u.heap.size,0,none⟩) 3 3)).setCell ⟨x,5,none⟩ (.slice none 0 0)).setCell ⟨x,6,none⟩ (.slice none 0 0)).alloc (.cells (L.map Prod.fst).toArray 36)) v vm L x u.heap.size (.slice none 0 0):=by
 have k0:=hb.set 0 (.int .i64 0);have k1:=k0.set 1 (.bool false);have k2:=k1.set 2 (.int .i64 0);have k3:=k2.set 3 (.int .i64 0);have k4:=k3.set 4 (.slice (some ⟨u.heap.size,0,none⟩) 3 3);have k5:=k4.set 5 (.slice none 0 0);have k6:=k5.set 6 (.slice none 0 0);have o6:=DG (DG (DG (DG (DG (DG (DG ho hb 0 (.int .i64 0)) k0 1 (.bool false)) k1 2 (.int .i64 0)) k2 3 (.int .i64 0)) k3 4 (.slice (some ⟨u.heap.size,0,none⟩) 3 3)) k4 5 (.slice none 0 0)) k5 6 (.slice none 0 0);have h6:=((((((h.set hx 0 (.int .i64 0)).set hx 1 (.bool false)).set hx 2 (.int .i64 0)).set hx 3 (.int .i64 0)).set hx 4 (.slice (some ⟨u.heap.size,0,none⟩) 3 3)).set hx 5 (.slice none 0 0)).set hx 6 (.slice none 0 0);have z6:(((((((u.setCell ⟨x,0,none⟩ (.int .i64 0)).setCell ⟨x,1,none⟩ (.bool false)).setCell ⟨x,2,none⟩ (.int .i64 0)).setCell ⟨x,3,none⟩ (.int .i64 0)).setCell ⟨x,4,none⟩ (.slice (some ⟨u.heap.size,0,none⟩) 3 3)).setCell ⟨x,5,none⟩ (.slice none 0 0)).setCell ⟨x,6,none⟩ (.slice none 0 0)).heap.size=u.heap.size:=by simp only[World.size_setCell]
 generalize (((((((u.setCell ⟨x,0,none⟩ (.int .i64 0)).setCell ⟨x,1,none⟩ (.bool false)).setCell ⟨x,2,none⟩ (.int .i64 0)).setCell ⟨x,3,none⟩ (.int .i64 0)).setCell ⟨x,4,none⟩ (.slice (some ⟨u.heap.size,0,none⟩) 3 3)).setCell ⟨x,5,none⟩ (.slice none 0 0)).setCell ⟨x,6,none⟩ (.slice none 0 0))=U at k6 o6 h6 z6⊢;have b1:=Aa U (.cells (L.map Prod.fst).toArray 36);have n1:=Ap.new U (L.map Prod.fst).toArray 36;rw[z6]at n1;have hl:=h.lt;exact⟨h6.keep b1,k6.keep b1,n1,fun r hr=>Ag (o6 r hr) b1 (Nat.le_refl _),hx,hl⟩
theorem Ea{w:World}{base b:Nat}{e:TypeId}{k n:Nat}{v:Value}{xs:List Value}(h:w.ownsRow base e k v n xs)(hb:b<=base):w.ownsRow b e k v n xs:=
 ⟨h.1,h.2.imp id fun⟨g,cap,cur,e1,hb1,r⟩=>⟨g,cap,cur,e1,Nat.le_trans hb hb1,r⟩⟩
theorem Fa{Q:Exit->Act->World->Prop}{a:Act}{U:World}(P:World->Prop)(h:P U)(k:∀u,P u->Q .normal a u):Q .normal a U:=k U h
theorem CR{w:World}{base:Nat}{e:TypeId}{k n m c:Nat}{a:Option Addr}{xs:List Value}(h:w.ownsRow base e k (.slice a n c) m xs):n<=c:=by
 rcases h.2 with⟨e1,_⟩|⟨g,cap,cur,e1,_,_,hnc,_⟩
 ·simp only[sJ]at e1
  omega
 ·simp only[sJ]at e1
  omega
theorem Dk{P:Program}{c:Code}{Q:Exit->Act->World->Prop}{a:Act}{U:World}(R:World->Prop)(h:R U)(k:∀u,R u->Code.wp P c Q a u):Code.wp P c Q a U:=k U h
theorem I5{w u:World}(hb:Below w.heap.size w u){a:Addr}{x:Value}(h:w.cell? a=some x):u.cell? a=some x:=by rw[hb.cell (bL h)];exact h
structure Dw(w u:World)(v:VP)(t c n:Int)(x:VS)(g:VF)(r:Int)(fr:MG)(vl:Value):Prop where
 sb:Ap u (w.heap.size+1) #[.int .i64 t,.bool false,.int .i64 c,.int .i64 n,x.c,x.k,x.f] 39
 fb:Ap u (w.heap.size+1+1) #[g.p,.int .i64 r,g.l,g.c] 131
 gb:Ap u (w.heap.size+1+1+1) #[.int .i64 fr.func,.int .i64 fr.at_,.int .i64 fr.base,vl] 123
 rb:Ap u (w.heap.size+1+1+1+1) #[.int .i64 0,.bool false,.int .i64 0,.int .i64 0,.slice none 0 0,.slice none 0 0,.slice none 0 0] 39
 bel:Below w.heap.size w u
theorem Dw.keep{w u u':World}{v:VP}{t c n:Int}{x:VS}{g:VF}{r:Int}{fr:MG}{vl:Value}(h:Dw w u v t c n x g r fr vl)(hb:Below u.heap.size u u'):Dw w u' v t c n x g r fr vl:=⟨h.sb.keep hb,h.fb.keep hb,h.gb.keep hb,h.rb.keep hb,Ab h.bel lR hb⟩
theorem Dw.of(w:World)(v:VP)(t c n:Int)(x:VS)(g:VF)(r:Int)(fr:MG)(vl:Value):Dw w (((((w.alloc (.cells #[v.r,v.k,v.f,v.t] 45)).alloc (.cells #[.int .i64 t,.bool false,.int .i64 c,.int .i64 n,x.c,x.k,x.f] 39)).alloc (.cells #[g.p,.int .i64 r,g.l,g.c] 131)).alloc (.cells #[.int .i64 fr.func,.int .i64 fr.at_,.int .i64 fr.base,vl] 123)).alloc (.cells #[.int .i64 0,.bool false,.int .i64 0,.int .i64 0,.slice none 0 0,.slice none 0 0,.slice none 0 0] 39)) v t c n x g r fr vl:=by
 have b1:=Aa w (.cells #[v.r,v.k,v.f,v.t] 45);have k1:=Ap.new w #[v.r,v.k,v.f,v.t] 45;generalize hU1:w.alloc (.cells #[v.r,v.k,v.f,v.t] 45)=U1 at b1 k1⊢;have z1:U1.heap.size=w.heap.size+1:=by rw[<-hU1];simp
 have b2:=Aa U1 (.cells #[.int .i64 t,.bool false,.int .i64 c,.int .i64 n,x.c,x.k,x.f] 39);have k2:=Ap.new U1 #[.int .i64 t,.bool false,.int .i64 c,.int .i64 n,x.c,x.k,x.f] 39;rw[z1]at k2;generalize hU2:U1.alloc (.cells #[.int .i64 t,.bool false,.int .i64 c,.int .i64 n,x.c,x.k,x.f] 39)=U2 at b2 k2⊢;have z2:U2.heap.size=w.heap.size+1+1:=by rw[<-hU2];simp[z1]
 have b3:=Aa U2 (.cells #[g.p,.int .i64 r,g.l,g.c] 131);have k3:=Ap.new U2 #[g.p,.int .i64 r,g.l,g.c] 131;rw[z2]at k3;generalize hU3:U2.alloc (.cells #[g.p,.int .i64 r,g.l,g.c] 131)=U3 at b3 k3⊢;have z3:U3.heap.size=w.heap.size+1+1+1:=by rw[<-hU3];simp[z2]
 have b4:=Aa U3 (.cells #[.int .i64 fr.func,.int .i64 fr.at_,.int .i64 fr.base,vl] 123);have k4:=Ap.new U3 #[.int .i64 fr.func,.int .i64 fr.at_,.int .i64 fr.base,vl] 123;rw[z3]at k4;generalize hU4:U3.alloc (.cells #[.int .i64 fr.func,.int .i64 fr.at_,.int .i64 fr.base,vl] 123)=U4 at b4 k4⊢;have z4:U4.heap.size=w.heap.size+1+1+1+1:=by rw[<-hU4];simp[z3]
 have b5:=Aa U4 (.cells #[.int .i64 0,.bool false,.int .i64 0,.int .i64 0,.slice none 0 0,.slice none 0 0,.slice none 0 0] 39);have k5:=Ap.new U4 #[.int .i64 0,.bool false,.int .i64 0,.int .i64 0,.slice none 0 0,.slice none 0 0,.slice none 0 0] 39;rw[z4]at k5;exact⟨((k2.keep b3).keep b4).keep b5,(k3.keep b4).keep b5,k4.keep b5,k5,Ab (Ab (Ab (Ab b1 lR b2) lR b3) lR b4) lR b5⟩
theorem JQ(v:VP)(t c n:Int)(x:VS)(C:List (Value×List MC))(K:List MC)(F:List (MG×Value))(B:Nat)(g:VF)(f:MF)(fr:MG)(vl:Value)(w:World)(hB:B<=w.heap.size)(h:Ah w B x C K F)(hg:∃a m c,vl=.slice a m c)(hf:(∃a m c,g.p=.slice a m c)/\(∃a m c,g.l=.slice a m c)/\(∃a m c,g.c=.slice a m c))(b:Nat)(hb:fr.base=(b:Int))(hbK:b<=K.length)(hK:K.length<=1048576)(hF:F.length<=1048576)(hF0:F≠[]):
  Calls Tryz.prog 76 #[.agg #[v.r,v.k,v.f,v.t],.agg #[.int .i64 t,.bool false,.int .i64 c,.int .i64 n,x.c,x.k,x.f],.agg #[g.p,.int .i64 f.result,g.l,g.c],.agg #[.int .i64 fr.func,.int .i64 fr.at_,.int .i64 fr.base,vl]] w fun e w'=>
   (((K.drop b).map MC.type≠AR f/\e=.returned (.agg #[.int .i64 6,.bool false,.int .i64 c,.int .i64 n,x.c,x.k,x.f]))\/((K.drop b).map MC.type=AR f/\∃vf,e=.returned (.agg #[.int .i64 t,.bool (decide (F.length=1)),.int .i64 c,.int .i64 n,x.c,x.k,vf])/\Ah w' B ⟨x.c,x.k,vf⟩ C K (F.take (F.length-1))))/\Below w.heap.size w w':=by
 have H:Hid (Ah w B x C K F/\F≠[]):=⟨h,hF0⟩
 obtain⟨a1,c1,e1⟩:=Al h.cells;obtain⟨a2,c2,e2⟩:=Al (h.fam.own (x.k,K) (by simp));obtain⟨a3,c3,e3⟩:=Al h.frames;have hrow:=At (h.fam.own (x.k,K) (by simp));have HRd:Hid (Rd w 2 x.k K.length (K.flatMap MC.cells)):=Rd.of_own (h.fam.own (x.k,K) (by simp));obtain⟨vc,vk',vf'⟩:=x;simp only[]at e1 e2 e3 hrow HRd;subst e1 e2 e3;obtain⟨al,ml,cl,rfl⟩:=hg;obtain⟨⟨g1,g2,g3,e1⟩,⟨g4,g5,g6,e2⟩,⟨g7,g8,g9,e3⟩⟩:=hf;obtain⟨gp,gl,gc⟩:=g;simp only[]at e1 e2 e3;subst e1 e2 e3;obtain⟨ff,fa,fbs,fls⟩:=fr;simp only[]at hb;subst hb;have hbI:(b:Int)<=(K.length:Int):=by omega
 have hF1:1<=F.length:=by
  cases F with
  |nil=>exact absurd rfl hF0
  |cons y r=>simp
 clear h hF0;have HRes:Hid (AR f=if f.result=0 then[]else[f.result]):=rfl;generalize f.result=r at HRes;have E0:Hid _:=Dw.of w v t c n ⟨.slice a1 C.length c1,.slice a2 K.length c2,.slice a3 F.length c3⟩ ⟨.slice g1 g2 g3,.slice g4 g5 g6,.slice g7 g8 g9⟩ r ⟨ff,fa,b,fls⟩ (.slice al ml cl);go_enter Tryz.func76,Tryz.ntmps76;by_cases hlb:b<K.length
 ·rcases hrow with⟨_,e⟩|⟨gk,ck,e⟩
  ·omega
  simp only[sJ,true_and]at e;obtain⟨rfl,rfl⟩:=e;have hcap:K.length<=c2:=CR (H.out.1.fam.own (.slice (some ⟨gk,0,none⟩) K.length c2,K) (by simp));have hne:¬c2=b:=by omega
  obtain⟨y,hy⟩:∃y,K[b]?=some y:=⟨_,gE hlb⟩;rcases HRd.out.2 with⟨e0,_⟩|⟨g',o',c',e1,hc⟩
  ·omega
  simp only[sJ,true_and,Option.some.injEq,Addr.mk.injEq,and_true]at e1;obtain⟨⟨rfl,rfl⟩,rfl⟩:=e1;have k1:=Rd.elem MC.cells_length hc b y hy 0 _ rfl;rw[Nat.add_zero,Nat.zero_add]at k1
  have HD:Hid (K.drop b=y::K.drop (b+1)):=by
   obtain⟨hl,rfl⟩:=gI.1 hy;exact List.drop_eq_getElem_cons hl
  have HK1:Hid _:=k1;clear hc hy k1;by_cases hr:r=0
  ·have HN:Hid ((K.drop b).map MC.type≠AR f):=by show _≠_;rw[HD.out];rw[HRes.out,if_pos hr];simp
   have hr':(r != 0)=false:=by simpa using hr
   have hr2:(r==0)=true:=by simpa using hr
   have hl0:((K.length-b:Nat):Int)≠0:=by omega
   have hl1:(((K.length-b:Nat):Int)==0)=false:=by simp;omega
   have hl2:(((K.length-b:Nat):Int) != 0)=true:=by simp;omega
   subst hr;go_wp2_with fail
   refine Dk (fun u=>Hid (Dw w u v t c n ⟨.slice a1 C.length c1,.slice (some ⟨gk,0,none⟩) K.length c2,.slice a3 F.length c3⟩ ⟨.slice g1 g2 g3,.slice g4 g5 g6,.slice g7 g8 g9⟩ 0 ⟨ff,fa,b,fls⟩ (.slice al ml cl))) E0 ?_;rintro W0 HI0;clear E0;have inst:=Aj.some W0;have fres:=HI0.out.fb.cell 1;simp only[gA,gZ,gS]at fres;have FR:=fun n:Aj W0=>Aj.cell fres n
   refine Am (by kernel_rfl) (by kernel_rfl) ?_;repeat(go_big_quiet_step (fail))
   refine wpQuiet_nil ?_;rintro w'' ⟨n',rfl⟩;have HI:Hid (Dw w n'.u v t c n ⟨.slice a1 C.length c1,.slice (some ⟨gk,0,none⟩) K.length c2,.slice a3 F.length c3⟩ ⟨.slice g1 g2 g3,.slice g4 g5 g6,.slice g7 g8 g9⟩ 0 ⟨ff,fa,b,fls⟩ (.slice al ml cl)):=HI0.out.keep n'.h;clear FR inst fres HI0;generalize n'.u=W at HI⊢;obtain⟨m0,m1,m2,m3,m4,m5,m6⟩:=HI.out.sb.c7;try dsimp only at m0 m1 m2 m3 m4 m5 m6
   go_wp2_with fail
   refine(BJ t c n 6 false a1 (some ⟨gk,0,none⟩) a3 C.length c1 K.length c2 F.length c3 _).mono ?_;rintro e u2 ⟨rfl,bl2⟩;have HI2:Hid (Dw w u2 v t c n ⟨.slice a1 C.length c1,.slice (some ⟨gk,0,none⟩) K.length c2,.slice a3 F.length c3⟩ ⟨.slice g1 g2 g3,.slice g4 g5 g6,.slice g7 g8 g9⟩ 0 ⟨ff,fa,b,fls⟩ (.slice al ml cl)):=HI.out.keep bl2;clear bl2 HI m0 m1 m2 m3 m4 m5 m6;obtain⟨r0,r1,r2,r3,r4,r5,r6⟩:=HI2.out.rb.c7;obtain⟨rz0,rz1,rz2,rz3,rz4,rz5,rz6⟩:=HI2.out.rb.z7;try dsimp only at r0 r1 r2 r3 r4 r5 r6
   go_wp2_with fail
   exact bodyPost_ret (results_cell_row Tryz.results76 _ _ _ 39 _ (0,0) _ rfl (HI2.out.rb.w7 _ _ _ _ _ _ _) Tryz.underlying39 rfl (by kernel_rfl)) rfl ⟨.inl ⟨HN.out,rfl⟩,Iq HI2.out.bel (by omega) _ _ _ _ _ _ _⟩
  ·have hr':(r != 0)=true:=by simpa using hr
   have hr2:(r==0)=false:=by simpa using hr
   by_cases hl:K.length-b=1
   ·have HD2:Hid ((K.drop b).map MC.type=[y.type]):=by
     show _=_;rw[HD.out,List.map_cons];have:(K.drop (b+1))=[]:=List.drop_eq_nil_of_le (by omega);rw[this];rfl
    have hl0:((K.length-b:Nat):Int)=1:=by omega
    have hl1:(((K.length-b:Nat):Int)==1)=true:=by simp;omega
    have hl2:(((K.length-b:Nat):Int) != 1)=false:=by simp;omega
    by_cases hty:y.type=r
    ·have HY:Hid ((K.drop b).map MC.type=AR f):=by show _=_;rw[HD2.out];rw[HRes.out,if_neg hr,hty]
     have ht1:(y.type==r)=true:=by simpa using hty
     have ht2:(y.type != r)=false:=by simpa using hty
     go_wp2_with fail
     refine Dk (fun u=>Hid (Dw w u v t c n ⟨.slice a1 C.length c1,.slice (some ⟨gk,0,none⟩) K.length c2,.slice a3 F.length c3⟩ ⟨.slice g1 g2 g3,.slice g4 g5 g6,.slice g7 g8 g9⟩ r ⟨ff,fa,b,fls⟩ (.slice al ml cl))) E0 ?_;rintro W0 HI0;clear E0;have inst:=Aj.some W0;have fres:=HI0.out.fb.cell 1;simp only[gA,gZ,gS]at fres;have FR:=fun n:Aj W0=>Aj.cell fres n
     have k1:=I5 HI0.out.bel HK1.out;have KK:=fun n:Aj W0=>Aj.cell k1 n
     refine Am (by kernel_rfl) (by kernel_rfl) ?_;repeat(go_big_quiet_step (fail))
     refine wpQuiet_nil ?_;rintro w'' ⟨n',rfl⟩;have HI:Hid (Dw w n'.u v t c n ⟨.slice a1 C.length c1,.slice (some ⟨gk,0,none⟩) K.length c2,.slice a3 F.length c3⟩ ⟨.slice g1 g2 g3,.slice g4 g5 g6,.slice g7 g8 g9⟩ r ⟨ff,fa,b,fls⟩ (.slice al ml cl)):=HI0.out.keep n'.h;clear FR inst fres HI0 KK k1;generalize n'.u=W at HI⊢;obtain⟨m0,m1,m2,m3,m4,m5,m6⟩:=HI.out.sb.c7;obtain⟨mz0,mz1,mz2,mz3,mz4,mz5,mz6⟩:=HI.out.sb.z7;try dsimp only at m0 m1 m2 m3 m4 m5 m6
     obtain⟨r0,r1,r2,r3,r4,r5,r6⟩:=HI.out.rb.c7;obtain⟨rz0,rz1,rz2,rz3,rz4,rz5,rz6⟩:=HI.out.rb.z7;try dsimp only at r0 r1 r2 r3 r4 r5 r6
     have nsr:¬w.heap.size+1=w.heap.size+1+1+1+1:=by omega
     by_cases hF2:F.length=1
     ·have hF2':((F.length:Int)==1)=true:=by simp;omega
      have hd:decide (F.length=1)=true:=by simpa using hF2
      have HT:Hid (F.take (F.length-1)=[]):=by show _=_;rw[hF2];rfl
      have S1:=HI.out.sb.set 1 (.bool true);have S2:=S1.set 6 (.slice none 0 0);have HW:Hid (Ah ((W.setCell ⟨w.heap.size+1,1,none⟩ (.bool true)).setCell ⟨w.heap.size+1,6,none⟩ (.slice none 0 0)) B ⟨.slice a1 C.length c1,.slice (some ⟨gk,0,none⟩) K.length c2,.slice none 0 0⟩ C K []/\Ap ((W.setCell ⟨w.heap.size+1,1,none⟩ (.bool true)).setCell ⟨w.heap.size+1,6,none⟩ (.slice none 0 0)) (w.heap.size+1+1+1+1) #[.int .i64 0,.bool false,.int .i64 0,.int .i64 0,.slice none 0 0,.slice none 0 0,.slice none 0 0] 39/\Below w.heap.size w ((W.setCell ⟨w.heap.size+1,1,none⟩ (.bool true)).setCell ⟨w.heap.size+1,6,none⟩ (.slice none 0 0))):=⟨(((H.out.1.grow HI.out.bel).noF).other HI.out.sb (by decide) (by decide) (by decide) 1 _).other S1 (by decide) (by decide) (by decide) 6 _,(HI.out.rb.other (by simp only[];omega) _).other (by simp only[];omega) _,(HI.out.bel.setCell (by simp only[];omega) _).setCell (by simp only[];omega) _⟩
      clear S1 S2;go_wp2_with fail
      rw[HT.out];exact bodyPost_ret (results_cell_row Tryz.results76 _ _ _ 39 _ (0,0) _ rfl (HW.out.2.1.w7 _ _ _ _ _ _ _) Tryz.underlying39 rfl (by kernel_rfl)) rfl ⟨.inr ⟨HY.out,_,by rw[hd],HW.out.1.o7 HW.out.2.1 _ _ _ _ _ _ _⟩,Iq HW.out.2.2 (by omega) _ _ _ _ _ _ _⟩
     ·have hF2':((F.length:Int)==1)=false:=by simp;omega
      have hd:decide (F.length=1)=false:=by simpa using hF2
      have hc3:F.length<=c3:=CR H.out.1.frames;have hFN:((F.length:Int)-1)=((F.length-1:Nat):Int):=by omega
      have S1:=HI.out.sb.set 6 (.slice a3 (F.length-1) c3);have HW:Hid (Ah (W.setCell ⟨w.heap.size+1,6,none⟩ (.slice a3 (F.length-1) c3)) B ⟨.slice a1 C.length c1,.slice (some ⟨gk,0,none⟩) K.length c2,.slice a3 (F.length-1) c3⟩ C K (F.take (F.length-1))/\Ap (W.setCell ⟨w.heap.size+1,6,none⟩ (.slice a3 (F.length-1) c3)) (w.heap.size+1+1+1+1) #[.int .i64 0,.bool false,.int .i64 0,.int .i64 0,.slice none 0 0,.slice none 0 0,.slice none 0 0] 39/\Below w.heap.size w (W.setCell ⟨w.heap.size+1,6,none⟩ (.slice a3 (F.length-1) c3))):=⟨((H.out.1.grow HI.out.bel).popF rfl (Nat.sub_le _ _)).other HI.out.sb (by decide) (by decide) (by decide) 6 _,HI.out.rb.other (by simp only[];omega) _,HI.out.bel.setCell (by simp only[];omega) _⟩
      clear S1;go_wp2_with fail
      exact bodyPost_ret (results_cell_row Tryz.results76 _ _ _ 39 _ (0,0) _ rfl (HW.out.2.1.w7 _ _ _ _ _ _ _) Tryz.underlying39 rfl (by kernel_rfl)) rfl ⟨.inr ⟨HY.out,_,by rw[hd],HW.out.1.o7 HW.out.2.1 _ _ _ _ _ _ _⟩,Iq HW.out.2.2 (by omega) _ _ _ _ _ _ _⟩
    ·have HN:Hid ((K.drop b).map MC.type≠AR f):=by show _≠_;rw[HD2.out];rw[HRes.out,if_neg hr];simpa using hty
     have ht1:(y.type==r)=false:=by simpa using hty
     have ht2:(y.type != r)=true:=by simpa using hty
     go_wp2_with fail
     refine Dk (fun u=>Hid (Dw w u v t c n ⟨.slice a1 C.length c1,.slice (some ⟨gk,0,none⟩) K.length c2,.slice a3 F.length c3⟩ ⟨.slice g1 g2 g3,.slice g4 g5 g6,.slice g7 g8 g9⟩ r ⟨ff,fa,b,fls⟩ (.slice al ml cl))) E0 ?_;rintro W0 HI0;clear E0;have inst:=Aj.some W0;have fres:=HI0.out.fb.cell 1;simp only[gA,gZ,gS]at fres;have FR:=fun n:Aj W0=>Aj.cell fres n
     have k1:=I5 HI0.out.bel HK1.out;have KK:=fun n:Aj W0=>Aj.cell k1 n
     refine Am (by kernel_rfl) (by kernel_rfl) ?_;repeat(go_big_quiet_step (fail))
     refine wpQuiet_nil ?_;rintro w'' ⟨n',rfl⟩;have HI:Hid (Dw w n'.u v t c n ⟨.slice a1 C.length c1,.slice (some ⟨gk,0,none⟩) K.length c2,.slice a3 F.length c3⟩ ⟨.slice g1 g2 g3,.slice g4 g5 g6,.slice g7 g8 g9⟩ r ⟨ff,fa,b,fls⟩ (.slice al ml cl)):=HI0.out.keep n'.h;clear FR inst fres HI0 KK k1;generalize n'.u=W at HI⊢;obtain⟨m0,m1,m2,m3,m4,m5,m6⟩:=HI.out.sb.c7;try dsimp only at m0 m1 m2 m3 m4 m5 m6
     go_wp2_with fail
     refine(BJ t c n 6 false a1 (some ⟨gk,0,none⟩) a3 C.length c1 K.length c2 F.length c3 _).mono ?_;rintro e u2 ⟨rfl,bl2⟩;have HI2:Hid (Dw w u2 v t c n ⟨.slice a1 C.length c1,.slice (some ⟨gk,0,none⟩) K.length c2,.slice a3 F.length c3⟩ ⟨.slice g1 g2 g3,.slice g4 g5 g6,.slice g7 g8 g9⟩ r ⟨ff,fa,b,fls⟩ (.slice al ml cl)):=HI.out.keep bl2;clear bl2 HI m0 m1 m2 m3 m4 m5 m6;obtain⟨r0,r1,r2,r3,r4,r5,r6⟩:=HI2.out.rb.c7;obtain⟨rz0,rz1,rz2,rz3,rz4,rz5,rz6⟩:=HI2.out.rb.z7;try dsimp only at r0 r1 r2 r3 r4 r5 r6
     go_wp2_with fail
     exact bodyPost_ret (results_cell_row Tryz.results76 _ _ _ 39 _ (0,0) _ rfl (HI2.out.rb.w7 _ _ _ _ _ _ _) Tryz.underlying39 rfl (by kernel_rfl)) rfl ⟨.inl ⟨HN.out,rfl⟩,Iq HI2.out.bel (by omega) _ _ _ _ _ _ _⟩
   ·have HN:Hid ((K.drop b).map MC.type≠AR f):=by
     intro e;have:=congrArg List.length e;rw[HRes.out,if_neg hr,List.length_map,List.length_drop]at this;exact hl this
    have hl0:((K.length-b:Nat):Int)≠1:=by omega
    have hl1:(((K.length-b:Nat):Int)==1)=false:=by simp;omega
    have hl2:(((K.length-b:Nat):Int) != 1)=true:=by simp;omega
    go_wp2_with fail
    refine Dk (fun u=>Hid (Dw w u v t c n ⟨.slice a1 C.length c1,.slice (some ⟨gk,0,none⟩) K.length c2,.slice a3 F.length c3⟩ ⟨.slice g1 g2 g3,.slice g4 g5 g6,.slice g7 g8 g9⟩ r ⟨ff,fa,b,fls⟩ (.slice al ml cl))) E0 ?_;rintro W0 HI0;clear E0;have inst:=Aj.some W0;have fres:=HI0.out.fb.cell 1;simp only[gA,gZ,gS]at fres;have FR:=fun n:Aj W0=>Aj.cell fres n
    refine Am (by kernel_rfl) (by kernel_rfl) ?_;repeat(go_big_quiet_step (fail))
    refine wpQuiet_nil ?_;rintro w'' ⟨n',rfl⟩;have HI:Hid (Dw w n'.u v t c n ⟨.slice a1 C.length c1,.slice (some ⟨gk,0,none⟩) K.length c2,.slice a3 F.length c3⟩ ⟨.slice g1 g2 g3,.slice g4 g5 g6,.slice g7 g8 g9⟩ r ⟨ff,fa,b,fls⟩ (.slice al ml cl)):=HI0.out.keep n'.h;clear FR inst fres HI0;generalize n'.u=W at HI⊢;obtain⟨m0,m1,m2,m3,m4,m5,m6⟩:=HI.out.sb.c7;try dsimp only at m0 m1 m2 m3 m4 m5 m6
    go_wp2_with fail
    refine(BJ t c n 6 false a1 (some ⟨gk,0,none⟩) a3 C.length c1 K.length c2 F.length c3 _).mono ?_;rintro e u2 ⟨rfl,bl2⟩;have HI2:Hid (Dw w u2 v t c n ⟨.slice a1 C.length c1,.slice (some ⟨gk,0,none⟩) K.length c2,.slice a3 F.length c3⟩ ⟨.slice g1 g2 g3,.slice g4 g5 g6,.slice g7 g8 g9⟩ r ⟨ff,fa,b,fls⟩ (.slice al ml cl)):=HI.out.keep bl2;clear bl2 HI m0 m1 m2 m3 m4 m5 m6;obtain⟨r0,r1,r2,r3,r4,r5,r6⟩:=HI2.out.rb.c7;obtain⟨rz0,rz1,rz2,rz3,rz4,rz5,rz6⟩:=HI2.out.rb.z7;try dsimp only at r0 r1 r2 r3 r4 r5 r6
    go_wp2_with fail
    exact bodyPost_ret (results_cell_row Tryz.results76 _ _ _ 39 _ (0,0) _ rfl (HI2.out.rb.w7 _ _ _ _ _ _ _) Tryz.underlying39 rfl (by kernel_rfl)) rfl ⟨.inl ⟨HN.out,rfl⟩,Iq HI2.out.bel (by omega) _ _ _ _ _ _ _⟩
 ·obtain rfl:b=K.length:=by omega
  have HD:Hid (K.drop K.length=[]):=List.drop_length;have hcap:K.length<=c2:=CR (H.out.1.fam.own (.slice a2 K.length c2,K) (by simp));have hsub:K.length-K.length=0:=Nat.sub_self _;clear hrow;by_cases hce:c2=K.length
  ·subst hce
   by_cases hr:r=0
   ·have HY:Hid ((K.drop K.length).map MC.type=AR f):=by show _=_;rw[HD.out,HRes.out,if_pos hr];rfl
    have hr':(r != 0)=false:=by simpa using hr
    have hr2:(r==0)=true:=by simpa using hr
    subst hr;go_wp2_with fail
    refine Dk (fun u=>Hid (Dw w u v t c n ⟨.slice a1 C.length c1,.slice a2 K.length K.length,.slice a3 F.length c3⟩ ⟨.slice g1 g2 g3,.slice g4 g5 g6,.slice g7 g8 g9⟩ 0 ⟨ff,fa,(K.length:Int),fls⟩ (.slice al ml cl))) E0 ?_;rintro W0 HI0;clear E0;have inst:=Aj.some W0;have fres:=HI0.out.fb.cell 1;simp only[gA,gZ,gS]at fres;have FR:=fun n:Aj W0=>Aj.cell fres n
    refine Am (by kernel_rfl) (by kernel_rfl) ?_;repeat(go_big_quiet_step (fail))
    refine wpQuiet_nil ?_;rintro w'' ⟨n',rfl⟩;have HI:Hid (Dw w n'.u v t c n ⟨.slice a1 C.length c1,.slice a2 K.length K.length,.slice a3 F.length c3⟩ ⟨.slice g1 g2 g3,.slice g4 g5 g6,.slice g7 g8 g9⟩ 0 ⟨ff,fa,(K.length:Int),fls⟩ (.slice al ml cl)):=HI0.out.keep n'.h;clear FR inst fres HI0;generalize n'.u=W at HI⊢;obtain⟨m0,m1,m2,m3,m4,m5,m6⟩:=HI.out.sb.c7;obtain⟨mz0,mz1,mz2,mz3,mz4,mz5,mz6⟩:=HI.out.sb.z7;try dsimp only at m0 m1 m2 m3 m4 m5 m6
    obtain⟨r0,r1,r2,r3,r4,r5,r6⟩:=HI.out.rb.c7;obtain⟨rz0,rz1,rz2,rz3,rz4,rz5,rz6⟩:=HI.out.rb.z7;try dsimp only at r0 r1 r2 r3 r4 r5 r6
    have nsr:¬w.heap.size+1=w.heap.size+1+1+1+1:=by omega
    by_cases hF2:F.length=1
    ·have hF2':((F.length:Int)==1)=true:=by simp;omega
     have hd:decide (F.length=1)=true:=by simpa using hF2
     have HT:Hid (F.take (F.length-1)=[]):=by show _=_;rw[hF2];rfl
     have S1:=HI.out.sb.set 1 (.bool true);have S2:=S1.set 6 (.slice none 0 0);have HW:Hid (Ah ((W.setCell ⟨w.heap.size+1,1,none⟩ (.bool true)).setCell ⟨w.heap.size+1,6,none⟩ (.slice none 0 0)) B ⟨.slice a1 C.length c1,.slice a2 K.length K.length,.slice none 0 0⟩ C K []/\Ap ((W.setCell ⟨w.heap.size+1,1,none⟩ (.bool true)).setCell ⟨w.heap.size+1,6,none⟩ (.slice none 0 0)) (w.heap.size+1+1+1+1) #[.int .i64 0,.bool false,.int .i64 0,.int .i64 0,.slice none 0 0,.slice none 0 0,.slice none 0 0] 39/\Below w.heap.size w ((W.setCell ⟨w.heap.size+1,1,none⟩ (.bool true)).setCell ⟨w.heap.size+1,6,none⟩ (.slice none 0 0))):=⟨(((H.out.1.grow HI.out.bel).noF).other HI.out.sb (by decide) (by decide) (by decide) 1 _).other S1 (by decide) (by decide) (by decide) 6 _,(HI.out.rb.other (by simp only[];omega) _).other (by simp only[];omega) _,(HI.out.bel.setCell (by simp only[];omega) _).setCell (by simp only[];omega) _⟩
     clear S1 S2;go_wp2_with fail
     rw[HT.out];exact bodyPost_ret (results_cell_row Tryz.results76 _ _ _ 39 _ (0,0) _ rfl (HW.out.2.1.w7 _ _ _ _ _ _ _) Tryz.underlying39 rfl (by kernel_rfl)) rfl ⟨.inr ⟨HY.out,_,by rw[hd],HW.out.1.o7 HW.out.2.1 _ _ _ _ _ _ _⟩,Iq HW.out.2.2 (by omega) _ _ _ _ _ _ _⟩
    ·have hF2':((F.length:Int)==1)=false:=by simp;omega
     have hd:decide (F.length=1)=false:=by simpa using hF2
     have hc3:F.length<=c3:=CR H.out.1.frames;have hFN:((F.length:Int)-1)=((F.length-1:Nat):Int):=by omega
     have S1:=HI.out.sb.set 6 (.slice a3 (F.length-1) c3);have HW:Hid (Ah (W.setCell ⟨w.heap.size+1,6,none⟩ (.slice a3 (F.length-1) c3)) B ⟨.slice a1 C.length c1,.slice a2 K.length K.length,.slice a3 (F.length-1) c3⟩ C K (F.take (F.length-1))/\Ap (W.setCell ⟨w.heap.size+1,6,none⟩ (.slice a3 (F.length-1) c3)) (w.heap.size+1+1+1+1) #[.int .i64 0,.bool false,.int .i64 0,.int .i64 0,.slice none 0 0,.slice none 0 0,.slice none 0 0] 39/\Below w.heap.size w (W.setCell ⟨w.heap.size+1,6,none⟩ (.slice a3 (F.length-1) c3))):=⟨((H.out.1.grow HI.out.bel).popF rfl (Nat.sub_le _ _)).other HI.out.sb (by decide) (by decide) (by decide) 6 _,HI.out.rb.other (by simp only[];omega) _,HI.out.bel.setCell (by simp only[];omega) _⟩
     clear S1;go_wp2_with fail
     exact bodyPost_ret (results_cell_row Tryz.results76 _ _ _ 39 _ (0,0) _ rfl (HW.out.2.1.w7 _ _ _ _ _ _ _) Tryz.underlying39 rfl (by kernel_rfl)) rfl ⟨.inr ⟨HY.out,_,by rw[hd],HW.out.1.o7 HW.out.2.1 _ _ _ _ _ _ _⟩,Iq HW.out.2.2 (by omega) _ _ _ _ _ _ _⟩
   ·have HN:Hid ((K.drop K.length).map MC.type≠AR f):=by show _≠_;rw[HD.out,HRes.out,if_neg hr];simp
    have hr':(r != 0)=true:=by simpa using hr
    have hr2:(r==0)=false:=by simpa using hr
    go_wp2_with fail
    refine Dk (fun u=>Hid (Dw w u v t c n ⟨.slice a1 C.length c1,.slice a2 K.length K.length,.slice a3 F.length c3⟩ ⟨.slice g1 g2 g3,.slice g4 g5 g6,.slice g7 g8 g9⟩ r ⟨ff,fa,(K.length:Int),fls⟩ (.slice al ml cl))) E0 ?_;rintro W0 HI0;clear E0;have inst:=Aj.some W0;have fres:=HI0.out.fb.cell 1;simp only[gA,gZ,gS]at fres;have FR:=fun n:Aj W0=>Aj.cell fres n
    refine Am (by kernel_rfl) (by kernel_rfl) ?_;repeat(go_big_quiet_step (fail))
    refine wpQuiet_nil ?_;rintro w'' ⟨n',rfl⟩;have HI:Hid (Dw w n'.u v t c n ⟨.slice a1 C.length c1,.slice a2 K.length K.length,.slice a3 F.length c3⟩ ⟨.slice g1 g2 g3,.slice g4 g5 g6,.slice g7 g8 g9⟩ r ⟨ff,fa,(K.length:Int),fls⟩ (.slice al ml cl)):=HI0.out.keep n'.h;clear FR inst fres HI0;generalize n'.u=W at HI⊢;obtain⟨m0,m1,m2,m3,m4,m5,m6⟩:=HI.out.sb.c7;try dsimp only at m0 m1 m2 m3 m4 m5 m6
    go_wp2_with fail
    refine(BJ t c n 6 false a1 a2 a3 C.length c1 K.length K.length F.length c3 _).mono ?_;rintro e u2 ⟨rfl,bl2⟩;have HI2:Hid (Dw w u2 v t c n ⟨.slice a1 C.length c1,.slice a2 K.length K.length,.slice a3 F.length c3⟩ ⟨.slice g1 g2 g3,.slice g4 g5 g6,.slice g7 g8 g9⟩ r ⟨ff,fa,(K.length:Int),fls⟩ (.slice al ml cl)):=HI.out.keep bl2;clear bl2 HI m0 m1 m2 m3 m4 m5 m6;obtain⟨r0,r1,r2,r3,r4,r5,r6⟩:=HI2.out.rb.c7;obtain⟨rz0,rz1,rz2,rz3,rz4,rz5,rz6⟩:=HI2.out.rb.z7;try dsimp only at r0 r1 r2 r3 r4 r5 r6
    go_wp2_with fail
    exact bodyPost_ret (results_cell_row Tryz.results76 _ _ _ 39 _ (0,0) _ rfl (HI2.out.rb.w7 _ _ _ _ _ _ _) Tryz.underlying39 rfl (by kernel_rfl)) rfl ⟨.inl ⟨HN.out,rfl⟩,Iq HI2.out.bel (by omega) _ _ _ _ _ _ _⟩
  ·have hce':¬c2=K.length:=hce
   by_cases hr:r=0
   ·have HY:Hid ((K.drop K.length).map MC.type=AR f):=by show _=_;rw[HD.out,HRes.out,if_pos hr];rfl
    have hr':(r != 0)=false:=by simpa using hr
    have hr2:(r==0)=true:=by simpa using hr
    subst hr;go_wp2_with fail
    refine Dk (fun u=>Hid (Dw w u v t c n ⟨.slice a1 C.length c1,.slice a2 K.length c2,.slice a3 F.length c3⟩ ⟨.slice g1 g2 g3,.slice g4 g5 g6,.slice g7 g8 g9⟩ 0 ⟨ff,fa,(K.length:Int),fls⟩ (.slice al ml cl))) E0 ?_;rintro W0 HI0;clear E0;have inst:=Aj.some W0;have fres:=HI0.out.fb.cell 1;simp only[gA,gZ,gS]at fres;have FR:=fun n:Aj W0=>Aj.cell fres n
    refine Am (by kernel_rfl) (by kernel_rfl) ?_;repeat(go_big_quiet_step (fail))
    refine wpQuiet_nil ?_;rintro w'' ⟨n',rfl⟩;have HI:Hid (Dw w n'.u v t c n ⟨.slice a1 C.length c1,.slice a2 K.length c2,.slice a3 F.length c3⟩ ⟨.slice g1 g2 g3,.slice g4 g5 g6,.slice g7 g8 g9⟩ 0 ⟨ff,fa,(K.length:Int),fls⟩ (.slice al ml cl)):=HI0.out.keep n'.h;clear FR inst fres HI0;generalize n'.u=W at HI⊢;obtain⟨m0,m1,m2,m3,m4,m5,m6⟩:=HI.out.sb.c7;obtain⟨mz0,mz1,mz2,mz3,mz4,mz5,mz6⟩:=HI.out.sb.z7;try dsimp only at m0 m1 m2 m3 m4 m5 m6
    obtain⟨r0,r1,r2,r3,r4,r5,r6⟩:=HI.out.rb.c7;obtain⟨rz0,rz1,rz2,rz3,rz4,rz5,rz6⟩:=HI.out.rb.z7;try dsimp only at r0 r1 r2 r3 r4 r5 r6
    have nsr:¬w.heap.size+1=w.heap.size+1+1+1+1:=by omega
    by_cases hF2:F.length=1
    ·have hF2':((F.length:Int)==1)=true:=by simp;omega
     have hd:decide (F.length=1)=true:=by simpa using hF2
     have HT:Hid (F.take (F.length-1)=[]):=by show _=_;rw[hF2];rfl
     have S1:=HI.out.sb.set 1 (.bool true);have S2:=S1.set 6 (.slice none 0 0);have HW:Hid (Ah ((W.setCell ⟨w.heap.size+1,1,none⟩ (.bool true)).setCell ⟨w.heap.size+1,6,none⟩ (.slice none 0 0)) B ⟨.slice a1 C.length c1,.slice a2 K.length c2,.slice none 0 0⟩ C K []/\Ap ((W.setCell ⟨w.heap.size+1,1,none⟩ (.bool true)).setCell ⟨w.heap.size+1,6,none⟩ (.slice none 0 0)) (w.heap.size+1+1+1+1) #[.int .i64 0,.bool false,.int .i64 0,.int .i64 0,.slice none 0 0,.slice none 0 0,.slice none 0 0] 39/\Below w.heap.size w ((W.setCell ⟨w.heap.size+1,1,none⟩ (.bool true)).setCell ⟨w.heap.size+1,6,none⟩ (.slice none 0 0))):=⟨(((H.out.1.grow HI.out.bel).noF).other HI.out.sb (by decide) (by decide) (by decide) 1 _).other S1 (by decide) (by decide) (by decide) 6 _,(HI.out.rb.other (by simp only[];omega) _).other (by simp only[];omega) _,(HI.out.bel.setCell (by simp only[];omega) _).setCell (by simp only[];omega) _⟩
     clear S1 S2;go_wp2_with fail
     rw[HT.out];exact bodyPost_ret (results_cell_row Tryz.results76 _ _ _ 39 _ (0,0) _ rfl (HW.out.2.1.w7 _ _ _ _ _ _ _) Tryz.underlying39 rfl (by kernel_rfl)) rfl ⟨.inr ⟨HY.out,_,by rw[hd],HW.out.1.o7 HW.out.2.1 _ _ _ _ _ _ _⟩,Iq HW.out.2.2 (by omega) _ _ _ _ _ _ _⟩
    ·have hF2':((F.length:Int)==1)=false:=by simp;omega
     have hd:decide (F.length=1)=false:=by simpa using hF2
     have hc3:F.length<=c3:=CR H.out.1.frames;have hFN:((F.length:Int)-1)=((F.length-1:Nat):Int):=by omega
     have S1:=HI.out.sb.set 6 (.slice a3 (F.length-1) c3);have HW:Hid (Ah (W.setCell ⟨w.heap.size+1,6,none⟩ (.slice a3 (F.length-1) c3)) B ⟨.slice a1 C.length c1,.slice a2 K.length c2,.slice a3 (F.length-1) c3⟩ C K (F.take (F.length-1))/\Ap (W.setCell ⟨w.heap.size+1,6,none⟩ (.slice a3 (F.length-1) c3)) (w.heap.size+1+1+1+1) #[.int .i64 0,.bool false,.int .i64 0,.int .i64 0,.slice none 0 0,.slice none 0 0,.slice none 0 0] 39/\Below w.heap.size w (W.setCell ⟨w.heap.size+1,6,none⟩ (.slice a3 (F.length-1) c3))):=⟨((H.out.1.grow HI.out.bel).popF rfl (Nat.sub_le _ _)).other HI.out.sb (by decide) (by decide) (by decide) 6 _,HI.out.rb.other (by simp only[];omega) _,HI.out.bel.setCell (by simp only[];omega) _⟩
     clear S1;go_wp2_with fail
     exact bodyPost_ret (results_cell_row Tryz.results76 _ _ _ 39 _ (0,0) _ rfl (HW.out.2.1.w7 _ _ _ _ _ _ _) Tryz.underlying39 rfl (by kernel_rfl)) rfl ⟨.inr ⟨HY.out,_,by rw[hd],HW.out.1.o7 HW.out.2.1 _ _ _ _ _ _ _⟩,Iq HW.out.2.2 (by omega) _ _ _ _ _ _ _⟩
   ·have HN:Hid ((K.drop K.length).map MC.type≠AR f):=by show _≠_;rw[HD.out,HRes.out,if_neg hr];simp
    have hr':(r != 0)=true:=by simpa using hr
    have hr2:(r==0)=false:=by simpa using hr
    go_wp2_with fail
    refine Dk (fun u=>Hid (Dw w u v t c n ⟨.slice a1 C.length c1,.slice a2 K.length c2,.slice a3 F.length c3⟩ ⟨.slice g1 g2 g3,.slice g4 g5 g6,.slice g7 g8 g9⟩ r ⟨ff,fa,(K.length:Int),fls⟩ (.slice al ml cl))) E0 ?_;rintro W0 HI0;clear E0;have inst:=Aj.some W0;have fres:=HI0.out.fb.cell 1;simp only[gA,gZ,gS]at fres;have FR:=fun n:Aj W0=>Aj.cell fres n
    refine Am (by kernel_rfl) (by kernel_rfl) ?_;repeat(go_big_quiet_step (fail))
    refine wpQuiet_nil ?_;rintro w'' ⟨n',rfl⟩;have HI:Hid (Dw w n'.u v t c n ⟨.slice a1 C.length c1,.slice a2 K.length c2,.slice a3 F.length c3⟩ ⟨.slice g1 g2 g3,.slice g4 g5 g6,.slice g7 g8 g9⟩ r ⟨ff,fa,(K.length:Int),fls⟩ (.slice al ml cl)):=HI0.out.keep n'.h;clear FR inst fres HI0;generalize n'.u=W at HI⊢;obtain⟨m0,m1,m2,m3,m4,m5,m6⟩:=HI.out.sb.c7;try dsimp only at m0 m1 m2 m3 m4 m5 m6
    go_wp2_with fail
    refine(BJ t c n 6 false a1 a2 a3 C.length c1 K.length c2 F.length c3 _).mono ?_;rintro e u2 ⟨rfl,bl2⟩;have HI2:Hid (Dw w u2 v t c n ⟨.slice a1 C.length c1,.slice a2 K.length c2,.slice a3 F.length c3⟩ ⟨.slice g1 g2 g3,.slice g4 g5 g6,.slice g7 g8 g9⟩ r ⟨ff,fa,(K.length:Int),fls⟩ (.slice al ml cl)):=HI.out.keep bl2;clear bl2 HI m0 m1 m2 m3 m4 m5 m6;obtain⟨r0,r1,r2,r3,r4,r5,r6⟩:=HI2.out.rb.c7;obtain⟨rz0,rz1,rz2,rz3,rz4,rz5,rz6⟩:=HI2.out.rb.z7;try dsimp only at r0 r1 r2 r3 r4 r5 r6
    go_wp2_with fail
    exact bodyPost_ret (results_cell_row Tryz.results76 _ _ _ 39 _ (0,0) _ rfl (HI2.out.rb.w7 _ _ _ _ _ _ _) Tryz.underlying39 rfl (by kernel_rfl)) rfl ⟨.inl ⟨HN.out,rfl⟩,Iq HI2.out.bel (by omega) _ _ _ _ _ _ _⟩
end Go.Proofs.YtlejplpkomddeaaGreat
