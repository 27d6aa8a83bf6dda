import Derived.Test.YtdipfjmlfbdkdaaGreatFc45
import Derived.Test.YtdipfjmlfbdkdaaGreatFc46
namespace Go.Proofs.YtdipfjmlfbdkdaaGreat
open Go.ChangeShapes Go.WideShapes Go.ChangeAt Go.RowKit
set_option linter.unusedVariables false
set_option maxHeartbeats 16000000
set_option maxRecDepth 100000
theorem Qo{u:World}{b:Nat}{t:TypeId}{v:Bz}{c s:Value}(H:Ak u b (FY v c s) t):u.cell? ⟨b,0,none⟩=some (.slice v.r.a v.r.n v.r.c)/\u.cell? ⟨b,1,none⟩=some (.slice v.k.a v.k.n v.k.c)/\u.cell? ⟨b,2,none⟩=some (.slice v.f.a v.f.n v.f.c)/\u.cell? ⟨b,3,none⟩=some (.slice v.t.a v.t.n v.t.c)/\u.cell? ⟨b,4,none⟩=some (.slice v.p.a v.p.n v.p.c)/\u.cell? ⟨b,5,none⟩=some (.int .i64 v.rs)/\u.cell? ⟨b,6,none⟩=some (.slice v.l.a v.l.n v.l.c)/\u.cell? ⟨b,7,none⟩=some (.slice v.c.a v.c.n v.c.c)/\u.cell? ⟨b,8,none⟩=some (.int .i64 v.nu)/\u.cell? ⟨b,9,none⟩=some (.int .i64 v.co)/\u.cell? ⟨b,10,none⟩=some (.int .i64 v.at_)/\u.cell? ⟨b,11,none⟩=some (.slice v.b.a v.b.n v.b.c)/\u.cell? ⟨b,12,none⟩=some (.slice v.o.a v.o.n v.o.c)/\u.cell? ⟨b,13,none⟩=some (.slice v.i.a v.i.n v.i.c)/\u.cell? ⟨b,14,none⟩=some (.slice v.q.a v.q.n v.q.c):=by
 unfold FY at H;exact⟨H.cell 0,H.cell 1,H.cell 2,H.cell 3,H.cell 4,H.cell 5,H.cell 6,H.cell 7,H.cell 8,H.cell 9,H.cell 10,H.cell 11,H.cell 12,H.cell 13,H.cell 14⟩
def Cg(gC gS k:Nat):Prop:=k=gC\/k=gS
section
variable {u:World} {B CB:Nat} {v:Bz} {n gC cC gS cS:Nat} {I:List Nat} {C:List Int}
theorem BC.cb_ne(h:BC u B CB v n gC cC gS cS I C):CB≠gC/\CB≠gS:=by
 obtain⟨_,c1,e1⟩:=Am h.co;obtain⟨_,c2,e2⟩:=Am h.st;have e3:=h.blk;unfold Ak at e3;constructor
 . intro e
   rw[<-e,e3]at e1;cases e1
 . intro e
   rw[<-e,e3]at e2;cases e2
theorem BC.lo(h:BC u B CB v n gC cC gS cS I C):B<=gC/\B<=gS:=⟨(Am h.co).1,(Am h.st).1⟩
theorem BC.setC(h:BC u B CB v n gC cC gS cS I C)(k:Nat){y:Int}(hy:CW y):BC (u.setCell ⟨gC,k,none⟩ (.int .i64 y)) B CB v n gC cC gS cS I (C.set k y):=by
 have hs:=(cT h.co k (.int .i64 y)).1;rw[Kh]at hs;exact{h with blk:=h.blk.other (a:=⟨gC,k,none⟩) h.cb_ne.1 _,co:=hs,st:=Bf h.st h.ne.symm,lc:=by rw[dZ];exact h.lc,cc:=ET h.cc hy}
theorem BC.setS(h:BC u B CB v n gC cC gS cS I C)(k:Nat){y:Nat}(hy:y<n):BC (u.setCell ⟨gS,k,none⟩ (.int .i64 (y:Int))) B CB v n gC cC gS cS (I.set k y) C:=by
 have hs:=(cT h.st k (.int .i64 (y:Int))).1;rw[Pl]at hs;exact{h with blk:=h.blk.other (a:=⟨gS,k,none⟩) h.cb_ne.2 _,st:=hs,co:=Bf h.co h.ne,li:=by rw[dZ];exact h.li,ii:=fun z hz=>(dT hz).elim (h.ii z) (fun e=>by rw[e];exact hy)}
theorem BC.frz(h:BC u B CB v n gC cC gS cS I C)(c:Nat):u.frozen? ⟨gC,c,none⟩=false/\u.frozen? ⟨gS,c,none⟩=false:=by
 obtain⟨_,c1,e1⟩:=Am h.co;obtain⟨_,c2,e2⟩:=Am h.st;exact⟨frozen_of_row u gC c c1 _ e1,frozen_of_row u gS c c2 _ e2⟩
end
def PH(E:Nat->List Nat)(n:Nat)(bs:List MB)(l:ML)(I:List Nat)(C:List Int)(h:Nat)(pl:Nat->Nat)(iv:Int)(b:Bool)(I':List Nat)(C':List Int):Prop:=
 ∃(L:List Int) (small:Bool),QI E n (fun b=>decide ((b:Int)∈l.blocks)) I C h pl L small/\(small=false->b=false)/\(small=true->∃ar ou,Br (fun b=>cf L (jf I b)) (fun b=>(b:Int)∈l.back) ar/\Br (fun b=>cf L (jf I b)) (fun b=>(b:Int)∈l.blocks/\KR bs l.blocks b) ou/\(4294967295<iv*ar+ou->b=false)/\(iv*ar+ou<=4294967295->b=true/\C'=C.set h (iv*ar+ou)/\∀j,jf I' j=if j∈l.blocks.map Int.toNat then h else jf I j))
structure Fi(w0 w u:World)(CB:Nat)(v:Bz)(n gC cC gS cS h:Nat)(xa:Option Addr)(xc:Nat)(ka:Option Addr)(kc:Nat)(l:ML)(I:List Nat)(C:List Int):Prop where
 lb:Ak u w.heap.size #[.int .i64 (h:Int),.slice xa l.back.length xc,.slice ka l.blocks.length kc] 68
 co:BC u w0.heap.size CB v n gC cC gS cS I C
 ch:Et (Cg gC gS) w u
 bel:Below w0.heap.size w0 u
theorem Fi.keep{w0 w u u':World}{CB:Nat}{v:Bz}{n gC cC gS cS h:Nat}{xa:Option Addr}{xc:Nat}{ka:Option Addr}{kc:Nat}{l:ML}{I:List Nat}{C:List Int}(H:Fi w0 w u CB v n gC cC gS cS h xa xc ka kc l I C)(hb:Below u.heap.size u u'):Fi w0 w u' CB v n gC cC gS cS h xa xc ka kc l I C:=⟨H.lb.keep hb,H.co.keep hb,H.ch.on hb,Ab H.bel lR hb⟩
theorem Fi.lbne{w0 w u:World}{CB:Nat}{v:Bz}{n gC cC gS cS h:Nat}{xa:Option Addr}{xc:Nat}{ka:Option Addr}{kc:Nat}{l:ML}{I:List Nat}{C:List Int}(H:Fi w0 w u CB v n gC cC gS cS h xa xc ka kc l I C):w.heap.size≠gC/\w.heap.size≠gS:=by
 obtain⟨_,c1,e1⟩:=Am H.co.co;obtain⟨_,c2,e2⟩:=Am H.co.st;have e3:=H.lb;unfold Ak at e3;constructor
 . intro e
   rw[<-e,e3]at e1;cases e1
 . intro e
   rw[<-e,e3]at e2;cases e2
theorem Fi.setC{w0 w u:World}{CB:Nat}{v:Bz}{n gC cC gS cS h:Nat}{xa:Option Addr}{xc:Nat}{ka:Option Addr}{kc:Nat}{l:ML}{I:List Nat}{C:List Int}(H:Fi w0 w u CB v n gC cC gS cS h xa xc ka kc l I C)(k:Nat){y:Int}(hy:CW y):Fi w0 w (u.setCell ⟨gC,k,none⟩ (.int .i64 y)) CB v n gC cC gS cS h xa xc ka kc l I (C.set k y):=
 ⟨H.lb.other (a:=⟨gC,k,none⟩) H.lbne.1 _,H.co.setC k hy,H.ch.setCell (.inl (.inl rfl)) _,H.bel.setCell H.co.lo.1 _⟩
theorem Fi.setS{w0 w u:World}{CB:Nat}{v:Bz}{n gC cC gS cS h:Nat}{xa:Option Addr}{xc:Nat}{ka:Option Addr}{kc:Nat}{l:ML}{I:List Nat}{C:List Int}(H:Fi w0 w u CB v n gC cC gS cS h xa xc ka kc l I C)(k:Nat){y:Nat}(hy:y<n):Fi w0 w (u.setCell ⟨gS,k,none⟩ (.int .i64 (y:Int))) CB v n gC cC gS cS h xa xc ka kc l (I.set k y) C:=
 ⟨H.lb.other (a:=⟨gS,k,none⟩) H.lbne.2 _,H.co.setS k hy,H.ch.setCell (.inl (.inr rfl)) _,H.bel.setCell H.co.lo.2 _⟩
theorem Fi.away{w0 w u:World}{CB:Nat}{v:Bz}{n gC cC gS cS h:Nat}{xa:Option Addr}{xc:Nat}{ka:Option Addr}{kc:Nat}{l:ML}{I:List Nat}{C:List Int}(H:Fi w0 w u CB v n gC cC gS cS h xa xc ka kc l I C){g:Nat}{cur:Array Value}{ty:TypeId}(h2:w.heap.size<g)(h3:w0.heap.size<=w.heap.size)(hg:Ak u g cur ty)(i:Nat)(z:Value)(hne:ty≠2:=by decide)(hnc:ty≠128:=by decide):Fi w0 w (u.setCell ⟨g,i,none⟩ z) CB v n gC cC gS cS h xa xc ka kc l I C:=by
 obtain⟨lo1,c1,e1⟩:=Am H.co.co;obtain⟨lo2,c2,e2⟩:=Am H.co.st;have e3:=H.co.blk;have e4:=hg;unfold Ak at e3 e4;have n1:gC≠g:=fun e=>by rw[e,e4]at e1;cases e1;exact hne rfl
 have n2:gS≠g:=fun e=>by rw[e,e4]at e2;cases e2;exact hne rfl
 have n3:CB≠g:=fun e=>by rw[e,e4]at e3;cases e3;exact hnc rfl
 exact⟨H.lb.other (a:=⟨g,i,none⟩) (by simp only[];omega) _,{H.co with blk:=H.co.blk.other (a:=⟨g,i,none⟩) n3 _,co:=Bf H.co.co n1,st:=Bf H.co.st n2},H.ch.setCell (.inr (by simp only[];omega)) _,H.bel.setCell (by simp only[];omega) _⟩
theorem P4{I:List Nat}{k y j:Nat}(hk:k<I.length):jf (I.set k y) j=if j=k then y else jf I j:=by
 unfold jf;rw[aJ,aJ,List.getElem?_set];by_cases e:j=k
 . subst e;simp[hk]
 . rw[bF (Ne.symm e),bF e]
theorem Ik(w0:World)(CB:Nat)(v:Bz)(gC cC gS cS:Nat)(I:List Nat)(C:List Int)(p:MP)(fi:Int)(F:List (MB×Value))(xs:List MI)(r:Dm)(E:Nat->List Nat)(R:List Nat)(pl:Nat->Nat)(h:Nat)(m:MB)(t:MT)(xa:Option Addr)(xc:Nat)(ka:Option Addr)(kc:Nat)(l:ML)(w:World)(hb0:Below w0.heap.size w0 w)(hG:Ow w0 v p fi F xs r)(hS:BC w w0.heap.size CB v r.blocks.length gC cC gS cS I C)(hF:Q9 w0 v r.blocks.length E R pl)(hl:l∈r.loops)(hlh:l.head=(h:Int))(hbk:∀z∈l.back,∃b:Nat,z=(b:Int)/\b<r.blocks.length)(hr:Nl w0 (l,.slice xa l.back.length xc,.slice ka l.blocks.length kc))(hm:r.blocks[h]?=some m)(ht:Bh p.certs fi m.first=some t)(hiv:CW t.init):
 Calls Tryz.prog 60 #[.pointer (some ⟨CB,0,none⟩),.agg #[.int .i64 (h:Int),.slice xa l.back.length xc,.slice ka l.blocks.length kc]] w fun e w'=>∃(b:Bool) (I':List Nat) (C':List Int),e=.returned (.bool b)/\BC w' w0.heap.size CB v r.blocks.length gC cC gS cS I' C'/\Et (Cg gC gS) w w'/\Below w0.heap.size w0 w'/\PH E r.blocks.length r.blocks l I C h pl t.init b I' C':=by
 obtain⟨⟨h1,q1,hh⟩,hlb,hln,hbn⟩:=hG.inn.loop l hl;have eh:h=h1:=by omega
 subst eh;have hnb:r.blocks.length<=1024:=hG.inn.nb;have H:=AS (aq hG (aq hF (aq hr (aq hlb (aq hbk (aq hm ht))))));have HB0:=AS hb0;have HS:=AS hS;obtain⟨hiv1,hiv2⟩:=hiv;clear hG hF hr hlb hbk hm ht hb0 hl hlh q1 hS;generalize hn:r.blocks.length=n at HS hh hnb⊢;have HN:=AS hn;clear hn;have hhI:(h:Int)<(n:Int):=by omega
 have E0:Hid (Fi w0 w (w.alloc (.cells #[.int .i64 (h:Int),.slice xa l.back.length xc,.slice ka l.blocks.length kc] 68)) CB v n gC cC gS cS h xa xc ka kc l I C):=⟨Ak.new _ _ _,HS.o.keep (Aa _ _),Et.of (Aa _ _),Ab HB0.o lR (Aa _ _)⟩;go_enter Tryz.func60,Tryz.ntmps60;go_upto_region 1 with fail
 refine Al (fun u=>Hid (Fi w0 w u CB v n gC cC gS cS h xa xc ka kc l I C)) E0 ?_;rintro U HE;clear E0;obtain⟨l0,l1,l2⟩:=BI HE.o.lb;go_wp2_with fail
 have HF1:=AS (H.o.2.1.keep HE.o.bel);rw[HN.o]at HF1;refine(Ex w0.heap.size CB v n gC cC gS cS I C E R pl h ⟨xa,l.back.length,xc⟩ ka kc l.blocks U hnb HE.o.co HF1.o hh hln (Rd.keep H.o.2.2.1.2 HE.o.bel lR) (by rw[<-HN.o];exact H.o.2.2.2.1)).mono ?_;rintro e u1 ⟨gL,L,small,rfl,hL,hWR,bb⟩;have HWR:=AS hWR;have E1:Hid (Fi w0 w u1 CB v n gC cC gS cS h xa xc ka kc l I C):=HE.o.keep bb;have HL:=AS hL;clear hL hWR bb HE l0 l1 l2 HF1;cases small
 case false=>
  have HE9:Hid (∃(b:Bool) (I':List Nat) (C':List Int),Ending.returned (.bool false)=.returned (.bool b)/\BC u1 w0.heap.size CB v n gC cC gS cS I' C'/\Et (Cg gC gS) w u1/\Below w0.heap.size w0 u1/\PH E n r.blocks l I C h pl t.init b I' C'):=⟨false,I,C,rfl,E1.o.co,E1.o.ch,E1.o.bel,L,false,HWR.o,fun _=>rfl,fun h=>(by cases h)⟩
  go_wp2_with fail
  go_ret
  exact HE9.o
 have HSM:Hid (∀u,Below u1.heap.size u1 u->∀c,c<n->u.cell? ⟨gL,c,none⟩=some (.int .i64 (cf L c))):=fun u hu c hc=>Ad hu ((HL.o rfl).1 c hc)
 have HLC:Hid (∀y∈L,CW y):=(HL.o rfl).2;clear HL;go_upto_region 4 with fail
 go_cut [7] (fun s wx=>∃KB:Nat,s=.pointer (some ⟨KB,0,none⟩)/\Hid (Fi w0 w wx CB v n gC cC gS cS h xa xc ka kc l I C/\Ak wx KB #[.int .i64 t.func,.int .i64 t.head,.int .i64 t.counter,.int .u32 t.init] 72/\Below u1.heap.size u1 wx))
 case first=>
  have HR:Hid (Fi w0 w u1.drew CB v n gC cC gS cS h xa xc ka kc l I C/\Below u1.heap.size u1 u1.drew):=⟨E1.o.keep (Ae _),Ae _⟩
  have KS:∀w',Fi w0 w w' CB v n gC cC gS cS h xa xc ka kc l I C->w'.cell? ⟨CB,0,none⟩=some (.slice v.r.a v.r.n v.r.c)/\w'.cell? ⟨CB,1,none⟩=some (.slice v.k.a v.k.n v.k.c)/\w'.cell? ⟨CB,2,none⟩=some (.slice v.f.a v.f.n v.f.c)/\w'.cell? ⟨CB,3,none⟩=some (.slice v.t.a v.t.n v.t.c)/\w'.cell? ⟨CB,4,none⟩=some (.slice v.p.a v.p.n v.p.c)/\w'.cell? ⟨CB,5,none⟩=some (.int .i64 v.rs)/\w'.cell? ⟨CB,6,none⟩=some (.slice v.l.a v.l.n v.l.c)/\w'.cell? ⟨CB,7,none⟩=some (.slice v.c.a v.c.n v.c.c)/\w'.cell? ⟨CB,8,none⟩=some (.int .i64 v.nu)/\w'.cell? ⟨CB,9,none⟩=some (.int .i64 v.co)/\w'.cell? ⟨CB,10,none⟩=some (.int .i64 v.at_)/\w'.cell? ⟨CB,11,none⟩=some (.slice v.b.a v.b.n v.b.c)/\w'.cell? ⟨CB,12,none⟩=some (.slice v.o.a v.o.n v.o.c)/\w'.cell? ⟨CB,13,none⟩=some (.slice v.i.a v.i.n v.i.c)/\w'.cell? ⟨CB,14,none⟩=some (.slice v.q.a v.q.n v.q.c)/\w'.cell? ⟨w.heap.size,0,none⟩=some (.int .i64 (h:Int))/\w'.cell? ⟨w.heap.size,1,none⟩=some (.slice xa l.back.length xc)/\w'.cell? ⟨w.heap.size,2,none⟩=some (.slice ka l.blocks.length kc):=fun w' E=>by
   obtain⟨p0,p1,p2,p3,p4,p5,p6,p7,p8,p9,p10,p11,p12,p13,p14⟩:=Qo E.co.blk;obtain⟨l0,l1,l2⟩:=BI E.lb;exact⟨p0,p1,p2,p3,p4,p5,p6,p7,p8,p9,p10,p11,p12,p13,p14,l0,l1,l2⟩
  have HCF:Hid (∀u,Below w0.heap.size w0 u->Calls Tryz.prog 100 #[.agg v.cells,.agg #[.int .i64 (h:Int),.slice xa l.back.length xc,.slice ka l.blocks.length kc]] u fun e w'=>(∃b,e=.returned (.tuple #[.agg #[.int .i64 t.func,.int .i64 t.head,.int .i64 t.counter,.int .u32 t.init],.bool b]))/\Below u.heap.size u w'):=fun u hu=>by
   have hk:=H.o.1.keep hu;refine(H6 v ⟨xa,l.back.length,xc⟩ ⟨ka,l.blocks.length,kc⟩ p.certs F h m u (aY hk.bs.len (by omega)) hk.bs.rd (by rw[hk.eb];exact H.o.2.2.2.2.2.1) hk.tn hk.tr).mono ?_;rintro e w' ⟨⟨t',b,rfl,q1,q2⟩,bb⟩;rw[hk.nu,H.o.2.2.2.2.2.2]at q1 q2;cases b
   . cases q2 rfl
   . cases q1 rfl
     exact⟨⟨true,rfl⟩,bb⟩
  refine wp_region_held_drew (S:=fun w'=>w'.cell? ⟨CB,0,none⟩=some (.slice v.r.a v.r.n v.r.c)/\w'.cell? ⟨CB,1,none⟩=some (.slice v.k.a v.k.n v.k.c)/\w'.cell? ⟨CB,2,none⟩=some (.slice v.f.a v.f.n v.f.c)/\w'.cell? ⟨CB,3,none⟩=some (.slice v.t.a v.t.n v.t.c)/\w'.cell? ⟨CB,4,none⟩=some (.slice v.p.a v.p.n v.p.c)/\w'.cell? ⟨CB,5,none⟩=some (.int .i64 v.rs)/\w'.cell? ⟨CB,6,none⟩=some (.slice v.l.a v.l.n v.l.c)/\w'.cell? ⟨CB,7,none⟩=some (.slice v.c.a v.c.n v.c.c)/\w'.cell? ⟨CB,8,none⟩=some (.int .i64 v.nu)/\w'.cell? ⟨CB,9,none⟩=some (.int .i64 v.co)/\w'.cell? ⟨CB,10,none⟩=some (.int .i64 v.at_)/\w'.cell? ⟨CB,11,none⟩=some (.slice v.b.a v.b.n v.b.c)/\w'.cell? ⟨CB,12,none⟩=some (.slice v.o.a v.o.n v.o.c)/\w'.cell? ⟨CB,13,none⟩=some (.slice v.i.a v.i.n v.i.c)/\w'.cell? ⟨CB,14,none⟩=some (.slice v.q.a v.q.n v.q.c)/\w'.cell? ⟨w.heap.size,0,none⟩=some (.int .i64 (h:Int))/\w'.cell? ⟨w.heap.size,1,none⟩=some (.slice xa l.back.length xc)/\w'.cell? ⟨w.heap.size,2,none⟩=some (.slice ka l.blocks.length kc)) (by kernel_rfl) (KS _ HR.o.1) (fun hHeld=> ?_)
  clear E1;generalize u1.drew=U2 at HR hHeld⊢;unfold Bz.cells at HCF;refine AG 0 ?_ (hw:=by kernel_rfl);refine AG 1 ?_ (hw:=by kernel_rfl);refine AG 2 ?_ (hw:=by kernel_rfl);refine AG 3 ?_ (hw:=by kernel_rfl);refine AG 4 ?_ (hw:=by kernel_rfl);refine wpAnyH_ready (rs:=[5,9]) (by kernel_rfl) (by simp) ?_;refine AllReadyH.cons rfl ?_ (AllReadyH.cons rfl ?_ AllReadyH.nil)
  . intro KC hKC
    rw[a8 (by kernel_rfl)];go_simp;refine(HCF.o U2 HR.o.1.bel).mono ?_;rintro e u3 ⟨⟨b,rfl⟩,bb⟩;have E3:Hid (Fi w0 w u3 CB v n gC cC gS cS h xa xc ka kc l I C/\Below u1.heap.size u1 u3):=⟨HR.o.1.keep bb,Ab HR.o.2 lR bb⟩
    clear bb;go_simp;refine hKC.o _ _ (KS _ E3.o.1) (fun hHeld=> ?_);clear hKC KC;refine AG 6 ?_ (hw:=by kernel_rfl);refine AG 7 ?_ (hw:=by kernel_rfl);refine AG 8 ?_ (hw:=by kernel_rfl);refine Gq 9 ?_;intro KC hKC;rw[a8 (by kernel_rfl)];go_simp;refine hKC.o _ _ (KS _ (E3.o.1.keep (Aa _ _))) (fun hHeld=> ?_);clear hKC KC;refine Gq 10 ?_;intro KC hKC;rw[a8 (by kernel_rfl)];go_simp;refine hKC.o _ _ (KS _ (E3.o.1.keep (Aa _ _))) (fun hHeld=> ?_);clear hKC KC;refine AG 11 ?_ (hw:=by kernel_rfl);refine wpAnyH_done (by kernel_rfl) ?_ _;go_wp2_with fail
    go_meet
    exact⟨u3.heap.size,rfl,E3.o.1.keep (Aa _ _),Ak.new _ _ _,Ab E3.o.2 lR (Aa _ _)⟩
  . intro KC hKC
    rw[a8 (by kernel_rfl)];go_simp;refine hKC.o _ _ (KS _ (HR.o.1.keep (Aa _ _))) (fun hHeld=> ?_);clear hKC KC;refine Gq 5 ?_;intro KC hKC;rw[a8 (by kernel_rfl)];go_simp;refine(HCF.o _ (HR.o.1.keep (Aa _ _)).bel).mono ?_;rintro e u3 ⟨⟨b,rfl⟩,bb⟩;have E3:Hid (Fi w0 w u3 CB v n gC cC gS cS h xa xc ka kc l I C/\Below u1.heap.size u1 u3):=⟨(HR.o.1.keep (Aa _ _)).keep bb,Ab HR.o.2 lR (Ab (Aa _ _) lR bb)⟩
    have BZ:Hid (Ak u3 U2.heap.size #[.int .i64 0,.int .i64 0,.int .i64 0,.int .u32 0] 72):=(Ak.new _ _ _).keep bb;have hUl:Hid (u1.heap.size<=U2.heap.size):=HR.o.2.size;have hKL:Hid (w.heap.size<U2.heap.size):=HR.o.1.lb.lt;clear bb;go_simp;refine hKC.o _ _ (KS _ E3.o.1) (fun hHeld=> ?_);clear hKC KC;refine AG 6 ?_ (hw:=by kernel_rfl);refine AG 7 ?_ (hw:=by kernel_rfl);refine AG 8 ?_ (hw:=by kernel_rfl);refine Gq 10 ?_;intro KC hKC;rw[a8 (by kernel_rfl)];have bz0:=BZ.o.cell 0;have bz1:=BZ.o.cell 1;have bz2:=BZ.o.cell 2;have bz3:=BZ.o.cell 3;have fz0:=BZ.o.frozen 0;have fz1:=BZ.o.frozen 1;have fz2:=BZ.o.frozen 2;have fz3:=BZ.o.frozen 3;generalize hKB:U2.heap.size=KB at BZ bz0 bz1 bz2 bz3 fz0 fz1 fz2 fz3 hUl hKL⊢
    have E5:Hid (Fi w0 w ((((u3.setCell ⟨KB,0,none⟩ (.int .i64 t.func)).setCell ⟨KB,1,none⟩ (.int .i64 t.head)).setCell ⟨KB,2,none⟩ (.int .i64 t.counter)).setCell ⟨KB,3,none⟩ (.int .u32 t.init)) CB v n gC cC gS cS h xa xc ka kc l I C/\Below u1.heap.size u1 ((((u3.setCell ⟨KB,0,none⟩ (.int .i64 t.func)).setCell ⟨KB,1,none⟩ (.int .i64 t.head)).setCell ⟨KB,2,none⟩ (.int .i64 t.counter)).setCell ⟨KB,3,none⟩ (.int .u32 t.init))):=⟨(((E3.o.1.away hKL.o HB0.o.size BZ.o 0 _).away hKL.o HB0.o.size (BZ.o.set 0 _) 1 _).away hKL.o HB0.o.size ((BZ.o.set 0 _).set 1 _) 2 _).away hKL.o HB0.o.size (((BZ.o.set 0 _).set 1 _).set 2 _) 3 _,(((E3.o.2.setCell hUl.o _).setCell hUl.o _).setCell hUl.o _).setCell hUl.o _⟩
    have B5:=AS ((((BZ.o.set 0 (.int .i64 t.func)).set 1 (.int .i64 t.head)).set 2 (.int .i64 t.counter)).set 3 (.int .u32 t.init));simp only[cu,b7,bj]at B5;go_simp;refine hKC.o _ _ (KS _ E5.o.1) (fun hHeld=> ?_);clear hKC KC;refine AG 11 ?_ (hw:=by kernel_rfl);refine wpAnyH_done (by kernel_rfl) ?_ _;go_wp2_with fail
    go_meet
    exact⟨KB,rfl,E5.o.1,B5.o,E5.o.2⟩
 case rest=>
 obtain⟨KB,rfl,E4⟩:=hcut;clear E1;go_upto_region 5 with fail
 have HR:Hid (Fi w0 w wc.drew CB v n gC cC gS cS h xa xc ka kc l I C/\Ak wc.drew KB #[.int .i64 t.func,.int .i64 t.head,.int .i64 t.counter,.int .u32 t.init] 72/\Below u1.heap.size u1 wc.drew):=⟨E4.o.1.keep (Ae _),E4.o.2.1.keep (Ae _),Ab E4.o.2.2 lR (Ae _)⟩
 clear E4
 have KS:∀w',Fi w0 w w' CB v n gC cC gS cS h xa xc ka kc l I C->w'.cell? ⟨CB,0,none⟩=some (.slice v.r.a v.r.n v.r.c)/\w'.cell? ⟨CB,1,none⟩=some (.slice v.k.a v.k.n v.k.c)/\w'.cell? ⟨CB,2,none⟩=some (.slice v.f.a v.f.n v.f.c)/\w'.cell? ⟨CB,3,none⟩=some (.slice v.t.a v.t.n v.t.c)/\w'.cell? ⟨CB,4,none⟩=some (.slice v.p.a v.p.n v.p.c)/\w'.cell? ⟨CB,5,none⟩=some (.int .i64 v.rs)/\w'.cell? ⟨CB,6,none⟩=some (.slice v.l.a v.l.n v.l.c)/\w'.cell? ⟨CB,7,none⟩=some (.slice v.c.a v.c.n v.c.c)/\w'.cell? ⟨CB,8,none⟩=some (.int .i64 v.nu)/\w'.cell? ⟨CB,9,none⟩=some (.int .i64 v.co)/\w'.cell? ⟨CB,10,none⟩=some (.int .i64 v.at_)/\w'.cell? ⟨CB,11,none⟩=some (.slice v.b.a v.b.n v.b.c)/\w'.cell? ⟨CB,12,none⟩=some (.slice v.o.a v.o.n v.o.c)/\w'.cell? ⟨CB,13,none⟩=some (.slice v.i.a v.i.n v.i.c)/\w'.cell? ⟨CB,14,none⟩=some (.slice v.q.a v.q.n v.q.c)/\w'.cell? ⟨w.heap.size,0,none⟩=some (.int .i64 (h:Int))/\w'.cell? ⟨w.heap.size,1,none⟩=some (.slice xa l.back.length xc)/\w'.cell? ⟨w.heap.size,2,none⟩=some (.slice ka l.blocks.length kc):=fun w' E=>by
  obtain⟨p0,p1,p2,p3,p4,p5,p6,p7,p8,p9,p10,p11,p12,p13,p14⟩:=Qo E.co.blk;obtain⟨l0,l1,l2⟩:=BI E.lb;exact⟨p0,p1,p2,p3,p4,p5,p6,p7,p8,p9,p10,p11,p12,p13,p14,l0,l1,l2⟩
 have HRW:Hid (∀u,Fi w0 w u CB v n gC cC gS cS h xa xc ka kc l I C->Below u1.heap.size u1 u->RwS u n gS gL I L/\u.cell? ⟨CB,16,none⟩=some (.slice (some ⟨gS,0,none⟩) n cS)):=fun u E hb=>⟨⟨fun b hb=>E.co.sAt hb,fun c hc=>HSM.o u hb c hc⟩,E.co.cells.2.2.2⟩
 have HLV:Hid (∀u,Below w0.heap.size w0 u->Calls Tryz.prog 101 #[.agg v.cells,.agg #[.int .i64 (h:Int),.slice xa l.back.length xc,.slice ka l.blocks.length kc]] u fun e w'=>∃(a:Option Addr) (c:Nat) (ps:List Int),e=.returned (.slice a ps.length c)/\Rd w' 1 (.slice a ps.length c) ps.length (ps.flatMap Ac)/\(∀z,z∈ps↔z∈l.blocks/\KR r.blocks l.blocks z.toNat)/\ps.length<=1024/\Below u.heap.size u w'):=fun u hu=>by
  have hk:=H.o.1.keep hu;have:=Ln v F xs.length h ⟨xa,l.back.length,xc⟩ ka kc l.blocks u hk.bs hk.nx hln (Rd.keep H.o.2.2.1.2 hu lR) (by rw[hk.fl];exact H.o.2.2.2.1);rw[hk.eb]at this;exact this
 refine wp_region_held_drew (S:=fun w'=>w'.cell? ⟨CB,0,none⟩=some (.slice v.r.a v.r.n v.r.c)/\w'.cell? ⟨CB,1,none⟩=some (.slice v.k.a v.k.n v.k.c)/\w'.cell? ⟨CB,2,none⟩=some (.slice v.f.a v.f.n v.f.c)/\w'.cell? ⟨CB,3,none⟩=some (.slice v.t.a v.t.n v.t.c)/\w'.cell? ⟨CB,4,none⟩=some (.slice v.p.a v.p.n v.p.c)/\w'.cell? ⟨CB,5,none⟩=some (.int .i64 v.rs)/\w'.cell? ⟨CB,6,none⟩=some (.slice v.l.a v.l.n v.l.c)/\w'.cell? ⟨CB,7,none⟩=some (.slice v.c.a v.c.n v.c.c)/\w'.cell? ⟨CB,8,none⟩=some (.int .i64 v.nu)/\w'.cell? ⟨CB,9,none⟩=some (.int .i64 v.co)/\w'.cell? ⟨CB,10,none⟩=some (.int .i64 v.at_)/\w'.cell? ⟨CB,11,none⟩=some (.slice v.b.a v.b.n v.b.c)/\w'.cell? ⟨CB,12,none⟩=some (.slice v.o.a v.o.n v.o.c)/\w'.cell? ⟨CB,13,none⟩=some (.slice v.i.a v.i.n v.i.c)/\w'.cell? ⟨CB,14,none⟩=some (.slice v.q.a v.q.n v.q.c)/\w'.cell? ⟨w.heap.size,0,none⟩=some (.int .i64 (h:Int))/\w'.cell? ⟨w.heap.size,1,none⟩=some (.slice xa l.back.length xc)/\w'.cell? ⟨w.heap.size,2,none⟩=some (.slice ka l.blocks.length kc)) (by kernel_rfl) (KS _ HR.o.1) (fun hHeld=> ?_)
 generalize wc.drew=U2 at HR hHeld⊢;unfold Bz.cells at HLV;refine AG 0 ?_ (hw:=by kernel_rfl);refine AG 1 ?_ (hw:=by kernel_rfl);refine AG 2 ?_ (hw:=by kernel_rfl);refine AG 3 ?_ (hw:=by kernel_rfl);refine AG 5 ?_ (hw:=by kernel_rfl);refine AG 6 ?_ (hw:=by kernel_rfl);refine AG 7 ?_ (hw:=by kernel_rfl);refine AG 8 ?_ (hw:=by kernel_rfl);refine AG 9 ?_ (hw:=by kernel_rfl);refine AG 10 ?_ (hw:=by kernel_rfl);refine AG 11 ?_ (hw:=by kernel_rfl);refine Gq 4 ?_;intro KC hKC;rw[a8 (by kernel_rfl)];go_simp;refine(EI CB n gS cS gL n I L xa xc l.back U2 (by omega) (HRW.o U2 HR.o.1 HR.o.2.2).2 (HRW.o U2 HR.o.1 HR.o.2.2).1 (by omega) (Rd.keep H.o.2.2.1.1 HR.o.1.bel lR) (by rw[<-HN.o];exact H.o.2.2.2.2.1)).mono ?_;rintro e u3 ⟨ar,rfl,rfl,har⟩;have HAR:=AS har;clear har;go_simp;refine hKC.o _ _ (KS _ HR.o.1) (fun hHeld=> ?_);clear hKC KC;refine Gq 12 ?_;intro KC hKC;rw[a8 (by kernel_rfl)];go_simp;refine(HLV.o u3 HR.o.1.bel).mono ?_;rintro e u4 ⟨pa,pc,ps,rfl,hpr,hpm,hpl,bb⟩;have HP:=AS (aq hpr hpm)
 have E5:Hid (Fi w0 w u4 CB v n gC cC gS cS h xa xc ka kc l I C/\Ak u4 KB #[.int .i64 t.func,.int .i64 t.head,.int .i64 t.counter,.int .u32 t.init] 72/\Below u1.heap.size u1 u4):=⟨HR.o.1.keep bb,HR.o.2.1.keep bb,Ab HR.o.2.2 lR bb⟩
 clear hpr hpm bb;go_simp;refine hKC.o _ _ (KS _ E5.o.1) (fun hHeld=> ?_);clear hKC KC HR;refine Gq 13 ?_;intro KC hKC;rw[a8 (by kernel_rfl)];go_simp;refine(EI CB n gS cS gL n I L pa pc ps u4 (by omega) (HRW.o u4 E5.o.1 E5.o.2.2).2 (HRW.o u4 E5.o.1 E5.o.2.2).1 (by omega) HP.o.1 (fun z hz=>by rw[<-HN.o];exact H.o.2.2.2.1 z ((HP.o.2 z).1 hz).1)).mono ?_;rintro e u5 ⟨ou,rfl,rfl,hou⟩;have HOU:Hid (Br (fun b=>cf L (jf I b)) (fun b=>(b:Int)∈l.blocks/\KR r.blocks l.blocks b) ou):=hou.iff fun b=>by rw[HP.o.2,aG]
 clear hou;go_simp;refine hKC.o _ _ (KS _ E5.o.1) (fun hHeld=> ?_);clear hKC KC;refine AG 14 ?_ (hw:=by kernel_rfl);refine AG 15 ?_ (hw:=by kernel_rfl);refine wpAnyH_done (by kernel_rfl) ?_ _;clear hHeld KS HRW HLV HSM HP;have a1:=HAR.o.nn;have a2:ar<=4294967295:=HAR.o.le (by omega) fun b _=>(En HLC.o _).2
 have o1:=HOU.o.nn;have o2:ou<=4294967295:=HOU.o.le (by omega) fun b _=>(En HLC.o _).2
 have m1:0<=t.init*ar:=Int.mul_nonneg hiv1 a1;have m2:t.init*ar<=4294967295*4294967295:=Int.mul_le_mul hiv2 a2 a1 (by omega);have w1:IntKind.u64.wrap t.init=t.init:=by simp[IntKind.wrap,IntKind.bits,IntKind.signed];omega
 have w2:IntKind.u64.wrap ar=ar:=by simp[IntKind.wrap,IntKind.bits,IntKind.signed];omega
 have w3:IntKind.u64.wrap ou=ou:=by simp[IntKind.wrap,IntKind.bits,IntKind.signed];omega
 have w4:IntKind.u64.wrap (t.init*ar)=t.init*ar:=by
  generalize t.init*ar=q at m1 m2⊢;simp[IntKind.wrap,IntKind.bits,IntKind.signed];omega
 have w5:IntKind.u64.wrap (t.init*ar+ou)=t.init*ar+ou:=by
  generalize t.init*ar=q at m1 m2⊢;simp[IntKind.wrap,IntKind.bits,IntKind.signed];omega
 obtain⟨k0,k1,k2,k3⟩:=Em E5.o.2.1;by_cases hbig:t.init*ar+ou>4294967295
 case pos=>
  have HE9:Hid (∃(b:Bool) (I':List Nat) (C':List Int),Ending.returned (.bool false)=.returned (.bool b)/\BC u5 w0.heap.size CB v n gC cC gS cS I' C'/\Et (Cg gC gS) w u5/\Below w0.heap.size w0 u5/\PH E n r.blocks l I C h pl t.init b I' C'):=⟨false,I,C,rfl,E5.o.1.co,E5.o.1.ch,E5.o.1.bel,L,true,HWR.o,fun _=>rfl,fun _=>⟨ar,ou,HAR.o,HOU.o,fun _=>rfl,fun h=>absurd hbig (by omega)⟩⟩
  go_wp2_with fail
  go_ret
  exact HE9.o
 go_upto_region 9 with fail
 have hc1:CW (t.init*ar+ou):=⟨by omega,by omega⟩;have w6:IntKind.i64.wrap (t.init*ar+ou)=t.init*ar+ou:=dI _ ⟨by omega,by omega⟩;have HR:Hid (Fi w0 w u5.drew CB v n gC cC gS cS h xa xc ka kc l I C):=E5.o.1.keep (Ae _);clear k0 k1 k2 k3 w1 w2 w3 w4 w5 E5;have KS:∀I' C' w',Fi w0 w w' CB v n gC cC gS cS h xa xc ka kc l I' C'->w'.cell? ⟨w.heap.size,0,none⟩=some (.int .i64 (h:Int))/\w'.cell? ⟨CB,15,none⟩=some (.slice (some ⟨gC,0,none⟩) n cC)/\w'.cell? ⟨CB,16,none⟩=some (.slice (some ⟨gS,0,none⟩) n cS):=fun I' C' w' E=>⟨(BI E.lb).1,E.co.cells.2.2.1,E.co.cells.2.2.2⟩
 have HKS:=AS KS;refine wp_region_held_drew (S:=fun w'=>w'.cell? ⟨w.heap.size,0,none⟩=some (.int .i64 (h:Int))/\w'.cell? ⟨CB,15,none⟩=some (.slice (some ⟨gC,0,none⟩) n cC)/\w'.cell? ⟨CB,16,none⟩=some (.slice (some ⟨gS,0,none⟩) n cS)) (by kernel_rfl) (KS _ _ _ HR.o) (fun hHeld=> ?_)
 clear KS;generalize u5.drew=U6 at HR hHeld⊢;generalize hco:t.init*ar+ou=co at hbig hc1 w6⊢;have HCO:=AS hco;clear hco m1 m2;refine AG 0 ?_ (hw:=by kernel_rfl);refine AG 1 ?_ (hw:=by kernel_rfl);refine AG 2 ?_ (hw:=by kernel_rfl);refine AG 3 ?_ (hw:=by kernel_rfl);refine AG 4 ?_ (hw:=by kernel_rfl);refine AG 5 ?_ (hw:=by kernel_rfl);refine AG 6 ?_ (hw:=by kernel_rfl);refine AG 7 ?_ (hw:=by kernel_rfl);refine AG 8 ?_ (hw:=by kernel_rfl);go_simp;refine Gq 9 ?_;intro KC hKC;rw[a8 (by kernel_rfl)];have c0:=HR.o.co.cAt hh;have z0:=(HR.o.co.frz h).1;have E6:Hid (Fi w0 w (U6.setCell ⟨gC,h,none⟩ (.int .i64 co)) CB v n gC cC gS cS h xa xc ka kc l I (C.set h co)):=HR.o.setC h hc1;go_simp;refine hKC.o _ _ (HKS.o _ _ _ E6.o) (fun hHeld=> ?_);clear hKC KC;refine wpAnyH_done (by kernel_rfl) ?_ _;clear hHeld c0 z0 HR;generalize U6.setCell ⟨gC,h,none⟩ (.int .i64 co)=U7 at E6⊢;obtain⟨l0,l1,l2⟩:=BI E6.o.lb;go_wp2_with fail
 clear l0 l1 l2;go_loopw [68] (fun i wr=>∃(k:Nat) (I2:List Nat),k<=l.blocks.length/\i=.int .i64 k/\Hid (Fi w0 w wr CB v n gC cC gS cS h xa xc ka kc l I2 (C.set h co)/\∀j,jf I2 j=if j∈(l.blocks.take k).map Int.toNat then h else jf I j)) (fun i _=>l.blocks.length-(intOf i).toNat)
 case atStart=>exact⟨0,I,by omega,rfl,E6.o,fun j=>by simp⟩
 case round=>
 clear E6;obtain⟨k,I2,hk,rfl,HE⟩:=hrel;by_cases hlt:k<l.blocks.length
 case neg=>
  have HE9:Hid (∃(b:Bool) (I':List Nat) (C':List Int),Ending.returned (.bool true)=.returned (.bool b)/\BC wr w0.heap.size CB v n gC cC gS cS I' C'/\Et (Cg gC gS) w wr/\Below w0.heap.size w0 wr/\PH E n r.blocks l I C h pl t.init b I' C'):=⟨true,I2,C.set h co,rfl,HE.o.1.co,HE.o.1.ch,HE.o.1.bel,L,true,HWR.o,(fun h=>by cases h),fun _=>⟨ar,ou,HAR.o,HOU.o,(fun h=>by rw[HCO.o]at h;exact absurd h (by omega)),fun _=>⟨rfl,by rw[HCO.o],fun j=>by rw[HE.o.2 j,an (show l.blocks.length<=k by omega)]⟩⟩⟩
  go_wp2_with fail
  go_ret
  exact HE9.o
 have hltI:(k:Int)<(l.blocks.length:Int):=by omega
 obtain⟨b,ez,hb⟩:=H.o.2.2.2.1 l.blocks[k] (bq hlt);rw[HN.o]at hb;have hzk:l.blocks[k]?=some (b:Int):=by rw[aA hlt,ez]
 obtain⟨kg,ko,eka,e0⟩:∃g o,ka=some ⟨g,o,none⟩/\wr.cell? ⟨g,o+k,none⟩=some (.int .i64 (b:Int)):=by
  rcases(Rd.keep H.o.2.2.1.2 HE.o.1.bel lR).2 with⟨q,_⟩|⟨g,o,c',e1,hc⟩
  . simp only[]at q;omega
  . simp only[aF,aw]at e1
    exact⟨g,o,e1.1,hc k _ (Ew hzk)⟩
 subst eka;have HZK:=AS hzk;have hbI:(b:Int)<(n:Int):=by omega
 clear ez hzk;go_upto_region 13 with fail
 have HR:Hid (Fi w0 w wr.drew CB v n gC cC gS cS h xa xc (some ⟨kg,ko,none⟩) kc l I2 (C.set h co)):=HE.o.1.keep (Ae _);refine wp_region_held_drew (S:=fun w'=>w'.cell? ⟨w.heap.size,0,none⟩=some (.int .i64 (h:Int))/\w'.cell? ⟨CB,15,none⟩=some (.slice (some ⟨gC,0,none⟩) n cC)/\w'.cell? ⟨CB,16,none⟩=some (.slice (some ⟨gS,0,none⟩) n cS)) (by kernel_rfl) (HKS.o _ _ _ HR.o) (fun hHeld=> ?_)
 clear e0;generalize wr.drew=U8 at HR hHeld⊢;refine AG 0 ?_ (hw:=by kernel_rfl);refine AG 1 ?_ (hw:=by kernel_rfl);refine AG 2 ?_ (hw:=by kernel_rfl);refine AG 3 ?_ (hw:=by kernel_rfl);refine AG 4 ?_ (hw:=by kernel_rfl);refine AG 5 ?_ (hw:=by kernel_rfl);refine AG 6 ?_ (hw:=by kernel_rfl);refine AG 7 ?_ (hw:=by kernel_rfl);go_simp;refine Gq 8 ?_;intro KC hKC;rw[a8 (by kernel_rfl)];have c0:=(HR.o.co.sAt hb).1;have z0:=(HR.o.co.frz b).2
 have E8:Hid (Fi w0 w (U8.setCell ⟨gS,b,none⟩ (.int .i64 (h:Int))) CB v n gC cC gS cS h xa xc (some ⟨kg,ko,none⟩) kc l (I2.set b h) (C.set h co)/\∀j,jf (I2.set b h) j=if j∈(l.blocks.take (k+1)).map Int.toNat then h else jf I j):=⟨HR.o.setS b hh,fun j=>by
  have hmem:j∈(l.blocks.take (k+1)).map Int.toNat↔j∈(l.blocks.take k).map Int.toNat\/j=b:=by
   rw[List.take_add_one,HZK.o,bx,aU];simp
  rw[P4 (by rw[HR.o.co.li];exact hb),HE.o.2 j];by_cases e:j=b
  . rw[a8 e,a8 (hmem.2 (.inr e))]
  . rw[bF e]
    by_cases e2:j∈(l.blocks.take k).map Int.toNat
    . rw[a8 e2,a8 (hmem.2 (.inl e2))]
    . rw[bF e2,bF (fun q=>(hmem.1 q).elim e2 e)]⟩
 go_simp;refine hKC.o _ _ (HKS.o _ _ _ E8.o.1) (fun hHeld=> ?_);clear hKC KC;refine wpAnyH_done (by kernel_rfl) ?_ _;clear hHeld c0 z0 HR HE;generalize U8.setCell ⟨gS,b,none⟩ (.int .i64 (h:Int))=U9 at E8⊢;go_wp2_with fail
 go_roundw
 case rel=>exact⟨k+1,_,by omega,by go_num,E8⟩
 case measure=>simp[intOf];omega
end Go.Proofs.YtdipfjmlfbdkdaaGreat
