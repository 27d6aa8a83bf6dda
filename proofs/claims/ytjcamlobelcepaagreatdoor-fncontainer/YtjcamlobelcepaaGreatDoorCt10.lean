import Derived.Test.YtjcamlobelcepaaGreatDoorCt8
namespace Go.Proofs.YtjcamlobelcepaaGreatDoor
open Go.ChangeShapes Go.WideShapes Go.ChangeAt Go.RowKit
set_option linter.unusedVariables false
set_option maxHeartbeats 4000000
set_option maxRecDepth 100000
theorem P9(B wb:Nat)(bs:List Value)(v:VF)(f:MF)(base:Nat)(w:World)(h:DU B w wb bs)(hb:bs.length+(A7 f).length+100<=1073741000)(hB:B<=w.heap.size)(hw:B<=wb)(hs:f.small)(ho:Ep w base v f):
 Calls Tryz.prog 19 #[.pointer (some ⟨wb,0,none⟩),.agg #[v.p,iZ f.result,v.l,v.c]] w fun e w'=>e=.returned (.tuple #[])/\DU B w' wb (bs++A7 f)/\Wg B w w':=by
 have HA:Hid (Ap (w.alloc (.cells #[v.p,iZ f.result,v.l,v.c] 58)) w.heap.size #[v.p,iZ f.result,v.l,v.c] 58/\DU B (w.alloc (.cells #[v.p,iZ f.result,v.l,v.c] 58)) wb bs/\Wg B w (w.alloc (.cells #[v.p,iZ f.result,v.l,v.c] 58))):=⟨Ap.new _ _ _,h.call (Aa _ _),Wg.of_below (Aa _ _) hB⟩
 have hE:bs++A7 f=(((bs++(At f.params.length 1++f.params.flatMap FW))++At f.result 1)++(At f.locals.length 1++f.locals.flatMap FW))++(At f.code.length 2++f.code.flatMap Bf):=by
  unfold A7 Eb FW;simp[List.append_assoc]
 have hlen:bs.length+5+(f.params.flatMap FW).length+(f.locals.flatMap FW).length+(f.code.flatMap Bf).length+100<=1073741000:=by
  rw[Gg]at hb;rw[Aq FW 1 (fun y=>Av y 1),Aq FW 1 (fun y=>Av y 1),Aq Bf 8 FS];omega
 rw[hE];have HO:=Af (aG ho hs);go_enter Tryz.func19,Tryz.ntmps19;go_wp2_with fail
 refine(Gu B wb bs 1 v.p f.params base _ (by omega) (by omega) HO.o.2.1 (by omega) (aR hB HA.o.2.2.size) hw HA.o.2.1 (HA.o.2.2.ownF HO.o.1).1).mono ?_;rintro e u1 ⟨rfl,hW,hG⟩;have K1:=Af (aG (hG.block HA.o.1 (by decide) (by decide)) (aG hW (HA.o.2.2.trans hG)));obtain⟨c0,c1,c2,c3⟩:=Fg K1.o.1;go_wp2_with fail
 refine(Fb B wb _ f.result _ K1.o.2.1 (by simp only[aH,Av];omega) (aR hB K1.o.2.2.size) hw).mono ?_;rintro e u2 ⟨rfl,hW,hG⟩;have K2:=Af (aG (hG.block K1.o.1 (by decide) (by decide)) (aG hW (K1.o.2.2.trans hG)));obtain⟨c0,c1,c2,c3⟩:=Fg K2.o.1;go_wp2_with fail;refine(Gu B wb _ 1 v.l f.locals base _ (by omega) (by omega) HO.o.2.2.1 (by simp only[aH,Av];omega) (aR hB K2.o.2.2.size) hw K2.o.2.1 (K2.o.2.2.ownF HO.o.1).2.1).mono ?_;rintro e u3 ⟨rfl,hW,hG⟩;have K3:=Af (aG (hG.block K2.o.1 (by decide) (by decide)) (aG hW (K2.o.2.2.trans hG)));obtain⟨c0,c1,c2,c3⟩:=Fg K3.o.1;go_wp2_with fail;refine(KA B wb _ 2 v.c f.code base _ (by omega) (by omega) HO.o.2.2.2 (by simp only[aH,Av];omega) (aR hB K3.o.2.2.size) hw K3.o.2.1 (K3.o.2.2.ownF HO.o.1).2.2).mono ?_;rintro e u4 ⟨rfl,hW,hG⟩;have K4:=Af (aG hW (K3.o.2.2.trans hG));go_wp2;go_end0;exact⟨rfl,K4.o.1,K4.o.2⟩
theorem LR(B wb:Nat)(bs:List Value)(cw:Nat)(s:Value)(ys:List (MF×VF))(base:Nat)(w:World)(h1:1<=cw)(h8:cw<=8)(hy:ys.length<=1048576)(hb:bs.length+208+(ys.flatMap (fun x:MF×VF=>A7 x.1)).length<=1073741000)(hB:B<=w.heap.size)(hw:B<=wb)(hm:∀x∈ys,Ep w base x.2 x.1/\x.1.small)(h:DU B w wb bs)(hs:w.ownsRow base 58 4 s ys.length (ys.flatMap AW)):
 Calls Tryz.prog 18 #[.pointer (some ⟨wb,0,none⟩),iZ (cw:Int),s,.func (Fn.func 19) #[.pointer (some ⟨wb,0,none⟩)] #[]] w fun e w'=>e=.returned (.tuple #[])/\DU B w' wb (bs++(At ys.length cw++ys.flatMap (fun x:MF×VF=>A7 x.1)))/\Wg B w w':=by
 have H:=Af (aG h hs);have HR:=Af hm;obtain⟨a1,c1,e1⟩:=(Rd.of_own hs).is_slice;subst e1;generalize hLL:ys.length=n at hy H⊢;have HL:=Af hLL;go_enter Tryz.func18,Tryz.ntmps18;go_wp2_with fail
 refine(A4 B wb bs (n:Int) cw _ h1 h8 (by omega) hB hw H.o.1).mono ?_;rintro e u1 ⟨rfl,hW,hG⟩;have K:=Af (aG hW hG);go_wp2
 go_loopw [17] (fun i wr=>∃k:Nat,k<=n/\i=iZ k/\Hid (DU B wr wb (bs++At n cw++(ys.take k).flatMap (fun x:MF×VF=>A7 x.1))/\Wg B w wr)) (fun i _=>n-(intOf i).toNat)
 case atStart=>exact⟨0,by omega,rfl,⟨by simpa using K.o.1,K.o.2⟩⟩
 case round=>
  obtain⟨k,hk,rfl,HI⟩:=hrel;by_cases hlt:k<n
  . obtain⟨⟨f,⟨vp,vl,vc⟩⟩,hx⟩:∃x,ys[k]?=some x:=⟨_,aA (by rw[HL.o];exact hlt)⟩
    have hO:=HR.o _ (aF hx);obtain⟨ap,cp,ep⟩:=(Rd.of_own hO.1.1).is_slice;obtain⟨al,cl,el⟩:=(Rd.of_own hO.1.2.1).is_slice;obtain⟨ac,cc,ec⟩:=(Rd.of_own hO.1.2.2).is_slice;simp only[]at ep el ec;subst ep el ec;have HO:Hid _:=hO
    have hnx:bs++At n cw++(ys.take (k+1)).flatMap (fun x:MF×VF=>A7 x.1)=bs++At n cw++(ys.take k).flatMap (fun x:MF×VF=>A7 x.1)++A7 f:=by
     obtain⟨hlt',he⟩:=aE.1 hx;rw[aj hlt',he,a8,<-a6];simp
    have hlen:(bs++At n cw++(ys.take k).flatMap (fun x:MF×VF=>A7 x.1)).length+(A7 f).length+100<=1073741000:=by
     have h1:=Du (fun x:MF×VF=>A7 x.1) ys (k+1);have h2:=congrArg List.length hnx;simp only[aH,Av]at h2⊢;omega
    rcases(Rd.of_own H.o.2).2 with⟨e0,_⟩|⟨g,o,c,e1,hc1⟩
    . omega
    simp only[aI,ao]at e1;obtain⟨rfl,rfl⟩:=e1;have hrow:=Rd.of_own (HI.o.2.own H.o.2 (by decide) (by decide));rcases hrow.2 with⟨e0,_⟩|⟨g',o',c',e1,hc2⟩
    . omega
    simp only[aI,aM,cN,ao,cj]at e1;obtain⟨⟨rfl,rfl⟩,rfl⟩:=e1;have j0:=Rd.elem Ag hc2 k _ hx 0 _ rfl;have j1:=Rd.elem Ag hc2 k _ hx 1 _ rfl;have j2:=Rd.elem Ag hc2 k _ hx 2 _ rfl;have j3:=Rd.elem Ag hc2 k _ hx 3 _ rfl;rw[aT]at j0;simp only[]at j0 j1 j2 j3;have HX:=Af (aG hx hnx);have nb:¬g=wr.heap.size:=bC (aD j0);have mb:g<wr.heap.size:=aD j0;have HA:Hid (DU B (wr.alloc (.cells #[.slice ap f.params.length cp,iZ f.result,.slice al f.locals.length cl,.slice ac f.code.length cc] 58)) wb (bs++At n cw++(ys.take k).flatMap (fun x:MF×VF=>A7 x.1))/\Wg B w (wr.alloc (.cells #[.slice ap f.params.length cp,iZ f.result,.slice al f.locals.length cl,.slice ac f.code.length cc] 58))):=⟨HI.o.1.call (Aa _ _),HI.o.2.trans (Wg.of_below (Aa _ _) (aR hB HI.o.2.size))⟩
    go_wp2_with fail
    refine(P9 B wb _ ⟨.slice ap f.params.length cp,.slice al f.locals.length cl,.slice ac f.code.length cc⟩ f base _ HA.o.1 hlen (aR hB HA.o.2.size) hw HO.o.2 (HA.o.2.ownF HO.o.1)).mono ?_;rintro e u ⟨rfl,hW,hG⟩;have HN:Hid (DU B u wb (bs++At n cw++(ys.take (k+1)).flatMap (fun x:MF×VF=>A7 x.1))/\Wg B w u):=⟨by rw[HX.o.2];exact hW,HA.o.2.trans hG⟩
    go_wp2
    go_roundw
    case rel=>exact⟨k+1,by omega,by go_num,HN⟩
    case measure=>simp[intOf];omega
  . have hkn:k=n:=by omega
    subst hkn
    have HE:Hid (DU B wr wb (bs++(At k cw++ys.flatMap (fun x:MF×VF=>A7 x.1)))/\Wg B w wr):=by
     refine⟨?_,HI.o.2⟩;have:=HI.o.1;rw[<-HL.o,List.take_length,HL.o,a6]at this;exact this
    go_wp2
    go_end0
    exact⟨rfl,HE.o.1,HE.o.2⟩
abbrev fb(X:Nat)(p:Value)(r:Int)(l c:Value):As:=Bb X 58 4 [p,iZ r,l,c]
def Ba(n:Int):Ending:=.panicked [{v:=.iface 90 (iZ n),recovered:=false}]
theorem DL(n:Int)(w:World):Calls Tryz.prog 72 #[.bool true,iZ n] w fun e w'=>e=.returned (.tuple #[])/\w'=w:=by
 go_enter Tryz.func72,Tryz.ntmps72;go_wp2
 exact dh (v:=.tuple #[]) (by kernel_rfl) rfl ⟨rfl,rfl⟩
theorem DK(n:Int)(w:World):Calls Tryz.prog 72 #[.bool false,iZ n] w fun e w'=>e=Ba n/\w'=w:=by
 go_enter Tryz.func72,Tryz.ntmps72;go_wp2
 exact⟨rfl,rfl,rfl⟩
structure Hh(w:World)(B I L:Nat)(a:Option Addr)(c:Nat)(zs:List Int)(k:Nat):Prop where
 blk:Ap w I #[.slice a L c,iZ (k:Int)] 102
 rd:∀u,Below B w u->Dp u (.slice a L c) L (zs.map (Value.int .u8))
 big:L<=1048576
 at_:k<=L
 hB:B<=I
 hz:DC zs
 cap:L<=c
section
variable {w u v:World} {B I L:Nat} {a:Option Addr} {c:Nat} {zs:List Int} {k k':Nat}
theorem Hh.len(h:Hh w B I L a c zs k):zs.length=L:=by
 have:=(h.rd w (aq _ _)).1;simpa using this
theorem Hh.lt(h:Hh w B I L a c zs k):I<w.heap.size:=h.blk.lt
theorem Hh.low(h:Hh w B I L a c zs k)(hb:Below B w u)(hk:k'<=L)(hblk:Ap u I #[.slice a L c,iZ (k':Int)] 102):Hh u B I L a c zs k':=⟨hblk,fun v hv=>h.rd v (hb.trans hv),h.big,hk,h.hB,h.hz,h.cap⟩
theorem Hh.keep(h:Hh w B I L a c zs k)(hb:Below w.heap.size w u):Hh u B I L a c zs k:=h.low (hb.mono (by have:=h.hB;have:=h.lt;omega)) h.at_ (h.blk.keep hb)
end
structure Eo(w u:World)(B I L:Nat)(a:Option Addr)(c:Nat)(zs:List Int)(k:Nat):Prop where
 at_:Hh u B I L a c zs k
 chg:DX (fun j=>j=I) w u
def Pj{α:Type}(r:EQ α)(val:World->α->Value->Prop)(w:World)(B I L:Nat)(a:Option Addr)(c:Nat)(zs:List Int)(k:Nat)(e:Ending)(w':World):Prop:=
 (∃x V k',e=.returned V/\r k=some (x,k')/\val w' x V/\Eo w w' B I L a c zs k')\/(e=Ba 4/\r k=none/\DX (fun j=>j=I) w w')
def SJ(zs:List Int)(n k:Nat)(g:Bool)(x:Int):Prop:=(g=true/\Cb zs n k=some (x,k+n))\/(g=false/\Cb zs n k=none/\x=0)
theorem MW{w:World}{B I L:Nat}{a:Option Addr}{c:Nat}{zs:List Int}{k:Nat}(h:Hh w B I L a c zs k)(n:Nat)(h1:1<=n)(h8:n<=8):∃g x,SJ zs n k g x/\∀u,Below B w u->Calls Tryz.prog 112 #[.slice a L c,iZ (k:Int),iZ (n:Int)] u fun e u'=>e=.returned (.agg #[.bool g,iZ x])/\Below u.heap.size u u':=by
 have hl:=h.len;by_cases hin:k+n<=L
 . exact⟨true,wrap64 (Cd zs k n),.inl ⟨rfl,by unfold Cb;rw[bj (by omega)]⟩,fun u hu=>Hv (.slice a L c) L zs k n u h.big (h.rd u hu) (fun a' c' e=>by cases e;exact h.cap) h1 h8 hin⟩
 . exact⟨false,0,.inr ⟨rfl,by unfold Cb;rw[bX (by omega)],rfl⟩,fun u hu=>Kg a L c k n u h.big (by omega)⟩
theorem GP{u:World}{X:Nat}{x0 x1:Value}{t:TypeId}(h:Ap u X #[x0,x1] t):u.cell? ⟨X,0,none⟩=some x0/\u.cell? ⟨X,1,none⟩=some x1:=⟨h.cell 0,h.cell 1⟩
theorem A6(B I L:Nat)(a:Option Addr)(c:Nat)(zs:List Int)(n k:Nat)(w:World)(h1:1<=n)(h8:n<=8)(h:Hh w B I L a c zs k):
 Calls Tryz.prog 73 #[.pointer (some ⟨I,0,none⟩),iZ (n:Int)] w (Pj (Cb zs n) (fun _ x V=>V=iZ x) w B I L a c zs k):=by
 obtain⟨g,x,hnum,hcall⟩:=MW h n h1 h8;have hk:=h.at_;have hn2:=h.big;have HC:=Af hcall;have HN:=Af hnum;have H:=Af h;have hIl:=h.lt;have hBI:=h.hB;go_enter Tryz.func73,Tryz.ntmps73;go_upto_region 1 with fail
 go_cut [5] (fun s wx=>∃X,s=.pointer (some ⟨X,0,none⟩)/\Hid (Ap wx X #[.bool g,iZ x] 184/\Below w.heap.size w wx/\w.heap.size<=X))
 case first=>
  have KS:∀u,Ap u I #[.slice a L c,iZ (k:Int)] 102->(u.cell? ⟨I,0,none⟩=some (.slice a L c)/\u.cell? ⟨I,1,none⟩=some (iZ (k:Int))):=fun u h=>⟨h.cell 0,h.cell 1⟩
  have HR:Hid (Below w.heap.size w w.drew):=Ae _;refine wp_region_held_drew (S:=fun w'=>w'.cell? ⟨I,0,none⟩=some (.slice a L c)/\w'.cell? ⟨I,1,none⟩=some (iZ (k:Int))) (by kernel_rfl) (KS _ (H.o.blk.keep HR.o)) (fun hHeld=> ?_)
  generalize w.drew=UD at HR hHeld⊢;refine Ar 0 ?_;refine Ar 1 ?_;refine Ar 2 ?_;refine Ar 3 ?_;refine Ar 4 ?_;refine Ar 5 ?_;refine Ar 6 ?_;refine Ar 7 ?_;refine Ar 8 ?_;go_simp;refine wpAnyH_ready (rs:=[9,10]) (by kernel_rfl) (by simp) ?_;refine AllReadyH.cons rfl (fun KC hKC=> ?_) (AllReadyH.cons rfl (fun KC hKC=> ?_) AllReadyH.nil)
  . go_simp
    refine(HC.o UD (HR.o.mono (by omega))).mono ?_;rintro e u1 ⟨rfl,b1⟩;have H1:=Af (Ab HR.o lR b1);go_simp;refine hKC.o _ _ (KS _ (H.o.blk.keep H1.o)) (fun hHeld=> ?_);refine FL 10 ?_;intro KC hKC;go_simp;have HW1:Hid (Ap (u1.alloc (.cells #[.bool false,iZ 0] 184)) u1.heap.size #[.bool false,iZ 0] 184/\Below w.heap.size w (u1.alloc (.cells #[.bool false,iZ 0] 184))/\w.heap.size<=u1.heap.size):=⟨Ap.new _ _ _,Ab H1.o lR (Aa _ _),H1.o.size⟩
    refine hKC.o _ _ (KS _ (H.o.blk.keep HW1.o.2.1)) (fun hHeld=> ?_);generalize u1.alloc (.cells #[.bool false,iZ 0] 184)=W1 at HW1⊢;generalize u1.heap.size=X1 at HW1⊢;refine FL 11 ?_;intro KC hKC;have c0:=HW1.o.1.cell 0;have c1:=HW1.o.1.cell 1;have z0:=HW1.o.1.frozen 0;have z1:=HW1.o.1.frozen 1;simp only[aQ,aJ,aL]at c0 c1;go_simp
    have HF:Hid (Ap ((W1.setCell ⟨X1,0,none⟩ (.bool g)).setCell ⟨X1,1,none⟩ (iZ x)) X1 #[.bool g,iZ x] 184/\Below w.heap.size w ((W1.setCell ⟨X1,0,none⟩ (.bool g)).setCell ⟨X1,1,none⟩ (iZ x))/\w.heap.size<=X1):=by
     refine⟨?_,(HW1.o.2.1.setCell HW1.o.2.2 _).setCell HW1.o.2.2 _,HW1.o.2.2⟩;have:=(HW1.o.1.set 0 (.bool g)).set 1 (iZ x);simpa using this
    refine hKC.o _ _ (KS _ (H.o.blk.keep HF.o.2.1)) (fun hHeld=> ?_);refine wpAnyH_done (by kernel_rfl) ?_ _;go_wp2_with fail
    go_meet
    exact⟨_,rfl,HF⟩
  .
   go_simp;have HW1:Hid (Ap (UD.alloc (.cells #[.bool false,iZ 0] 184)) UD.heap.size #[.bool false,iZ 0] 184/\Below w.heap.size w (UD.alloc (.cells #[.bool false,iZ 0] 184))/\w.heap.size<=UD.heap.size):=⟨Ap.new _ _ _,Ab HR.o lR (Aa _ _),HR.o.size⟩
   refine hKC.o _ _ (KS _ (H.o.blk.keep HW1.o.2.1)) (fun hHeld=> ?_);generalize UD.alloc (.cells #[.bool false,iZ 0] 184)=W1 at HW1⊢;generalize UD.heap.size=X1 at HW1⊢;refine FL 9 ?_;intro KC hKC;go_simp;refine(HC.o W1 (HW1.o.2.1.mono (by omega))).mono ?_;rintro e u1 ⟨rfl,b1⟩;have HW2:=Af (aG (HW1.o.1.keep b1) (aG (Ab HW1.o.2.1 lR b1) HW1.o.2.2));go_simp;refine hKC.o _ _ (KS _ (H.o.blk.keep HW2.o.2.1)) (fun hHeld=> ?_);refine FL 11 ?_;intro KC hKC;have c0:=HW2.o.1.cell 0;have c1:=HW2.o.1.cell 1;have z0:=HW2.o.1.frozen 0;have z1:=HW2.o.1.frozen 1;simp only[aQ,aJ,aL]at c0 c1;go_simp
   have HF:Hid (Ap ((u1.setCell ⟨X1,0,none⟩ (.bool g)).setCell ⟨X1,1,none⟩ (iZ x)) X1 #[.bool g,iZ x] 184/\Below w.heap.size w ((u1.setCell ⟨X1,0,none⟩ (.bool g)).setCell ⟨X1,1,none⟩ (iZ x))/\w.heap.size<=X1):=by
    refine⟨?_,(HW2.o.2.1.setCell HW2.o.2.2 _).setCell HW2.o.2.2 _,HW2.o.2.2⟩;have:=(HW2.o.1.set 0 (.bool g)).set 1 (iZ x);simpa using this
   refine hKC.o _ _ (KS _ (H.o.blk.keep HF.o.2.1)) (fun hHeld=> ?_);refine wpAnyH_done (by kernel_rfl) ?_ _;go_wp2_with fail
   go_meet
   exact⟨_,rfl,HF⟩
 case rest=>
 obtain⟨X,rfl,HX⟩:=hcut;have HB:=Af (H.o.blk.keep HX.o.2.1);obtain⟨c0,c1⟩:=GP HB.o;have z1:=HB.o.frozen 1;have d0:wc.cell? ⟨X,0,none⟩=some (.bool g):=HX.o.1.cell 0;have d1:wc.cell? ⟨X,1,none⟩=some (iZ x):=HX.o.1.cell 1;have HCH:Hid (DX (fun j=>j=I) w wc):=DX.of HX.o.2.1;cases g
 . have hnone:Hid (Cb zs n k=none):=by
    rcases HN.o with⟨e,_⟩|⟨_,e,_⟩
    . cases e
    . exact e
   go_wp2_with (go_at_call 72;refine(DK 4 _).mono ?_;rintro e u2 ⟨rfl,rfl⟩;unfold Ba)
   exact⟨rfl,.inr ⟨rfl,hnone.o,HCH.o⟩⟩
 . have hsome:Hid (Cb zs n k=some (x,k+n)):=by
    rcases HN.o with⟨_,e⟩|⟨e,_⟩
    . exact e
    . cases e
   have hkn:=(Jn hsome.o).2.1;have hlen:=H.o.len;have hkn2:k+n<=L:=by omega
   have d1':(wc.setCell ⟨I,1,none⟩ (iZ ((k:Int)+(n:Int)))).cell? ⟨X,1,none⟩=some (iZ x):=(HX.o.1.other (a:=⟨I,1,none⟩) (by have:=HX.o.2.2;simp only[];omega) _).cell 1;go_wp2_with (go_at_call 72;refine(DL 4 _).mono ?_;rintro e u2 ⟨rfl,rfl⟩);go_ret;refine .inl ⟨x,_,k+n,rfl,hsome.o,rfl,?_,HCH.o.setCell (.inl rfl) _⟩;refine H.o.low ((HX.o.2.1.mono (by omega)).setCell hBI _) hkn2 ?_;have:=HB.o.set 1 (iZ ((k:Int)+(n:Int)));simpa using this
theorem Nu(F:List (List Int×Value))(y:List Int×Value):BS (F++[y])=BS F++[A8 y.2 y.1]:=by simp[BS]
section
variable {w u u':World} {v:VP} {F:List (List Int×Value)} {cs:List MC} {G:List (MF×VF)} {ts:List MT} {D:List As} {B I L:Nat} {a:Option Addr} {c:Nat} {zs:List Int} {k:Nat} {bad:Bool}
end
theorem CA{w:World}{base b:Nat}{e:TypeId}{k n:Nat}{v:Value}{xs:List Value}(h:w.ownsRow base e k v n xs)(hb:b<=base):w.ownsRow b e k v n xs:=
 ⟨h.1,h.2.imp id fun⟨g,cap,cur,e1,hb1,r⟩=>⟨g,cap,cur,e1,aR hb hb1,r⟩⟩
theorem AQ{Q:Exit->Act->World->Prop}{a:Act}{U:World}(P:World->Prop)(h:P U)(k:∀u,P u->Q .normal a u):Q .normal a U:=k U h
theorem Ad{W u:World}(hb:Below W.heap.size W u){a:Addr}{x:Value}(h:W.cell? a=some x):u.cell? a=some x:=by rw[hb.cell (aD h)];exact h
def DB(xs:List MI)(m:MB):MB:=⟨m.first,m.last,DH xs (xs.getD m.last.toNat ⟨0,0,0,0⟩) m.last.toNat⟩
def AE(xs:List MI):List MB:=(Bi xs xs.length).map (DB xs)
structure TW(w u:World)(xs:List MI)(n q:Nat)(V:Value)(D:List (MB×Value)):Prop where
 num:u.ownsRow w.heap.size 2 1 (sG q n n) n ((List.range n).flatMap (Gs xs))
 o:u.ownsRow w.heap.size 169 3 V (Bi xs n).length (D.flatMap Et++((Bi xs n).drop D.length).flatMap Ke)
 rows:∀x∈D,u.ownsRow w.heap.size 2 1 x.2 x.1.next.length (x.1.next.flatMap Ac)
 done:D.map Prod.fst=((Bi xs n).take D.length).map (DB xs)
 bel:Below w.heap.size w u
theorem TW.of{w u:World}{xs:List MI}{n q:Nat}{V:Value}(h:SW w u xs n n q V):TW w u xs n q V []:=by
 refine⟨?_,by simpa using h.o,fun x hx=>(by cases hx),by simp,h.bel⟩;have:=h.num;rw[NX _ _ _ _ (by simp)]at this;exact this
structure NW(wr U:World)(x:MI)(V:Value)(ns:List Int):Prop where
 bel:Below wr.heap.size wr U
 xb:Ap U wr.heap.size #[iZ x.op,iZ x.a,iZ x.b,iZ x.c] 97
 row:U.ownsRow wr.heap.size 2 1 V ns.length (ns.flatMap Ac)
theorem NW.of(wr:World)(x:MI):NW wr ((wr.alloc (.cells #[iZ x.op,iZ x.a,iZ x.b,iZ x.c] 97)).alloc (.cells #[] 2)) x (.slice (some ⟨wr.heap.size+1,0,none⟩) 0 0) []:=by
 have b1:=Aa wr (.cells #[iZ x.op,iZ x.a,iZ x.b,iZ x.c] 97);have k1:=Ap.new wr #[iZ x.op,iZ x.a,iZ x.b,iZ x.c] 97;have z1:(wr.alloc (.cells #[iZ x.op,iZ x.a,iZ x.b,iZ x.c] 97)).heap.size=wr.heap.size+1:=by simp
 generalize wr.alloc (.cells #[iZ x.op,iZ x.a,iZ x.b,iZ x.c] 97)=Wx at b1 k1 z1⊢;have b2:=Aa Wx (.cells #[] 2);have k2:=Ap.new Wx #[] 2;rw[z1]at k2;exact⟨Ab b1 lR b2,k1.keep b2,⟨rfl,.inr ⟨wr.heap.size+1,0,#[],rfl,Nat.le_succ _,k2,Nat.le_refl _,cU _,rfl,rfl⟩⟩⟩
theorem NW.drew{wr U:World}{x:MI}{V:Value}{ns:List Int}(h:NW wr U x V ns)(k:Nat):NW wr (U.drewN k) x V ns:=⟨⟨h.bel.os,h.bel.tape,h.bel.output,h.bel.size,h.bel.block⟩,h.xb,⟨h.row.1,h.row.2⟩⟩
theorem NW.app{wr U u':World}{x:MI}{V V':Value}{ns:List Int}{z:Int}{m:Nat}(h:NW wr U x V ns)(hown:u'.ownsRow wr.heap.size 2 1 V' m (ns.flatMap Ac++[iZ z]))(hm:m=ns.length+1)(hg:(U.alloc (.cells #[iZ z] 2)).grownBy u' V.ownBlock):NW wr u' x V' (ns++[z]):=by
 have bA:=Aa U (.cells #[iZ z] 2);refine⟨(Ab h.bel lR bA).grown hg (aR h.bel.size bA.size) (fun i hi=>(h.row.lt i hi).1),(h.xb.keep bA).grown hg (Ah h.row bA lR) (by decide),?_⟩;rw[aH,aP,<-hm,a8];exact hown
theorem Cx(U:World)(z:Int):∀j u,[(iZ z:Value)][j]?=some u->(U.alloc (.cells #[iZ z] 2)).cell? ((⟨U.heap.size,0,none⟩:Addr).add j)=some u:=fun j u hj=>by
 rw[Ds,bV,(Ap.new U #[iZ z] 2).cell j];simpa using hj
theorem NW.al{wr U:World}{x:MI}{V:Value}{ns:List Int}(h:NW wr U x V ns)(o:Obj):(U.alloc o).ownsRow wr.heap.size 2 1 V ns.length (ns.flatMap Ac)/\wr.heap.size<=(U.alloc o).heap.size:=⟨Ah h.row (Aa _ _) lR,aR h.bel.size (Aa _ _).size⟩
theorem TW.next{w wr U:World}{xs:List MI}{n q gv len cap:Nat}{D:List (MB×Value)}{m:MB}{e:Nat}{x:MI}{Vn:Value}{ns:List Int}(h:TW w wr xs n q (sG gv len cap) D)(hl:len=(Bi xs n).length)(hm:(Bi xs n)[D.length]?=some m)(he:m.last=(e:Int))(hx:xs[e]?=some x)(hn:NW wr U x Vn ns)(hns:ns=DH xs x e):TW w (U.setCell ⟨gv,D.length*3+2,none⟩ Vn) xs n q (sG gv len cap) (D++[(DB xs m,Vn)]):=by
 subst hl;have hb:Below wr.heap.size wr U:=hn.bel;have hout:=Ah h.o hb lR;obtain⟨hlt,hmm⟩:=aE.1 hm
 have hB:DB xs m=⟨m.first,m.last,ns⟩:=by
  unfold DB;rw[he,hns,aX,aU,hx];rfl
 have hnr:=CA hn.row (b:=w.heap.size) h.bel.size;refine⟨Cc (Ah h.num hb lR) hout (by decide) _ _,?_,?_,?_,(Ab h.bel lR hb).setCell (AF hout).1 _⟩
 . have k1:=(hout.stored (D.length*3+2) Vn).1
   have e1:(D.flatMap Et++((Bi xs n).drop D.length).flatMap Ke).set (D.length*3+2) Vn=(D++[(DB xs m,Vn)]).flatMap Et++((Bi xs n).drop (D++[(DB xs m,Vn)]).length).flatMap Ke:=by
    rw[dt hlt,hmm,am,di _ _ (by rw[Aq Et 3 Bl];omega),Aq Et 3 Bl,hB];simp[Ke,Et,List.length_append]
   rw[e1]at k1;exact k1
 . intro y hy
   rcases ah.1 hy with hy|hy
   . exact Cc (Ah (h.rows y hy) hb lR) hout (by decide) _ _
   . simp only[bG,bY,cZ]at hy
     subst hy;simp only[hB];exact Cc hnr hout (by decide) _ _
 . rw[dK,h.done,aH,aP,aj hlt,hmm]
   simp
theorem TW.rd{w u:World}{xs:List MI}{n q:Nat}{V:Value}{D:List (MB×Value)}(h:TW w u xs n q V D)(hn:xs.length=n)(hl:D.length=(Bi xs n).length):Jt u V (AE xs):=by
 have e1:D.map Prod.fst=AE xs:=by
  rw[h.done,hl,bg lR];unfold AE;rw[hn]
 have e2:(AE xs).length=(Bi xs n).length:=by unfold AE;rw[bB,hn]
 refine⟨D,e1,?_,fun x hx=>Rd.of_own (h.rows x hx)⟩;have:=Rd.of_own h.o;rw[hl,eS lR]at this;rw[e2];simpa using this
end Go.Proofs.YtjcamlobelcepaaGreatDoor
