import Derived.Test.YtjpobijiblcgaaaGreatFw0
import Derived.Test.YtjpobijiblcgaaaGreatFw27
import Derived.Test.YtjpobijiblcgaaaGreatFw6
namespace Go.Proofs.YtjpobijiblcgaaaGreat
open Go.ChangeShapes Go.WideShapes Go.ChangeAt Go.RowKit
set_option linter.unusedVariables false
set_option maxHeartbeats 8000000
set_option maxRecDepth 100000
def Pr(p:MP)(zs:List Int):Prop:=(Bj p 0/\zs=Gu p.funcs)\/(¬Bj p 0/\zs=[])
theorem Ir{p:MP}(h:Bj p 0):Cj p.funcs/\DJ p:=by
  rcases h with h|h|h|h|h|h
  . exact absurd h.1 (by decide)
  . exact absurd h.1 (by decide)
  . exact absurd h.1 (by decide)
  . exact absurd h.1 (by decide)
  . exact absurd h.1 (by decide)
  . exact⟨h.2.2.2.1,h.2.2.2.2.1⟩
def F6(fs:List MF)(zs:List Int)(n j:Nat)(nxt:Int):Prop:=(nxt=-1/\∀k,j<=k->k<n->D8 fs zs k=false)\/∃q:Nat,nxt=(q:Int)/\j<=q/\q<n/\D8 fs zs q=true/\∀k,j<=k->k<q->D8 fs zs k=false
theorem F6.yes{fs:List MF}{zs:List Int}{n b:Nat}{nxt:Int}(h:F6 fs zs n (b+1) nxt)(hb:b<n)(hr:D8 fs zs b=true):F6 fs zs n b (b:Int):=.inr ⟨b,rfl,Nat.le_refl _,hb,hr,fun k h1 h2=>by omega⟩
theorem F6.no{fs:List MF}{zs:List Int}{n b:Nat}{nxt:Int}(h:F6 fs zs n (b+1) nxt)(hr:D8 fs zs b=false):F6 fs zs n b nxt:=by
  rcases h with⟨h1,h2⟩|⟨q,h1,h2,h3,h4,h5⟩
  . refine .inl ⟨h1,fun k k1 k2=> ?_⟩
    by_cases e:k=b
    . subst e
      exact hr
    . exact h2 k (by omega) k2
  . refine .inr ⟨q,h1,by omega,h3,h4,fun k k1 k2=> ?_⟩
    by_cases e:k=b
    . subst e
      exact hr
    . exact h5 k (by omega) k2
theorem Kt{w u:World}(hb:Below w.heap.size w u){a:Addr}{x:Value}(h:w.cell? a=some x):u.cell? a=some x:=by rw[hb.cell (aF h)];exact h
structure JN(w u:World)(v:VP)(n bd:Nat)(V:Value)(zs:List Int)(q:Nat):Prop where
  pb:DS u w.heap.size v.r v.k v.f v.t
  done:u.ownsRow w.heap.size 4 1 (.slice (some ⟨bd,0,none⟩) n n) n (GJ (zs++[(q:Int)]) n)
  o:u.ownsRow (w.heap.size+1) 2 1 V zs.length (zs.flatMap Ab)
  bel:Below w.heap.size w u
  far:w.heap.size<bd
theorem O4{w:World}{base g k n c:Nat}{e:TypeId}{xs:List Value}(h:w.ownsRow base e k (.slice (some ⟨g,0,none⟩) n c) n xs):base<=g/\∃cur,w.heap[g]?=some (Obj.cells cur e (0,0)):=by
  rcases h.2 with⟨h',_⟩|⟨g',cap',cur,h',hb,hg,_⟩
  . cases h'
  . cases h'
    exact⟨hb,cur,hg⟩
theorem ME{u:World}{B B' g k k' n n' c:Nat}{e e':TypeId}{s:Value}{xs ys:List Value}(h:u.ownsRow B e k s n xs)(h':u.ownsRow B' e' k' (.slice (some ⟨g,0,none⟩) n' c) n' ys)(hne:e≠e')(i:Nat)(z:Value):(u.setCell ⟨g,i,none⟩ z).ownsRow B e k s n xs:=by
  obtain⟨_,cur,h1⟩:=O4 h';refine aR h (a:=⟨g,i,none⟩) (fun q=> ?_) z;rcases h.2 with⟨rfl,_⟩|⟨g',cap',cur',rfl,_,hg',_⟩
  . cases q
  . simp only[Value.ownBlock,aJ]at q
    subst q;rw[h1]at hg';simp only[aJ,dC]at hg';exact hne hg'.2.1.symm
theorem MD{w w':World}{base B:Nat}{e e':TypeId}{s v:Value}{k k' n m:Nat}{xs bs:List Value}(h:w.ownsRow base e k s n xs)(hg:w.grownBy w' v.ownBlock)(ho:w.ownsRow B e' k' v m bs)(hne:e≠e'):w'.ownsRow base e k s n xs:=by
  refine⟨h.1,?_⟩;rcases h.2 with h|⟨g,cap,cur,e1,hb1,hgg,hr⟩
  . exact .inl h
  . refine .inr ⟨g,cap,cur,e1,hb1,?_,hr⟩
    rw[hg.block g (an.1 hgg).1 ?_]
    . exact hgg
    . intro hv
      rcases ho.2 with⟨rfl,_⟩|⟨g',cap',cur',rfl,_,hg',_⟩
      . cases hv
      . simp only[Value.ownBlock,aJ]at hv
        subst hv;rw[hgg]at hg';simp only[aJ,dC]at hg';exact hne hg'.2.1
theorem NM(U:World)(z:Int):∀j u,[(.int .i64 z:Value)][j]?=some u->(U.alloc (.cells #[.int .i64 z] 2)).cell? ((⟨U.heap.size,0,none⟩:Addr).add j)=some u:=fun j u hj=>by
  rw[Di,bG,(An.new U #[.int .i64 z] 2).cell j];simpa using hj
theorem DS.setC{u:World}{b g i:Nat}{x y z t V:Value}(h:DS u b x y z t)(hne:b≠g):DS (u.setCell ⟨g,i,none⟩ V) b x y z t:=by
  have k:∀(j:Nat) (a:Value),u.cell? ⟨b,j,none⟩=some a->(u.setCell ⟨g,i,none⟩ V).cell? ⟨b,j,none⟩=some a:=fun j a ha=>by
    have:=bO u ⟨g,i,none⟩ b V hne;unfold World.cell? at*;rw[this];exact ha
  exact⟨k 0 _ h.c0,k 1 _ h.c1,k 2 _ h.c2,k 3 _ h.c3⟩
theorem JN.of{w u:World}{v:VP}{n bd q:Nat}{V:Value}{zs:List Int}(h:CW w u v n bd V zs)(hq:q<n)(hf:w.heap.size<bd):JN w (u.setCell ⟨bd,q,none⟩ (.bool true)) v n bd V zs q:=by
  refine⟨h.pb.setC (by omega),?_,ME h.o h.done (by decide) q _,h.bel.setCell (by simp only[];omega) _,hf⟩;have:=(h.done.stored q (.bool true)).1;rw[Ny zs n q hq]at this;exact this
theorem JN.al{w u:World}{v:VP}{n bd q:Nat}{V:Value}{zs:List Int}(h:JN w u v n bd V zs q)(o:Obj):(u.alloc o).ownsRow (w.heap.size+1) 2 1 V zs.length (zs.flatMap Ab)/\w.heap.size+1<=(u.alloc o).heap.size:=⟨Aj h.o (Aa _ _) lR,aY h.pb.lt (Aa _ _).size⟩
theorem JN.next{w u u':World}{v:VP}{n bd q:Nat}{V V':Value}{zs:List Int}(h:JN w u v n bd V zs q)(hown:u'.ownsRow (w.heap.size+1) 2 1 V' (zs.length+1) (zs.flatMap Ab++[.int .i64 (q:Int)]))(hg:(u.alloc (.cells #[.int .i64 (q:Int)] 2)).grownBy u' V.ownBlock):CW w u' v n bd V' (zs++[(q:Int)]):=by
  have bA:=Aa u (.cells #[.int .i64 (q:Int)] 2);have o1:=Aj h.o bA lR;refine⟨?_,MD (Aj h.done bA lR) hg o1 (by decide),?_,(Af h.bel lR bA).grown hg (aY h.bel.size bA.size) (fun i hi=>by have:=(h.o.lt i hi).1;omega)⟩
  . have k:∀(j:Nat) (a:Value),u.cell? ⟨w.heap.size,j,none⟩=some a->u'.cell? ⟨w.heap.size,j,none⟩=some a:=fun j a ha=>by
      have h1:=Ac bA ha;have h2:=hg.block w.heap.size (bx h.pb.lt bA.size) (fun e=>by have:=(h.o.lt _ e.symm).1;omega);unfold World.cell? at*;rw[h2];exact h1
    exact⟨k 0 _ h.pb.c0,k 1 _ h.pb.c1,k 2 _ h.pb.c2,k 3 _ h.pb.c3⟩
  . rw[aG,aP,a8]
    exact hown
theorem Jh (v : VP) (p:MP)(w:World)(hs:p.small)(hw:p.wf)(h:Fr w v p):
    Calls Tryz.prog 81 #[.agg #[v.r,v.k,v.f,v.t]] w fun e w'=>∃V zs,e=.returned V/\Rd w' 1 V zs.length (zs.flatMap Ab)/\Pr p zs/\Below w.heap.size w w':=by
  obtain⟨j0,hj,hy0,hy1,hy2⟩:=bH C5;obtain⟨k0,hk,hx0,hx1,hx2⟩:=bH Bf;have H:=Ah (aH hs (aH hw h));clear hs hw h
  have HE0:Hid (DS ((w.alloc (.cells #[v.r,v.k,v.f,v.t] 65)).alloc (.cells #[] 2)) w.heap.size v.r v.k v.f v.t/\An ((w.alloc (.cells #[v.r,v.k,v.f,v.t] 65)).alloc (.cells #[] 2)) (w.heap.size+1) #[] 2/\Below w.heap.size w ((w.alloc (.cells #[v.r,v.k,v.f,v.t] 65)).alloc (.cells #[] 2))):=by
    refine⟨(DS.new w _ _ _ _ _).alloc _,?_,Af (Aa _ _) lR (Aa _ _)⟩;have:=An.new (w.alloc (.cells #[v.r,v.k,v.f,v.t] 65)) #[] 2;simpa using this
  go_enter Tryz.func81,Tryz.ntmps81;go_wp2_with fail
  refine(C6 v p _ H.o.1 H.o.2.1 (H.o.2.2.keep HE0.o.2.2 lR)).mono ?_;rintro e u1 ⟨⟨nf,rfl,hnf⟩,b1⟩;have HE1:=Ah (aH (HE0.o.1.keep b1) (aH (HE0.o.2.1.keep b1) (Af HE0.o.2.2 lR b1)));clear b1 HE0;by_cases q0:nf=0
  . subst q0
    have HF:Hid (Bj p 0):=hnf;clear hnf;obtain⟨ys,hys,hrd,hel⟩:=H.o.2.2.funcs;obtain⟨vr,vk,vf,vt⟩:=v;obtain⟨af,cf,ef⟩:∃a c,vf=.slice a p.funcs.length c:=hrd.is_slice;subst ef;have hn32:=(Ir HF.o).1.2.1;have hn0:=(Ir HF.o).1.1;have HFN:=Ah (aH hys (aH hrd hel));clear hys hrd hel;generalize hLL:p.funcs.length=n at hn32 hn0 HFN HE1;have HL:Hid (p.funcs.length=n):=hLL;clear hLL
    obtain⟨gf,of,rfl,HCF⟩:∃gf of,af=some ⟨gf,of,none⟩/\Hid (∀j u,(ys.flatMap AN)[j]?=some u->w.cell? ⟨gf,of+j,none⟩=some u):=by
      rcases HFN.o.2.1.2 with⟨e0,_⟩|⟨gf,of,c',e1,hc1⟩
      . exact absurd e0 hn0
      . simp only[aI,bU]at e1
        exact⟨gf,of,e1.1,hc1⟩
    obtain⟨p0,p1,p2,p3⟩:=HE1.o.1;go_wp2_with (at_make;refine cR _ rfl _ _ 53 rfl w.heap.size 4 j0 (.bool false) 1 Tryz.underlying53 hj hy0 hy1 .i64 .i64 _ _ n rfl rfl rfl rfl (by rw[hy2];omega) (by unfold maxLen;omega) HE1.o.2.2.size ?_;intro w3 hown hgrow;rw[Mw,Nx]at hown)
    have HC0:Hid (CW w w3 ⟨vr,vk,.slice (some ⟨gf,of,none⟩) n cf,vt⟩ n u1.heap.size (.slice (some ⟨w.heap.size+1,0,none⟩) 0 0) []):=by
      have hb3:Below u1.heap.size u1 w3:=(bY _ _).grown hgrow lR (fun k hk=>by cases hk);exact⟨HE1.o.1.keep hb3,hown,⟨rfl,.inr ⟨w.heap.size+1,0,#[],rfl,Nat.le_refl _,HE1.o.2.1.keep hb3,Nat.le_refl _,dP _,rfl,rfl⟩⟩,Af HE1.o.2.2 lR hb3⟩
    have HBD0:Hid (w.heap.size<u1.heap.size):=HE1.o.1.lt;clear hown hgrow p0 p1 p2 p3 HE1;have HBD:Hid (w.heap.size<u1.heap.size):=HBD0.o;generalize u1.heap.size=bd at HC0 HBD⊢;go_wp2
    go_loopw [3] (fun V wr=>∃zs:List Int,zs.length<=n/\(∃a c,V=.slice a zs.length c)/\Hid (CW w wr ⟨vr,vk,.slice (some ⟨gf,of,none⟩) n cf,vt⟩ n bd V zs/\Fi p.funcs (n-zs.length) zs=Gu p.funcs)) (fun V _=>n-Rs V)
    case atStart=>exact⟨[],by simp,⟨_,_,rfl⟩,⟨HC0.o,by unfold Gu;rw[HL.o];rfl⟩⟩
    case round=>
      clear HC0;obtain⟨zs,hzn,⟨aV,cV,rfl⟩,HC⟩:=hrel;by_cases hlt:zs.length<n
      . have hltI : (zs.length:Int)<(n:Int):=by omega
        go_wp2
        go_loopw [6,7] (fun nx i wr=>∃(j:Nat) (nxt:Int),j<=n/\nx=.int .i64 nxt/\i=.int .i64 ((j:Int)-1)/\Hid (F6 p.funcs zs n j nxt/\CW w wr ⟨vr,vk,.slice (some ⟨gf,of,none⟩) n cf,vt⟩ n bd (.slice aV zs.length cV) zs)) (fun _ i _=>(intOf i+1).toNat)
        case atStart=>exact⟨n,-1,Nat.le_refl _,rfl,rfl,⟨.inl ⟨rfl,fun k h1 h2=>by omega⟩,HC.o.1⟩⟩
        case round=>
          obtain⟨j,nxt,hj',rfl,rfl,HF2⟩:=hrel;cases j with
          | succ b=>
            rw[show(((b+1:Nat):Int)-1)=(b:Int)by omega];obtain⟨⟨f,z⟩,hy⟩:∃y,ys[b]?=some y:=⟨_,aA (by have:=congrArg List.length HFN.o.1;rw[aj,HL.o]at this;omega)⟩;have hfb:=D1 HFN.o.1 hy;have hrf:=HFN.o.2.2 _ (aE hy);simp only[]at hrf;obtain⟨zp,zl,zc⟩:=z;obtain⟨ac,cc,ec⟩:∃a c,zc=.slice a f.code.length c:=hrf.2.2.is_slice;subst ec;have HX:=Ah (aH hrf (aH (H.o.1.func f (aE hfb)) hfb));have hcl:f.code.length<=1048576:=HX.o.2.1.2.2;have i3:=Rd.elem Ao HCF.o b _ hy 3 _ rfl;have HI3:Hid (w.cell? ⟨gf,of+b*4+3,none⟩=some (.slice ac f.code.length cc)):=i3;clear hy hfb hrf i3;have d0:=HF2.o.2.done.cellAt b (by omega);rw[Ew _ _ _ (by omega)]at d0;obtain⟨cb,hcb⟩:∃cb,cb=zs.contains (b:Int):=⟨_,rfl⟩;rw[<-hcb]at d0;have HCB:Hid (cb=zs.contains (b:Int)):=hcb;clear hcb;have hbL:(b:Int)<(n:Int):=by omega
            go_wp2
            go_loopw [8,9] (fun r i wr=>∃(k:Nat) (rb:Bool),k<=f.code.length/\r=.bool rb/\i=.int .i64 k/\Hid (rb=(!cb&&Hz zs f.code k)/\CW w wr ⟨vr,vk,.slice (some ⟨gf,of,none⟩) n cf,vt⟩ n bd (.slice aV zs.length cV) zs)) (fun _ i _=>f.code.length-(intOf i).toNat)
            case atStart=>exact⟨0,!cb,by omega,rfl,rfl,⟨by simp[Hz],HF2.o.2⟩⟩
            case round=>
              clear d0;obtain⟨k,rb,hk',rfl,rfl,HK⟩:=hrel;obtain⟨p0,p1,p2,p3⟩:=HK.o.2.pb;have i3:=Kt HK.o.2.bel HI3.o;by_cases hlt3:k<f.code.length
              . have hkL:(k:Int)<(f.code.length:Int):=by omega
                cases rb
                . have HNO:Hid (F6 p.funcs zs n b nxt):=HF2.o.1.no (by
                    rw[IQ p.funcs zs b f HX.o.2.2,<-HCB.o];have:=HK.o.1;cases hc:cb
                    . rw[hc]at this
                      rw[Mz zs f.code k (by simpa using this.symm)];rfl
                    . rfl)
                  go_wp2
                  go_roundw
                  case rel=>exact⟨b,nxt,by omega,rfl,by go_num,⟨HNO.o,HK.o.2⟩⟩
                  case measure=>simp[intOf]
                . obtain⟨x,hx⟩:∃x,f.code[k]?=some x:=⟨_,aA hlt3⟩
                  have HXC:Hid (f.code[k]?=some x):=hx;have hcr:=HX.o.1.2.2.keep HK.o.2.bel lR;rcases hcr.2 with⟨e0,_⟩|⟨gc,oc,c',e1,hc1⟩
                  . omega
                  simp only[aI,bU]at e1;obtain⟨rfl,rfl⟩:=e1;have x0:=Rd.elem MI.cells_length hc1 k _ hx 0 _ rfl;have x1:=Rd.elem MI.cells_length hc1 k _ hx 1 _ rfl;have x2:=Rd.elem MI.cells_length hc1 k _ hx 2 _ rfl;have x3:=Rd.elem MI.cells_length hc1 k _ hx 3 _ rfl;rw[aw]at x0;clear hcr hc1 hx;obtain⟨wo,hwo⟩:∃W,W=wr:=⟨_,rfl⟩;subst hwo;go_upto_region 16 with fail
                  refine Al (fun u=>Hid (CW w u ⟨vr,vk,.slice (some ⟨gf,of,none⟩) n cf,vt⟩ n bd (.slice aV zs.length cV) zs/\An u wo.heap.size #[.int .i64 x.op,.int .i64 x.a,.int .i64 x.b,.int .i64 x.c] 43)) ⟨HK.o.2.keep (Aa _ _),An.new _ _ _⟩ ?_
                  intro U1 HU1;clear x0 x1 x2 x3 p0 p1 p2 p3 i3;have a0:=HU1.o.2.cell 0;have a1:=HU1.o.2.cell 1;simp only[aU,aM,aQ]at a0 a1;by_cases hc:x.op=28
                  . rw[hc]at a0
                    have hin:=Oo (Ir HF.o).2 HX.o.2.2 (a:=x.a) (bJ.2 ⟨x,db.2 ⟨aE HXC.o,by simpa using hc⟩,rfl⟩);rw[HL.o]at hin;obtain⟨aa,haa⟩:∃aa:Nat,x.a=(aa:Int):=⟨x.a.toNat,by omega⟩;rw[haa]at a1 hin;have hd:=HU1.o.1.done.cellAt aa (by omega);rw[Ew _ _ _ (by omega)]at hd;obtain⟨ca,hca⟩:∃ca,ca=zs.contains (aa:Int):=⟨_,rfl⟩;rw[<-hca]at hd
                    have HN:Hid (ca=(!cb&&Hz zs f.code (k+1))):=by
                      show _=_;rw[JC zs f.code k x HXC.o,haa,<-hca,<-Bool.and_assoc,<-HK.o.1];simp[hc]
                    clear hca;go_wp2
                    go_roundw
                    case rel=>exact⟨k+1,ca,by omega,rfl,by go_num,⟨HN.o,HU1.o.1⟩⟩
                    case measure=>simp[intOf];omega
                  . have hc':(x.op != 28)=true:=by simpa using hc
                    have HN:Hid (true=(!cb&&Hz zs f.code (k+1))):=by
                      show _=_;rw[JC zs f.code k x HXC.o,<-Bool.and_assoc,<-HK.o.1];simp[hc]
                    go_wp2
                    go_roundw
                    case rel=>exact⟨k+1,true,by omega,rfl,by go_num,⟨HN.o,HU1.o.1⟩⟩
                    case measure=>simp[intOf];omega
              . obtain rfl:k=f.code.length:=by omega
                cases rb
                . have HNO:Hid (F6 p.funcs zs n b nxt):=HF2.o.1.no (by rw[IQ p.funcs zs b f HX.o.2.2,<-HCB.o,<-HK.o.1])
                  go_wp2
                  go_roundw
                  case rel=>exact⟨b,nxt,by omega,rfl,by go_num,⟨HNO.o,HK.o.2⟩⟩
                  case measure=>simp[intOf]
                . have HYE:Hid (F6 p.funcs zs n b (b:Int)):=HF2.o.1.yes (by omega) (by rw[IQ p.funcs zs b f HX.o.2.2,<-HCB.o,<-HK.o.1])
                  go_wp2
                  go_roundw
                  case rel=>exact⟨b,(b:Int),by omega,rfl,by go_num,⟨HYE.o,HK.o.2⟩⟩
                  case measure=>simp[intOf]
          | zero=>
            rw[show(((0:Nat):Int)-1)=-1 from rfl];rcases HF2.o.1 with⟨rfl,hno⟩|⟨q,rfl,_,hqn,hqr,hqm⟩
            . have HO:Hid (Gu p.funcs=[]):=by
                show _=_;rw[<-HC.o.2,show n-zs.length=(n-zs.length-1)+1 by omega];simp only[Fi];rw[Lb (fun j hj=>hno j (dP _) (by rw[<-HL.o];exact hj))]
              have HBE:Hid (Below w.heap.size w wr):=HF2.o.2.bel;clear hno;go_wp2
              go_ret
              exact⟨_,[],rfl,⟨rfl,.inl ⟨rfl,_,_,rfl⟩⟩,.inl ⟨HF.o,HO.o.symm⟩,Af HBE.o lR (Aa _ _)⟩
            . have HO:Hid (Fi p.funcs (n-(zs++[(q:Int)]).length) (zs++[(q:Int)])=Gu p.funcs):=by
                show _=_;rw[<-HC.o.2,show n-zs.length=(n-zs.length-1)+1 by omega];simp only[Fi];rw[Lc (by rw[HL.o];exact hqn) hqr (fun j hj=>hqm j (dP _) hj),aG,aP,Nat.sub_add_eq]
              have d0:=HF2.o.2.done.cellAt q (by omega);rw[Ew _ _ _ hqn]at d0;generalize zs.contains (q:Int)=cq at d0;have d1:=HF2.o.2.done.frozenAt q;have HS1:Hid (JN w (wr.setCell ⟨bd,q,none⟩ (.bool true)) ⟨vr,vk,.slice (some ⟨gf,of,none⟩) n cf,vt⟩ n bd (.slice aV zs.length cV) zs q):=JN.of HF2.o.2 hqn HBD.o;have hqL:(q:Int)<(n:Int):=by omega
              have hq0:¬(q:Int)<0:=by omega
              clear hqr hqm;go_upto_region 22 with fail
              refine Al (fun u=>Hid (JN w u ⟨vr,vk,.slice (some ⟨gf,of,none⟩) n cf,vt⟩ n bd (.slice aV zs.length cV) zs q)) HS1 ?_;intro U1 HU1;clear d0 d1 HS1;go_wp2_with (at_builtin;refine wpList_append_lies _ rfl _ _ 26 rfl (w.heap.size+1) 2 k0 (.int .i64 0) 1 8 Tryz.underlying26 hk hx0 hx1 hx2 rfl (by decide) _ zs.length (zs.flatMap Ab) rfl (HU1.o.al (.cells #[.int .i64 (q:Int)] 2)).1 ⟨U1.heap.size,0,none⟩ 1 1 [.int .i64 (q:Int)] rfl rfl (NM U1 (q:Int)) (fun u hu=>by simp at hu;subst hu;rfl) (by omega) (by unfold maxLen;omega) (by omega) (HU1.o.al (.cells #[.int .i64 (q:Int)] 2)).2 _ rfl ?_;intro g3 cap3 w3 hown hgrow hat hlt3;have HN:Hid (CW w w3 ⟨vr,vk,.slice (some ⟨gf,of,none⟩) n cf,vt⟩ n bd (.slice (some ⟨g3,0,none⟩) (zs.length+1) cap3) (zs++[(q:Int)])):=HU1.o.next hown hgrow;clear hown hgrow hat hlt3);go_wp2;go_roundw
              case rel=>exact⟨zs++[(q:Int)],by simp only[aG,aP];omega,⟨some ⟨g3,0,none⟩,cap3,by rw[aG,aP]⟩,⟨HN.o,HO.o⟩⟩
              case measure=>simp only[Rs];omega
      . have hz:zs.length=n:=by omega
        have HO:Hid (zs=Gu p.funcs):=by
          have:=HC.o.2;rw[hz,eR]at this;exact this
        have HRD:=Ah (aH (Rd.of_own HC.o.1.o) HC.o.1.bel);rw[hz]at HRD⊢;go_wp2
        go_ret
        refine⟨_,zs,rfl,?_,.inl ⟨HF.o,HO.o⟩,HRD.o.2⟩;rw[hz];exact HRD.o.1
  . have HN:Hid (¬Bj p 0):=fun e=>q0 (Bj.one hnf e)
    have q0':(nf != 0)=true:=by simpa using q0
    have HBE:Hid (Below w.heap.size w u1):=HE1.o.2.2;clear hnf;go_wp2
    go_ret
    exact⟨_,[],rfl,⟨rfl,.inl ⟨rfl,_,_,rfl⟩⟩,.inr ⟨HN.o,rfl⟩,HBE.o⟩
theorem CT(z:Int):∀u∈[Value.int .i64 z],u.oneCell'=true:=fun u hu=>by simp at hu;subst hu;rfl
theorem GN(zs:List Int)(z:Int):zs.flatMap Ab++[.int .i64 z]=(zs++[z]).flatMap Ab:=by rw[a8];rfl
def Dr(s:Cv)(p m:Int)(u u':World):Prop:=∃p',p<=p'/\p'<=p+m/\CU u' s.S s.a s.len s.cap p'/\AC s.S u u'
def MU(s:Cv)(p:Int)(n:Nat)(u:World)(e:Ending)(u':World):Prop:=∃r:Int,e=.returned (.int .i64 r)∧-1<=r/\r<n/\Dr s p 1 u u'
theorem CN(u:World)(s:Cv)(p t:Int)(lv:Value)(xs:List Int)(hs:CU u s.S s.a s.len s.cap p)(hp:p+1<=1000000000000)(hr:Rd u 1 lv xs.length (xs.flatMap Ab))(hl:xs.length<=1048576):
 Calls Tryz.prog 89 #[.pointer (some ⟨s.S,0,none⟩),lv,.int .i64 t,.int .i64 256] u (MU s p xs.length u):=by
 obtain⟨i64,hi,hz0,hz1,hz2⟩:=bH Bf;obtain⟨a,c,rfl⟩:=Rd.is_slice hr;have H:=Ah (aH hs hr);clear hs hr;have HU:Hid (s.S<u.heap.size):=H.o.1.lt;generalize hn:xs.length=n at H hl⊢;have HN:Hid (xs.length=n):=hn;clear hn;go_enter Tryz.func89,Tryz.ntmps89;go_wp2_with fail
 have E0:Hid ((u.alloc (.cells #[] 2)).ownsRow u.heap.size 2 1 (.slice (some ⟨u.heap.size,0,none⟩) 0 0) 0 []/\Below u.heap.size u (u.alloc (.cells #[] 2))):=⟨⟨rfl,.inr ⟨u.heap.size,0,#[],rfl,Nat.le_refl _,dT _ _,Nat.le_refl _,dP _,rfl,by simp⟩⟩,Aa _ _⟩
 go_loopw [9,10] (fun V i wr=>∃(j:Nat) (aV:Option Addr) (zs:List Int) (cV:Nat),j<=n/\j<=256/\V=.slice aV zs.length cV/\i=.int .i64 j/\zs.length<=j/\Hid (wr.ownsRow u.heap.size 2 1 (.slice aV zs.length cV) zs.length (zs.flatMap Ab)/\Below u.heap.size u wr/\∀z∈zs,0<=z/\z<n)) (fun _ i _=>n-(intOf i).toNat)
 case atStart=>exact⟨0,_,[],_,by omega,by omega,rfl,rfl,by simp,E0.o.1,E0.o.2,fun z hz=>by cases hz⟩
 case round=>
  clear E0;obtain⟨j,aV,zs,cV,hj,hj2,rfl,rfl,hzl,E1⟩:=hrel;by_cases hlt:j<n/\j<256
  case pos=>
   obtain⟨h1,h2⟩:=hlt;have h1I:(j:Int)<(n:Int):=by omega
   have h2I:(j:Int)<256:=by omega
   obtain⟨x,hx⟩:∃x,xs[j]?=some x:=⟨_,aA (by rw[HN.o];exact h1)⟩
   obtain⟨ga,oa,ea,kz⟩:∃ga oa,a=some ⟨ga,oa,none⟩/\wr.cell? ⟨ga,oa+j,none⟩=some (.int .i64 x):=by
    have:=Rd.keep H.o.2 E1.o.2.1 lR;rcases this.2 with⟨e0,_⟩|⟨g1,o1,c1',e1,hc⟩
    . omega
    . simp only[aI,bU]at e1
      exact⟨g1,o1,e1.1,hc j _ (Ed hx)⟩
   subst ea;clear hx;cases hxt:(x==t)
   case false=>
    go_wp2_with fail
    go_roundw
    case rel=>exact⟨j+1,aV,zs,cV,by omega,by omega,rfl,by go_num,by omega,E1⟩
    case measure=>simp[intOf];omega
   case true=>
    have HZ:Hid (∀z∈zs,0<=z/\z<n):=E1.o.2.2
    have EA:Hid ((wr.alloc (.cells #[.int .i64 (j:Int)] 2)).ownsRow u.heap.size 2 1 (.slice aV zs.length cV) zs.length (zs.flatMap Ab)/\Below u.heap.size u (wr.alloc (.cells #[.int .i64 (j:Int)] 2))):=⟨Aj E1.o.1 (Aa _ _) lR,Af E1.o.2.1 lR (Aa _ _)⟩
    clear E1;generalize hm:zs.length=m at hzl EA⊢;have HM:Hid (zs.length=m):=hm;clear hm;go_wp2_with (first|(at_builtin;refine wpList_append_lies _ rfl _ _ 26 rfl u.heap.size 2 i64 (.int .i64 0) 1 8 Tryz.underlying26 hi hz0 hz1 hz2 rfl (by decide) (.slice aV m cV) m (zs.flatMap Ab) rfl EA.o.1 ⟨wr.heap.size,0,none⟩ 1 1 [.int .i64 (j:Int)] rfl rfl (Bn wr _ _) (CT _) (by omega) (by unfold maxLen;omega) (by omega) EA.o.2.size _ rfl ?_;intro g5 cap5 w5 hown5 hgrow5 hat5 hlt5;have E5:Hid (w5.ownsRow u.heap.size 2 1 (.slice (some ⟨g5,0,none⟩) (m+1) cap5) (m+1) ((zs++[(j:Int)]).flatMap Ab)/\Below u.heap.size u w5):=⟨by rw[<-GN];exact hown5,EA.o.2.grown hgrow5 EA.o.2.size (fun q hq=>(EA.o.1.lt q hq).1)⟩;clear hown5 hgrow5 hat5 hlt5)|go_in)
    clear EA kz;have hml:(zs++[(j:Int)]).length=m+1:=by rw[aG,HM.o];rfl
    go_roundw
    case rel=>exact⟨j+1,some ⟨g5,0,none⟩,zs++[(j:Int)],cap5,by omega,by omega,by rw[hml],by go_num,by omega,by rw[hml];exact E5.o.1,E5.o.2,fun z hz=>by
     rcases aS.1 hz with e|e
     . exact HZ.o z e
     . rw[am.1 e]
       omega⟩
    case measure=>simp[intOf];omega
  case neg=>
   have hd:decide (j<n)=false\/decide ((j:Int)<256)=false:=by
    by_cases h1:j<n
    . exact .inr (by simp;omega)
    . exact .inl (by simpa using h1)
   by_cases hm0:zs.length=0
   . have E2:Hid (Dr s p 1 u wr):=⟨p,by omega,by omega,H.o.1.below E1.o.2.1,.of_below E1.o.2.1⟩
     clear E1;generalize zs.length=m at hm0 hzl⊢;subst hm0;by_cases h1:j<n
     . have h1I:(j:Int)<(n:Int):=by omega
       have h2I:¬(j:Int)<256:=by omega
       go_wp2_with fail
       go_ret
       exact⟨-1,rfl,by omega,by omega,E2.o⟩
     . have h1I:¬(j:Int)<(n:Int):=by omega
       go_wp2_with fail
       go_ret
       exact⟨-1,rfl,by omega,by omega,E2.o⟩
   . have hm1:((zs.length:Int)==0)=false:=by rw[cT];omega
     have HS2:Hid (CU wr s.S s.a s.len s.cap p):=H.o.1.below E1.o.2.1;by_cases h1:j<n
     . have h1I:(j:Int)<(n:Int):=by omega
       have h2I:¬(j:Int)<256:=by omega
       clear hlt hd;go_wp2_with fail
       refine(Ai HS2.o hp (n:=(zs.length:Int)) (by omega) (by omega)).mono ?_;rintro e u2 ⟨r,h0,h1',rfl,hs2,hd2⟩;obtain⟨rn,rfl⟩:=aq h0;have hrn:rn<zs.length:=by omega
       have hO:u2.ownsRow u.heap.size 2 1 (.slice aV zs.length cV) zs.length (zs.flatMap Ab):=AW E1.o.1 hd2.grow (fun b hb e=>by have:=(E1.o.1.lt b hb).1;have:=HU.o;simp only[aJ]at e;omega)
       obtain⟨gv,ev⟩:∃gv,aV=some ⟨gv,0,none⟩:=by
        rcases Ba hO with⟨e,h0⟩|⟨gv,c,e⟩
        . omega
        . simp only[aI]at e
          exact⟨gv,e.1⟩
       subst ev;have c0:=au hO rn (by omega);rw[Ed (aA hrn)]at c0;have hz:=E1.o.2.2 _ (bq hrn);have E2:Hid (Dr s p 1 u u2):=⟨p+1,by omega,by omega,hs2,(AC.of_below E1.o.2.1).trans hd2⟩;clear hs2 hd2 hO E1 HS2;generalize zs[rn]=z at c0 hz;go_wp2_with fail
       go_ret
       exact⟨z,rfl,by omega,by omega,E2.o⟩
     . have h1I:¬(j:Int)<(n:Int):=by omega
       clear hlt hd;go_wp2_with fail
       refine(Ai HS2.o hp (n:=(zs.length:Int)) (by omega) (by omega)).mono ?_;rintro e u2 ⟨r,h0,h1',rfl,hs2,hd2⟩;obtain⟨rn,rfl⟩:=aq h0;have hrn:rn<zs.length:=by omega
       have hO:u2.ownsRow u.heap.size 2 1 (.slice aV zs.length cV) zs.length (zs.flatMap Ab):=AW E1.o.1 hd2.grow (fun b hb e=>by have:=(E1.o.1.lt b hb).1;have:=HU.o;simp only[aJ]at e;omega)
       obtain⟨gv,ev⟩:∃gv,aV=some ⟨gv,0,none⟩:=by
        rcases Ba hO with⟨e,h0⟩|⟨gv,c,e⟩
        . omega
        . simp only[aI]at e
          exact⟨gv,e.1⟩
       subst ev;have c0:=au hO rn (by omega);rw[Ed (aA hrn)]at c0;have hz:=E1.o.2.2 _ (bq hrn);have E2:Hid (Dr s p 1 u u2):=⟨p+1,by omega,by omega,hs2,(AC.of_below E1.o.2.1).trans hd2⟩;clear hs2 hd2 hO E1 HS2;generalize zs[rn]=z at c0 hz;go_wp2_with fail
       go_ret
       exact⟨z,rfl,by omega,by omega,E2.o⟩
def Pk(s:Cv)(u:World)(lv:Value)(xs:List Int):Prop:=∀u',AC s.S u u'->Rd u' 1 lv xs.length (xs.flatMap Ab)
theorem Pk.rd{s:Cv}{u:World}{lv:Value}{xs:List Int}(h:Pk s u lv xs):Rd u 1 lv xs.length (xs.flatMap Ab):=h u (AC.refl _ _)
theorem Pk.draw{s:Cv}{u u':World}{lv:Value}{xs:List Int}(h:Pk s u lv xs)(hd:AC s.S u u'):Pk s u' lv xs:=fun u2 h2=>h u2 (hd.trans h2)
theorem Pk.own{s:Cv}{u:World}{B:Nat}{lv:Value}{xs:List Int}(h:u.ownsRow B 2 1 lv xs.length (xs.flatMap Ab))(hB:s.S<B):Pk s u lv xs:=fun u' hd=>Rd.of_own (AW h hd.grow (fun b hb e=>by have:=(h.lt b hb).1;simp only[aJ]at e;omega))
def Pq(s:Cv)(p:Int)(n:Nat)(u:World)(e:Ending)(u':World):Prop:=∃r m:Int,e=.returned (.tuple #[.int .i64 r,.int .i64 m])∧-1<=r/\r<n/\0<=m/\m<=n/\Dr s p (n+2) u u'
theorem Gf(u:World)(s:Cv)(p t:Int)(lv:Value)(xs:List Int)(hs:CU u s.S s.a s.len s.cap p)(hp:p+(xs.length+2)<=1000000000000)(hr:Pk s u lv xs)(hl:xs.length<=1048576):
 Calls Tryz.prog 78 #[.pointer (some ⟨s.S,0,none⟩),lv,.int .i64 t] u (Pq s p xs.length u):=by
 have hp0:=hs.low;obtain⟨a,c,rfl⟩:=Rd.is_slice hr.rd;have H:=Ah (aH hs hr);clear hs hr;generalize hn:xs.length=n at H hl hp⊢;have HN:Hid (xs.length=n):=hn;clear hn;go_enter Tryz.func78,Tryz.ntmps78;go_wp2_with fail
 refine(CN u s p t (.slice a n c) xs H.o.1 (by omega) H.o.2.rd (by rw[HN.o];exact hl)).mono ?_;rintro e u1 ⟨r,rfl,hr0,hr1,p1,hp1,hp2,hs1,hd1⟩;rw[HN.o]at hr1;have E1:=Ah (aH hs1 hd1);clear hs1 hd1;by_cases hrn:r<0
 case pos=>
  go_wp2_with fail
  refine aT (v:=.tuple #[.int .i64 (-1),.int .i64 0]) (by simp[results,Tryz.results78,go_sem]) rfl ?_;exact⟨-1,0,rfl,by omega,by omega,by omega,by omega,p1,by omega,by omega,E1.o⟩
 obtain⟨q,rfl⟩:=aq (show 0<=r by omega);have HR:Hid (Rd u1 1 (.slice a n c) n (xs.flatMap Ab)):=by have:=H.o.2.draw E1.o.2|>.rd;rw[HN.o]at this;exact this
 go_wp2_with fail
 go_loopw [9] (fun i wr=>∃m:Nat,q+m<=n/\i=.int .i64 m/\wr=u1) (fun i _=>n-(intOf i).toNat)
 case atStart=>exact⟨0,by omega,rfl,rfl⟩
 case round=>
  obtain⟨m,hm,rfl,rfl⟩:=hrel;by_cases hlt:q+m<n
  case pos=>
   have hltI:((q+m:Nat):Int)<(n:Int):=by omega
   have hltJ:(q:Int)+(m:Int)<(n:Int):=by omega
   obtain⟨x,hx⟩:∃x,xs[q+m]?=some x:=⟨_,aA (by rw[HN.o];exact hlt)⟩
   obtain⟨ga,oa,ea,kz⟩:∃ga oa,a=some ⟨ga,oa,none⟩/\wr.cell? ⟨ga,oa+(q+m),none⟩=some (.int .i64 x):=by
    rcases HR.o.2 with⟨e0,_⟩|⟨g1,o1,c1',e1,hc⟩
    . omega
    . simp only[aI,bU]at e1
      exact⟨g1,o1,e1.1,hc _ _ (Ed hx)⟩
   subst ea;have hnat:((q:Int)+(m:Int)).toNat=q+m:=by omega
   clear hx;cases hxt:(x==t)
   case true=>
    go_wp2_with fail
    go_roundw
    case rel=>exact⟨m+1,by omega,by go_num,trivial⟩
    case measure=>simp[intOf];omega
   case false=>
    go_wp2_with fail
    go_loopw [10] (fun i wr=>∃(mk:Nat) (pp:Int),mk<=m/\i=.int .i64 mk/\p1<=pp/\pp<=p1+mk/\Hid (CU wr s.S s.a s.len s.cap pp/\AC s.S u wr)) (fun i _=>m-(intOf i).toNat)
    case atStart=>exact⟨0,p1,by omega,rfl,by omega,by omega,E1⟩
    case round=>
     obtain⟨mk,pp,hmk,rfl,hq1,hq2,E2⟩:=hrel;by_cases hle:(mk:Int)*2+2<=(m:Int)
     case neg=>
      go_wp2_with fail
      refine aT (v:=.tuple #[.int .i64 (q:Int),.int .i64 (mk:Int)]) (by simp[results,Tryz.results78,go_sem]) rfl ?_;exact⟨_,_,rfl,by omega,by omega,by omega,by omega,pp,by omega,by omega,E2.o⟩
     go_wp2_with fail
     refine(AF E2.o.1).mono ?_;rintro e u3 ⟨b,rfl,hs3,hd3⟩;have E3:=Ah (aH hs3 (E2.o.2.trans hd3));clear hs3 hd3 E2;cases b
     . go_wp2_with fail
       refine aT (v:=.tuple #[.int .i64 (q:Int),.int .i64 (mk:Int)]) (by simp[results,Tryz.results78,go_sem]) rfl ?_;exact⟨_,_,rfl,by omega,by omega,by omega,by omega,pp+1,by omega,by omega,E3.o⟩
     . go_wp2_with fail
       go_roundw
       case rel=>exact⟨mk*2+1,pp+1,by omega,by go_num,by omega,by omega,E3⟩
       case measure=>simp[intOf];omega
  case neg=>
   have hltJ:¬(q:Int)+(m:Int)<(n:Int):=by omega
   go_wp2_with fail
   go_loopw [10] (fun i wr=>∃(mk:Nat) (pp:Int),mk<=m/\i=.int .i64 mk/\p1<=pp/\pp<=p1+mk/\Hid (CU wr s.S s.a s.len s.cap pp/\AC s.S u wr)) (fun i _=>m-(intOf i).toNat)
   case atStart=>exact⟨0,p1,by omega,rfl,by omega,by omega,E1⟩
   case round=>
    obtain⟨mk,pp,hmk,rfl,hq1,hq2,E2⟩:=hrel;by_cases hle:(mk:Int)*2+2<=(m:Int)
    case neg=>
     go_wp2_with fail
     refine aT (v:=.tuple #[.int .i64 (q:Int),.int .i64 (mk:Int)]) (by simp[results,Tryz.results78,go_sem]) rfl ?_;exact⟨_,_,rfl,by omega,by omega,by omega,by omega,pp,by omega,by omega,E2.o⟩
    go_wp2_with fail
    refine(AF E2.o.1).mono ?_;rintro e u3 ⟨b,rfl,hs3,hd3⟩;have E3:=Ah (aH hs3 (E2.o.2.trans hd3));clear hs3 hd3 E2;cases b
    . go_wp2_with fail
      refine aT (v:=.tuple #[.int .i64 (q:Int),.int .i64 (mk:Int)]) (by simp[results,Tryz.results78,go_sem]) rfl ?_;exact⟨_,_,rfl,by omega,by omega,by omega,by omega,pp+1,by omega,by omega,E3.o⟩
    . go_wp2_with fail
      go_roundw
      case rel=>exact⟨mk*2+1,pp+1,by omega,by go_num,by omega,by omega,E3⟩
      case measure=>simp[intOf];omega
end Go.Proofs.YtjpobijiblcgaaaGreat
