import Derived.Test.YtdipfjmlfbdkdaaGreatFc7
namespace Go.Proofs.YtdipfjmlfbdkdaaGreat
open Go.ChangeShapes Go.WideShapes Go.ChangeAt Go.RowKit
set_option linter.unusedVariables false
set_option maxHeartbeats 2000000
set_option maxRecDepth 100000
def AO(fs:List MF):Prop:=¬fs.length=0/\fs.length<=32/\(∀j,j<fs.length->∀f,fs[j]?=some f->B6 f)/\∀f,fs[0]?=some f->Mg f
theorem Ji(s:Value)(fs:List MF)(w:World)(hL:fs.length<=1048576)(hs:∀f∈fs,f.small)(h:Hq w s fs):
 Calls Tryz.prog 80 #[s] w fun e w'=>Aj e (AO fs)/\Below w.heap.size w w':=by
 obtain⟨xs,hxs,hrd,hel⟩:=h;have hxl:xs.length=fs.length:=by rw[<-hxs];simp
 have H1:Hid (Rd w 4 s fs.length (xs.flatMap Bi)/\xs.map Prod.fst=fs/\(∀x∈xs,C9 w x.2 x.1)/\(∀f∈fs,f.small)/\xs.length=fs.length):=⟨hrd,hxs,hel,hs,hxl⟩
 obtain⟨a1,c1,rfl⟩:=hrd.is_slice;clear hrd hxs hel hs hxl;generalize hLL:fs.length=n at hL H1;have HL:Hid (fs.length=n):=hLL;clear hLL;by_cases q0:n=0
 . subst q0
   have HN:Hid (¬AO fs):=fun e=>e.1 HL.o
   clear H1;go_enter Tryz.func80,Tryz.ntmps80;go_wp2
   go_ret
   exact⟨.no HN.o,aX _ _⟩
 have q0':((n:Int)==0)=false:=by simpa using q0
 by_cases q1:32<n
 . have HN:Hid (¬AO fs):=fun e=>absurd e.2.1 (by rw[HL.o];omega)
   have q1':(32:Int)<(n:Int):=by omega
   clear H1;go_enter Tryz.func80,Tryz.ntmps80;go_wp2
   go_ret
   exact⟨.no HN.o,aX _ _⟩
 have q1':¬(32:Int)<(n:Int):=by omega
 go_enter Tryz.func80,Tryz.ntmps80;go_wp2
 go_loopw [15] (fun i wr=>∃k:Nat,k<=n/\i=.int .i64 k/\Hid (∀j,j<k->∀f,fs[j]?=some f->B6 f)/\Hid (Below w.heap.size w wr)) (fun i _=>n-(intOf i).toNat)
 case atStart=>exact⟨0,by omega,rfl,fun j hj=>by omega,aX _ _⟩
 case round=>
  obtain⟨k,hk,rfl,HT,HB⟩:=hrel;by_cases hlt:k<n
  . obtain⟨⟨f,v⟩,hx⟩:∃x,xs[k]?=some x:=⟨_,aA (by rw[H1.o.2.2.2.2];exact hlt)⟩
    have e1:=BM H1.o.2.1 hx;have HX:Hid (C9 wr v f/\f.small/\fs[k]?=some f):=⟨(H1.o.2.2.1 _ (aE hx)).keep HB.o lR,H1.o.2.2.2.1 _ (aE e1),e1⟩
    clear e1;rcases H1.o.1.2 with⟨e0,_⟩|⟨b,o,c,e1,hc1⟩
    . omega
    . simp only[aF,aw]at e1
      obtain⟨rfl,rfl⟩:=e1;have i0:=Rd.elem Ah hc1 k _ hx 0 _ rfl;have i1:=Rd.elem Ah hc1 k _ hx 1 _ rfl;have i2:=Rd.elem Ah hc1 k _ hx 2 _ rfl;have i3:=Rd.elem Ah hc1 k _ hx 3 _ rfl;rw[<-HB.o.cell (aC i0),aS]at i0;rw[<-HB.o.cell (aC i1)]at i1;rw[<-HB.o.cell (aC i2)]at i2;rw[<-HB.o.cell (aC i3)]at i3;clear hc1 hx;simp only[]at i0 i1 i2 i3;obtain⟨ap,cp,ep⟩:=HX.o.1.1.is_slice;obtain⟨al,cl,el⟩:=HX.o.1.2.1.is_slice;obtain⟨ac,cc,ec⟩:=HX.o.1.2.2.is_slice;obtain⟨vp,vl,vc⟩:=v;simp only[]at ep el ec i0 i1 i2 i3;subst ep el ec;have nb:¬b=wr.heap.size:=bJ (aC i0);have mb:b<wr.heap.size:=aC i0;go_wp2_with fail
      have A1:=fun W (hW:Below wr.heap.size wr W)=>Jh ⟨.slice ap f.params.length cp,.slice al f.locals.length cl,.slice ac f.code.length cc⟩ f W HX.o.2.1 (HX.o.1.keep hW lR)
      refine(A1 _ (Aa _ _)).mono ?_;rintro e u ⟨⟨b0,rfl,hb0⟩,hbu⟩;have HB2:Hid (Below w.heap.size w u):=Ab HB.o lR (Ab (Aa _ _) lR hbu);clear hbu HB i0 i1 i2 i3 A1 nb mb;cases b0
      . have HN:Hid (¬AO fs):=fun e=>by have:=e.2.2.1 k (by rw[HL.o];exact hlt) f HX.o.2.2;simp[this]at hb0
        clear hb0;go_wp2
        go_ret
        exact⟨.no HN.o,HB2.o⟩
      . have HC:Hid (B6 f):=hb0.1 rfl
        clear hb0;go_wp2
        go_roundw
        case rel=>exact⟨k+1,by omega,by go_num,BW HX.o.2.2 HC.o HT.o,HB2⟩
        case measure=>simp[intOf];omega
  . have hkn:n=k:=by omega
    subst hkn;obtain⟨⟨f,v⟩,hx⟩:∃x,xs[0]?=some x:=⟨_,aA (by rw[H1.o.2.2.2.2];omega)⟩;have e1:=BM H1.o.2.1 hx;have HX:Hid (C9 wr v f/\f.small/\fs[0]?=some f):=⟨(H1.o.2.2.1 _ (aE hx)).keep HB.o lR,H1.o.2.2.2.1 _ (aE e1),e1⟩
    clear e1;rcases H1.o.1.2 with⟨e0,_⟩|⟨b,o,c,e1,hc1⟩
    . omega
    . simp only[aF,aw]at e1
      obtain⟨rfl,rfl⟩:=e1;have i0:=Rd.elem Ah hc1 0 _ hx 0 _ rfl;have i1:=Rd.elem Ah hc1 0 _ hx 1 _ rfl;rw[<-HB.o.cell (aC i0)]at i0;simp only[Nat.zero_mul,aS]at i0;rw[<-HB.o.cell (aC i1),Nat.zero_mul,aS]at i1;clear hc1 hx;obtain⟨ap,cp,ep⟩:=HX.o.1.1.is_slice;obtain⟨vp,vl,vc⟩:=v;simp only[]at ep i0 i1;subst ep
      have HM:Hid (AO fs↔Mg f):=by
       show _↔_;refine⟨fun e=>e.2.2.2 f HX.o.2.2,fun e=>⟨by rw[HL.o];exact q0,by rw[HL.o];omega,by rw[HL.o];exact HT.o,fun g hg=> ?_⟩⟩;rw[HX.o.2.2]at hg;exact(ae hg)▸e
      have hn1:=HX.o.2.1.1;generalize hN1:f.params.length=n1 at*;generalize hN2:f.result=R at*;have HE:Hid (f.params.length=n1/\f.result=R):=⟨hN1,hN2⟩
      clear hN1 hN2;have hl0:(0:Int)<(n:Int):=by omega
      by_cases z1:n1=0
      . subst z1
        have HY:Hid ((R==0)=true↔AO fs):=by
         show _↔_;rw[HM.o,beq_iff_eq];exact⟨fun e=>⟨HE.o.1,HE.o.2.trans e⟩,fun e=>HE.o.2.symm.trans e.2⟩
        go_wp2
        go_ret
        exact⟨.of HY.o,HB.o⟩
      . have z1':((n1:Int)==0)=false:=by simpa using z1
        have HN:Hid (¬AO fs):=fun e=>z1 (HE.o.1.symm.trans (HM.o.1 e).1)
        go_wp2
        go_ret
        exact⟨.no HN.o,HB.o⟩
end Go.Proofs.YtdipfjmlfbdkdaaGreat
