import Derived.Test.YtjcamlobelcepaaGreatDoorCt28
import Derived.Test.YtjcamlobelcepaaGreatDoorCt24
namespace Go.Proofs.YtjcamlobelcepaaGreatDoor
open Go.ChangeShapes Go.WideShapes Go.ChangeAt Go.RowKit
set_option linter.unusedVariables false
set_option maxHeartbeats 8000000
set_option maxRecDepth 100000
theorem SY:(Tryz.prog.info? 47).map (fun i=>(i.zero,i.size,i.bytes))=some (some sN,1,24):=by kernel_rfl
theorem K9(n:Nat):(madeCells (Value.slice none 0 0).cells (n*1)).toList=List.replicate n sN:=by
 rw[EK (fun b:Bool=>[Value.bool b]) [sN] [] n sN 1 rfl rfl (by omega)];simp[CE,List.flatten_replicate_singleton]
theorem Hi{w w':World}(hg:w.grownBy w' none):Below w.heap.size w w':=(aq _ _).grown hg lR (fun k hk=>by cases hk)
def Qe(xs:List MI):Prop:=∃r,BO xs r/\r.code=0
theorem BD{w:World}{b:Nat}{t:TypeId}{a0 a1 a2 a3:Value}(h:Ap w b #[a0,a1,a2,a3] t):w.cell? ⟨b,0,none⟩=some a0/\w.cell? ⟨b,1,none⟩=some a1/\w.cell? ⟨b,2,none⟩=some a2/\w.cell? ⟨b,3,none⟩=some a3:=⟨h.cell 0,h.cell 1,h.cell 2,h.cell 3⟩
theorem ER{w:World}{b:Nat}{t:TypeId}{a0 a1 a2 a3 a4 a5:Value}(h:Ap w b #[a0,a1,a2,a3,a4,a5] t):w.cell? ⟨b,0,none⟩=some a0/\w.cell? ⟨b,1,none⟩=some a1/\w.cell? ⟨b,2,none⟩=some a2/\w.cell? ⟨b,3,none⟩=some a3/\w.cell? ⟨b,4,none⟩=some a4/\w.cell? ⟨b,5,none⟩=some a5:=⟨h.cell 0,h.cell 1,h.cell 2,h.cell 3,h.cell 4,h.cell 5⟩
def Mf(p:MP)(fi:Int):Prop:=AV p 0/\0<=fi/\∃f,p.funcs[fi.toNat]?=some f/\Qe f.code
theorem IU(zs:List Int)(m p:Nat):∀n,p+n<=m->Cd (zs.take m) p n=Cd zs p n
 |0,_=>rfl
 | n+1,h=>by
   have e:(zs.take m)[p+n]?=zs[p+n]?:=by
    rw[List.getElem?_take,bj (by omega)]
   simp only[Cd,IU zs m p n (by omega),e]
def SK(w:World)(I:Nat)(zs:List Int)(e:Ending)(w':World):Prop:=
 (∃c,e=Ba c/\c≠0/\Ff zs c Nm/\DX (fun j=>j=I) w w')\/(∃(v:VP) (F:List (List Int×Value)) (cs:List MC) (G:List (MF×VF)) (ts:List MT),e=.returned (.agg #[v.r,v.k,v.f,v.t])/\CI w' w.heap.size (Ai v F cs G ts [])/\MP.small ⟨F.map Prod.fst,cs,G.map Prod.fst,ts⟩/\Ff zs 0 ⟨F.map Prod.fst,cs,G.map Prod.fst,ts⟩/\DX (fun j=>j=I) w w')
theorem Ns(B I L:Nat)(a:Option Addr)(c:Nat)(zs:List Int)(w:World)(ht:Dq w)(htB:0<B)(h:Hh w B I L a c zs 0):
 Calls Tryz.prog 49 #[.pointer (some ⟨I,0,none⟩)] w (SK w I zs):=by
 have H0:Hid (Br w (w.alloc (.cells #[sN,sN,sN,sN] 28)) [gb w.heap.size (⟨sN,sN,sN,sN⟩:VP)] B I L a c zs 0):=(Br.start h).box 28 4 _ rfl;have HT:Hid (Dq (w.alloc (.cells #[sN,sN,sN,sN] 28))):=fun j hj=>by rw[(Aa _ _).cell (aD (ht j hj))];exact ht j hj
 have HLen:=Af h.len;have hL:=h.big;go_enter Tryz.func49,Tryz.ntmps49;go_wp2_with fail
 refine(LB B I L a c zs _ HT.o htB H0.o.got.at_).mono ?_;rintro e u1 (⟨rfl,hs,hc⟩|⟨rfl,hs,hs4,hc⟩|⟨rfl,hs,hs4,hin,hc⟩)
 . unfold Ba
   go_wp2
   exact⟨rfl,.inl ⟨1,rfl,by omega,.inl ⟨hs,rfl,rfl⟩,H0.o.got.chg.onD hc⟩⟩
 . unfold Ba
   go_wp2
   exact⟨rfl,.inl ⟨2,rfl,by omega,.inr (.inl ⟨hs,hs4,rfl,rfl⟩),H0.o.got.chg.onD hc⟩⟩
 have h10:=hs.1;rw[HLen.o]at h10;have HST:=Af (aG hs hs4);have H1:Hid (Br w u1 [gb w.heap.size (⟨sN,sN,sN,sN⟩:VP)] B I (L-4) a c (AM zs) 4):=⟨H0.o.sep.chg hc (fun j hj e=>by have:=H0.o.lt;omega),⟨hin,H0.o.got.chg.onD hc⟩,H0.o.lt⟩;have HZ:=Af hin.hz;have HLB:=Af hin.len
 have HN2:Hid (Cb (AM zs) 2 4=some (wrap64 (Cd zs 4 2),6)):=by
  show _=_;unfold Cb;rw[bj (by rw[HLB.o];omega),AM,IU zs _ 4 2 (by rw[HLen.o];omega)]
 have HV:Hid (Ms zs↔wrap64 (Cd zs 4 2)=1):=Iff.rfl;generalize wrap64 (Cd zs 4 2)=x2 at HN2 HV;go_wp2_with fail
 refine(A6 B I (L-4) a c (AM zs) 2 4 _ (by omega) (by omega) H1.o.got.at_).mono ?_;rintro e u2 (⟨x,V,k2,rfl,hr,rfl,hg⟩|⟨rfl,hn,hc⟩);rotate_left
 . rw[HN2.o]at hn;cases hn
 rw[HN2.o]at hr;simp only[aM,Prod.mk.injEq]at hr;obtain⟨rfl,rfl⟩:=hr;have H2:=Af (H1.o.read hg);by_cases hv:x2=1;rotate_left
 . have hb:(x2==1)=false:=by simpa using hv
   have HNV:Hid (¬Ms zs):=fun h=>hv (HV.o.1 h)
   go_wp2_with (go_at_call 72;refine(DK 3 _).mono ?_;rintro e v2 ⟨rfl,hu⟩;obtain rfl:=hu.symm;unfold Ba)
   exact⟨rfl,.inl ⟨3,rfl,by omega,.inr (.inr (.inl ⟨HST.o.1,HST.o.2,HNV.o,rfl,rfl⟩)),H2.o.got.chg⟩⟩
 subst hv;have HVS:=Af (HV.o.2 rfl);have S4:Hid (∀q:Nat,Im (AM zs) 6=none->Ff zs 4 Nm):=fun q h=>.inr (.inr (.inr (.inl ⟨HST.o.1,HST.o.2,HVS.o,h,rfl,rfl⟩)))
 go_upto_region 3 with(go_at_call 72;refine(DL 3 _).mono ?_;rintro e v2 ⟨rfl,hu⟩;obtain rfl:=hu.symm)
 go_wp2_with fail
 refine(JW B I (L-4) a c (AM zs) 3 6 _ (by omega) H2.o.got.at_).mono ?_;rintro e u3 (⟨_,V3,k3,rfl,hr,⟨F,rfl,ho⟩,hg⟩|⟨rfl,hn,hc⟩);rotate_left
 . unfold Ba
   go_wp2
   exact⟨rfl,.inl ⟨4,rfl,by omega,S4.o 0 (Aw hn),H2.o.got.chg.onD hc⟩⟩
 obtain⟨a3,d3,e3⟩:∃a c,V3=.slice a F.length c:=A9 (ho.own (Ct V3 F) (by simp));subst e3;have H3:=Af (H2.o.rows hg ho);have R3:=Af hr;go_wp2_with fail
 refine(A6 B I (L-4) a c (AM zs) 2 k3 _ (by omega) (by omega) H3.o.got.at_).mono ?_;rintro e u4 (⟨x4,V,k4,rfl,hr,rfl,hg⟩|⟨rfl,hn,hc⟩);rotate_left
 . unfold Ba
   go_wp2
   exact⟨rfl,.inl ⟨4,rfl,by omega,S4.o 0 (Ak (r:=Bu (BF (AM zs) 2) 3) R3.o (Aw (Aw hn))),H3.o.got.chg.onD hc⟩⟩
 have H4:=Af (H3.o.read hg);have R4:=Af hr;obtain⟨p4,p4'⟩:=Ee HZ.o (by omega) hr;obtain⟨m4,rfl⟩:=aS p4;have hm4:m4<=65535:=by omega
 go_wp2_with fail
 refine(Kv B I (L-4) a c (AM zs) m4 k4 _ (by omega) H4.o.got.at_).mono ?_;rintro e u5 (⟨cs,V5,k5,rfl,hr,ho,hg⟩|⟨rfl,hn,hc⟩);rotate_left
 . unfold Ba
   go_wp2
   exact⟨rfl,.inl ⟨4,rfl,by omega,S4.o 0 (Ak (r:=Bu (BF (AM zs) 2) 3) R3.o (Aw (Ak R4.o hn))),H4.o.got.chg.onD hc⟩⟩
 obtain⟨a5,d5,e5⟩:∃a c,V5=.slice a cs.length c:=A9 ho;subst e5;have H5:=Af (H4.o.row hg ho);have R5:=Af hr;go_wp2_with fail
 refine(A6 B I (L-4) a c (AM zs) 2 k5 _ (by omega) (by omega) H5.o.got.at_).mono ?_;rintro e u6 (⟨x6,V,k6,rfl,hr,rfl,hg⟩|⟨rfl,hn,hc⟩);rotate_left
 . unfold Ba
   go_wp2
   exact⟨rfl,.inl ⟨4,rfl,by omega,S4.o 0 (Ak (r:=Bu (BF (AM zs) 2) 3) R3.o (Ak (r:=Cu (AM zs) 2 (D9 (AM zs))) (Ak R4.o R5.o) (Aw (Aw hn)))),H5.o.got.chg.onD hc⟩⟩
 have H6:=Af (H5.o.read hg);have R6:=Af hr;obtain⟨p6,p6'⟩:=Ee HZ.o (by omega) hr;obtain⟨m6,rfl⟩:=aS p6;have hm6:m6<=65535:=by omega
 go_wp2_with fail
 refine(LM B I (L-4) a c (AM zs) m6 k6 _ (by omega) H6.o.got.at_).mono ?_;rintro e u7 (⟨_,V7,k7,rfl,hr,⟨G,rfl,ho⟩,hg⟩|⟨rfl,hn,hc⟩);rotate_left
 . unfold Ba
   go_wp2
   exact⟨rfl,.inl ⟨4,rfl,by omega,S4.o 0 (Ak (r:=Bu (BF (AM zs) 2) 3) R3.o (Ak (r:=Cu (AM zs) 2 (D9 (AM zs))) (Ak R4.o R5.o) (Aw (Ak R6.o hn)))),H6.o.got.chg.onD hc⟩⟩
 obtain⟨a7,d7,e7⟩:∃a c,V7=.slice a G.length c:=A9 (ho.own (BT V7 G) (by simp));subst e7;have H7:=Af (H6.o.rows hg ho);have R7:=Af hr;go_wp2_with fail
 refine(A6 B I (L-4) a c (AM zs) 2 k7 _ (by omega) (by omega) H7.o.got.at_).mono ?_;rintro e u8 (⟨x8,V,k8,rfl,hr,rfl,hg⟩|⟨rfl,hn,hc⟩);rotate_left
 . unfold Ba
   go_wp2
   exact⟨rfl,.inl ⟨4,rfl,by omega,S4.o 0 (Ak (r:=Bu (BF (AM zs) 2) 3) R3.o (Ak (r:=Cu (AM zs) 2 (D9 (AM zs))) (Ak R4.o R5.o) (Ak (r:=Cu (AM zs) 2 (Fi (AM zs))) (Ak R6.o R7.o) (Aw (Aw hn))))),H7.o.got.chg.onD hc⟩⟩
 have H8:=Af (H7.o.read hg);have R8:=Af hr;obtain⟨p8,p8'⟩:=Ee HZ.o (by omega) hr;obtain⟨m8,rfl⟩:=aS p8;have hm8:m8<=65535:=by omega
 go_wp2_with fail
 refine(LL B I (L-4) a c (AM zs) m8 k8 _ (by omega) H8.o.got.at_).mono ?_;rintro e u9 (⟨ts,V9,k9,rfl,hr,ho,hg⟩|⟨rfl,hn,hc⟩);rotate_left
 . unfold Ba
   go_wp2
   exact⟨rfl,.inl ⟨4,rfl,by omega,S4.o 0 (Ak (r:=Bu (BF (AM zs) 2) 3) R3.o (Ak (r:=Cu (AM zs) 2 (D9 (AM zs))) (Ak R4.o R5.o) (Ak (r:=Cu (AM zs) 2 (Fi (AM zs))) (Ak R6.o R7.o) (Aw (Ak R8.o hn))))),H8.o.got.chg.onD hc⟩⟩
 obtain⟨a9,d9,e9⟩:∃a c,V9=.slice a ts.length c:=A9 ho;subst e9;have H9:=Af (H8.o.row hg ho);have R9:=Af hr;have HPR:Hid (Im (AM zs) 6=some (⟨F.map Prod.fst,cs,G.map Prod.fst,ts⟩,k9)):=(Ak (r:=Bu (BF (AM zs) 2) 3) R3.o (Ak (r:=Cu (AM zs) 2 (D9 (AM zs))) (Ak R4.o R5.o) (Ak (r:=Cu (AM zs) 2 (Fi (AM zs))) (Ak R6.o R7.o) (Ak (r:=Cu (AM zs) 2 (G9 (AM zs))) (Ak R8.o R9.o) rfl))));have HSW:=AO.prog HZ.o _ _ _ HPR.o;have HP9:Hid (Br w u9 (gb w.heap.size (⟨sN,sN,sN,sN⟩:VP)::Ai ⟨.slice a3 F.length d3,.slice a5 cs.length d5,.slice a7 G.length d7,.slice a9 ts.length d9⟩ F cs G ts []) B I (L-4) a c (AM zs) k9):=by have:=H9.o;simpa[Hid,Ai,List.append_assoc]using this
 go_upto_region 4 with fail
 refine An (fun u=>Hid (Br w u ((gb w.heap.size (⟨sN,sN,sN,sN⟩:VP)::Ai ⟨.slice a3 F.length d3,.slice a5 cs.length d5,.slice a7 G.length d7,.slice a9 ts.length d9⟩ F cs G ts [])++[gb u9.heap.size ⟨.slice a3 F.length d3,.slice a5 cs.length d5,.slice a7 G.length d7,.slice a9 ts.length d9⟩]) B I (L-4) a c (AM zs) k9)) (HP9.o.box 28 4 _ rfl) ?_;generalize u9.heap.size=X;intro v0 E0;have ED:=Af (E0.o.keep (Ae _));have hkL:=ED.o.got.at_.at_;have KS:∀u,Ap u I #[.slice a (L-4) c,iZ (k9:Int)] 102->(u.cell? ⟨I,0,none⟩=some (.slice a (L-4) c)/\u.cell? ⟨I,1,none⟩=some (iZ (k9:Int))):=fun u h=>⟨h.cell 0,h.cell 1⟩
 by_cases hk:k9=L-4;rotate_left
 . have hk2:¬(k9:Int)=((L-4:Nat):Int):=by omega
   have hk3:((k9:Int)==((L-4:Nat):Int))=false:=by simpa using hk2
   have HK:Hid (¬k9=zs.length-4):=by rw[HLen.o];exact hk
   refine wp_region_held_drew (S:=fun w'=>w'.cell? ⟨I,0,none⟩=some (.slice a (L-4) c)/\w'.cell? ⟨I,1,none⟩=some (iZ (k9:Int))) (by kernel_rfl) (KS _ ED.o.got.at_.blk) (fun hHeld=> ?_)
   generalize v0.drew=UD at ED hHeld⊢;refine Ar 0 ?_;refine Ar 1 ?_;refine Ar 2 ?_;refine Ar 3 ?_;refine Ar 4 ?_;refine Ar 5 ?_;refine Ar 6 ?_;refine Ar 7 ?_;refine Ar 8 ?_;refine Ar 9 ?_;go_simp;refine FL 10 ?_;intro KC hKC;go_simp;refine(DK 5 _).mono ?_;rintro e v2 ⟨rfl,hv⟩;obtain rfl:=hv.symm;unfold Ba;go_wp2
   exact⟨rfl,.inl ⟨5,rfl,by omega,.inr (.inr (.inr (.inr (.inl ⟨_,k9,HST.o.1,HST.o.2,HVS.o,HPR.o,HK.o,rfl,rfl⟩)))),ED.o.got.chg⟩⟩
 have hk3:((k9:Int)==((L-4:Nat):Int))=true:=by rw[hk];simp
 have HK:Hid (k9=zs.length-4):=by rw[HLen.o];exact hk
 clear hk;refine wp_region_held_drew (S:=fun w'=>w'.cell? ⟨I,0,none⟩=some (.slice a (L-4) c)/\w'.cell? ⟨I,1,none⟩=some (iZ (k9:Int))) (by kernel_rfl) (KS _ ED.o.got.at_.blk) (fun hHeld=> ?_)
 generalize v0.drew=UD at ED hHeld⊢;refine Ar 0 ?_;refine Ar 1 ?_;refine Ar 2 ?_;refine Ar 3 ?_;refine Ar 4 ?_;refine Ar 5 ?_;refine Ar 6 ?_;refine Ar 7 ?_;refine Ar 8 ?_;refine Ar 9 ?_;clear hHeld;go_simp;refine FL 10 ?_;intro KC hKC;go_simp;refine(DL 5 _).mono ?_;rintro e v2 ⟨rfl,hv⟩;obtain rfl:=hv.symm;go_simp;refine hKC.o _ _ (KS _ ED.o.got.at_.blk) (fun hHeld=> ?_);refine wpAnyH_done (by kernel_rfl) ?_ _;obtain⟨⟨y0,y1,y2,y3⟩,-⟩:=ED.o.four (List.mem_append_right _ (show gb X ⟨.slice a3 F.length d3,.slice a5 cs.length d5,.slice a7 G.length d7,.slice a9 ts.length d9⟩∈_ by simp));go_wp2_with fail
 have HO:=Af ((ED.o.sub (M:=Ai ⟨.slice a3 F.length d3,.slice a5 cs.length d5,.slice a7 G.length d7,.slice a9 ts.length d9⟩ F cs G ts []) ((List.sublist_cons_self _ _).trans (dA _ _))).sep.ownPD);refine(DJ ⟨.slice a3 F.length d3,.slice a5 cs.length d5,.slice a7 G.length d7,.slice a9 ts.length d9⟩ ⟨F.map Prod.fst,cs,G.map Prod.fst,ts⟩ UD HSW.1 HSW.2 HO.o.rd HO.o.regions.rdc HO.o.funcs.rdp).mono ?_;rintro e v3 ⟨⟨n,rfl,hf⟩,hb⟩;have E3:=Af (ED.o.keep hb);have HFI:=Af hf;have HSM:=Af HSW.1;obtain⟨⟨y0,y1,y2,y3⟩,-⟩:=E3.o.four (List.mem_append_right _ (show gb X ⟨.slice a3 F.length d3,.slice a5 cs.length d5,.slice a7 G.length d7,.slice a9 ts.length d9⟩∈_ by simp));obtain⟨⟨q0,q1,q2,q3⟩,f0,f1,f2,f3⟩:=E3.o.four (List.mem_append_left _ (bp (a:=gb w.heap.size (⟨sN,sN,sN,sN⟩:VP))));by_cases hn:n=0
 . subst hn
   rw[show FT 0=.nilIface from rfl];go_wp2_with (go_at_call 72;refine(DL 6 _).mono ?_;rintro e v4 ⟨rfl,hu⟩;obtain rfl:=hu.symm);have HF:=Af (Br.four_set (C:=Ai ⟨.slice a3 F.length d3,.slice a5 cs.length d5,.slice a7 G.length d7,.slice a9 ts.length d9⟩ F cs G ts []++[gb X ⟨.slice a3 F.length d3,.slice a5 cs.length d5,.slice a7 G.length d7,.slice a9 ts.length d9⟩]) E3.o (.slice a3 F.length d3) (.slice a5 cs.length d5) (.slice a7 G.length d7) (.slice a9 ts.length d9));generalize (((v3.setCell ⟨w.heap.size,0,none⟩ (.slice a3 F.length d3)).setCell ⟨w.heap.size,1,none⟩ (.slice a5 cs.length d5)).setCell ⟨w.heap.size,2,none⟩ (.slice a7 G.length d7)).setCell ⟨w.heap.size,3,none⟩ (.slice a9 ts.length d9)=WF at HF⊢;obtain⟨⟨r0,r1,r2,r3⟩,-⟩:=HF.o.four (bp (a:=gb w.heap.size ⟨.slice a3 F.length d3,.slice a5 cs.length d5,.slice a7 G.length d7,.slice a9 ts.length d9⟩));have HPF:=Af ((HF.o.sub (M:=Ai ⟨.slice a3 F.length d3,.slice a5 cs.length d5,.slice a7 G.length d7,.slice a9 ts.length d9⟩ F cs G ts []) ((dA _ _).trans (List.sublist_cons_self _ _))).sep)
   exact aW (v:=.agg #[.slice a3 F.length d3,.slice a5 cs.length d5,.slice a7 G.length d7,.slice a9 ts.length d9]) (by simp[results,Tryz.results49,go_sem,r0,r1,r2,r3]) rfl (.inr ⟨⟨.slice a3 F.length d3,.slice a5 cs.length d5,.slice a7 G.length d7,.slice a9 ts.length d9⟩,F,cs,G,ts,rfl,HPF.o,HSM.o,.inr (.inr (.inr (.inr (.inr (.inr ⟨HST.o.1,HST.o.2,HVS.o,by rw[<-HK.o];exact HPR.o,HFI.o,rfl⟩))))),HF.o.got.chg⟩)
 . rw[show FT n=.iface 90 (iZ n)from bX hn]
   go_wp2_with (go_at_call 72;refine(DK 6 _).mono ?_;rintro e v4 ⟨rfl,hu⟩;obtain rfl:=hu.symm;unfold Ba)
   exact⟨rfl,.inl ⟨6,rfl,by omega,.inr (.inr (.inr (.inr (.inr (.inl ⟨_,n,HST.o.1,HST.o.2,HVS.o,by rw[<-HK.o];exact HPR.o,HFI.o,hn,rfl,rfl⟩))))),E3.o.got.chg⟩⟩
end Go.Proofs.YtjcamlobelcepaaGreatDoor
