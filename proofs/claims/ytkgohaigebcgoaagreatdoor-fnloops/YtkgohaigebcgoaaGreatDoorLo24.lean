import Derived.Test.YtkgohaigebcgoaaGreatDoorLo22
namespace Go.Proofs.YtkgohaigebcgoaaGreatDoor
open Go.ChangeShapes Go.WideShapes Go.ChangeAt Go.RowKit Go.Proofs.Tryz
set_option linter.unusedVariables false
open Go renaming World → Y,Value → J,Calls → Ai
open Go.IntKind renaming i64 → Af
open Go.Value renaming int → Ag,agg → An,slice → Z,tuple → Ap
open Go.Proofs.Tryz renaming prog → Aq
open Option renaming some → K,none → M
open Go.RowKit renaming Hid → Ae,Below → Ah
open Go.Obj renaming cells → Ak
open Go.Ending renaming returned → Am
open Go.World renaming setCell → Aa,ownsRow → Ab,alloc → Ac
open List renaming flatMap → Ad
set_option maxHeartbeats 8000000
set_option maxRecDepth 100000
variable {w:Y}{b:Nat}{f:MF}{done l:List Nat}{m:MB}{xs:List MI}{p:MP}{V:J}
theorem Pr(k:Nat)(a:k<30):∃(s:ByteArray) (c f:Int),(Jt k).toArray=#[.string s,Ag Af c,Ag Af f]/\0<=c/\c<=4294967295:=by
 have h:k=0\/k=1\/k=2\/k=3\/k=4\/k=5\/k=6\/k=7\/k=8\/k=9\/k=10\/k=11\/k=12\/k=13\/k=14\/k=15\/k=16\/k=17\/k=18\/k=19\/k=20\/k=21\/k=22\/k=23\/k=24\/k=25\/k=26\/k=27\/k=28\/k=29:=oM
 clear a;rcases h with rfl|rfl|rfl|rfl|rfl|rfl|rfl|rfl|rfl|rfl|rfl|rfl|rfl|rfl|rfl|rfl|rfl|rfl|rfl|rfl|rfl|rfl|rfl|rfl|rfl|rfl|rfl|rfl|rfl|rfl<;>exact⟨_,_,_,rfl,dC,dC⟩
theorem Hw(op:Int):∃(s:ByteArray) (c f:Int),CL op=#[.string s,Ag Af c,Ag Af f]/\Ks c:=by
 by_cases h:0<=op/\op<=29
 . unfold CL;rw[jP h];exact Pr _ oM
 unfold CL;rw[jH h];exact⟨_,_,_,rfl,dC,dC⟩
theorem Q5(s:ByteArray)(c f:Int)(w:Y):(Instr.field 78 (An #[.string s,c,f]) 1).run Aq w=.ok c w:=kR
structure KD(w:Y)(m:MM)(T:List (List MC))(am ao ak:Option Addr)(cm co ck:Nat)(g o k:Nat)(ws ts:List Int)(aw:Option Addr)(cw:Nat)(y:J):Prop where
 ix:∀W,(Instr.index 133 (An #[Z am m.ins cm,Z ao m.outs co,Z ak m.keeps ck]) k).run Aq W=.ok (Z aw ws cw) W
 ik:w ⟨g,o+k,M⟩=K y
 rw_:Rd w 1 (Z aw ws cw) ws (Ad JJ ws)
 rt:Rd w 1 y ts (Ad As ts)
 len:ws.length= ↑ts
 big:ts.length<=1048576
 at_:T[k]?=K (Ba ts ws)
theorem qk{wr b:Y}{v:VP}{i:VM}{X f:Nat}{V d:J}{e:List MC}{C:List (J×List MC)}{a:Option Addr}{c6:Nat}{ts c:List Int}(h:BL w wr v i X f V d e C)(g:Ah wr wr b)(m:Ab b wr 193 2 (Z a ts c6) ts (Ad MC.cells (Ba ts c)))(l:c.length= ↑ts):
 BL w (Ac b (Ak #[Z a ts c6] 45)) v i X f V d e C/\Cv (Ac b (Ak #[Z a ts c6] 45)) w (C++[(Z a ts c6,Ba ts c)]++[(d,e)])/\∀j u,[(Z a ts c6:J)][j]?=K u->(Ac b (Ak #[Z a ts c6] 45)) ((⟨b,0,M⟩:Addr).add j)=K u:=by
 refine⟨(h.av g).av (Al _ _),(Cv.add h.eT g (by rw[Dw ts c l];exact m) h.args.cq.size).av (Al _ _), λj u k=> ?_⟩;rw[Cx,kT,mU _ _ _ _ _ _ (Fu b #[Z a ts c6] 45)];simpa using k
theorem Nq(v:VP)(p:MP)(vm:VM)(m:MM)(w:Y)(hs:p.small)(hw:p.wf)(h:ET w v p)(aH:EY w v.r p.az)(aI:FZ w v.f p.aB)(ms:m.small)(mw:m.wf)(hm:YQ w vm m):
 Ai Aq 16 #[An #[v.r,v.k,v.f,v.t],An #[vm.i,vm.o,vm.k]] w λe w'=>∃(C:List (J×List MC)) (K:List MC) (F:List (MG×J)) (tr:Int) (x:VS),e=Am (An #[tr,false,Ag Af 0,Ag Af 0,x.c,x.k,x.f])/\Gg p m (A3 tr false 0 0 C K F)/\TD C K F/\AB w' w x C K F/\Ah w w w':=by
 obtain⟨j0,hj,bS,bT,bV⟩:=km pg;have H:Ae (p.small/\p.wf/\ET w v p/\m.small/\YQ w vm m/\EY w v.r p.az/\FZ w v.f p.aB/\m.wf):=⟨hs,hw,h,ms,hm,aH,aI,mw⟩
 obtain⟨q,A,em⟩:=hm.ins.aP;obtain⟨s,co,eo⟩:=hm.outs.aP;obtain⟨n,ck,ek⟩:=hm.keeps.aP;obtain⟨vi,vo,cH⟩:=vm;simp only[]at em eo ek;subst em eo ek;clear hs hw h ms hm aH aI mw;go_enter func16,ntmps16;go_wp2_with fail;have E0:=JP.of w v ⟨Z q m.ins A,Z s m.outs co,Z n m.keeps ck⟩;refine(Ns v p ⟨Z q m.ins A,Z s m.outs co,Z n m.keeps ck⟩ m _ H.1 H.2.1 (H.2.2.1.av E0.cq lR) (H.2.2.2.2.2.1.av E0.cq lR) (H.2.2.2.2.2.2.1.av E0.cq lR) H.2.2.2.1 H.2.2.2.2.2.2.2 (H.2.2.2.2.1.av E0.cq lR)).mono ?_;rintro e u1 ⟨⟨b1,rfl,ai⟩,aA⟩;have E1:Ae (JP w u1 v ⟨Z q m.ins A,Z s m.outs co,Z n m.keeps ck⟩):=E0.av aA;clear E0 aA;cases b1
 . (have HN:Ae (¬CS p m):= λe=>absurd (ai.2 e) lF);clear ai;have B:=E1.rb.cell 0;have D:=E1.rb.cell 1;have E:=E1.rb.cell 2;have r3:=E1.rb.cell 3;have r4:=E1.rb.cell 4;have r5:=E1.rb.cell 5;have r6:=E1.rb.cell 6;have p0:=E1.rb.frozen 0;have p1:=E1.rb.frozen 1;have p2:=E1.rb.frozen 2;have p3:=E1.rb.frozen 3;have p4:=E1.rb.frozen 4;have p5:=E1.rb.frozen 5;have p6:=E1.rb.frozen 6;simp only[i5,f8,i6]at B D E r3 r4 r5 r6;go_wp2_with fail;have R4:=((((((E1.rb.set 0 (Ag Af 7)).set 1 false).set 2 (Ag Af 0)).set 3 (Ag Af 0)).set 4 (Z M 0 0)).set 5 (Z M 0 0)).set 6 (Z M 0 0);have q0:=R4.cell 0;have q1:=R4.cell 1;have q2:=R4.cell 2;have q3:=R4.cell 3;have q4:=R4.cell 4;have q5:=R4.cell 5;have q6:=R4.cell 6;simp at q0 q1 q2 q3 q4 q5 q6;exact kA (v:=An #[Ag Af 7,false,Ag Af 0,Ag Af 0,Z M 0 0,Z M 0 0,Z M 0 0]) (by simp[results,results16,go_sem,q0,q1,q2,q3,q4,q5,q6]) rfl ⟨[],[],[],7,⟨Z M 0 0,Z M 0 0,Z M 0 0⟩,rfl,.inr ⟨HN,rfl⟩,⟨sP,sP,sP,sP,sP⟩,ME _ _,((((((E1.cq.setCell oS _).setCell oS _).setCell oS _).setCell oS _).setCell oS _).setCell oS _).setCell oS _⟩
 have HV:Ae (CS p m):=ai.1 rfl;clear ai;obtain⟨g,o,c,B,D,E,y0,y1,y2,G⟩:=Wz.of H.2.2.1 HV.1.ok.1.1;obtain⟨gf,of,cf,nf,f,z,hF⟩:=oe.of H.2.2.2.2.2.2.1 H.1 HV.1.ok.2.2.1;have I:Ae (oe w v.f p gf of cf nf f z):=hF;have HR:Ae (p.az=[B,D,E]):=G.eq;have S:(m.ins.length= ↑B/\Cz m.outs D/\Cz m.keeps E):=(CS.iff HV.1 G.eq).1 HV
 have R:B.length<=1048576/\D.length<=1048576/\E.length<=1048576:=by have:=H.1.region;rw[G.eq]at this;exact⟨this B sP,this D sP,this E sP⟩
 have HK:Ae (∀k,k<3->∃ws ts aw cw y,KD w m [Ba B m.ins,Ba D m.outs,Ba E m.keeps] q s n A co ck g o k ws ts aw cw y):=by
  intro k hk;obtain rfl|rfl|rfl:k=0\/k=1\/k=2:=oM
  . exact⟨m.ins,B,q,A,y0, λW=>(Gy q s n m.ins m.outs m.keeps A co ck W).1,G.i0,H.2.2.2.2.1.ins,G.k0,S.1,R.1,rfl⟩
  . exact⟨m.outs,D,s,co,y1, λW=>(Gy q s n m.ins m.outs m.keeps A co ck W).2.1,G.i1,H.2.2.2.2.1.outs,G.k1,S.2.1.1,R.2.1,rfl⟩
  exact⟨m.keeps,E,n,ck,y2, λW=>(Gy q s n m.ins m.outs m.keeps A co ck W).2.2,G.i2,H.2.2.2.2.1.keeps,G.k2,S.2.2.1,R.2.2,rfl⟩
 have HT:Ae (∀x∈[Ba B m.ins,Ba D m.outs,Ba E m.keeps],x.length<=1048576):=by
  intro x hx;simp only[jK,jO,kM]at hx;rcases hx with rfl|rfl|rfl
  . rw[Dw _ _ S.1];exact R.1
  . rw[Dw _ _ S.2.1.1];exact R.2.1
  rw[Dw _ _ S.2.2.1];exact R.2.2
 obtain⟨vr,vk,vf,vt⟩:=v;have aQ:=G.rows;have aJ:=hF.rows;simp only[]at aQ aJ;subst aQ aJ;clear G hF S R;obtain⟨zp,zl,zc⟩:=z;obtain⟨bp,dp,ep⟩:∃a c,zp=Z a f.aD c:=I.rd.1.aP;obtain⟨bl,dl,el⟩:∃a c,zl=Z a f.a7 c:=I.rd.2.1.aP;obtain⟨bc,dc,ec⟩:∃a c,zc=Z a f.aU c:=I.rd.2.2.aP;subst ep el ec;have O:=I.av E1.cq;have kf:=E1.pb.cell 2;have k0:=O.i0;have k1:=O.i1;have k2:=O.i2;have k3:=O.i3;have cg:=O.pos;have bZ:=O.big;simp only[i5,f8,i6]at kf k0 k1 k2 k3;have aa:Ae _:=O;clear O;go_wp2_with fail;refine(GU ⟨Z bp f.aD dp,Z bl f.a7 dl,Z bc f.aU dc⟩ f _ aa.small aa.rd aa.pp aa.pl).mono ?_;rintro e u2 ⟨rv,rfl,aq,b2⟩;have aM: ↑f.aD+ ↑f.a7=(f.aD++f.a7).length:=sP
 rw[aM]at aq;have E2:Ae (JP w u2 ⟨Z (some ⟨g,o,M⟩) 3 c,vk,Z (some ⟨gf,of,M⟩) nf cf,vt⟩ ⟨Z q m.ins A,Z s m.outs co,Z n m.keeps ck⟩/\Rd u2 1 rv (f.aD++f.a7).length (Ad As (f.aD++f.a7))):=⟨E1.av b2,Rd.eS aq⟩
 clear aq b2 aM kf k0 k1 k2 k3 aa;go_wp2_with fail;have aK:(f.aD++f.a7).length<=4194304:=by have bP:=I.small;rw[I.nop,k7];exact jN bP.2.1 oM
 refine(KZ rv (f.aD++f.a7) _ aK E2.2).mono ?_;rintro e u3 ⟨L,N,rfl,au,b3⟩;rw[I.nop,k7]at au⊢;have E3:Ae (JP w u3 ⟨Z (some ⟨g,o,M⟩) 3 c,vk,Z (some ⟨gf,of,M⟩) nf cf,vt⟩ ⟨Z q m.ins A,Z s m.outs co,Z n m.keeps ck⟩/\Ab u3 w 193 2 (Z L f.a7 N) (A9 f.a7).length (Ad MC.cells (A9 f.a7))):=⟨E2.1.av b3,by rw[Gf];exact MD au E2.1.cq.size⟩
 clear au b3 E1 aK;have E4:Ae _:=BL.of E3.1 E3.2;have m0:=E4.args.mb.cell 0;have m1:=E4.args.mb.cell 1;have m2:=E4.args.mb.cell 2;simp only[i5,f8,i6]at m0 m1 m2;go_wp2_with fail;refine(KX q s n m.ins m.outs m.keeps A co ck _).mono ?_;rintro e u5 ⟨rfl,aE⟩;have E5:Ae (BL w u5 ⟨Z (some ⟨g,o,M⟩) 3 c,vk,Z (some ⟨gf,of,M⟩) nf cf,vt⟩ ⟨Z q m.ins A,Z s m.outs co,Z n m.keeps ck⟩ ((u3:Nat)+1) u3 (Z M 0 0) (Z L f.a7 N) (A9 f.a7) []):=E4.av aE;clear aE E4 E3 E2 m0 m1 m2;generalize u3.heap.size+1=X at E5⊢;generalize u3.heap.size=U at E5;go_wp2;go_loopw [24] (λi wr=>∃(k:Nat) (V:J) (C:List (J×List MC)),k<=3/\i=Ag Af k/\Ae (C.map Prod.snd=[Ba B m.ins,Ba D m.outs,Ba E m.keeps].take k/\BL w wr ⟨Z (some ⟨g,o,M⟩) 3 c,vk,Z (some ⟨gf,of,M⟩) nf cf,vt⟩ ⟨Z q m.ins A,Z s m.outs co,Z n m.keeps ck⟩ X U V (Z L f.a7 N) (A9 f.a7) C)) (λi _=>3-(intOf i).toNat)
 case atStart=>exact⟨0,_,[],oM,rfl,rfl,E5⟩
 clear E5;obtain⟨k,V,C,hk,rfl,l⟩:=hrel;by_cases bI:k<3
 . obtain⟨ws,ts,aw,cw,y,hK⟩:=HK.o k bI;have aW:Ae _:=hK;have ix:=hK.ix;have aG:=l.2.args.cq;have aF: ↑C=k:=by have:=congrArg List.length l.1;simp at this;omega
   obtain⟨b,d,rfl⟩:∃a c,y=Z a ts c:=hK.rt.aP;have ik:=hK.ik;rw[<-aG.cell (i7 ik)]at ik;have bY:=EJ (At wr) ik;have kr:=(l.2.args.pb.av (At wr)).cell 0;have ks:=(l.2.st.av (At wr)).cell 4;simp only[i5,f8,i6]at kr ks;have ce:(k:Int)<3:=oM;have P:Ae (KD w m [Ba B m.ins,Ba D m.outs,Ba E m.keeps] q s n A co ck g o k ws ts aw cw (Z b ts d)/\ ↑C=k):=⟨hK,aF⟩
   clear hK aW aG ik aF;go_wp2_with fail;go_region_law (first
    |(refine step_append_lies _ rfl (.tmp 29) (.tmp 37) 44 rfl w 45 j0 (Z M 0 0) 1 24 underlying44 hj bS bT bV rfl dC V C (Ad JE C) oE Q.1.row u6 1 1 [Z a6 ts c6] oE rfl Q.2.2 (λu hu=>by simp at hu;subst hu;rfl) oM (by have:=P.2;unfold maxLen;omega) (by have:=P.2;omega) Q.1.args.cq.size _ rfl ?_;intro gg cap u8 aO aj bG bJ;have HN:Ae (BL w (Aa u8 ⟨X,4,M⟩ (Z gg (C.length+1) cap)) ⟨Z (some ⟨g,o,M⟩) 3 c,vk,Z (some ⟨gf,of,M⟩) nf cf,vt⟩ ⟨Z q m.ins A,Z s m.outs co,Z n m.keeps ck⟩ X U (Z gg (C.length+1) cap) (Z L f.a7 N) (A9 f.a7) (C++[(Z a6 ts c6,Ba ts ws)])):=BL.next Q.1 Q.2.1 aj aO rfl;have ax:=Q.1.st.grown aj Q.1.row dC;have y0:=ax.cell 4;have y1:=ax.frozen 4;simp only[i5,f8,i6]at y0;clear aO aj bG bJ ax)
    |(go_simp;go_at_call 44;refine(Qy (Z b ts d) (Z aw ws cw) ws ts _ P.1.big P.1.len ?_ ?_).mono ?_;exact P.1.rw_.av (Ar l.2.args.cq lR (At _)) lR;exact P.1.rt.av (Ar l.2.args.cq lR (At _)) lR;rintro e u6 ⟨a6,c6,rfl,aR,b6⟩;have B6:Ae (Ah wr wr u6):=Bs b6 lR;have Q:Ae (BL w (Ac u6 (Ak #[Z a6 ts c6] 45)) ⟨Z (some ⟨g,o,M⟩) 3 c,vk,Z (some ⟨gf,of,M⟩) nf cf,vt⟩ ⟨Z q m.ins A,Z s m.outs co,Z n m.keeps ck⟩ X U V (Z L f.a7 N) (A9 f.a7) C/\Cv (Ac u6 (Ak #[Z a6 ts c6] 45)) w (C++[(Z a6 ts c6,Ba ts ws)]++[(Z L f.a7 N,A9 f.a7)])/\∀j u,[(Z a6 ts c6:J)][j]?=some u->(Ac u6 (Ak #[Z a6 ts c6] 45)) ((⟨u6,0,M⟩:Addr).add j)=some u):=(show _ from qk l.2 B6 aR P.1.len);have x0:=(l.2.av B6).st.cell 4;have x1:=Q.1.st.cell 4;simp only[i5,f8,i6]at x0 x1;clear aR b6))
   all_goals
    clear ix bY kr ks;(try clear x0 x1 y0 y1);go_wp2;go_roundw;(case rel=>exact⟨k+1,_,_,oM,by go_num,⟨by rw[k8,l.1,OE _ k _ P.1.at_];rfl,HN⟩⟩);exact oI
 skip
 obtain rfl:k=3:=oM;obtain⟨aV,cV,rfl⟩:∃a c,V=Z a C c:=(Rd.eS l.2.row).aP;have ae:C.map Prod.snd=[Ba B m.ins,Ba D m.outs,Ba E m.keeps]:=l.1;have aS:Ae (Gg p m (A3 0 false 0 0 C [] [(⟨0,0,0,A9 f.a7⟩,Z L f.a7 N)])):=by obtain⟨fs,bH⟩:=I.eq;refine .inl ⟨HV,B,D,E,f,fs,HR,bH,?_⟩;unfold A3 Ca;rw[ae];rfl
 have aT:Ae (TD C [] [(⟨0,0,0,A9 f.a7⟩,Z L f.a7 N)]):=by
  refine⟨?_,?_,sP,sP,?_⟩
  . have:=congrArg List.length ae;simp at this;omega
  . intro x hx;exact HT.o x.2 (by rw[<-ae];exact l9 hx)
  intro x hx;simp only[jK,jO,kM]at hx;subst hx;simp only[Gf];exact I.small.2.1
 clear ae;have bQ:¬X= ↑w+1+1:=by have:=l.2.jt;omega
 have cj:¬ ↑w+1+1=X:= λe=>bQ e.symm
 have aX:=l.2.st.cell 0;have aY:=l.2.st.cell 1;have aZ:=l.2.st.cell 2;have bf:=l.2.st.cell 3;have bg:=l.2.st.cell 4;have bi:=l.2.st.cell 5;have bj:=l.2.st.cell 6;have bq:=l.2.args.rb.cell 0;have br:=l.2.args.rb.cell 1;have bt:=l.2.args.rb.cell 2;have bu:=l.2.args.rb.cell 3;have bx:=l.2.args.rb.cell 4;have bB:=l.2.args.rb.cell 5;have bC:=l.2.args.rb.cell 6;have cI:=l.2.args.rb.frozen 0;have cJ:=l.2.args.rb.frozen 1;have cK:=l.2.args.rb.frozen 2;have cM:=l.2.args.rb.frozen 3;have cQ:=l.2.args.rb.frozen 4;have cR:=l.2.args.rb.frozen 5;have cT:=l.2.args.rb.frozen 6;simp only[i5,f8,i6]at aX aY aZ bf bg bi bj bq br bt bu bx bB bC;go_wp2_with fail;have R0:=l.2.args.rb.set 0 (Ag Af 0);have R1:=R0.set 1 false;have R2:=R1.set 2 (Ag Af 0);have R3:=R2.set 3 (Ag Af 0);have R4:=R3.set 4 (Z aV C cV);have R5:=R4.set 5 (Z M 0 0);have T:=R5.set 6 (Z U 1 1);have q0:=T.cell 0;have q1:=T.cell 1;have q2:=T.cell 2;have q3:=T.cell 3;have q4:=T.cell 4;have q5:=T.cell 5;have q6:=T.cell 6;simp at q0 q1 q2 q3 q4 q5 q6;exact kA (v:=An #[Ag Af 0,false,Ag Af 0,Ag Af 0,Z aV C cV,Z M 0 0,Z U 1 1]) (by simp[results,results16,go_sem,q0,q1,q2,q3,q4,q5,q6]) rfl ⟨C,[],[(⟨0,0,0,A9 f.a7⟩,Z L f.a7 N)],0,⟨Z aV C cV,Z M 0 0,Z U 1 1⟩,rfl,aS,aT,(((((((l.2.own.fy l.2.args.rb 0 (Ag Af 0)).fy R0 1 false).fy R1 2 (Ag Af 0)).fy R2 3 (Ag Af 0)).fy R3 4 (Z aV C cV)).fy R4 5 (Z M 0 0)).fy R5 6 (Z U 1 1)),(((((((l.2.args.cq.setCell oS _).setCell oS _).setCell oS _).setCell oS _).setCell oS _).setCell oS _).setCell oS _)⟩
structure WI where
 c:Nat->Bool
 r:Nat->List Int
 d:Nat
def Fx(a:List MB)(b:Nat):Nat:=match a[b]? with|some m=>m.cz.toNat|none=>0
def Jd(C:Nat->Bool)(t:Nat):Nat->Bool:= λj=>if j=t then true else C j
def Ff(a:List MB):List Nat->List Int->(Nat->Bool)->(Nat->List Int)->Option ((Nat->Bool)×(Nat->List Int))
 |[],_,C,R=>K (C,R)
 |t::r,sh,C,R=>if C t=true then(if R (Fx a t)=sh then Ff a r sh C R else M)else Ff a r sh (Jd C t) (Ec R (Fx a t) sh)
abbrev OV:=Sum (Int×Nat) WI
def Hd(p:MP)(f:MF)(a:List MB)(m:MB)(s:WI):OV:=match DV p f (m.last-m.cz+1).toNat m.cz.toNat (s.r m.cz.toNat) s.r s.d with
 |.inl e=>.inl e
 | .inr (sh,R,D)=>match Ff a (m.next.map Int.toNat) sh s.c R with
   |none=>.inl (4,m.last.toNat)
   |some (C,R')=>.inr ⟨C,R',D⟩
def Ic(p:MP)(f:MF)(a:List MB):List Nat->WI->OV
 |[],s=>.inr s
 | b ::r,s=>match a[b]? with
   |none=>.inr s
   | some m=>match Hd p f a m s with
     |.inl e=>.inl e
     |.inr s'=>Ic p f a r s'
def Wo:WI:=⟨λb=>decide (b=0), λ_=>[],0⟩
def nV(n:Nat):OV->Qh
 |.inl (c,a)=>⟨c,(a:Int),0,[]⟩
 |.inr s=>⟨0,0,(s.d:Int),(List.range n).map s.r⟩
theorem Yr(p:MP)(f:MF)(c:Nat):∀(a:Nat) (b:List Int) (T g:Nat->List Int) (D:Nat),a+c<= ↑f.aU->(∀e,DV p f c a b T D=.inl e->DV p f c a b g D=.inl e)/\∀s2 d i,DV p f c a b T D=.inr (s2,d,i)->∃k,DV p f c a b g D=.inr (s2,k,i)/\(∀j,j<a\/a+c<=j->d j=T j/\k j=g j)/\(∀j,a<=j->j<a+c->d j=k j)/\(0<c->d a=b):=by
 induction c with
 | zero=>intro a b T g D s;refine⟨λe h=>by simp[DV]at h, λs2 d i h=> ?_⟩;simp only[DV,Sum.inr.injEq,Prod.mk.injEq]at h;obtain⟨rfl,rfl,rfl⟩:=h;exact⟨g,rfl, λj _=>⟨rfl,rfl⟩, λj q n=>oM, λh=>oM⟩
 | succ c w=>
   intro a b T g D s;obtain⟨x,t⟩:∃x,f.aU[a]?=K x:=⟨_,an oM⟩;simp only[DV,t];by_cases m:BJ p f x b=0
   . rw[jP m,jP m];obtain⟨u,v⟩:=w (a+1) (Dr p f x b) (Ec T a b) (Ec g a b) (max D (Dr p f x b).length) oM;refine⟨u, λs2 d i h=> ?_⟩;obtain⟨k,q,n,r,y⟩:=v s2 d i h;have l:=n a (.inl oM);simp only[Ec,if_true]at l;refine⟨k,q, λj z=> ?_, λj A B=> ?_, λ_=>l.1⟩
     . have:=n j oM;simp only[Ec]at this;rw[jH oM,jH oM]at this;exact this
     by_cases e:j=a
     . subst e;rw[l.1,l.2]
     exact r j oM oM
   rw[jH m,jH m];exact⟨λe h=>h, λs2 d i h=>by cases h⟩
structure OU(bs:List MB)(done:List Nat)(s:WS)(s':WI):Prop where
 c:∀b,s'.c b=(s.c b).isSome
 d:s'.d=s.d
 dn:∀b∈done,b< ↑bs/\s.c b=K (s.t (Fx bs b))
 wt:∀b,b< ↑bs->b∉done->∀sh,s.c b=K sh->s'.r (Fx bs b)=sh
 eq:∀j,(∀b,b< ↑bs->b∉done->Fx bs b=j->s.c b=M)->s'.r j=s.t j
theorem XT{f:List MB}(F:∀a b,a< ↑f->b< ↑f->Fx f a=Fx f b->a=b){T:Nat->List Int}{D:Nat}(p:List Int)(nx:List Nat):∀(C:Nat->Option (List Int)) (m:Nat->Bool) (R:Nat->List Int),(∀t∈nx,t< ↑f)->OU f done ⟨C,T,D⟩ ⟨m,R,D⟩->(Mp nx p C=M/\Ff f nx p m R=M)\/∃C2 r s,Mp nx p C=K C2/\Ff f nx p m R=K (r,s)/\OU f done ⟨C2,T,D⟩ ⟨r,s,D⟩/\(∀t∈nx,(C2 t).isSome=true)/\(∀t,(C t).isSome=true->(C2 t).isSome=true):=by
 induction nx with
 | nil=>intro C m R _ h;exact .inr ⟨C,m,R,rfl,rfl,h, λt ht=>(by cases ht), λt ht=>ht⟩
 | cons t nx N=>
   intro C m R H h;have z:=H t sP;(have I:∀t∈nx,t<f.length:= λq k=>H q (by simp[k]));have n:=h.c t;simp only[]at n;cases e:C t with
   | some s1=>
     have O:R (Fx f t)=s1:=by
      by_cases w:t∈done
      . have d:=h.eq (Fx f t) (λb l v x=>absurd (by rw[F b t l z x];exact w) v);have g:=(h.dn t w).2;simp only[]at d g;rw[d];rw[e]at g;exact(jM g).symm
      exact h.wt t z w s1 e
     rw[e]at n;simp only[Option.isSome_some]at n;simp only[Mp,Ff,e,n,O,if_true];by_cases y:s1=p
     . rw[jP y,jP y];rcases N C m R I h with⟨d,g⟩|⟨C2,r,s,d,g,A,B,u⟩
       . exact .inl ⟨d,g⟩
       refine .inr ⟨C2,r,s,d,g,A, λq k=> ?_,u⟩;rcases jK.1 k with rfl|k
       . exact u q (by rw[e];rfl)
       exact B q k
     rw[jH y,jH y];exact .inl ⟨rfl,rfl⟩
   | none =>
     rw[e]at n;simp only[Option.isSome_none]at n;(have L:t∉done:= λw=>by have:=(h.dn t w).2;simp only[]at this;rw[e]at this;cases this);have hrel:OU f done ⟨PM C t p,T,D⟩ ⟨Jd m t,Ec R (Fx f t) p,D⟩:=by
      refine⟨λb=> ?_,rfl, λb l=> ?_, λb l v s1 d=> ?_, λj G=> ?_⟩
      . simp only[PM,Jd];by_cases i:b=t
        . rw[jP i,jP i];rfl
        rw[jH i,jH i];exact h.c b
      . have:=h.dn b l;refine⟨this.1,?_⟩;simp only[PM];rw[jH (λq:b=t=>L (q▸l))];exact this.2
      . simp only[PM]at d;simp only[Ec];by_cases i:b=t
        . subst i;rw[jP rfl]at d;rw[jP rfl];exact jM d
        rw[jH i]at d;rw[jH (λq=>i (F b t l z q))];exact h.wt b l v s1 d
      simp only[Ec];by_cases E:j=Fx f t
      . have:=G t z L E.symm;simp only[PM,if_true]at this;cases this
      rw[jH E];(refine h.eq j λb l v x=> ?_);have:=G b l v x;simp only[PM]at this;by_cases i:b=t
      . subst i;exact absurd x.symm E
      rw[jH i]at this;exact this
     simp only[Mp,Ff,e,n];rw[jH sP];rcases N _ _ _ I hrel with⟨d,g⟩|⟨C2,r,s,d,g,A,B,u⟩
     . exact .inl ⟨d,g⟩
     refine .inr ⟨C2,r,s,d,g,A, λq k=> ?_, λq k=>u q ?_⟩
     . rcases jK.1 k with rfl|k
       . exact u q (by simp[PM])
       exact B q k
     simp only[PM];split
     . rfl
     exact k
structure P8(xs:List MI)(bs:List MB):Prop where
 inj:∀a b,a< ↑bs->b< ↑bs->Fx bs a=Fx bs b->a=b
 part:∀(b:Nat) (m:MB),bs[b]?=K m->∃a e:Nat,m.cz=(a:Int)/\m.last=(e:Int)/\a<=e/\e< ↑xs
 apart:∀(b t:Nat) (m:MB),bs[b]?=K m->t< ↑bs->b≠t->¬(m.cz<=(Fx bs t:Int)/\(Fx bs t:Int)<=m.last)
 next:∀(b:Nat) (m:MB),bs[b]?=K m->∀t∈m.next.map Int.toNat,t< ↑bs
theorem Jp{c:List MB}{a:Nat}(h:c[b]?=K m)(d:m.cz=(a:Int)):Fx c b=a:=by unfold Fx;rw[h];simp only[d,i9]
theorem Qs(k:Bb xs):P8 xs (AQ xs):=by
 refine⟨λa b d c h=> ?_, λb m h=>EQ h, λb t m h ht e=> ?_, λb m h t ht=> ?_⟩
 . apply kV;intro e;obtain⟨r,s,l,v,w,x⟩:=EQ (an d);obtain⟨g,i,f,n,p,q⟩:=EQ (an c);have u:=Jp (an d) l;have j:=Jp (an c) f;exact NZ (an d) (an c) e oM
 . obtain⟨g,i,f,n,p,q⟩:=EQ (an ht);have j:=Jp (an ht) f;have:=NZ h (an ht) e;omega
 have c:=(f7.1 h).1;exact Mv k b c t (by rw[TW h];exact ht)
theorem Yo{a:List MB}(k:P8 f.aU a)(i:a[b]?=K m)(G:b∉done){s:WS}{s':WI}(S:(s.c b).isSome=true)(h:OU a done s s'):(∃e,RH p f m b s=.inl e/\Hd p f a m s'=.inl e)\/∃s2 O,RH p f m b s=.inr s2/\Hd p f a m s'=.inr O/\OU a (b::done) s2 O/\(∀t∈m.next.map Int.toNat,(s2.c t).isSome=true)/\(∀t,(s.c t).isSome=true->(s2.c t).isSome=true):=by
 obtain⟨y,x⟩:=Option.isSome_iff_exists.1 S;obtain⟨g,n,D,R,h3,h4⟩:=k.part b m i;have E:=(f7.1 i).1;have H:=Jp i D;have N:=h.wt b E G y x;rw[H]at N;unfold RH Hd;have Q:(m.last-m.cz+1).toNat=n+1-g:=oM;rw[Q,D,R,i9,i9,x,N,mL,h.d];obtain⟨V,W⟩:=Yr p f (n+1-g) g y s.t s'.r s.d oM;cases hk:DV p f (n+1-g) g y s.t s.d with
 |inl e=>exact .inl ⟨e,rfl,by rw[V e hk]⟩
 | inr q=>
   obtain⟨P,C,v⟩:=q;obtain⟨B,X,u,q3,q4⟩:=W P C v hk;have qa:=q4 oM;rw[X];have hrel:OU a (b::done) ⟨s.c,C,v⟩ ⟨s'.c,B,v⟩:=by
    refine⟨h.c,rfl, λt ht=> ?_, λt ht l aa U=> ?_, λj I=> ?_⟩
    . rcases jK.1 ht with rfl|ht
      . exact⟨E,by simp only[];rw[H,qa];exact x⟩
      have q:=h.dn t ht;(have w:b≠t:= λq=>G (q▸ht));have:=k.apart b t m i q.1 w;refine⟨q.1,?_⟩;simp only[];rw[(u (Fx a t) oM).1];exact q.2
    . (have w:b≠t:= λq=>l (by simp[q]));have:=k.apart b t m i ht w;simp only[];rw[(u (Fx a t) oM).2];exact h.wt t ht (λq=>l (by simp[q])) aa U
    simp only[]at I⊢;by_cases L:g<=j/\j<g+(n+1-g)
    . exact(q3 j L.1 L.2).symm
    rw[(u j oM).1,(u j oM).2];(refine h.eq j λt ht l T=> ?_);by_cases F:t=b
    . subst F;omega
    exact I t ht (by simp[F,l]) T
   rcases XT k.inj P (m.next.map Int.toNat) s.c s'.c B (k.next b m i) hrel with⟨z,A⟩|⟨C2,ae,R3,z,A,z3,z4,z5⟩
   . simp only[];rw[z,A];exact .inl ⟨_,rfl,rfl⟩
   simp only[];rw[z,A];exact .inr ⟨_,_,rfl,rfl,z3,z4,z5⟩
theorem Yt{d:List MB}(C:P8 f.aU d)(a:List Nat):∀(done:List Nat) (s:WS) (s':WI),(∀b∈a,b< ↑d)->a.Nodup->(∀b∈a,b∉done)->(∀(A B:List Nat) (b:Nat),a=A++b::B->(s.c b).isSome=true\/∃q∈A,b∈nx d q)->OU d done s s'->(∃e,Ib p f d a s=.inl e/\Ic p f d a s'=.inl e)\/∃s2 j,Ib p f d a s=.inr s2/\Ic p f d a s'=.inr j/\OU d (a.reverse++done) s2 j:=by
 induction a with
 | nil=>intro done s s' _ _ _ _ h;exact .inr ⟨s,s',rfl,rfl,h⟩
 | cons b a H=>
   intro done s s' v E u w h;obtain⟨m,r⟩:∃m,d[b]?=K m:=⟨_,an (v b sP)⟩;have D:(s.c b).isSome=true:=by
    rcases w [] a b rfl with q|⟨_,q,_⟩
    . exact q
    cases q
   obtain⟨F,G⟩:=List.nodup_cons.1 E;simp only[Ib,Ic,r];rcases Yo (p:=p) C r (u b sP) D h with⟨e,k,l⟩|⟨s2,j,k,l,x,y,z⟩
   . rw[k,l];exact .inl ⟨e,rfl,rfl⟩
   rw[k,l];simp only[];have:=H (b::done) s2 j (λq i=>v q (by simp[i])) G (λq i t=>by
    rcases jK.1 t with rfl|t
    . exact F i
    exact u q (by simp[i]) t) (λA B q i=> ?_) x
   . simpa[List.reverse_cons,List.append_assoc]using this
   rcases w (b::A) B q (by rw[i];rfl)with g|⟨g,n,hgq⟩
   . exact .inl (z q g)
   rcases jK.1 n with rfl|n
   . rw[TW r]at hgq;exact .inl (y q hgq)
   exact .inr ⟨g,n,hgq⟩
theorem On(h:l.Nodup):l.reverse.Nodup:=by unfold List.Nodup at*;rw[List.pairwise_reverse];exact h.imp λh=> λe=>h e.symm
theorem pD{r:Ee}(h:Bl f.aU r)(k:r.aU=0):PL f.aU (Ib p f r.aC (r.dr.map Int.toNat) NM)=nV f.aU (Ic p f r.aC (r.dr.map Int.toNat) Wo):=by
 cases h with
 |none _=>cases k
 |off _ _ _=>cases k
 |lost _ _ _ _ _ _ _ _=>cases k
 |two _ _ _ _ _ _ _ _=>cases k
 | @good x S O D L I g x1 o1 v1 s1 d1 b1 i1 l1=>
   obtain⟨C,w,U,s,T⟩:=DR (GR g) (Mv g) v1 s1;simp only[];(have e:(ints O.reverse).map Int.toNat=O.reverse:=by unfold ints;rw[mJ];(conv=>rhs;rw[<-List.map_id O.reverse]);apply mG;intro a _;simp);rw[e];have hrel:OU (AQ f.aU) [] NM Wo:=by
    refine⟨λb=> ?_,rfl, λb i=>(by cases i), λb _ _ sh l=> ?_, λj _=>rfl⟩
    . simp only[NM,Wo];by_cases i:b=0
      . simp[i]
      simp[i]
    simp only[NM]at l;split at l
    . exact jM l
    cases l
   (have v:∀b∈O.reverse,b<(AQ f.aU).length:= λb i=>(s b).1 (kx.1 i));have N:∀(A B:List Nat) (b:Nat),O.reverse=A++b::B->(NM.c b).isSome=true\/∃q∈A,b∈nx (AQ f.aU) q:= λA B b i=>by
    by_cases u:b=0
    . subst u;exact .inl rfl
    (have G:b∈O.reverse:=by rw[i];simp);obtain⟨q,P,Q,W⟩:=C.par b (v b G) u;refine .inr ⟨q,?_,Q⟩;have R:q∈O.reverse:=kx.2 ((s q).2 P);(have V:Ea O b=A.length:=by unfold Ea;(have E:b∉A:= λz=>by (have H:(A++b::B).Nodup:=by rw[<-i];exact On w);exact(mX.1 H).2.2 b z b sP rfl);rw[i,List.idxOf_append];simp[E]);have y:(O.reverse)[Ea O q]?=K q:=H9 (kx.1 R);rw[i,kL oM]at y;exact hC y
   rcases Yt (p:=p) (Qs g) O.reverse [] NM Wo v (On w) (λb _ i=>by cases i) N hrel with⟨q,m,n⟩|⟨s2,X,m,n,t⟩
   . rw[m,n];rfl
   rw[m,n];simp only[PL,nV,t.d];(congr 1);apply mG;intro j _;refine(t.eq j λb i F _=>absurd ?_ F).symm;rw[lK,kx,kx];exact(s b).2 i
theorem Xs{r:Ee}{v p vl:J}(h:Bl xs r)(e:r.aU=0)(u:JU w v p V vl r):∃gb j l i k co O D L,v=sO gb j r.aC l/\p=sO i k r.aC co/\0<r.aC.length/\Gd r (nx r.aC) r.aC O D L/\∀x:GV,x.gb=gb->x.ob=j->x.go=i->x.oo=k->GF w r.aC x (nx r.aC) O.reverse:=by
 obtain⟨d,D,L,s⟩:=h.gd e;cases h with
 |none _=>cases e
 |off _ _ _=>cases e
 |lost _ _ _ _ _ _ _ _=>cases e
 |two _ _ _ _ _ _ _ _=>cases e
 | @good x S O D2 L2 I g x1 o1 v1 s1 d1 b1 i1 l1=>have n:=GR g;have q:∀b,b<(AQ xs).length->∀y∈nx (AQ xs) b,y<(AQ xs).length:=Mv g;obtain⟨X,aa,m,G,_⟩:=DR n q v1 s1;obtain⟨gb,j,l,z,H,_⟩:=K8.fC g u.aC;(have F:d=O:=by have C:ints d.reverse=ints O.reverse:=s.ord.symm;have E:d.reverse=O.reverse:=(List.map_inj_right (f:= λ(x:Nat)=>(x:Int)) (λa b h=>by have W:(a:Int)=(b:Int):=h;omega)).1 C;exact List.reverse_inj.1 E);subst F;(have t:Lp w p d.reverse:=by have:=u.dr;unfold Lp;rw[Ex];simp only[A4]at this;exact this);obtain⟨a,c,A⟩:=Rd.aP t;subst A;obtain⟨i,k,B,_,N⟩:=t.all (by rw[lB,m];exact n);subst B;refine⟨gb,j,l,i,k,c,d,D,L,z,by rw[lB,m],n,s, λx Q R T U=> ?_⟩;subst Q R T U;exact⟨H,N,by rw[lB,m], λy P=>(G y).1 (kx.1 P),q,Mw _ (Il xs)⟩
structure BK(w u:Y)(n gB:Nat)(FS:List (J×List Nat)):Prop where
 fA:Ab u w 27 1 (sG gB n n) n (FS.map Prod.fst)
 eT:CO u w (FS.map λx=>(x.1,ints x.2))
 cq:Ah w w u
theorem BK.av{w u d:Y}{n c:Nat}{b:List (J×List Nat)}(h:BK w u n c b)(a:Ah u u d):BK w d n c b:=⟨AC h.fA a lR,h.eT.fY a,Ar h.cq lR a⟩
theorem BK.fK{u f:Y}{n d g cap y b:Nat}{c:List (J×List Nat)}(h:BK w u n d c)(s:c[y]?=K (V,l))(D:Ab f w 2 1 (sG g (l.length+1) cap) (l.length+1) (nv l++[iZ (b:Int)]))(j:u.grownBy f V.ownBlock)(v:V.ownBlock=K g\/g= ↑u):Ab f w 27 1 (sG d n n) n (c.map Prod.fst)/\BK w (Aa f ⟨d,y,M⟩ (sG g (l.length+1) cap)) n d (c.set y (sG g (l.length+1) cap,l++[b])):=by
 obtain⟨G,F⟩:=f7.1 s;have q:c=c.take y++(V,l)::c.drop (y+1):=by rw[<-F,<-lV G,lS]
 have C:(c.take y).length=y:=by rw[kp];omega
 have t:=h.eT.own (V,ints l) (kI.2 ⟨(V,l),hC s,rfl⟩);have k:Ab f w 27 1 (sG d n n) n (c.map Prod.fst):=Er h.fA j t dC;have E:c.set y (sG g (l.length+1) cap,l++[b])=c.take y++(sG g (l.length+1) cap,l++[b])::c.drop (y+1):=by have:=T8 (c.take y) (c.drop (y+1)) (V,l) (sG g (l.length+1) cap,l++[b]);rw[C,<-q]at this;exact this
 have m:CO f w ((c.set y (sG g (l.length+1) cap,l++[b])).map λx=>(x.1,ints x.2)):=by have p:=h.eT;rw[q,k8,lM]at p;rw[E,k8,lM];refine CO.grow (g:=g) p ?_ rfl j (v.imp id λe=>oM);simp only[];rw[A4,jI,kE,<-Ex,Mu];exact D
 obtain⟨A,H,z⟩:=AY k;refine⟨k,?_,⟨λx r=>kK (m.own x r) (a:=⟨d,y,M⟩) (λe=>FF (m.own x r) z dC d e rfl) _,m.sep⟩,(h.cq.grown j h.cq.size (λi B=>(t.lt i B).1)).setCell A _⟩;have:=(k.stored y (sG g (l.length+1) cap)).1;rw[List.map_set];exact this
theorem Qp{E:Nat->List Nat}{D:Nat->Nat->Bool}{k y:Nat}(a:(E b)[k]?=K y)(x:Nat):Du E D x b (k+1)=if x=y/\D y b=true then Du E D x b k++[b]else Du E D x b k:=by
 by_cases e:x=y
 . subst e;by_cases q:D x b=true
   . rw[jP ⟨rfl,q⟩,Un a q]
   rw[jH (λr=>q r.2),Qq a (λr=>q r.2)]
 rw[jH (λr=>e r.1),Qq a (λr=>e r.1.symm)]
def nY(w d:Y)(n:Nat)(E:Nat->List Nat)(O:List Nat)(D:Nat->Nat->Bool)(e:Ending):Prop:=(∃b k y:Nat,e=Am (Ap #[sN,y])/\Gj E n (PY O D) b k y)\/∃c a,e=Am (Ap #[sG c n n,iZ (-1)])/\(∀b,b<n->∀t∈E b,¬PY O D b t)/\BK w d n c a/\a.length=n/\∀x,x<n->∃V,a[x]?=K (V,AO E D n x)
theorem Nc(G n gN cN gP cP gi ci:Nat)(E:Nat->List Nat)(O:List Nat)(I:Nat->Int)(D:Nat->Nat->Bool)(w:Y)(hn:n<=1024)(hP:Fa E n (Ea O))(hI:Qc E n (Ea O) I)(hD:∀d b,D d b=true↔Ed E d b)(aQ:∀b,(E b).length<=2)
 (h0:w G=K (sG gN n cN)) (hN:Gh w gN 0 n E) (hG:GI w G n gP cP gi ci (Ea O) I):
 Ai Aq 26 #[.pointer G] w λe w'=>nY w w' n E O D e/\Ah w w w':=by
 obtain⟨k0,hk,bx,bB,bC⟩:=km Cy;obtain⟨j0,hj,bG,bH,bI⟩:=km SR;have H:=Aw (fd hN (fd hG (fd hP (fd hI (fd hD (fd aQ h0))))));clear hN hG hP hI hD aQ;go_enter func26,ntmps26;go_upto_region 2 with(at_make;refine mc _ rfl _ _ 28 rfl w 27 j0 sN 1 underlying28 hj bG bH Af Af _ _ n rfl rfl rfl rfl (by rw[bI];omega) oX lR ?_;intro w3 P Q)
 rw[Ii]at P;have au:Ae (BK w w3 n w ((List.range n).map λx=>((sN:J),AO E D 0 x))):=by
  refine⟨?_,⟨λx B=> ?_,?_⟩,BW Q⟩
  . rw[mJ];have e:(List.range n).map (Prod.fst ∘ λx=>((sN:J),AO E D 0 x))=List.replicate n sN:=by
     apply lN;intro j;by_cases hj:j<n
     . simp[hj]
     rw[kO oT,kO oT]
    rw[e];exact P
  . simp only[kI]at B;obtain⟨y,⟨z,_,rfl⟩,rfl⟩:=B;(have:ints (AO E D 0 z)=[]:=by simp[AO,ints]);simp only[this];exact kH _ _ _ _
  rw[mJ];refine mH.2 (mT.imp λ_=> ?_);intro g X;cases X
 have x0:=Az au.cq h0;clear P Q h0;obtain⟨v,aE⟩:∃v,v=w.heap.size:=⟨_,rfl⟩;have aT:=Aw aE;rw[<-aE]at⊢;have aG:Ae (BK w w3 n v ((List.range n).map λx=>((sN:J),AO E D 0 x))):=by rw[aT];exact au
 clear aE au;go_wp2;go_loopw [20] (λi wr=>∃(b:Nat) (h:List (J×List Nat)),b<=n/\i=iZ b/\ ↑h=n/\Ae (BK w wr n v h/\(∀x,x<n->∃V,h[x]?=K (V,AO E D b x))/\(∀l,l<b->∀t∈E l,¬PY O D l t))) (λi _=>n-(intOf i).toNat)
 case atStart=>exact⟨0,_,oM,rfl,sP,aG, λx B=>⟨sN,by simp[B]⟩, λl aM=>oM⟩
 clear aG x0;obtain⟨b,h,hb,rfl,T,c⟩:=hrel;by_cases N:b<n
 . have bq:(b:Int)<(n:Int):=oM;obtain⟨a,ca,g0,g1⟩:=H.1 b N;rw[kT]at g0;have aW:=Aw g1;(replace g0:=Az c.1.cq g0);have bJ:=H.2.2.2.2.2.1 b;clear g1;go_wp2;go_loopw [27] (λi wr=>∃(k:Nat) (h:List (J×List Nat)),k<=(E b).length/\i=iZ k/\ ↑h=n/\Ae (BK w wr n v h/\(∀x,x<n->∃V,h[x]?=K (V,AO E D b x++Du E D x b k))/\(∀l,l<b->∀t∈E l,¬PY O D l t)/\(∀s t,s<k->(E b)[s]?=K t->¬PY O D b t))) (λi _=>2-(intOf i).toNat)
   (case atStart=>exact⟨0,h,oM,rfl,T,c.1, λx B=>by obtain⟨V,W⟩:=c.2.1 x B;exact⟨V,by rw[Sl,lK];exact W⟩,c.2.2, λs t bf=>oM⟩);clear c g0;obtain⟨k,h,bf,rfl,T,c⟩:=hrel;by_cases bi:k<(E b).length
   . have bQ:(k:Int)<((E b).length:Int):=oM;obtain⟨y,hy⟩:∃y,(E b)[k]?=K y:=⟨_,an bi⟩;have aa:y<n:=H.2.2.1.fQ b N y (hC hy);have bT:(y:Int)<(n:Int):=oM;have HY:=Aw hy;obtain⟨ga,oa,rfl,_,y0⟩:=aW.at_ hy;(replace y0:=Az c.1.cq y0);have X:=H.2.1.av c.1.cq;have p0:=X.p;have py:=X.pc y aa;have pb:=X.pc b N;clear hy X;have aI:Ae (¬PY O D b y->∀s F,s<k+1->(E b)[s]?=K F->¬PY O D b F):= λbr s F h1 h2=>by
      by_cases e:s=k
      . subst e;rw[HY]at h2;(cases h2);exact br
      exact c.2.2.2 s F oM h2
     by_cases hp:Ea O b<Ea O y
     . have bt:(Ea O b:Int)<(Ea O y:Int):=oM;have L:Ae ((∀x,x<n->∃V,h[x]?=K (V,AO E D b x++Du E D x b (k+1)))/\∀s F,s<k+1->(E b)[s]?=K F->¬PY O D b F):=by
        refine⟨λx B=> ?_,aI.o (λq=>by have:=q.1;omega)⟩;rw[Qp HY x,jH]
        . exact c.2.1 x B
        rintro⟨_,q⟩;have:=(((H.2.2.2.2.1 y b).1 q).gq H.2.2.1 N).2.1;omega
       go_wp2;go_quiet (fail);refine Cm (λu=>Ae (BK w u n v h)) (c.1.av (AL _ _ _)) ?_;intro U HU;clear y0 p0 py pb;go_wp2;go_roundw;(case rel=>exact⟨k+1,h,oM,by go_num,T,HU,L.1,c.2.2.1,L.2⟩);exact oI
     have bt:¬(Ea O b:Int)<(Ea O y:Int):=oM;go_wp2;go_quiet (fail);refine Cm (λu=>Ae (BK w u n v h)) (c.1.av (AL _ _ _)) ?_;intro U HU;clear y0 p0 py pb;go_wp2_with fail;refine(Rj G n gP cP gi ci y b (Ea O) I U hn H.2.2.2.1.fE.tree H.2.2.1.zero H.2.2.1.inj aa N (H.2.2.2.1.all y aa) (H.2.2.2.1.all b N) (H.2.1.av HU.cq)).mono ?_;rintro e u5 ⟨m,rfl,hm,bP,hM,b5⟩;have aA:Ae (m=y↔D y b=true):=by
      rw[H.2.2.2.2.1,<-H.2.2.2.1.gj y b N];constructor
      . intro e;subst e;exact((hM m).1 .here).2
      intro q;exact EW.gm H.2.2.2.1.fE.tree aa ((hM m).1 .here).1 ((hM y).2 ⟨.here,q⟩)
     have ai:=Aw (HU.av b5);clear hM b5 HU;by_cases aO:m=y
     . subst aO;have aH:=Aw (aA.1 rfl);obtain⟨V,W⟩:=c.2.1 m aa;obtain⟨R,S,eV⟩:=AF (c.1.eT.own (V,ints (AO E D b m++Du E D m b k)) (kI.2 ⟨(V,_),hC W,rfl⟩));simp only[A4]at eV;subst eV;(have bg:(AO E D b m++Du E D m b k).length<=4096:=by have h1:=NW H.2.2.2.2.2.1 D m b;have h2:=NX E D m b k;rw[jI];omega);generalize aK:AO E D b m++Du E D m b k=f at W bg;have ae:=Aw (fd aK W);clear W aK aA;(have ax:Ae (∀(u':Y),Ab u' w 27 1 (sG v n n) n (h.map Prod.fst)->u' ⟨v,m,M⟩=K (Z R f S)):= λu' bu=>by have:=bu.cellAt m oM;rw[jY,ae.2]at this;exact this);have bE:=Al u5 (Ak #[(b:Int)] 2);have x2:=ax.o _ ai.fA;have aj:=Aw (fd (ai.av bE) (jN ai.cq.size bE.size));(have aJ:Ae (Ab (Ac u5 (Ak #[(b:Int)] 2)) w 2 1 (Z R f S) f (nv f)):=by have:=aj.1.eT.own (Z R f S,ints f) (kI.2 ⟨(_,f),hC ae.2,rfl⟩);rw[A4,<-Ex]at this;exact this);have aF:Ae (∀A C w6,w6.ownsRow w 2 1 (sG A (f.length+1) C) (f.length+1) (nv f++[iZ (b:Int)])->(Ac u5 (Ak #[iZ (b:Int)] 2)).grownBy w6 (Z R f S).ownBlock->((Z R f S).ownBlock=K A\/A=(Ac u5 (Ak #[iZ (b:Int)] 2)).heap.size)->w6.cell? ⟨v,m,M⟩=K (Z R f S)/\w6.frozen? ⟨v,m,M⟩=false/\BK w (w6.setCell ⟨v,m,M⟩ (sG A (f.length+1) C)) n v (h.set m (sG A (f.length+1) C,f++[b]))):= λA C w6 P Q aq=>by obtain⟨q1,q2⟩:=aj.1.fK ae.2 P Q aq;exact⟨ax.o _ q1,q1.frozenAt m,q2⟩
       clear bE;go_wp2_with (at_builtin;refine wpList_append_lies _ rfl _ _ 27 rfl w 2 k0 (iZ 0) 1 8 underlying27 hk bx bB bC rfl dC _ f (nv f) rfl aJ u5 1 1 [(b:Int)] rfl rfl (FC u5 (b:Int)) (λu hu=>by simp at hu;subst hu;rfl) oM (by simp[maxLen];omega) oM aj.2 _ rfl ?_;intro A C w6 P Q aq bj;obtain⟨t6,z6,l6⟩:=aF.o A C w6 P Q aq;have aX:Ae (BK w (w6.setCell ⟨v,m,M⟩ (sG A (f.length+1) C)) n v (h.set m (sG A (f.length+1) C,f++[b]))):=l6;clear P Q aq bj l6);have L:Ae ((∀x,x<n->∃V,(h.set m (sG A (f.length+1) C,f++[b]))[x]?=K (V,AO E D b x++Du E D x b (k+1)))/\∀s F,s<k+1->(E b)[s]?=K F->¬PY O D b F):=by
        refine⟨λx B=> ?_,aI.o (λq=>q.2 aH)⟩;rw[Qp HY x];by_cases e:x=m
        . subst e;refine⟨sG A (f.length+1) C,?_⟩;rw[jP ⟨rfl,aH⟩,<-kS,ae.1,kw oM]
        rw[jH (λr=>e r.1),lh (Ne.symm e)];exact c.2.1 x B
       clear x2 aj aJ aF ax;go_roundw;(case rel=>exact⟨k+1,h.set m (sG A (f.length+1) C,f++[b]),oM,by go_num,by rw[ki];exact T,aX,L.1,c.2.2.1,L.2⟩);exact oI
     have bS:((m:Int)==(y:Int))=false:=oT;(have aZ:¬D y b=true:= λq=>aO (aA.2 q));have aS:Ae (Gj E n (PY O D) b k y):=⟨N,HY,⟨oM,aZ⟩, λl s x' aM aR hl=>by
      rcases hl with q|⟨rfl,q⟩
      . exact c.2.2.1 l q x' (hC aR)
      exact c.2.2.2 s x' q aR⟩
     go_wp2;go_ret2;exact⟨Or.inl ⟨b,k,y,rfl,aS⟩,ai.cq⟩
   obtain rfl:k=(E b).length:=oM;have L:Ae ((∀x,x<n->∃V,h[x]?=K (V,AO E D (b+1) x))/\∀l,l<b+1->∀t∈E l,¬PY O D l t):=by
    refine⟨λx B=>by rw[LH];exact c.2.1 x B, λl aM t ht=> ?_⟩;by_cases e:l=b
    . subst e;obtain⟨q,hq⟩:=kq ht;exact c.2.2.2 q t (f7.1 hq).1 hq
    exact c.2.2.1 l oM t ht
   go_wp2;go_roundw;(case rel=>exact⟨b+1,h,oM,by go_num,T,c.1,L.1,L.2⟩);exact oI
 have aY:b=n:=oM;have bq:¬(b:Int)<(n:Int):=oM;rw[aY]at c;go_wp2;go_ret2;exact⟨Or.inr ⟨v,h,rfl,c.2.2,c.1,T,c.2.1⟩,c.1.cq⟩
end Go.Proofs.YtkgohaigebcgoaaGreatDoor
