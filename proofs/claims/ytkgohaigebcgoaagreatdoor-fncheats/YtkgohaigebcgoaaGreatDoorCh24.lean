import Derived.Test.YtkgohaigebcgoaaGreatDoorCh22
namespace Go.Proofs.YtkgohaigebcgoaaGreatDoor
open Go.ChangeShapes Go.WideShapes Go.ChangeAt Go.RowKit Go.Proofs.Tryz
set_option linter.unusedVariables false
open Go renaming World → Y,Value → J,Calls → Ai
open Go.IntKind renaming i64 → Af
open Go.Value renaming int → Ag,agg → An,slice → Z,tuple → Ap
open Go.Proofs.Tryz renaming prog → Aq
open Option renaming some → K,none → M
open Go.RowKit renaming Hid → Ae,Below → Ah
open Go.Obj renaming cells → Ak
open Go.Ending renaming returned → Am
open Go.World renaming setCell → Aa,ownsRow → Ab,alloc → Ac
open List renaming flatMap → Ad
set_option maxHeartbeats 8000000
set_option maxRecDepth 100000
variable {w:Y}{b:Nat}{f:MF}{done l:List Nat}{m:MB}{xs:List MI}{p:MP}
theorem Pj(k:Nat)(a:k<30):∃(s:ByteArray) (c f:Int),(Js k).toArray=#[.string s,Ag Af c,Ag Af f]/\0<=c/\c<=4294967295:=by
 have h:k=0\/k=1\/k=2\/k=3\/k=4\/k=5\/k=6\/k=7\/k=8\/k=9\/k=10\/k=11\/k=12\/k=13\/k=14\/k=15\/k=16\/k=17\/k=18\/k=19\/k=20\/k=21\/k=22\/k=23\/k=24\/k=25\/k=26\/k=27\/k=28\/k=29:=oM
 clear a;rcases h with rfl|rfl|rfl|rfl|rfl|rfl|rfl|rfl|rfl|rfl|rfl|rfl|rfl|rfl|rfl|rfl|rfl|rfl|rfl|rfl|rfl|rfl|rfl|rfl|rfl|rfl|rfl|rfl|rfl|rfl<;>exact⟨_,_,_,rfl,dC,dC⟩
theorem Hq(op:Int):∃(s:ByteArray) (c f:Int),CL op=#[.string s,Ag Af c,Ag Af f]/\Kh c:=by
 by_cases h:0<=op/\op<=29
 . unfold CL;rw[mE h];exact Pj _ oM
 unfold CL;rw[lY h];exact⟨_,_,_,rfl,dC,dC⟩
theorem QU(s:ByteArray)(c f:Int)(w:Y):(Instr.field 78 (An #[.string s,c,f]) 1).run Aq w=.ok c w:=kR
structure KD(w:Y)(m:MM)(T:List (List MC))(am ao ak:Option Addr)(cm co ck:Nat)(g o k:Nat)(ws ts:List Int)(aw:Option Addr)(cw:Nat)(y:J):Prop where
 ix:∀W,(Instr.index 133 (An #[Z am m.ins cm,Z ao m.outs co,Z ak m.keeps ck]) k).run Aq W=.ok (Z aw ws cw) W
 ik:w ⟨g,o+k,M⟩=K y
 rw_:Rd w 1 (Z aw ws cw) ws (Ad JC ws)
 rt:Rd w 1 y ts (Ad At ts)
 len:ws.length= ↑ts
 big:ts.length<=1048576
 at_:T[k]?=K (A9 ts ws)
theorem sI{wr b:Y}{v:VP}{k:VM}{X f:Nat}{V d:J}{e:List MC}{C:List (J×List MC)}{a:Option Addr}{c6:Nat}{ts c:List Int}(h:BL w wr v k X f V d e C)(g:Ah wr wr b)(n:Ab b wr 193 2 (Z a ts c6) ts (Ad MC.cells (A9 ts c)))(m:c.length= ↑ts):
 BL w (Ac b (Ak #[Z a ts c6] 45)) v k X f V d e C/\Co (Ac b (Ak #[Z a ts c6] 45)) w (C++[(Z a ts c6,A9 ts c)]++[(d,e)])/\∀j u,[(Z a ts c6:J)][j]?=K u->(Ac b (Ak #[Z a ts c6] 45)) ((⟨b,0,M⟩:Addr).add j)=K u:=by
 refine⟨(h.av g).av (Al _ _),(Co.add h.fg g (by rw[Dq ts c m];exact n) h.args.cq.size).av (Al _ _), λj u l=> ?_⟩;rw[Cq,m9,pD _ _ _ _ _ _ (Fp b #[Z a ts c6] 45)];simpa using l
theorem Nn(v:VP)(p:MP)(vm:VM)(m:MM)(w:World)(hs:p.small)(hw:p.wf)(h:Eb w v p)(aH:D8 w v.r p.az)(aI:EZ w v.f p.aC)(ms:m.small)(mw:m.wf)(hm:Yr w vm m):
 Ai Aq 16 #[An #[v.r,v.k,v.f,v.t],An #[vm.i,vm.o,vm.k]] w λe w'=>∃(C:List (J×List MC)) (K:List MC) (F:List (MG×J)) (tr:Int) (x:VS),e=Am (An #[tr,false,Ag Af 0,Ag Af 0,x.c,x.k,x.f])/\Ga p m (A3 tr false 0 0 C K F)/\Tw C K F/\AB w' w x C K F/\Ah w w w':=by
 obtain⟨j0,hj,bS,bT,bV⟩:=nE rx;have H:Ae (p.small/\p.wf/\Eb w v p/\m.small/\Yr w vm m/\D8 w v.r p.az/\EZ w v.f p.aC/\m.wf):=⟨hs,hw,h,ms,hm,aH,aI,mw⟩
 obtain⟨s,B,em⟩:=hm.ins.aD;obtain⟨A,co,eo⟩:=hm.outs.aD;obtain⟨q,ck,ek⟩:=hm.keeps.aD;obtain⟨vi,vo,cI⟩:=vm;simp only[]at em eo ek;subst em eo ek;clear hs hw h ms hm aH aI mw;go_enter func16,ntmps16;go_wp2_with fail;have E0:=JH.of w v ⟨Z s m.ins B,Z A m.outs co,Z q m.keeps ck⟩;refine(Nr v p ⟨Z s m.ins B,Z A m.outs co,Z q m.keeps ck⟩ m _ H.1 H.2.1 (H.2.2.1.av E0.cq lR) (H.2.2.2.2.2.1.av E0.cq lR) (H.2.2.2.2.2.2.1.av E0.cq lR) H.2.2.2.1 H.2.2.2.2.2.2.2 (H.2.2.2.2.1.av E0.cq lR)).mono ?_;rintro e u1 ⟨⟨b1,rfl,ai⟩,aA⟩;have n:Ae (JH w u1 v ⟨Z s m.ins B,Z A m.outs co,Z q m.keeps ck⟩):=E0.av aA;clear E0 aA;cases b1
 . (have HN:Ae (¬CT p m):= λe=>absurd (ai.2 e) nU);clear ai;have D:=n.rb.cell 0;have E:=n.rb.cell 1;have G:=n.rb.cell 2;have r3:=n.rb.cell 3;have r4:=n.rb.cell 4;have r5:=n.rb.cell 5;have r6:=n.rb.cell 6;have p0:=n.rb.frozen 0;have p1:=n.rb.frozen 1;have p2:=n.rb.frozen 2;have p3:=n.rb.frozen 3;have p4:=n.rb.frozen 4;have p5:=n.rb.frozen 5;have p6:=n.rb.frozen 6;simp only[lQ,lO,lS]at D E G r3 r4 r5 r6;go_wp2_with fail;have R4:=((((((n.rb.set 0 (Ag Af 7)).set 1 false).set 2 (Ag Af 0)).set 3 (Ag Af 0)).set 4 (Z M 0 0)).set 5 (Z M 0 0)).set 6 (Z M 0 0);have q0:=R4.cell 0;have q1:=R4.cell 1;have q2:=R4.cell 2;have q3:=R4.cell 3;have q4:=R4.cell 4;have q5:=R4.cell 5;have q6:=R4.cell 6;simp at q0 q1 q2 q3 q4 q5 q6;exact mM (v:=An #[Ag Af 7,false,Ag Af 0,Ag Af 0,Z M 0 0,Z M 0 0,Z M 0 0]) (by simp[results,results16,go_sem,q0,q1,q2,q3,q4,q5,q6]) rfl ⟨[],[],[],7,⟨Z M 0 0,Z M 0 0,Z M 0 0⟩,rfl,.inr ⟨HN,rfl⟩,⟨sP,sP,sP,sP,sP⟩,Mt _ _,((((((n.cq.setCell oS _).setCell oS _).setCell oS _).setCell oS _).setCell oS _).setCell oS _).setCell oS _⟩
 have HV:Ae (CT p m):=ai.1 rfl;clear ai;obtain⟨g,o,c,D,E,G,y0,y1,y2,I⟩:=Wi.of H.2.2.1 HV.1.ok.1.1;obtain⟨gf,of,cf,nf,f,z,hF⟩:=qo.of H.2.2.2.2.2.2.1 H.1 HV.1.ok.2.2.1;have L:Ae (qo w v.f p gf of cf nf f z):=hF;have HR:Ae (p.az=[D,E,G]):=I.eq;have T:(m.ins.length= ↑D/\Cx m.outs E/\Cx m.keeps G):=(CT.iff HV.1 I.eq).1 HV
 have S:D.length<=1048576/\E.length<=1048576/\G.length<=1048576:=by have:=H.1.region;rw[I.eq]at this;exact⟨this D sP,this E sP,this G sP⟩
 have HK:Ae (∀k,k<3->∃ws ts aw cw y,KD w m [A9 D m.ins,A9 E m.outs,A9 G m.keeps] s A q B co ck g o k ws ts aw cw y):=by
  intro k hk;obtain rfl|rfl|rfl:k=0\/k=1\/k=2:=oM
  . exact⟨m.ins,D,s,B,y0, λW=>(Gr s A q m.ins m.outs m.keeps B co ck W).1,I.i0,H.2.2.2.2.1.ins,I.k0,T.1,S.1,rfl⟩
  . exact⟨m.outs,E,A,co,y1, λW=>(Gr s A q m.ins m.outs m.keeps B co ck W).2.1,I.i1,H.2.2.2.2.1.outs,I.k1,T.2.1.1,S.2.1,rfl⟩
  exact⟨m.keeps,G,q,ck,y2, λW=>(Gr s A q m.ins m.outs m.keeps B co ck W).2.2,I.i2,H.2.2.2.2.1.keeps,I.k2,T.2.2.1,S.2.2,rfl⟩
 have HT:Ae (∀x∈[A9 D m.ins,A9 E m.outs,A9 G m.keeps],x.length<=1048576):=by
  intro x hx;simp only[lW,lZ,mS]at hx;rcases hx with rfl|rfl|rfl
  . rw[Dq _ _ T.1];exact S.1
  . rw[Dq _ _ T.2.1.1];exact S.2.1
  rw[Dq _ _ T.2.2.1];exact S.2.2
 obtain⟨vr,vk,vf,vt⟩:=v;have aQ:=I.rows;have aJ:=hF.rows;simp only[]at aQ aJ;subst aQ aJ;clear I hF T S;obtain⟨zp,zl,zc⟩:=z;obtain⟨bp,dp,ep⟩:∃a c,zp=Z a f.aP c:=L.rd.1.aD;obtain⟨bl,dl,el⟩:∃a c,zl=Z a f.aB c:=L.rd.2.1.aD;obtain⟨bc,dc,ec⟩:∃a c,zc=Z a f.aU c:=L.rd.2.2.aD;subst ep el ec;have P:=L.av n.cq;have kf:=n.pb.cell 2;have k0:=P.i0;have k1:=P.i1;have k2:=P.i2;have k3:=P.i3;have cj:=P.pos;have bZ:=P.big;simp only[lQ,lO,lS]at kf k0 k1 k2 k3;have aa:Ae _:=P;clear P;go_wp2_with fail;refine(GO ⟨Z bp f.aP dp,Z bl f.aB dl,Z bc f.aU dc⟩ f _ aa.small aa.rd aa.pp aa.pl).mono ?_;rintro e u2 ⟨rv,rfl,aq,b2⟩;have aM: ↑f.aP+ ↑f.aB=(f.aP++f.aB).length:=sP
 rw[aM]at aq;have E2:Ae (JH w u2 ⟨Z (some ⟨g,o,M⟩) 3 c,vk,Z (some ⟨gf,of,M⟩) nf cf,vt⟩ ⟨Z s m.ins B,Z A m.outs co,Z q m.keeps ck⟩/\Rd u2 1 rv (f.aP++f.aB).length (Ad At (f.aP++f.aB))):=⟨n.av b2,Rd.eP aq⟩
 clear aq b2 aM kf k0 k1 k2 k3 aa;go_wp2_with fail;have aK:(f.aP++f.aB).length<=4194304:=by have bP:=L.small;rw[L.nop,nO];exact mC bP.2.1 oM
 refine(KN rv (f.aP++f.aB) _ aK E2.2).mono ?_;rintro e u3 ⟨N,O,rfl,au,b3⟩;rw[L.nop,nO]at au⊢;have E3:Ae (JH w u3 ⟨Z (some ⟨g,o,M⟩) 3 c,vk,Z (some ⟨gf,of,M⟩) nf cf,vt⟩ ⟨Z s m.ins B,Z A m.outs co,Z q m.keeps ck⟩/\Ab u3 w 193 2 (Z N f.aB O) (A8 f.aB).length (Ad MC.cells (A8 f.aB))):=⟨E2.1.av b3,by rw[FY];exact Ms au E2.1.cq.size⟩
 clear au b3 n aK;have E4:Ae _:=BL.of E3.1 E3.2;have m0:=E4.args.mb.cell 0;have m1:=E4.args.mb.cell 1;have m2:=E4.args.mb.cell 2;simp only[lQ,lO,lS]at m0 m1 m2;go_wp2_with fail;refine(KK s A q m.ins m.outs m.keeps B co ck _).mono ?_;rintro e u5 ⟨rfl,aE⟩;have E5:Ae (BL w u5 ⟨Z (some ⟨g,o,M⟩) 3 c,vk,Z (some ⟨gf,of,M⟩) nf cf,vt⟩ ⟨Z s m.ins B,Z A m.outs co,Z q m.keeps ck⟩ ((u3:Nat)+1) u3 (Z M 0 0) (Z N f.aB O) (A8 f.aB) []):=E4.av aE;clear aE E4 E3 E2 m0 m1 m2;generalize u3.heap.size+1=X at E5⊢;generalize u3.heap.size=Y at E5;go_wp2;go_loopw [24] (λi wr=>∃(k:Nat) (V:J) (C:List (J×List MC)),k<=3/\i=Ag Af k/\Ae (C.map Prod.snd=[A9 D m.ins,A9 E m.outs,A9 G m.keeps].take k/\BL w wr ⟨Z (some ⟨g,o,M⟩) 3 c,vk,Z (some ⟨gf,of,M⟩) nf cf,vt⟩ ⟨Z s m.ins B,Z A m.outs co,Z q m.keeps ck⟩ X Y V (Z N f.aB O) (A8 f.aB) C)) (λi _=>3-(intOf i).toNat)
 case atStart=>exact⟨0,_,[],oM,rfl,rfl,E5⟩
 clear E5;obtain⟨k,V,C,hk,rfl,l⟩:=hrel;by_cases bI:k<3
 . obtain⟨ws,ts,aw,cw,y,hK⟩:=HK.o k bI;have aW:Ae _:=hK;have ix:=hK.ix;have aG:=l.2.args.cq;have aF: ↑C=k:=by have:=congrArg List.length l.1;simp at this;omega
   obtain⟨b,d,rfl⟩:∃a c,y=Z a ts c:=hK.rt.aD;have ik:=hK.ik;rw[<-aG.cell (lT ik)]at ik;have bY:=Ew (As wr) ik;have kr:=(l.2.args.pb.av (As wr)).cell 0;have ks:=(l.2.st.av (As wr)).cell 4;simp only[lQ,lO,lS]at kr ks;have ce:(k:Int)<3:=oM;have Q:Ae (KD w m [A9 D m.ins,A9 E m.outs,A9 G m.keeps] s A q B co ck g o k ws ts aw cw (Z b ts d)/\ ↑C=k):=⟨hK,aF⟩
   clear hK aW aG ik aF;go_wp2_with fail;go_region_law (first
    |(refine step_append_lies _ rfl (.tmp 29) (.tmp 37) 44 rfl w 45 j0 (Z M 0 0) 1 24 underlying44 hj bS bT bV rfl dC V C (Ad Jy C) oE R.1.row u6 1 1 [Z a6 ts c6] oE rfl R.2.2 (λu hu=>by simp at hu;subst hu;rfl) oM (by have:=Q.2;unfold maxLen;omega) (by have:=Q.2;omega) R.1.args.cq.size _ rfl ?_;intro gg cap u8 aO aj bG bJ;have HN:Ae (BL w (Aa u8 ⟨X,4,M⟩ (Z gg (C.length+1) cap)) ⟨Z (some ⟨g,o,M⟩) 3 c,vk,Z (some ⟨gf,of,M⟩) nf cf,vt⟩ ⟨Z s m.ins B,Z A m.outs co,Z q m.keeps ck⟩ X Y (Z gg (C.length+1) cap) (Z N f.aB O) (A8 f.aB) (C++[(Z a6 ts c6,A9 ts ws)])):=BL.next R.1 R.2.1 aj aO rfl;have ax:=R.1.st.grown aj R.1.row dC;have y0:=ax.cell 4;have y1:=ax.frozen 4;simp only[lQ,lO,lS]at y0;clear aO aj bG bJ ax)
    |(go_simp;go_at_call 44;refine(Qj (Z b ts d) (Z aw ws cw) ws ts _ Q.1.big Q.1.len ?_ ?_).mono ?_;exact Q.1.rw_.av (Ar l.2.args.cq lR (As _)) lR;exact Q.1.rt.av (Ar l.2.args.cq lR (As _)) lR;rintro e u6 ⟨a6,c6,rfl,aR,b6⟩;have B6:Ae (Ah wr wr u6):=Br b6 lR;have R:Ae (BL w (Ac u6 (Ak #[Z a6 ts c6] 45)) ⟨Z (some ⟨g,o,M⟩) 3 c,vk,Z (some ⟨gf,of,M⟩) nf cf,vt⟩ ⟨Z s m.ins B,Z A m.outs co,Z q m.keeps ck⟩ X Y V (Z N f.aB O) (A8 f.aB) C/\Co (Ac u6 (Ak #[Z a6 ts c6] 45)) w (C++[(Z a6 ts c6,A9 ts ws)]++[(Z N f.aB O,A8 f.aB)])/\∀j u,[(Z a6 ts c6:J)][j]?=some u->(Ac u6 (Ak #[Z a6 ts c6] 45)) ((⟨u6,0,M⟩:Addr).add j)=some u):=(show _ from sI l.2 B6 aR Q.1.len);have x0:=(l.2.av B6).st.cell 4;have x1:=R.1.st.cell 4;simp only[lQ,lO,lS]at x0 x1;clear aR b6))
   all_goals
    clear ix bY kr ks;(try clear x0 x1 y0 y1);go_wp2;go_roundw;(case rel=>exact⟨k+1,_,_,oM,by go_num,⟨by rw[nS,l.1,Ox _ k _ Q.1.at_];rfl,HN⟩⟩);exact oI
 skip
 obtain rfl:k=3:=oM;obtain⟨aV,cV,rfl⟩:∃a c,V=Z a C c:=(Rd.eP l.2.row).aD;have ae:C.map Prod.snd=[A9 D m.ins,A9 E m.outs,A9 G m.keeps]:=l.1;have aS:Ae (Ga p m (A3 0 false 0 0 C [] [(⟨0,0,0,A8 f.aB⟩,Z N f.aB O)])):=by obtain⟨fs,bH⟩:=L.eq;refine .inl ⟨HV,D,E,G,f,fs,HR,bH,?_⟩;unfold A3 BU;rw[ae];rfl
 have aT:Ae (Tw C [] [(⟨0,0,0,A8 f.aB⟩,Z N f.aB O)]):=by
  refine⟨?_,?_,sP,sP,?_⟩
  . have:=congrArg List.length ae;simp at this;omega
  . intro x hx;exact HT.o x.2 (by rw[<-ae];exact oF hx)
  intro x hx;simp only[lW,lZ,mS]at hx;subst hx;simp only[FY];exact L.small.2.1
 clear ae;have bQ:¬X= ↑w+1+1:=by have:=l.2.kZ;omega
 have cH:¬ ↑w+1+1=X:= λe=>bQ e.symm
 have aX:=l.2.st.cell 0;have aY:=l.2.st.cell 1;have aZ:=l.2.st.cell 2;have bf:=l.2.st.cell 3;have bg:=l.2.st.cell 4;have bi:=l.2.st.cell 5;have bj:=l.2.st.cell 6;have bq:=l.2.args.rb.cell 0;have br:=l.2.args.rb.cell 1;have bt:=l.2.args.rb.cell 2;have bu:=l.2.args.rb.cell 3;have bx:=l.2.args.rb.cell 4;have bB:=l.2.args.rb.cell 5;have bC:=l.2.args.rb.cell 6;have cJ:=l.2.args.rb.frozen 0;have cK:=l.2.args.rb.frozen 1;have cM:=l.2.args.rb.frozen 2;have cQ:=l.2.args.rb.frozen 3;have cR:=l.2.args.rb.frozen 4;have cT:=l.2.args.rb.frozen 5;have cU:=l.2.args.rb.frozen 6;simp only[lQ,lO,lS]at aX aY aZ bf bg bi bj bq br bt bu bx bB bC;go_wp2_with fail;have R0:=l.2.args.rb.set 0 (Ag Af 0);have R1:=R0.set 1 false;have R2:=R1.set 2 (Ag Af 0);have R3:=R2.set 3 (Ag Af 0);have R4:=R3.set 4 (Z aV C cV);have R5:=R4.set 5 (Z M 0 0);have U:=R5.set 6 (Z Y 1 1);have q0:=U.cell 0;have q1:=U.cell 1;have q2:=U.cell 2;have q3:=U.cell 3;have q4:=U.cell 4;have q5:=U.cell 5;have q6:=U.cell 6;simp at q0 q1 q2 q3 q4 q5 q6;exact mM (v:=An #[Ag Af 0,false,Ag Af 0,Ag Af 0,Z aV C cV,Z M 0 0,Z Y 1 1]) (by simp[results,results16,go_sem,q0,q1,q2,q3,q4,q5,q6]) rfl ⟨C,[],[(⟨0,0,0,A8 f.aB⟩,Z N f.aB O)],0,⟨Z aV C cV,Z M 0 0,Z Y 1 1⟩,rfl,aS,aT,(((((((l.2.own.iW l.2.args.rb 0 (Ag Af 0)).iW R0 1 false).iW R1 2 (Ag Af 0)).iW R2 3 (Ag Af 0)).iW R3 4 (Z aV C cV)).iW R4 5 (Z M 0 0)).iW R5 6 (Z Y 1 1)),(((((((l.2.args.cq.setCell oS _).setCell oS _).setCell oS _).setCell oS _).setCell oS _).setCell oS _).setCell oS _)⟩
structure WI where
 c:Nat->Bool
 r:Nat->List Int
 d:Nat
def Fs(a:List MB)(b:Nat):Nat:=match a[b]? with|some m=>m.cz.toNat|none=>0
def Ja(C:Nat->Bool)(t:Nat):Nat->Bool:= λj=>if j=t then true else C j
def EY(a:List MB):List Nat->List Int->(Nat->Bool)->(Nat->List Int)->Option ((Nat->Bool)×(Nat->List Int))
 |[],_,C,R=>K (C,R)
 |t::r,sh,C,R=>if C t=true then(if R (Fs a t)=sh then EY a r sh C R else M)else EY a r sh (Ja C t) (ET R (Fs a t) sh)
abbrev OQ:=Sum (Int×Nat) WI
def G6(p:MP)(f:MF)(a:List MB)(m:MB)(s:WI):OQ:=match El p f (m.last-m.cz+1).toNat m.cz.toNat (s.r m.cz.toNat) s.r s.d with
 |.inl e=>.inl e
 | .inr (sh,R,D)=>match EY a (m.next.map Int.toNat) sh s.c R with
   |none=>.inl (4,m.last.toNat)
   |some (C,R')=>.inr ⟨C,R',D⟩
def Hz(p:MP)(f:MF)(a:List MB):List Nat->WI->OQ
 |[],s=>.inr s
 | b ::r,s=>match a[b]? with
   |none=>.inr s
   | some m=>match G6 p f a m s with
     |.inl e=>.inl e
     |.inr s'=>Hz p f a r s'
def Wa:WI:=⟨λb=>decide (b=0), λ_=>[],0⟩
def qe(n:Nat):OQ->R7
 |.inl (c,a)=>⟨c,(a:Int),0,[]⟩
 |.inr s=>⟨0,0,(s.d:Int),(List.range n).map s.r⟩
theorem X5(p:MP)(f:MF)(c:Nat):∀(a:Nat) (b:List Int) (T g:Nat->List Int) (D:Nat),a+c<= ↑f.aU->(∀e,El p f c a b T D=.inl e->El p f c a b g D=.inl e)/\∀s2 d k,El p f c a b T D=.inr (s2,d,k)->∃l,El p f c a b g D=.inr (s2,l,k)/\(∀j,j<a\/a+c<=j->d j=T j/\l j=g j)/\(∀j,a<=j->j<a+c->d j=l j)/\(0<c->d a=b):=by
 induction c with
 | zero=>intro a b T g D t;refine⟨λe h=>by simp[El]at h, λs2 d k h=> ?_⟩;simp only[El,Sum.inr.injEq,Prod.mk.injEq]at h;obtain⟨rfl,rfl,rfl⟩:=h;exact⟨g,rfl, λj _=>⟨rfl,rfl⟩, λj r q=>oM, λh=>oM⟩
 | succ c y=>
   intro a b T g D t;obtain⟨x,u⟩:∃x,f.aU[a]?=K x:=⟨_,an oM⟩;simp only[El,u];by_cases n:Cd p f x b=0
   . rw[mE n,mE n];obtain⟨v,w⟩:=y (a+1) (D9 p f x b) (ET T a b) (ET g a b) (max D (D9 p f x b).length) oM;refine⟨v, λs2 d k h=> ?_⟩;obtain⟨l,r,q,s,z⟩:=w s2 d k h;have m:=q a (.inl oM);simp only[ET,if_true]at m;refine⟨l,r, λj A=> ?_, λj B C=> ?_, λ_=>m.1⟩
     . have:=q j oM;simp only[ET]at this;rw[lY oM,lY oM]at this;exact this
     by_cases e:j=a
     . subst e;rw[m.1,m.2]
     exact s j oM oM
   rw[lY n,lY n];exact⟨λe h=>h, λs2 d k h=>by cases h⟩
structure OP(bs:List MB)(done:List Nat)(s:WS)(s':WI):Prop where
 c:∀b,s'.c b=(s.c b).isSome
 d:s'.d=s.d
 dn:∀b∈done,b< ↑bs/\s.c b=K (s.t (Fs bs b))
 wt:∀b,b< ↑bs->b∉done->∀sh,s.c b=K sh->s'.r (Fs bs b)=sh
 eq:∀j,(∀b,b< ↑bs->b∉done->Fs bs b=j->s.c b=M)->s'.r j=s.t j
theorem Xv{f:List MB}(I:∀a b,a< ↑f->b< ↑f->Fs f a=Fs f b->a=b){T:Nat->List Int}{D:Nat}(r:List Int)(nx:List Nat):∀(C:Nat->Option (List Int)) (n:Nat->Bool) (R:Nat->List Int),(∀t∈nx,t< ↑f)->OP f done ⟨C,T,D⟩ ⟨n,R,D⟩->(Mg nx r C=M/\EY f nx r n R=M)\/∃C2 s u,Mg nx r C=K C2/\EY f nx r n R=K (s,u)/\OP f done ⟨C2,T,D⟩ ⟨s,u,D⟩/\(∀t∈nx,(C2 t).isSome=true)/\(∀t,(C t).isSome=true->(C2 t).isSome=true):=by
 induction nx with
 | nil=>intro C n R _ h;exact .inr ⟨C,n,R,rfl,rfl,h, λt H=>(by cases H), λt H=>H⟩
 | cons t nx Q=>
   intro C n R N h;have B:=N t sP;(have O:∀t∈nx,t<f.length:= λq l=>N q (by simp[l]));have p:=h.c t;simp only[]at p;cases e:C t with
   | some s1=>
     have S:R (Fs f t)=s1:=by
      by_cases y:t∈done
      . have d:=h.eq (Fs f t) (λb m w z=>absurd (by rw[I b t m B z];exact y) w);have g:=(h.dn t y).2;simp only[]at d g;rw[d];rw[e]at g;exact(mD g).symm
      exact h.wt t B y s1 e
     rw[e]at p;simp only[Option.isSome_some]at p;simp only[Mg,EY,e,p,S,if_true];by_cases A:s1=r
     . rw[mE A,mE A];rcases Q C n R O h with⟨d,g⟩|⟨C2,s,u,d,g,E,F,v⟩
       . exact .inl ⟨d,g⟩
       refine .inr ⟨C2,s,u,d,g,E, λq l=> ?_,v⟩;rcases lW.1 l with rfl|l
       . exact v q (by rw[e];rfl)
       exact F q l
     rw[lY A,lY A];exact .inl ⟨rfl,rfl⟩
   | none =>
     rw[e]at p;simp only[Option.isSome_none]at p;(have P:t∉done:= λy=>by have:=(h.dn t y).2;simp only[]at this;rw[e]at this;cases this);have hrel:OP f done ⟨PA C t r,T,D⟩ ⟨Ja n t,ET R (Fs f t) r,D⟩:=by
      refine⟨λb=> ?_,rfl, λb m=> ?_, λb m w s1 d=> ?_, λj L=> ?_⟩
      . simp only[PA,Ja];by_cases k:b=t
        . rw[mE k,mE k];rfl
        rw[lY k,lY k];exact h.c b
      . have:=h.dn b m;refine⟨this.1,?_⟩;simp only[PA];rw[lY (λq:b=t=>P (q▸m))];exact this.2
      . simp only[PA]at d;simp only[ET];by_cases k:b=t
        . subst k;rw[mE rfl]at d;rw[mE rfl];exact mD d
        rw[lY k]at d;rw[lY (λq=>k (I b t m B q))];exact h.wt b m w s1 d
      simp only[ET];by_cases G:j=Fs f t
      . have:=L t B P G.symm;simp only[PA,if_true]at this;cases this
      rw[lY G];(refine h.eq j λb m w z=> ?_);have:=L b m w z;simp only[PA]at this;by_cases k:b=t
      . subst k;exact absurd z.symm G
      rw[lY k]at this;exact this
     simp only[Mg,EY,e,p];rw[lY sP];rcases Q _ _ _ O hrel with⟨d,g⟩|⟨C2,s,u,d,g,E,F,v⟩
     . exact .inl ⟨d,g⟩
     refine .inr ⟨C2,s,u,d,g,E, λq l=> ?_, λq l=>v q ?_⟩
     . rcases lW.1 l with rfl|l
       . exact v q (by simp[PA])
       exact F q l
     simp only[PA];split
     . rfl
     exact l
structure PQ(xs:List MI)(bs:List MB):Prop where
 inj:∀a b,a< ↑bs->b< ↑bs->Fs bs a=Fs bs b->a=b
 part:∀(b:Nat) (m:MB),bs[b]?=K m->∃a e:Nat,m.cz=(a:Int)/\m.last=(e:Int)/\a<=e/\e< ↑xs
 apart:∀(b t:Nat) (m:MB),bs[b]?=K m->t< ↑bs->b≠t->¬(m.cz<=(Fs bs t:Int)/\(Fs bs t:Int)<=m.last)
 next:∀(b:Nat) (m:MB),bs[b]?=K m->∀t∈m.next.map Int.toNat,t< ↑bs
theorem Jo{c:List MB}{a:Nat}(h:c[b]?=K m)(d:m.cz=(a:Int)):Fs c b=a:=by unfold Fs;rw[h];simp only[d,lV]
theorem Qd(n:Bd xs):PQ xs (AR xs):=by
 refine⟨λa b e c h=> ?_, λb m h=>Ez h, λb t m h d f=> ?_, λb m h t d=> ?_⟩
 . apply mr;intro f;obtain⟨u,v,p,y,z,A⟩:=Ez (an e);obtain⟨j,k,g,q,r,s⟩:=Ez (an c);have w:=Jo (an e) p;have l:=Jo (an c) g;exact NX (an e) (an c) f oM
 . obtain⟨j,k,g,q,r,s⟩:=Ez (an d);have l:=Jo (an d) g;have:=NX h (an d) f;omega
 have c:=(f7.1 h).1;exact Ml n b c t (by rw[TM h];exact d)
theorem X1{a:List MB}(n:PQ f.aU a)(l:a[b]?=K m)(L:b∉done){s:WS}{s':WI}(V:(s.c b).isSome=true)(h:OP a done s s'):(∃e,XZ p f m b s=.inl e/\G6 p f a m s'=.inl e)\/∃s2 R,XZ p f m b s=.inr s2/\G6 p f a m s'=.inr R/\OP a (b::done) s2 R/\(∀t∈m.next.map Int.toNat,(s2.c t).isSome=true)/\(∀t,(s.c t).isSome=true->(s2.c t).isSome=true):=by
 obtain⟨B,A⟩:=Option.isSome_iff_exists.1 V;obtain⟨k,v,G,U,h3,h4⟩:=n.part b m l;have H:=(f7.1 l).1;have N:=Jo l G;have Q:=h.wt b H L B A;rw[N]at Q;unfold XZ G6;have T:(m.last-m.cz+1).toNat=v+1-k:=oM;rw[T,G,U,lV,lV,A,Q,oz,h.d];obtain⟨k1,k2⟩:=X5 p f (v+1-k) k B s.t s'.r s.d oM;cases hk:El p f (v+1-k) k B s.t s.d with
 |inl e=>exact .inl ⟨e,rfl,by rw[k1 e hk]⟩
 | inr q=>
   obtain⟨S,F,y⟩:=q;obtain⟨E,q1,w,q3,q4⟩:=k2 S F y hk;have qa:=q4 oM;rw[q1];have hrel:OP a (b::done) ⟨s.c,F,y⟩ ⟨s'.c,E,y⟩:=by
    refine⟨h.c,rfl, λt g=> ?_, λt g u aa X=> ?_, λj O=> ?_⟩
    . rcases lW.1 g with rfl|g
      . exact⟨H,by simp only[];rw[N,qa];exact A⟩
      have q:=h.dn t g;(have z:b≠t:= λq=>L (q▸g));have:=n.apart b t m l q.1 z;refine⟨q.1,?_⟩;simp only[];rw[(w (Fs a t) oM).1];exact q.2
    . (have z:b≠t:= λq=>u (by simp[q]));have:=n.apart b t m l g z;simp only[];rw[(w (Fs a t) oM).2];exact h.wt t g (λq=>u (by simp[q])) aa X
    simp only[]at O⊢;by_cases P:k<=j/\j<k+(v+1-k)
    . exact(q3 j P.1 P.2).symm
    rw[(w j oM).1,(w j oM).2];(refine h.eq j λt g u W=> ?_);by_cases I:t=b
    . subst I;omega
    exact O t g (by simp[I,u]) W
   rcases Xv n.inj S (m.next.map Int.toNat) s.c s'.c E (n.next b m l) hrel with⟨C,D⟩|⟨C2,ae,R3,C,D,z3,z4,z5⟩
   . simp only[];rw[C,D];exact .inl ⟨_,rfl,rfl⟩
   simp only[];rw[C,D];exact .inr ⟨_,_,rfl,rfl,z3,z4,z5⟩
theorem X7{d:List MB}(E:PQ f.aU d)(a:List Nat):∀(done:List Nat) (s:WS) (s':WI),(∀b∈a,b< ↑d)->a.Nodup->(∀b∈a,b∉done)->(∀(A B:List Nat) (b:Nat),a=A++b::B->(s.c b).isSome=true\/∃q∈A,b∈nx d q)->OP d done s s'->(∃e,J6 p f d a s=.inl e/\Hz p f d a s'=.inl e)\/∃s2 k,J6 p f d a s=.inr s2/\Hz p f d a s'=.inr k/\OP d (a.reverse++done) s2 k:=by
 induction a with
 | nil=>intro done s s' _ _ _ _ h;exact .inr ⟨s,s',rfl,rfl,h⟩
 | cons b a L=>
   intro done s s' w G v y h;obtain⟨m,t⟩:∃m,d[b]?=K m:=⟨_,an (w b sP)⟩;have F:(s.c b).isSome=true:=by
    rcases y [] a b rfl with q|⟨_,q,_⟩
    . exact q
    cases q
   obtain⟨H,I⟩:=List.nodup_cons.1 G;simp only[J6,Hz,t];rcases X1 (p:=p) E t (v b sP) F h with⟨e,l,n⟩|⟨s2,k,l,n,z,C,D⟩
   . rw[l,n];exact .inl ⟨e,rfl,rfl⟩
   rw[l,n];simp only[];have:=L (b::done) s2 k (λq j=>w q (by simp[j])) I (λq j u=>by
    rcases lW.1 u with rfl|u
    . exact H j
    exact v q (by simp[j]) u) (λA B q j=> ?_) z
   . simpa[List.reverse_cons,List.append_assoc]using this
   rcases y (b::A) B q (by rw[j];rfl)with g|⟨g,r,hgq⟩
   . exact .inl (D q g)
   rcases lW.1 r with rfl|r
   . rw[TM t]at hgq;exact .inl (C q hgq)
   exact .inr ⟨g,r,hgq⟩
theorem Og(h:l.Nodup):l.reverse.Nodup:=by unfold List.Nodup at*;rw[List.pairwise_reverse];exact h.imp λh=> λe=>h e.symm
theorem rS{r:DQ}(h:Ba f.aU r)(l:r.aU=0):RE f.aU (J6 p f r.a7 (r.dr.map Int.toNat) Wb)=qe f.aU (Hz p f r.a7 (r.dr.map Int.toNat) Wa):=by
 cases h with
 |none _=>cases l
 |off _ _ _=>cases l
 |lost _ _ _ _ _ _ _ _=>cases l
 |two _ _ _ _ _ _ _ _=>cases l
 | @good x S O D L I g x1 o1 v1 s1 d1 b1 i1 l1=>
   obtain⟨E,y,V,t,U⟩:=DN (GN g) (Ml g) v1 s1;simp only[];(have e:(ints O.reverse).map Int.toNat=O.reverse:=by unfold ints;rw[ot];(conv=>rhs;rw[<-List.map_id O.reverse]);apply o4;intro a _;simp);rw[e];have hrel:OP (AR f.aU) [] Wb Wa:=by
    refine⟨λb=> ?_,rfl, λb k=>(by cases k), λb _ _ sh m=> ?_, λj _=>rfl⟩
    . simp only[Wb,Wa];by_cases k:b=0
      . simp[k]
      simp[k]
    simp only[Wb]at m;split at m
    . exact mD m
    cases m
   (have w:∀b∈O.reverse,b<(AR f.aU).length:= λb k=>(t b).1 (nL.1 k));have P:∀(A B:List Nat) (b:Nat),O.reverse=A++b::B->(Wb.c b).isSome=true\/∃q∈A,b∈nx (AR f.aU) q:= λA B b k=>by
    by_cases v:b=0
    . subst v;exact .inl rfl
    (have H:b∈O.reverse:=by rw[k];simp);obtain⟨q,Q,R,X⟩:=E.par b (w b H) v;refine .inr ⟨q,?_,R⟩;have T:q∈O.reverse:=nL.2 ((t q).2 Q);(have W:DY O b=A.length:=by unfold DY;(have F:b∉A:= λC=>by (have N:(A++b::B).Nodup:=by rw[<-k];exact Og y);exact(pH.1 N).2.2 b C b sP rfl);rw[k,List.idxOf_append];simp[F]);have z:(O.reverse)[DY O q]?=K q:=Hx (nL.1 T);rw[k,mq oM]at z;exact lP z
   rcases X7 (p:=p) (Qd g) O.reverse [] Wb Wa w (Og y) (λb _ k=>by cases k) P hrel with⟨q,n,s⟩|⟨s2,aa,n,s,u⟩
   . rw[n,s];rfl
   rw[n,s];simp only[RE,qe,u.d];(congr 1);apply o4;intro j _;refine(u.eq j λb k G _=>absurd ?_ G).symm;rw[nm,nL,nL];exact(t b).2 k
theorem WX{r:DQ}{z q W vl:J}(h:Ba xs r)(e:r.aU=0)(v:JL w z q W vl r):∃gb k m j l co O D L,z=sO gb k r.a7 m/\q=sO j l r.a7 co/\0<r.a7.length/\Gd r (nx r.a7) r.a7 O D L/\∀x:GV,x.gb=gb->x.ob=k->x.go=j->x.oo=l->GF w r.a7 x (nx r.a7) O.reverse:=by
 obtain⟨d,D,L,t⟩:=h.gd e;cases h with
 |none _=>cases e
 |off _ _ _=>cases e
 |lost _ _ _ _ _ _ _ _=>cases e
 |two _ _ _ _ _ _ _ _=>cases e
 | @good x S O D2 L2 I g x1 o1 v1 s1 d1 b1 i1 l1=>have p:=GN g;have s:∀b,b<(AR xs).length->∀y∈nx (AR xs) b,y<(AR xs).length:=Ml g;obtain⟨hP,aa,n,H,_⟩:=DN p s v1 s1;obtain⟨gb,k,m,A,N,_⟩:=KQ.jm g v.a7;(have G:d=O:=by have E:ints d.reverse=ints O.reverse:=t.ord.symm;have F:d.reverse=O.reverse:=(List.map_inj_right (f:= λ(x:Nat)=>(x:Int)) (λa b h=>by have X:(a:Int)=(b:Int):=h;omega)).1 E;exact List.reverse_inj.1 F);subst G;(have u:Lb w q d.reverse:=by have:=v.dr;unfold Lb;rw[Er];simp only[A4]at this;exact this);obtain⟨a,c,B⟩:=Rd.aD u;subst B;obtain⟨j,l,C,_,P⟩:=u.all (by rw[nP,n];exact p);subst C;refine⟨gb,k,m,j,l,c,d,D,L,A,by rw[nP,n],p,t, λx R T U V=> ?_⟩;subst R T U V;exact⟨N,P,by rw[nP,n], λy Q=>(H y).1 (nL.1 Q),s,Mm _ (Ib xs)⟩
structure BK(w u:Y)(n gB:Nat)(FS:List (J×List Nat)):Prop where
 iY:Ab u w 27 1 (sG gB n n) n (FS.map Prod.fst)
 fg:CO u w (FS.map λx=>(x.1,ints x.2))
 cq:Ah w w u
theorem BK.av{w u d:Y}{n c:Nat}{b:List (J×List Nat)}(h:BK w u n c b)(a:Ah u u d):BK w d n c b:=⟨AD h.iY a lR,h.fg.jA a,Ar h.cq lR a⟩
theorem BK.jt{u f:Y}{n d g cap y b:Nat}{V:J}{c:List (J×List Nat)}(h:BK w u n d c)(s:c[y]?=K (V,l))(D:Ab f w 2 1 (sG g (l.length+1) cap) (l.length+1) (nv l++[iZ (b:Int)]))(j:u.grownBy f V.ownBlock)(v:V.ownBlock=K g\/g= ↑u):Ab f w 27 1 (sG d n n) n (c.map Prod.fst)/\BK w (Aa f ⟨d,y,M⟩ (sG g (l.length+1) cap)) n d (c.set y (sG g (l.length+1) cap,l++[b])):=by
 obtain⟨G,F⟩:=f7.1 s;have q:c=c.take y++(V,l)::c.drop (y+1):=by rw[<-F,<-oG G,n9]
 have C:(c.take y).length=y:=by rw[nF];omega
 have t:=h.fg.own (V,ints l) (mV.2 ⟨(V,l),lP s,rfl⟩);have k:Ab f w 27 1 (sG d n n) n (c.map Prod.fst):=H9 h.iY j t dC;have E:c.set y (sG g (l.length+1) cap,l++[b])=c.take y++(sG g (l.length+1) cap,l++[b])::c.drop (y+1):=by have:=TX (c.take y) (c.drop (y+1)) (V,l) (sG g (l.length+1) cap,l++[b]);rw[C,<-q]at this;exact this
 have m:CO f w ((c.set y (sG g (l.length+1) cap,l++[b])).map λx=>(x.1,ints x.2)):=by have p:=h.fg;rw[q,nS,nh]at p;rw[E,nS,nh];refine CO.grow (g:=g) p ?_ rfl j (v.imp id λe=>oM);simp only[];rw[A4,mB,mT,<-Er,Mk];exact D
 obtain⟨A,H,z⟩:=AZ k;refine⟨k,?_,⟨λx r=>mR (m.own x r) (a:=⟨d,y,M⟩) (λe=>FA (m.own x r) z dC d e rfl) _,m.sep⟩,(h.cq.grown j h.cq.size (λi B=>(t.lt i B).1)).setCell A _⟩;have:=(k.stored y (sG g (l.length+1) cap)).1;rw[List.map_set];exact this
theorem Qa{E:Nat->List Nat}{D:Nat->Nat->Bool}{k y:Nat}(a:(E b)[k]?=K y)(x:Nat):Dp E D x b (k+1)=if x=y/\D y b=true then Dp E D x b k++[b]else Dp E D x b k:=by
 by_cases e:x=y
 . subst e;by_cases q:D x b=true
   . rw[mE ⟨rfl,q⟩,Ug a q]
   rw[lY (λr=>q r.2),Qb a (λr=>q r.2)]
 rw[lY (λr=>e r.1),Qb a (λr=>e r.1.symm)]
def qi(w d:Y)(n:Nat)(E:Nat->List Nat)(O:List Nat)(D:Nat->Nat->Bool)(e:Ending):Prop:=(∃b k y:Nat,e=Am (Ap #[sN,y])/\Gc E n (MX O D) b k y)\/∃c a,e=Am (Ap #[sG c n n,iZ (-1)])/\(∀b,b<n->∀t∈E b,¬MX O D b t)/\BK w d n c a/\a.length=n/\∀x,x<n->∃V,a[x]?=K (V,AP E D n x)
theorem M8(G n gN cN gP cP gi ci:Nat)(E:Nat->List Nat)(O:List Nat)(I:Nat->Int)(D:Nat->Nat->Bool)(w:Y)(hn:n<=1024)(hP:EU E n (DY O))(hI:PU E n (DY O) I)(hD:∀d b,D d b=true↔Ea E d b)(aQ:∀b,(E b).length<=2)
 (h0:w G=K (sG gN n cN)) (hN:Gb w gN 0 n E) (hG:GI w G n gP cP gi ci (DY O) I):
 Ai Aq 26 #[.pointer G] w λe w'=>qi w w' n E O D e/\Ah w w w':=by
 obtain⟨k0,hk,bx,bB,bC⟩:=nE Ct;obtain⟨j0,hj,bG,bH,bI⟩:=nE SN;have H:=Aw (lN hN (lN hG (lN hP (lN hI (lN hD (lN aQ h0))))));clear hN hG hP hI hD aQ;go_enter func26,ntmps26;go_upto_region 2 with(at_make;refine pK _ rfl _ _ 28 rfl w 27 j0 sN 1 underlying28 hj bG bH Af Af _ _ n rfl rfl rfl rfl (by rw[bI];omega) oX lR ?_;intro w3 P Q)
 rw[H8]at P;have au:Ae (BK w w3 n w ((List.range n).map λx=>((sN:J),AP E D 0 x))):=by
  refine⟨?_,⟨λx B=> ?_,?_⟩,BS Q⟩
  . rw[ot];have e:(List.range n).map (Prod.fst ∘ λx=>((sN:J),AP E D 0 x))=List.replicate n sN:=by
     apply nj;intro j;by_cases hj:j<n
     . simp[hj]
     rw[mc oT,mc oT]
    rw[e];exact P
  . simp only[mV]at B;obtain⟨y,⟨z,_,rfl⟩,rfl⟩:=B;(have:ints (AP E D 0 z)=[]:=by simp[AP,ints]);simp only[this];exact mX _ _ _ _
  rw[ot];refine oj.2 (pC.imp λ_=> ?_);intro g X;cases X
 have x0:=Az au.cq h0;clear P Q h0;obtain⟨v,aE⟩:∃v,v=w.heap.size:=⟨_,rfl⟩;have aT:=Aw aE;rw[<-aE]at⊢;have aG:Ae (BK w w3 n v ((List.range n).map λx=>((sN:J),AP E D 0 x))):=by rw[aT];exact au
 clear aE au;go_wp2;go_loopw [20] (λi wr=>∃(b:Nat) (h:List (J×List Nat)),b<=n/\i=iZ b/\ ↑h=n/\Ae (BK w wr n v h/\(∀x,x<n->∃V,h[x]?=K (V,AP E D b x))/\(∀l,l<b->∀t∈E l,¬MX O D l t))) (λi _=>n-(intOf i).toNat)
 case atStart=>exact⟨0,_,oM,rfl,sP,aG, λx B=>⟨sN,by simp[B]⟩, λl aM=>oM⟩
 clear aG x0;obtain⟨b,h,hb,rfl,T,c⟩:=hrel;by_cases N:b<n
 . have bq:(b:Int)<(n:Int):=oM;obtain⟨a,ca,g0,g1⟩:=H.1 b N;rw[m9]at g0;have aW:=Aw g1;(replace g0:=Az c.1.cq g0);have bJ:=H.2.2.2.2.2.1 b;clear g1;go_wp2;go_loopw [27] (λi wr=>∃(k:Nat) (h:List (J×List Nat)),k<=(E b).length/\i=iZ k/\ ↑h=n/\Ae (BK w wr n v h/\(∀x,x<n->∃V,h[x]?=K (V,AP E D b x++Dp E D x b k))/\(∀l,l<b->∀t∈E l,¬MX O D l t)/\(∀s t,s<k->(E b)[s]?=K t->¬MX O D b t))) (λi _=>2-(intOf i).toNat)
   (case atStart=>exact⟨0,h,oM,rfl,T,c.1, λx B=>by obtain⟨V,W⟩:=c.2.1 x B;exact⟨V,by rw[Se,nm];exact W⟩,c.2.2, λs t bf=>oM⟩);clear c g0;obtain⟨k,h,bf,rfl,T,c⟩:=hrel;by_cases bi:k<(E b).length
   . have bQ:(k:Int)<((E b).length:Int):=oM;obtain⟨y,hy⟩:∃y,(E b)[k]?=K y:=⟨_,an bi⟩;have aa:y<n:=H.2.2.1.jx b N y (lP hy);have bT:(y:Int)<(n:Int):=oM;have HY:=Aw hy;obtain⟨ga,oa,rfl,_,y0⟩:=aW.at_ hy;(replace y0:=Az c.1.cq y0);have X:=H.2.1.av c.1.cq;have p0:=X.p;have py:=X.pc y aa;have pb:=X.pc b N;clear hy X;have aI:Ae (¬MX O D b y->∀s F,s<k+1->(E b)[s]?=K F->¬MX O D b F):= λbr s F h1 h2=>by
      by_cases e:s=k
      . subst e;rw[HY]at h2;(cases h2);exact br
      exact c.2.2.2 s F oM h2
     by_cases hp:DY O b<DY O y
     . have bt:(DY O b:Int)<(DY O y:Int):=oM;have L:Ae ((∀x,x<n->∃V,h[x]?=K (V,AP E D b x++Dp E D x b (k+1)))/\∀s F,s<k+1->(E b)[s]?=K F->¬MX O D b F):=by
        refine⟨λx B=> ?_,aI.o (λq=>by have:=q.1;omega)⟩;rw[Qa HY x,lY]
        . exact c.2.1 x B
        rintro⟨_,q⟩;have:=(((H.2.2.2.2.1 y b).1 q).jH H.2.2.1 N).2.1;omega
       go_wp2;go_quiet (fail);refine Cf (λu=>Ae (BK w u n v h)) (c.1.av (AL _ _ _)) ?_;intro U HU;clear y0 p0 py pb;go_wp2;go_roundw;(case rel=>exact⟨k+1,h,oM,by go_num,T,HU,L.1,c.2.2.1,L.2⟩);exact oI
     have bt:¬(DY O b:Int)<(DY O y:Int):=oM;go_wp2;go_quiet (fail);refine Cf (λu=>Ae (BK w u n v h)) (c.1.av (AL _ _ _)) ?_;intro U HU;clear y0 p0 py pb;go_wp2_with fail;refine(Q3 G n gP cP gi ci y b (DY O) I U hn H.2.2.2.1.jk.tree H.2.2.1.zero H.2.2.1.inj aa N (H.2.2.2.1.all y aa) (H.2.2.2.1.all b N) (H.2.1.av HU.cq)).mono ?_;rintro e u5 ⟨m,rfl,hm,bP,hM,b5⟩;have aA:Ae (m=y↔D y b=true):=by
      rw[H.2.2.2.2.1,<-H.2.2.2.1.jE y b N];constructor
      . intro e;subst e;exact((hM m).1 .here).2
      intro q;exact EP.jF H.2.2.2.1.jk.tree aa ((hM m).1 .here).1 ((hM y).2 ⟨.here,q⟩)
     have ai:=Aw (HU.av b5);clear hM b5 HU;by_cases aO:m=y
     . subst aO;have aH:=Aw (aA.1 rfl);obtain⟨V,W⟩:=c.2.1 m aa;obtain⟨R,S,eV⟩:=AF (c.1.fg.own (V,ints (AP E D b m++Dp E D m b k)) (mV.2 ⟨(V,_),lP W,rfl⟩));simp only[A4]at eV;subst eV;(have bg:(AP E D b m++Dp E D m b k).length<=4096:=by have h1:=NR H.2.2.2.2.2.1 D m b;have h2:=NU E D m b k;rw[mB];omega);generalize aK:AP E D b m++Dp E D m b k=f at W bg;have ae:=Aw (lN aK W);clear W aK aA;(have ax:Ae (∀(u':Y),Ab u' w 27 1 (sG v n n) n (h.map Prod.fst)->u' ⟨v,m,M⟩=K (Z R f S)):= λu' bu=>by have:=bu.cellAt m oM;rw[mN,ae.2]at this;exact this);have bE:=Al u5 (Ak #[(b:Int)] 2);have x2:=ax.o _ ai.iY;have aj:=Aw (lN (ai.av bE) (mC ai.cq.size bE.size));(have aJ:Ae (Ab (Ac u5 (Ak #[(b:Int)] 2)) w 2 1 (Z R f S) f (nv f)):=by have:=aj.1.fg.own (Z R f S,ints f) (mV.2 ⟨(_,f),lP ae.2,rfl⟩);rw[A4,<-Er]at this;exact this);have aF:Ae (∀A C w6,w6.ownsRow w 2 1 (sG A (f.length+1) C) (f.length+1) (nv f++[iZ (b:Int)])->(Ac u5 (Ak #[iZ (b:Int)] 2)).grownBy w6 (Z R f S).ownBlock->((Z R f S).ownBlock=K A\/A=(Ac u5 (Ak #[iZ (b:Int)] 2)).heap.size)->w6.cell? ⟨v,m,M⟩=K (Z R f S)/\w6.frozen? ⟨v,m,M⟩=false/\BK w (w6.setCell ⟨v,m,M⟩ (sG A (f.length+1) C)) n v (h.set m (sG A (f.length+1) C,f++[b]))):= λA C w6 P Q aq=>by obtain⟨q1,q2⟩:=aj.1.jt ae.2 P Q aq;exact⟨ax.o _ q1,q1.frozenAt m,q2⟩
       clear bE;go_wp2_with (at_builtin;refine wpList_append_lies _ rfl _ _ 27 rfl w 2 k0 (iZ 0) 1 8 underlying27 hk bx bB bC rfl dC _ f (nv f) rfl aJ u5 1 1 [(b:Int)] rfl rfl (Fw u5 (b:Int)) (λu hu=>by simp at hu;subst hu;rfl) oM (by simp[maxLen];omega) oM aj.2 _ rfl ?_;intro A C w6 P Q aq bj;obtain⟨t6,z6,l6⟩:=aF.o A C w6 P Q aq;have aX:Ae (BK w (w6.setCell ⟨v,m,M⟩ (sG A (f.length+1) C)) n v (h.set m (sG A (f.length+1) C,f++[b]))):=l6;clear P Q aq bj l6);have L:Ae ((∀x,x<n->∃V,(h.set m (sG A (f.length+1) C,f++[b]))[x]?=K (V,AP E D b x++Dp E D x b (k+1)))/\∀s F,s<k+1->(E b)[s]?=K F->¬MX O D b F):=by
        refine⟨λx B=> ?_,aI.o (λq=>q.2 aH)⟩;rw[Qa HY x];by_cases e:x=m
        . subst e;refine⟨sG A (f.length+1) C,?_⟩;rw[mE ⟨rfl,aH⟩,<-nD,ae.1,nK oM]
        rw[lY (λr=>e r.1),ni (Ne.symm e)];exact c.2.1 x B
       clear x2 aj aJ aF ax;go_roundw;(case rel=>exact⟨k+1,h.set m (sG A (f.length+1) C,f++[b]),oM,by go_num,by rw[mF];exact T,aX,L.1,c.2.2.1,L.2⟩);exact oI
     have bS:((m:Int)==(y:Int))=false:=oT;(have aZ:¬D y b=true:= λq=>aO (aA.2 q));have aS:Ae (Gc E n (MX O D) b k y):=⟨N,HY,⟨oM,aZ⟩, λl s x' aM aR hl=>by
      rcases hl with q|⟨rfl,q⟩
      . exact c.2.2.1 l q x' (lP aR)
      exact c.2.2.2 s x' q aR⟩
     go_wp2;go_ret2;exact⟨Or.inl ⟨b,k,y,rfl,aS⟩,ai.cq⟩
   obtain rfl:k=(E b).length:=oM;have L:Ae ((∀x,x<n->∃V,h[x]?=K (V,AP E D (b+1) x))/\∀l,l<b+1->∀t∈E l,¬MX O D l t):=by
    refine⟨λx B=>by rw[Lv];exact c.2.1 x B, λl aM t ht=> ?_⟩;by_cases e:l=b
    . subst e;obtain⟨q,hq⟩:=nB ht;exact c.2.2.2 q t (f7.1 hq).1 hq
    exact c.2.2.1 l oM t ht
   go_wp2;go_roundw;(case rel=>exact⟨b+1,h,oM,by go_num,T,c.1,L.1,L.2⟩);exact oI
 have aY:b=n:=oM;have bq:¬(b:Int)<(n:Int):=oM;rw[aY]at c;go_wp2;go_ret2;exact⟨Or.inr ⟨v,h,rfl,c.2.2,c.1,T,c.2.1⟩,c.1.cq⟩
end Go.Proofs.YtkgohaigebcgoaaGreatDoor
