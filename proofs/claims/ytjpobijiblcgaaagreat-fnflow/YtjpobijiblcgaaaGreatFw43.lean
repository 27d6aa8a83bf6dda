import Derived.Test.YtjpobijiblcgaaaGreatFw0
import Derived.Test.YtjpobijiblcgaaaGreatFw4
import Derived.Test.YtjpobijiblcgaaaGreatFw41
import Derived.Test.YtjpobijiblcgaaaGreatFw42
import Derived.Deep.CutBlock
import Derived.Deep.DeepCutAuto
namespace Go.Proofs.YtjpobijiblcgaaaGreat
open Go.ChangeShapes Go.WideShapes Go.ChangeAt Go.RowKit
set_option linter.unusedVariables false
set_option maxHeartbeats 8000000
set_option maxRecDepth 100000
theorem Bs.drawRows{w u u':World}{s:Cv}{p p':Int}{Ls M:List Av}(h:Bs w u s p Ls)(hs:CU u' s.S s.a s.len s.cap p')(hd:AC s.S u u')(hM:Eb u' u.heap.size M):Bs w u' s p' (Ls++M):=
 ⟨(h.draw hs hd).sep.app hM (fun x hx g hg=>(h.sep.lt x hx g hg).2) h.size,(h.draw hs hd).bel⟩
theorem Pu.draw{s:Cv}{u u':World}{v:VP}{m:MP}(h:Pu s u v m)(hd:AC s.S u u'):Pu s u' v m:=by
 obtain⟨F,G,h1,h2,h3⟩:=h;exact⟨F,G,h1,h2,fun u2 h4=>h3 u2 (hd.trans h4)⟩
theorem ON{n:Nat}(l:List Value)(h:l.length=n):∃f:Nat->Value,l=(List.range n).map f:=⟨fun i=>l.getD i undef,by
 subst h;refine List.ext_getElem (by simp) fun i h1 h2=> ?_
 simp[List.getD_eq_getElem?_getD,h1]⟩
theorem KZ:Gy:=by
 intro u s p v m n hs hp hr hb h3 hn;have hp0:=hs.low;obtain⟨a11,c11,a12,c12,a13,c13,a14,c14,ev⟩:=(hr.rd u (AC.refl _ _)).sl4;subst ev;have HR:Hid (Pu s u ⟨.slice a11 m.regions.length c11,.slice a12 m.consts.length c12,.slice a13 m.funcs.length c13,.slice a14 m.certs.length c14⟩ m/\PB n m/\m.regions.length=3):=⟨hr,hb,h3⟩
 have E0:=Ah (((Bs.start ⟨AC.refl _ _,hs,hs.lt⟩).box 65 4 [.slice a11 m.regions.length c11,.slice a12 m.consts.length c12,.slice a13 m.funcs.length c13,.slice a14 m.certs.length c14] rfl).box 65 4 [.slice none 0 0,.slice none 0 0,.slice none 0 0,.slice none 0 0] rfl);clear hs hr hb h3;go_enter Tryz.func41,Tryz.ntmps41;go_upto_region 1 with fail
 simp only[dh]at E0;generalize u.heap.size+1=RB at E0⊢;generalize hP:u.heap.size=P at E0⊢;clear hP;refine Al (fun U=>Hid (Bs u U s p [gb P ⟨.slice a11 m.regions.length c11,.slice a12 m.consts.length c12,.slice a13 m.funcs.length c13,.slice a14 m.certs.length c14⟩,gb RB vN])) E0 ?_;clear E0;rintro U0 E;obtain⟨k0,k1,k2,k3⟩:=(E.o.four (P:=P) (v:=⟨.slice a11 m.regions.length c11,.slice a12 m.consts.length c12,.slice a13 m.funcs.length c13,.slice a14 m.certs.length c14⟩) (by simp)).1;simp only[]at k0 k1 k2 k3;go_wp2_with fail
 refine(Mr _ s p ⟨.slice a11 m.regions.length c11,.slice a12 m.consts.length c12,.slice a13 m.funcs.length c13,.slice a14 m.certs.length c14⟩ m n E.o.bel.src (HR.o.1.draw E.o.bel.drw) HR.o.2.1 hn).mono ?_;rintro e U1 ⟨v2,F,G,rfl,hF,hG,hc⟩;obtain⟨e1,h1,e2,h2,e3,h3',e4,h4,ev⟩:=hc.prow.1;subst ev;have HF:Hid (F.map Prod.fst=m.regions/\G.map Prod.fst=m.funcs):=⟨hF,hG⟩
 have ER:Hid (Bs u U1 s p ([]++gb P ⟨.slice a11 m.regions.length c11,.slice a12 m.consts.length c12,.slice a13 m.funcs.length c13,.slice a14 m.certs.length c14⟩::(gb RB vN::Ae ⟨.slice e1 F.length h1,.slice e2 m.consts.length h2,.slice e3 G.length h3',.slice e4 m.certs.length h4⟩ F m.consts G m.certs []))):=E.o.drawRows hc.bel.src hc.bel.drw hc.sep;clear hF hG hc E k0 k1 k2 k3;obtain⟨⟨k0,k1,k2,k3⟩,z0,z1,z2,z3⟩:=ER.o.four (P:=P) (v:=⟨.slice a11 m.regions.length c11,.slice a12 m.consts.length c12,.slice a13 m.funcs.length c13,.slice a14 m.certs.length c14⟩) (by simp);simp only[]at k0 k1 k2 k3
 have E:Hid (Bs u ((((U1.setCell ⟨P,0,none⟩ (.slice e1 F.length h1)).setCell ⟨P,1,none⟩ (.slice e2 m.consts.length h2)).setCell ⟨P,2,none⟩ (.slice e3 G.length h3')).setCell ⟨P,3,none⟩ (.slice e4 m.certs.length h4)) s p (Ae ⟨.slice e1 F.length h1,.slice e2 m.consts.length h2,.slice e3 G.length h3',.slice e4 m.certs.length h4⟩ F m.consts G m.certs [gb P ⟨.slice e1 F.length h1,.slice e2 m.consts.length h2,.slice e3 G.length h3',.slice e4 m.certs.length h4⟩,gb RB vN])):=
  (show Bs u _ s p ([]++gb P ⟨.slice e1 F.length h1,.slice e2 m.consts.length h2,.slice e3 G.length h3',.slice e4 m.certs.length h4⟩::(gb RB vN::Ae ⟨.slice e1 F.length h1,.slice e2 m.consts.length h2,.slice e3 G.length h3',.slice e4 m.certs.length h4⟩ F m.consts G m.certs []))from(((ER.o.set 0 (by omega) (.slice e1 F.length h1)).set 1 (by omega) (.slice e2 m.consts.length h2)).set 2 (by omega) (.slice e3 G.length h3')).set 3 (by omega) (.slice e4 m.certs.length h4)).perm (AX fun inst q=>(by simp only[Ae,bT,bS,bj,ah,bL];omega))
 clear ER;go_upto_region 2 with fail
 clear k0 k1 k2 k3 z0 z1 z2 z3;refine Al (fun U=>Hid (Bs u U s p (Ae ⟨.slice e1 F.length h1,.slice e2 m.consts.length h2,.slice e3 G.length h3',.slice e4 m.certs.length h4⟩ F m.consts G m.certs [gb P ⟨.slice e1 F.length h1,.slice e2 m.consts.length h2,.slice e3 G.length h3',.slice e4 m.certs.length h4⟩,gb RB vN]))) E ?_;clear E;clear U1;rintro U2 E;have hgl:1<=G.length/\G.length<=32:=by have h5:=HR.o.2.1.fl;have h6:=congrArg List.length HF.o.2;rw[aj]at h6;omega
 have kP:=(E.o.four (P:=P) (v:=⟨.slice e1 F.length h1,.slice e2 m.consts.length h2,.slice e3 G.length h3',.slice e4 m.certs.length h4⟩) (by simp[Ae])).1.2.2.1;simp only[]at kP
 obtain⟨gf,eg⟩:∃gf,e3=some ⟨gf,0,none⟩:=by
  rcases Ba E.o.prow.2.2.2.1 with⟨e,h0⟩|⟨gf,c,e⟩
  . omega
  . simp only[aI]at e
    exact⟨gf,e.1⟩
 subst eg;refine wp_region_held_drew (S:=fun W=>W.cell? ⟨P,2,none⟩=some (.slice (some ⟨gf,0,none⟩) G.length h3')) (by kernel_rfl) (by exact Ac (Ad _) kP) (fun hHeld=> ?_);have E1:=Ah (E.o.keep (Ad _));clear E kP;generalize U2.drew=UD at E1 hHeld⊢;refine Ak 0 ?_;refine Ak 1 ?_;refine Ak 2 ?_;refine Ak 3 ?_;refine Ak 4 ?_;refine Ak 5 ?_;refine rdH 6 ?_;intro KC hKC;go_simp;refine(Ai (n:=(G.length:Int)) E1.o.bel.src).mono ?_;rintro e U3 ⟨r,r0,r1,rfl,hs,hd⟩;obtain⟨q,rfl⟩:=aq r0;have E2:=Ah (E1.o.draw hs hd);clear hs hd E1;have k4:=(E2.o.four (P:=P) (v:=⟨.slice e1 F.length h1,.slice e2 m.consts.length h2,.slice (some ⟨gf,0,none⟩) G.length h3',.slice e4 m.certs.length h4⟩) (by simp[Ae])).1.2.2.1;simp only[]at k4;refine hKC.o _ _ (by exact k4) (fun hHeld=> ?_);clear hKC KC;refine Ak 7 ?_;refine Ak 8 ?_;refine wpAnyH_done (by kernel_rfl) ?_ _;clear hHeld k4 r0;obtain⟨⟨f,vf⟩,hy⟩:∃y,G[q]?=some y:=⟨_,aA (by omega)⟩;obtain⟨gf',cf,ap,cp,al,cl,ac,cc,e1',e2',⟨f0,f1,f2,f3⟩,o1,o2,o3⟩:=E2.o.fn hy;simp only[aI,aJ,bf,cg,bU]at e1' e2' f0 f1 f2 f3;obtain⟨rfl,rfl⟩:=e1';subst e2';have HY:=Ah hy;clear hy o1 o2 o3;have hfs:=HR.o.2.1.fs f (by rw[<-HF.o.2];exact bJ.2 ⟨_,aE HY.o,rfl⟩)
 have HP:Hid (PB n ⟨F.map Prod.fst,m.consts,G.map Prod.fst,m.certs⟩):=by rw[HF.o.1,HF.o.2];exact HR.o.2.1
 go_upto_region 4 with fail
 by_cases hc0:f.code.length=0
 case pos=>
  have hcI:((f.code.length:Int)==0)=true:=by simp[hc0]
  clear hc0;have BE:Hid (Be u U3 s (p+1) P RB (n+1) ⟨.slice e1 F.length h1,.slice e2 m.consts.length h2,.slice (some ⟨gf,0,none⟩) G.length h3',.slice e4 m.certs.length h4⟩):=(Be.of E2.o HP.o).mono (by omega);obtain⟨⟨⟨k0,k1,k2,k3⟩,⟨q0,q1,q2,q3⟩,z0,z1,z2,z3⟩,hq⟩:=BE.o.rb;simp only[]at k0 k1 k2 k3;have H4:Hid _:=(hq.four (P:=RB) (v:=⟨.slice e1 F.length h1,.slice e2 m.consts.length h2,.slice (some ⟨gf,0,none⟩) G.length h3',.slice e4 m.certs.length h4⟩) (by simp)).1;clear hq;go_wp2_with fail
  obtain⟨w0,w1,w2,w3⟩:=H4.o
  (try simp only[]at w0 w1 w2 w3)
  exact aT (v:=.agg #[.slice e1 F.length h1,.slice e2 m.consts.length h2,.slice (some ⟨gf,0,none⟩) G.length h3',.slice e4 m.certs.length h4]) (by simp[results,Tryz.results41,go_sem,w0,w1,w2,w3]) rfl (BE.o.fin (by omega) (by omega) rfl)
 case neg=>
  have hcI:((f.code.length:Int)==0)=false:=by rw[cT];omega
  go_wp2_with fail
  refine(Ai (n:=(f.code.length:Int)) E2.o.bel.src).mono ?_;rintro e U4 ⟨r,r0,r2,rfl,hs,hd⟩;obtain⟨at_,rfl⟩:=aq r0;have E3:=Ah (E2.o.draw hs hd);clear hs hd E2 f0 f1 f2 f3 r0 hcI;obtain⟨gf',cf,ap',cp',al',cl',ac',cc',e1',e2',⟨f0,f1,f2,f3⟩,o1,o2,o3⟩:=E3.o.fn HY.o;simp only[aI,aJ,bf,cg,bU,VF.mk.injEq]at e1' e2' f0 f1 f2 f3;obtain⟨rfl,rfl⟩:=e1';obtain⟨⟨rfl,rfl⟩,⟨rfl,rfl⟩,rfl,rfl⟩:=e2'
  obtain⟨gc,ec⟩:∃gc,ac=some ⟨gc,0,none⟩:=by
   rcases Ba o3 with⟨e,h0⟩|⟨gc,c,e⟩
   . exact absurd h0 hc0
   . simp only[aI]at e
     exact⟨gc,e.1⟩
  subst ec;clear o1 o2 o3;go_wp2_with fail
  refine(Ai (n:=16) E3.o.bel.src).mono ?_;rintro e U5 ⟨kd,d0,d1,rfl,hs,hd⟩;obtain⟨vv,hvv⟩:∃vv:VP,vv=⟨.slice e1 F.length h1,.slice e2 m.consts.length h2,.slice (some ⟨gf,0,none⟩) G.length h3',.slice e4 m.certs.length h4⟩:=⟨_,rfl⟩;have HV:=Ah hvv;have E4:Hid (Bs u U5 s (p+1+1+1) (Ae vv F m.consts G m.certs [gb P vv,gb RB vN])):=by rw[hvv];exact E3.o.draw hs hd
  clear hs hd E3 f0 f1 f2 f3 hvv;have hat:at_<f.code.length:=by omega
  obtain⟨x,hx⟩:∃x,f.code[at_]?=some x:=⟨_,aA hat⟩;have HX:=Ah hx;clear hx;go_upto_block 0 with fail
  refine wp_cut (fun a' w'=>∃(x0 x1 x2:Value) (l:List Value) (v':VP) (p':Int),a'=⟨(x0::x1::x2:: .pointer (some ⟨P,0,none⟩):: .pointer (some ⟨RB,0,none⟩)::l).toArray,[]⟩/\l.length=273/\Hid (Be u w' s p' P RB (n+1) v'/\p<=p'/\p'<=p+100)) ?rest ?first
  case rest=>
   rintro a' wc ⟨x0,x1,x2,l,v',p',rfl,hl,HC⟩;obtain⟨fl,hfl⟩:=ON l hl
   have hf2:l=[fl 0,fl 1,fl 2,fl 3,fl 4,fl 5,fl 6,fl 7,fl 8,fl 9,fl 10,fl 11,fl 12,fl 13,fl 14,fl 15,fl 16,fl 17,fl 18,fl 19,fl 20,fl 21,fl 22,fl 23,fl 24,fl 25,fl 26,fl 27,fl 28,fl 29,fl 30,fl 31,fl 32,fl 33,fl 34,fl 35,fl 36,fl 37,fl 38,fl 39,fl 40,fl 41,fl 42,fl 43,fl 44,fl 45,fl 46,fl 47,fl 48,fl 49,fl 50,fl 51,fl 52,fl 53,fl 54,fl 55,fl 56,fl 57,fl 58,fl 59,fl 60,fl 61,fl 62,fl 63,fl 64,fl 65,fl 66,fl 67,fl 68,fl 69,fl 70,fl 71,fl 72,fl 73,fl 74,fl 75,fl 76,fl 77,fl 78,fl 79,fl 80,fl 81,fl 82,fl 83,fl 84,fl 85,fl 86,fl 87,fl 88,fl 89,fl 90,fl 91,fl 92,fl 93,fl 94,fl 95,fl 96,fl 97,fl 98,fl 99,fl 100,fl 101,fl 102,fl 103,fl 104,fl 105,fl 106,fl 107,fl 108,fl 109,fl 110,fl 111,fl 112,fl 113,fl 114,fl 115,fl 116,fl 117,fl 118,fl 119,fl 120,fl 121,fl 122,fl 123,fl 124,fl 125,fl 126,fl 127,fl 128,fl 129,fl 130,fl 131,fl 132,fl 133,fl 134,fl 135,fl 136,fl 137,fl 138,fl 139,fl 140,fl 141,fl 142,fl 143,fl 144,fl 145,fl 146,fl 147,fl 148,fl 149,fl 150,fl 151,fl 152,fl 153,fl 154,fl 155,fl 156,fl 157,fl 158,fl 159,fl 160,fl 161,fl 162,fl 163,fl 164,fl 165,fl 166,fl 167,fl 168,fl 169,fl 170,fl 171,fl 172,fl 173,fl 174,fl 175,fl 176,fl 177,fl 178,fl 179,fl 180,fl 181,fl 182,fl 183,fl 184,fl 185,fl 186,fl 187,fl 188,fl 189,fl 190,fl 191,fl 192,fl 193,fl 194,fl 195,fl 196,fl 197,fl 198,fl 199,fl 200,fl 201,fl 202,fl 203,fl 204,fl 205,fl 206,fl 207,fl 208,fl 209,fl 210,fl 211,fl 212,fl 213,fl 214,fl 215,fl 216,fl 217,fl 218,fl 219,fl 220,fl 221,fl 222,fl 223,fl 224,fl 225,fl 226,fl 227,fl 228,fl 229,fl 230,fl 231,fl 232,fl 233,fl 234,fl 235,fl 236,fl 237,fl 238,fl 239,fl 240,fl 241,fl 242,fl 243,fl 244,fl 245,fl 246,fl 247,fl 248,fl 249,fl 250,fl 251,fl 252,fl 253,fl 254,fl 255,fl 256,fl 257,fl 258,fl 259,fl 260,fl 261,fl 262,fl 263,fl 264,fl 265,fl 266,fl 267,fl 268,fl 269,fl 270,fl 271,fl 272]:=hfl
   subst hf2;clear hl hfl;obtain⟨a1,n1,c1,a2,n2,c2,a3,n3,c3,a4,n4,c4,rfl⟩:=HC.o.1.sl4;have hp1:=HC.o.2;have BE:=Ah HC.o.1;clear HC E4;obtain⟨⟨⟨k0,k1,k2,k3⟩,⟨q0,q1,q2,q3⟩,z0,z1,z2,z3⟩,hq⟩:=BE.o.rb;simp only[]at k0 k1 k2 k3;have H4:Hid _:=(hq.four (P:=RB) (v:=⟨.slice a1 n1 c1,.slice a2 n2 c2,.slice a3 n3 c3,.slice a4 n4 c4⟩) (by simp)).1;clear hq;go_wp2_with fail
   obtain⟨w0,w1,w2,w3⟩:=H4.o
   (try simp only[]at w0 w1 w2 w3)
   exact aT (v:=.agg #[.slice a1 n1 c1,.slice a2 n2 c2,.slice a3 n3 c3,.slice a4 n4 c4]) (by simp[results,Tryz.results41,go_sem,w0,w1,w2,w3]) rfl (BE.o.fin (by omega) (by omega) rfl)
  case first=>
   intro J K hJ hK;have hk:kd=0\/kd=1\/kd=2\/kd=3\/kd=4\/kd=5\/kd=6\/kd=7\/(kd=8\/kd=9)\/kd=10\/kd=11\/kd=12\/kd=13\/kd=14\/kd=15:=by omega
   rcases hk with rfl|rfl|rfl|rfl|rfl|rfl|rfl|rfl|hk|rfl|rfl|rfl|rfl|rfl|rfl
   .
    go_wp2_with fail
    refine(Ai (n:=31) E4.o.bel.src).mono ?_;rintro e U6 ⟨r,r0,r1,rfl,hs,hd⟩;have E5:=Ah (E4.o.draw hs hd);clear hs hd E4;obtain⟨⟨x0,x1,x2,x3⟩,y0,y1,y2,y3⟩:=CG E5.o HY.o rfl HX.o;have HB:=Ah ((GB (i:=0) E5.o HP.o HY.o rfl hat (by omega) (Bl (z:=r))).1);go_wp2_with fail
    exact Met.intro (hJ _ _ ⟨_,_,_,_,vv,_,rfl,by kernel_rfl,HB.o,by omega,by omega⟩)
   .
    obtain⟨⟨x0,x1,x2,x3⟩,y0,y1,y2,y3⟩:=CG E4.o HY.o rfl HX.o;go_upto_region 12 with fail
    clear x0 x1 x2 x3 y0 y1 y2 y3;refine AZ 11 (S:=fun W=>W.cell? ⟨gc,at_*4+1,none⟩=some (.int .i64 x.a)) (by kernel_rfl) (by exact(CG (E4.o.keep (Ad _)) HY.o rfl HX.o).1.2.1) (fun hHeld=> ?_);have E5:=Ah (E4.o.keep (Ad _));clear E4;generalize U5.drew=U6 at E5 hHeld⊢;refine BM 0 ?_;refine BM 1 ?_;refine BM 2 ?_;refine BM 3 ?_;refine BM 4 ?_;refine BM 5 ?_;refine DQ 6 ?_;intro KC hKC;go_simp;refine(Ai (n:=3) E5.o.bel.src).mono ?_;rintro e U7 ⟨r,r0,r1,rfl,hs,hd⟩;have E6:=Ah (E5.o.draw hs hd);clear hs hd E5;refine hKC.o _ _ (fun _=>(by exact(CG E6.o HY.o rfl HX.o).1.2.1)) (fun hH=> ?_);clear hKC KC;have hHeld:=hH (by decide);clear hH;refine BM 7 ?_;refine BM 8 ?_;refine BM 9 ?_;refine BM 10 ?_;go_simp;refine DQ 11 ?_;intro KC hKC;obtain⟨⟨x0,x1,x2,x3⟩,y0,y1,y2,y3⟩:=CG E6.o HY.o rfl HX.o;go_simp;refine hKC.o _ _ (fun h=>absurd h (by decide)) (fun hH=> ?_);clear hKC KC hH;clear x0 x1 x2 x3 y0 y1 y2 y3 hHeld;have HB:=Ah ((GB (i:=1) E6.o HP.o HY.o rfl hat (by omega) (BN.wrap (IntKind.i64.wrap (x.a+r)-1))).1);refine Bt (by kernel_rfl) ?_ _;go_wp2_with fail
    exact Met.intro (hJ _ _ ⟨_,_,_,_,vv,_,rfl,by kernel_rfl,HB.o,by omega,by omega⟩)
   .
    obtain⟨⟨x0,x1,x2,x3⟩,y0,y1,y2,y3⟩:=CG E4.o HY.o rfl HX.o;go_upto_region 14 with fail
    clear x0 x1 x2 x3 y0 y1 y2 y3;refine AZ 11 (S:=fun W=>W.cell? ⟨gc,at_*4+2,none⟩=some (.int .i64 x.b)) (by kernel_rfl) (by exact(CG (E4.o.keep (Ad _)) HY.o rfl HX.o).1.2.2.1) (fun hHeld=> ?_);have E5:=Ah (E4.o.keep (Ad _));clear E4;generalize U5.drew=U6 at E5 hHeld⊢;refine BM 0 ?_;refine BM 1 ?_;refine BM 2 ?_;refine BM 3 ?_;refine BM 4 ?_;refine BM 5 ?_;refine DQ 6 ?_;intro KC hKC;go_simp;refine(Ai (n:=3) E5.o.bel.src).mono ?_;rintro e U7 ⟨r,r0,r1,rfl,hs,hd⟩;have E6:=Ah (E5.o.draw hs hd);clear hs hd E5;refine hKC.o _ _ (fun _=>(by exact(CG E6.o HY.o rfl HX.o).1.2.2.1)) (fun hH=> ?_);clear hKC KC;have hHeld:=hH (by decide);clear hH;refine BM 7 ?_;refine BM 8 ?_;refine BM 9 ?_;refine BM 10 ?_;go_simp;refine DQ 11 ?_;intro KC hKC;obtain⟨⟨x0,x1,x2,x3⟩,y0,y1,y2,y3⟩:=CG E6.o HY.o rfl HX.o;go_simp;refine hKC.o _ _ (fun h=>absurd h (by decide)) (fun hH=> ?_);clear hKC KC hH;clear x0 x1 x2 x3 y0 y1 y2 y3 hHeld;have HB:=Ah ((GB (i:=2) E6.o HP.o HY.o rfl hat (by omega) (BN.wrap (IntKind.i64.wrap (x.b+r)-1))).1);refine Bt (by kernel_rfl) ?_ _;go_wp2_with fail
    exact Met.intro (hJ _ _ ⟨_,_,_,_,vv,_,rfl,by kernel_rfl,HB.o,by omega,by omega⟩)
   .
    have hw1:IntKind.i64.wrap ((f.code.length:Int)+1)=(f.code.length:Int)+1:=Go.wrap_small _ (by omega) (by omega);go_wp2_with fail
    refine(Ai (n:=(f.code.length:Int)+1) E4.o.bel.src).mono ?_;rintro e U6 ⟨r,r0,r1,rfl,hs,hd⟩;have E5:=Ah (E4.o.draw hs hd);clear hs hd E4;obtain⟨⟨x0,x1,x2,x3⟩,y0,y1,y2,y3⟩:=CG E5.o HY.o rfl HX.o;have HB:=Ah ((GB (i:=3) E5.o HP.o HY.o rfl hat (by omega) (Bl (z:=r))).1);go_wp2_with fail
    exact Met.intro (hJ _ _ ⟨_,_,_,_,vv,_,rfl,by kernel_rfl,HB.o,by omega,by omega⟩)
   .
    obtain⟨iI,hiI,hI0,hI1,hI2⟩:=bH KT;have hcap:f.code.length<=cc:=GY (Ok E4.o HY.o).2;have hac:at_<=cc:=by omega
    have hal:(0:Int)<=(at_:Int)+1/\(at_:Int)+1<=(f.code.length:Int):=by omega
    obtain⟨a9,ha9⟩:∃a9,(if cc=at_+1 then some (⟨gc,0,none⟩:Addr)else some ⟨gc,(at_+1)*4,none⟩)=a9:=⟨_,rfl⟩;have HA:=Ah ha9;have hw1:IntKind.i64.wrap ((at_:Int)+1)=(at_:Int)+1:=Go.wrap_small _ (by omega) (by omega);have x2:=(Jl (gf:=gf) (cf:=h3') E4.o HY.o (by rw[HV.o])).1;go_upto_region 18 with fail
    clear x2;refine AZ 19 (S:=fun W=>W.cell? ⟨gf,q*4+3,none⟩=some (.slice (some ⟨gc,0,none⟩) f.code.length cc)) (by kernel_rfl) (by exact(Jl (gf:=gf) (cf:=h3') (E4.o.keep (Ad _)) HY.o (by rw[HV.o])).1) (fun hHeld=> ?_);have E5:=Ah (E4.o.keep (Ad _));clear E4;generalize U5.drew=U6 at E5 hHeld⊢;refine BM 0 ?_;refine BM 2 ?_;refine BM 3 ?_;refine BM 4 ?_;refine BM 5 ?_;refine BM 6 ?_;refine BM 7 ?_;refine BM 9 ?_;refine BM 10 ?_;refine BM 11 ?_;refine BM 12 ?_;refine BM 13 ?_;refine BM 14 ?_;refine BM 15 ?_;clear ha9;go_simp;refine DQ 1 ?_;intro KC hKC;go_simp;have E6:=Ah (Qv E5.o);refine hKC.o _ _ (fun _=>(by exact(Jl (gf:=gf) (cf:=h3') E6.o HY.o (by rw[HV.o])).1)) (fun hH=> ?_);clear hKC KC;have hHeld:=hH (by decide);clear hH;clear E5;generalize U6.heap.size=gl at E6⊢;generalize U6.alloc (.cells #[] 43)=U7 at E6 hHeld⊢;have HL:Hid ((f.code.take at_).length=at_/\(f.code.drop (at_+1)).length=f.code.length-(at_+1)):=⟨by rw[bh];omega,dg ..⟩
    refine DQ 8 ?_;intro KC hKC;refine Br rfl (.tmp 87) (.tmp 93) u.heap.size 23 43 iI (.agg #[.int .i64 0,.int .i64 0,.int .i64 0,.int .i64 0]) 4 32 rfl Tryz.underlying23 hiI hI0 hI1 hI2 rfl (by decide) (.slice (some ⟨gl,0,none⟩) 0 0) 0 ([]) (by first|rfl|simp[Act.eval]) E6.o.nrow.2 (.slice (some ⟨gc,0,none⟩) at_ cc) (at_) ((f.code.take at_).flatMap MI.cells) (by first|rfl|simp[Act.eval]) (MW E6.o HY.o hat).1 ((MW E6.o HY.o hat).1).1 (Dx _) (by unfold maxLen;omega) (by omega) E6.o.size ?_;intro v1 U8 hown hgrow hat';obtain⟨d1,d2,rfl⟩:=BJ hown;simp only[bG,bL]at hown
    have E7:Hid (Bs u U8 s (p+1+1+1) (Ae vv F m.consts G m.certs (AK (.slice d1 at_ d2) (f.code.take at_)::[gb P vv,gb RB vN]))):=by
     have k:=E6.o.push_n (V:=.slice d1 at_ d2) (f.code.take at_) (by rw[HL.o.1];simpa using hown) hgrow (by simpa using hat');exact(by simpa using k:Bs _ _ _ _ _)
    clear hown hgrow hat' E6;refine hKC.o _ _ (fun _=>(by exact(Jl (gf:=gf) (cf:=h3') E7.o HY.o (by rw[HV.o])).1)) (fun hH=> ?_);clear hKC KC;have hHeld:=hH (by decide);clear hH;go_simp;refine DQ 16 ?_;intro KC hKC;refine Br rfl (.tmp 94) (.tmp 101) u.heap.size 23 43 iI (.agg #[.int .i64 0,.int .i64 0,.int .i64 0,.int .i64 0]) 4 32 rfl Tryz.underlying23 hiI hI0 hI1 hI2 rfl (by decide) (.slice d1 at_ d2) at_ ((f.code.take at_).flatMap MI.cells) (by first|rfl|simp[Act.eval]) (by have k:=E7.o.nrow.2;rw[HL.o.1]at k;exact k) (.slice a9 (f.code.length-(at_+1)) (cc-(at_+1))) (f.code.length-(at_+1)) ((f.code.drop (at_+1)).flatMap MI.cells) (by first|rfl|simp[Act.eval]) ((MW E7.o HY.o hat).2 a9 (cc-(at_+1)) HA.o) (((MW E7.o HY.o hat).2 a9 (cc-(at_+1)) HA.o)).1 (Dx _) (by unfold maxLen;omega) (by omega) E7.o.size ?_;intro v1 U9 hown hgrow hat';obtain⟨d3,d4,rfl⟩:=BJ hown;have E8:=Ah (E7.o.push_n (f.code.drop (at_+1)) (.slice d3 (at_+(f.code.length-(at_+1))) d4) (by rw[HL.o.1,HL.o.2];exact hown) hgrow hat');clear hown hgrow hat' E7;refine hKC.o _ _ (fun _=>(by exact(Jl (gf:=gf) (cf:=h3') E8.o HY.o (by rw[HV.o])).1)) (fun hH=> ?_);clear hKC KC;have hHeld:=hH (by decide);clear hH;go_simp
    refine BM 17 ?_;refine BM 18 ?_;go_simp;have HB:=Ah (Rg (gf:=gf) (cf:=h3') E8.o HP.o HY.o (by rw[HV.o]) (by rw[aG,HL.o.1,HL.o.2];omega) (fun z hz=>(HP.o.wf.funcs f (bJ.2 ⟨_,aE HY.o,rfl⟩)).code z ((aS.1 hz).elim dQ eP)));refine DQ 19 ?_;intro KC hKC;have z1:=HB.o.2.1;have z2:=HB.o.2.2;go_simp;refine hKC.o _ _ (fun h=>absurd h (by decide)) (fun hH=> ?_);clear hKC KC hH;clear z1 z2 hHeld;refine Bt (by kernel_rfl) ?_ _;go_wp2_with fail;exact Met.intro (hJ _ _ ⟨_,_,_,_,vv,_,rfl,by kernel_rfl,HB.o.1,by omega,by omega⟩)
   .
    obtain⟨⟨x0,x1,x2,x3⟩,y0,y1,y2,y3⟩:=CG E4.o HY.o rfl HX.o;have HB:=Ah (H8 E4.o HP.o HY.o rfl hat (Bl (z:=0)) (Bl (z:=0)) (Bl (z:=0)) (Bl (z:=0)));go_wp2_with fail
    exact Met.intro (hJ _ _ ⟨_,_,_,_,vv,_,rfl,by kernel_rfl,HB.o,by omega,by omega⟩)
   .
    go_wp2_with fail
    refine(Ai (n:=5) E4.o.bel.src).mono ?_;rintro e U6 ⟨r,r0,r1,rfl,hs,hd⟩;have E5:=Ah (E4.o.draw hs hd);clear hs hd E4;obtain⟨gf',cf',ap',cp',al',cl',ac',cc',e1',e2',⟨f0,f1,f2,f3⟩,o1,o2,o3⟩:=E5.o.fn HY.o;rw[HV.o]at e1';simp only[aI,aJ,bf,cg,bU,VF.mk.injEq]at e1' e2' f0 f1 f2 f3;obtain⟨rfl,rfl⟩:=e1';obtain⟨⟨rfl,rfl⟩,⟨rfl,rfl⟩,rfl,rfl⟩:=e2';clear o1 o2 o3;have HB:=Ah (Rj (gf:=gf) (cf:=h3') E5.o HP.o HY.o (by rw[HV.o]) (Bl (z:=r)));have z0:=HB.o.2;go_wp2_with fail
    exact Met.intro (hJ _ _ ⟨_,_,_,_,vv,_,rfl,by kernel_rfl,HB.o.1,by omega,by omega⟩)
   .
    obtain⟨i64,hi,hz0,hz1,hz2⟩:=bH Bf;have x2:=MV (gf:=gf) (cf:=h3') E4.o HY.o (by rw[HV.o]);go_upto_region 24 with fail
    clear x2;refine AZ 12 (S:=fun W=>W.cell? ⟨gf,q*4+2,none⟩=some (.slice al f.locals.length cl)) (by kernel_rfl) (by exact MV (gf:=gf) (cf:=h3') (E4.o.keep (Ad _)) HY.o (by rw[HV.o])) (fun hHeld=> ?_);have E5:=Ah (E4.o.keep (Ad _));clear E4;generalize U5.drew=U6 at E5 hHeld⊢;refine BM 0 ?_;refine BM 1 ?_;refine BM 2 ?_;refine BM 3 ?_;refine BM 4 ?_;refine BM 5 ?_;refine DQ 6 ?_;intro KC hKC;go_simp;refine(Ai (n:=2) E5.o.bel.src).mono ?_;rintro e U7 ⟨r,r0,r1,rfl,hs,hd⟩;have E6:=Ah (E5.o.draw hs hd);clear hs hd E5;refine hKC.o _ _ (fun _=>(by exact MV (gf:=gf) (cf:=h3') E6.o HY.o (by rw[HV.o]))) (fun hH=> ?_);clear hKC KC;have hHeld:=hH (by decide);clear hH;refine BM 7 ?_;go_simp;refine DQ 8 ?_;intro KC hKC;go_simp;have E7:Hid (Bs u (U7.alloc (.cells #[.int .i64 (IntKind.i64.wrap (4*r))] 2)) s (p+1+1+1+1) (Ae vv F m.consts G m.certs [gb P vv,gb RB vN])/\(U7.alloc (.cells #[.int .i64 (IntKind.i64.wrap (4*r))] 2)).ownsRow u.heap.size 2 1 (.slice (some ⟨U7.heap.size,0,none⟩) 1 1) 1 [.int .i64 (IntKind.i64.wrap (4*r))]):=⟨E6.o.keep (Aa _ _),ce (base:=u.heap.size) (e:=2) (size:=1) U7 #[.int .i64 (IntKind.i64.wrap (4*r))] 1 E6.o.size (by unfold maxLen;omega) rfl⟩
    refine hKC.o _ _ (fun _=>(by exact MV (gf:=gf) (cf:=h3') E7.o.1 HY.o (by rw[HV.o]))) (fun hH=> ?_);clear hKC KC;have hHeld:=hH (by decide);clear hH;clear E6;generalize U7.heap.size=gl at E7⊢;generalize U7.alloc (.cells #[.int .i64 (IntKind.i64.wrap (4*r))] 2)=U8 at E7 hHeld⊢;refine DQ 9 ?_;intro KC hKC;have OA:=Ah ((Ok E7.o.1 HY.o).1);refine Br rfl (.tmp 123) (.tmp 127) u.heap.size 26 2 i64 (.int .i64 0) 1 8 rfl Tryz.underlying26 hi hz0 hz1 hz2 rfl (by decide) (.slice al f.locals.length cl) f.locals.length (f.locals.flatMap Ab) (by first|rfl|simp[Act.eval]) OA.o (.slice (some ⟨gl,0,none⟩) 1 1) 1 [.int .i64 (IntKind.i64.wrap (4*r))] (by first|rfl|simp[Act.eval]) (Rd.of_own E7.o.2) rfl (fun q hq=>by rw[am.1 hq];rfl) (by unfold maxLen;omega) (by omega) E7.o.1.size ?_;intro v1 U9 hown hgrow hat';obtain⟨d1,d2,rfl⟩:=BJ hown;have HB:=Ah (Rh (gf:=gf) (cf:=h3') E7.o.1 HP.o HY.o (by rw[HV.o]) (BN.wrap (4*r)) hown hgrow hat');clear hown hgrow hat' OA E7;refine hKC.o _ _ (fun _=>HB.o.2.2) (fun hH=> ?_);clear hKC KC;have hHeld:=hH (by decide);clear hH;refine BM 10 ?_;refine BM 11 ?_;go_simp;refine DQ 12 ?_;intro KC hKC;have z1:=HB.o.2.1;have z2:=HB.o.2.2;go_simp
    refine hKC.o _ _ (fun h=>absurd h (by decide)) (fun hH=> ?_);clear hKC KC hH;clear z1 z2 hHeld;refine Bt (by kernel_rfl) ?_ _;go_wp2_with fail
    exact Met.intro (hJ _ _ ⟨_,_,_,_,vv,_,rfl,by kernel_rfl,HB.o.1,by omega,by omega⟩)
   .
    rcases hk with rfl|rfl
    all_goals
     by_cases hk:m.certs.length=0
     case pos=>
      have hkI:¬(0:Int)<(m.certs.length:Int):=by omega
      clear hk;obtain⟨⟨k0,k1,k2,k3⟩,z0,z1,z2,z3⟩:=E4.o.four (P:=P) (v:=vv) (by simp[Ae]);rw[HV.o]at k0 k1 k2 k3;simp only[]at k0 k1 k2 k3;go_wp2_with fail
      exact Met.intro (hJ _ _ ⟨_,_,_,_,vv,_,rfl,by kernel_rfl,(Be.of E4.o HP.o).mono (by omega),by omega,by omega⟩)
     case neg=>
      have hkI:(0:Int)<(m.certs.length:Int):=by omega
      have hkn:=HP.o.tl;simp only[]at hkn
      obtain⟨gt,ek⟩:∃g,e4=some ⟨g,0,none⟩:=by
       have o:=E4.o.prow.2.2.2.2;rw[HV.o]at o;rcases Ba o with⟨e,h0⟩|⟨g,c,e⟩
       . exact absurd h0 hk
       . simp only[aI]at e
         exact⟨g,e.1⟩
      subst ek;obtain⟨⟨k0,k1,k2,k3⟩,z0,z1,z2,z3⟩:=E4.o.four (P:=P) (v:=vv) (by simp[Ae]);rw[HV.o]at k0 k1 k2 k3;simp only[]at k0 k1 k2 k3;go_upto_region 29 with fail
      clear k0 k1 k2 k3 z0 z1 z2 z3;refine wp_region_held_drew (S:=fun W=>W.cell? ⟨P,3,none⟩=some (.slice (some ⟨gt,0,none⟩) m.certs.length h4)) (by kernel_rfl) (by have k:=((E4.o.keep (Ad _)).four (P:=P) (v:=vv) (by simp[Ae])).1;rw[HV.o]at k;exact k.2.2.2) (fun hHeld=> ?_);have E5:=Ah (E4.o.keep (Ad _));clear E4;generalize U5.drew=U6 at E5 hHeld⊢;refine Ak 0 ?_;refine Ak 1 ?_;refine Ak 2 ?_;refine Ak 3 ?_;refine rdH 4 ?_;intro KC hKC;go_simp;refine(Ai (n:=(m.certs.length:Int)) E5.o.bel.src).mono ?_;rintro e U7 ⟨r,r0,r1,rfl,hs,hd⟩;have E6:=Ah (E5.o.draw hs hd);clear hs hd E5;obtain⟨kq,rfl⟩:=aq r0;refine hKC.o _ _ (by have k:=(E6.o.four (P:=P) (v:=vv) (by simp[Ae])).1;rw[HV.o]at k;exact k.2.2.2) (fun hHeld=> ?_);clear hKC KC;refine Ak 5 ?_;refine Ak 6 ?_;refine wpAnyH_done (by kernel_rfl) ?_ _;clear hHeld;obtain⟨y,hy⟩:∃y,m.certs[kq]?=some y:=⟨_,aA (by omega)⟩;have HK:Hid (m.certs[kq]?=some y/\y.wf):=⟨hy,HP.o.wf.certs y (aE hy)⟩
      clear hy;go_wp2_with fail
      refine(Ai (n:=4) E6.o.bel.src).mono ?_;rintro e U8 ⟨t,t0,t1,rfl,hs,hd⟩;have E7:=Ah (E6.o.draw hs hd);clear hs hd E6;have ht:t=0\/t=1\/t=2\/t=3:=by omega
      rcases ht with rfl|rfl|rfl|rfl
      focus
       obtain⟨⟨x1,x2,x3⟩,y1,y2,y3⟩:=GE (gt:=gt) (ct:=h4) E7.o HK.o.1 (by rw[HV.o]);have HB:=Ah ((Om (gt:=gt) (ct:=h4) (j:=3) (x':=⟨y.func,y.head,y.counter,IntKind.u32.wrap (y.init+1)⟩) (y:=.int .u32 (IntKind.u32.wrap (y.init+1))) E7.o HP.o HK.o.1 (by rw[HV.o]) (by omega) rfl ⟨HK.o.2.1,HK.o.2.2.1,HK.o.2.2.2.1,Pl.wrap _⟩).1);go_wp2_with fail
       exact Met.intro (hJ _ _ ⟨_,_,_,_,vv,_,rfl,by kernel_rfl,HB.o,by omega,by omega⟩)
      focus
       obtain⟨⟨x1,x2,x3⟩,y1,y2,y3⟩:=GE (gt:=gt) (ct:=h4) E7.o HK.o.1 (by rw[HV.o]);go_upto_region 34 with fail
       clear x1 x2 x3 y1 y2 y3;refine AZ 11 (S:=fun W=>W.cell? ⟨gt,kq*4+2,none⟩=some (.int .i64 y.counter)) (by kernel_rfl) (by exact(GE (gt:=gt) (ct:=h4) (E7.o.keep (Ad _)) HK.o.1 (by rw[HV.o])).1.2.1) (fun hHeld=> ?_);have E8:=Ah (E7.o.keep (Ad _));clear E7;generalize U8.drew=U9 at E8 hHeld⊢;refine BM 0 ?_;refine BM 1 ?_;refine BM 2 ?_;refine BM 3 ?_;refine BM 4 ?_;refine BM 5 ?_;refine DQ 6 ?_;intro KC hKC;go_simp;refine(Ai (n:=3) E8.o.bel.src).mono ?_;rintro e U10 ⟨r,r0,r1,rfl,hs,hd⟩;have E9:=Ah (E8.o.draw hs hd);clear hs hd E8;refine hKC.o _ _ (fun _=>(by exact(GE (gt:=gt) (ct:=h4) E9.o HK.o.1 (by rw[HV.o])).1.2.1)) (fun hH=> ?_);clear hKC KC;have hHeld:=hH (by decide);clear hH;refine BM 7 ?_;refine BM 8 ?_;refine BM 9 ?_;refine BM 10 ?_;go_simp;refine DQ 11 ?_;intro KC hKC;obtain⟨⟨x1,x2,x3⟩,y1,y2,y3⟩:=GE (gt:=gt) (ct:=h4) E9.o HK.o.1 (by rw[HV.o]);go_simp;refine hKC.o _ _ (fun h=>absurd h (by decide)) (fun hH=> ?_);clear hKC KC hH;clear x1 x2 x3 y1 y2 y3 hHeld
       have HB:=Ah ((Om (gt:=gt) (ct:=h4) (j:=2) (x':=⟨y.func,y.head,IntKind.i64.wrap (IntKind.i64.wrap (y.counter+r)-1),y.init⟩) (y:=.int .i64 (IntKind.i64.wrap (IntKind.i64.wrap (y.counter+r)-1))) E9.o HP.o HK.o.1 (by rw[HV.o]) (by omega) rfl ⟨HK.o.2.1,HK.o.2.2.1,BN.wrap _,HK.o.2.2.2.2⟩).1);refine Bt (by kernel_rfl) ?_ _;go_wp2_with fail
       exact Met.intro (hJ _ _ ⟨_,_,_,_,vv,_,rfl,by kernel_rfl,HB.o,by omega,by omega⟩)
      focus
       obtain⟨⟨x1,x2,x3⟩,y1,y2,y3⟩:=GE (gt:=gt) (ct:=h4) E7.o HK.o.1 (by rw[HV.o]);go_upto_region 36 with fail
       clear x1 x2 x3 y1 y2 y3;refine AZ 11 (S:=fun W=>W.cell? ⟨gt,kq*4+1,none⟩=some (.int .i64 y.head)) (by kernel_rfl) (by exact(GE (gt:=gt) (ct:=h4) (E7.o.keep (Ad _)) HK.o.1 (by rw[HV.o])).1.1) (fun hHeld=> ?_);have E8:=Ah (E7.o.keep (Ad _));clear E7;generalize U8.drew=U9 at E8 hHeld⊢;refine BM 0 ?_;refine BM 1 ?_;refine BM 2 ?_;refine BM 3 ?_;refine BM 4 ?_;refine BM 5 ?_;refine DQ 6 ?_;intro KC hKC;go_simp;refine(Ai (n:=3) E8.o.bel.src).mono ?_;rintro e U10 ⟨r,r0,r1,rfl,hs,hd⟩;have E9:=Ah (E8.o.draw hs hd);clear hs hd E8;refine hKC.o _ _ (fun _=>(by exact(GE (gt:=gt) (ct:=h4) E9.o HK.o.1 (by rw[HV.o])).1.1)) (fun hH=> ?_);clear hKC KC;have hHeld:=hH (by decide);clear hH;refine BM 7 ?_;refine BM 8 ?_;refine BM 9 ?_;refine BM 10 ?_;go_simp;refine DQ 11 ?_;intro KC hKC;obtain⟨⟨x1,x2,x3⟩,y1,y2,y3⟩:=GE (gt:=gt) (ct:=h4) E9.o HK.o.1 (by rw[HV.o]);go_simp;refine hKC.o _ _ (fun h=>absurd h (by decide)) (fun hH=> ?_);clear hKC KC hH;clear x1 x2 x3 y1 y2 y3 hHeld
       have HB:=Ah ((Om (gt:=gt) (ct:=h4) (j:=1) (x':=⟨y.func,IntKind.i64.wrap (IntKind.i64.wrap (y.head+r)-1),y.counter,y.init⟩) (y:=.int .i64 (IntKind.i64.wrap (IntKind.i64.wrap (y.head+r)-1))) E9.o HP.o HK.o.1 (by rw[HV.o]) (by omega) rfl ⟨HK.o.2.1,BN.wrap _,HK.o.2.2.2⟩).1);refine Bt (by kernel_rfl) ?_ _;go_wp2_with fail
       exact Met.intro (hJ _ _ ⟨_,_,_,_,vv,_,rfl,by kernel_rfl,HB.o,by omega,by omega⟩)
      focus
       obtain⟨⟨k0,k1,k2,k3⟩,z0,z1,z2,z3⟩:=E7.o.four (P:=P) (v:=vv) (by simp[Ae]);rw[HV.o]at k0 k1 k2 k3;simp only[]at k0 k1 k2 k3;by_cases hc1:h4=1
       case pos=>
        have HA:Hid (some (⟨gt,0,none⟩:Addr)=if h4=1 then some ⟨gt,0,none⟩else some ⟨gt,4,none⟩):=by rw[cD hc1];rfl
        have HB:=Ah (Qe (gt:=gt) (ct:=h4) (c':=0) E7.o HP.o (by rw[HV.o]) (by omega) HA.o);go_wp2_with fail
        exact Met.intro (hJ _ _ ⟨_,_,_,_,_,_,rfl,by kernel_rfl,HB.o,by omega,by omega⟩)
       case neg=>
        have HA:Hid (some (⟨gt,4,none⟩:Addr)=if h4=1 then some ⟨gt,0,none⟩else some ⟨gt,4,none⟩):=by rw[bu hc1];rfl
        have HB:=Ah (Qe (gt:=gt) (ct:=h4) (c':=h4-1) E7.o HP.o (by rw[HV.o]) (by omega) HA.o);go_wp2_with fail
        exact Met.intro (hJ _ _ ⟨_,_,_,_,_,_,rfl,by kernel_rfl,HB.o,by omega,by omega⟩)
   .
    obtain⟨iT,hiT,hT0,hT1,hT2⟩:=bH M2;obtain⟨⟨k0,k1,k2,k3⟩,z0,z1,z2,z3⟩:=E4.o.four (P:=P) (v:=vv) (by simp[Ae]);rw[HV.o]at k0 k1 k2 k3;simp only[]at k0 k1 k2 k3;have htl:=HP.o.tl;simp only[]at htl;go_upto_region 40 with fail
    clear k0 k1 k2 k3 z0 z1 z2 z3;refine AZ 14 (S:=fun W=>W.cell? ⟨P,2,none⟩=some (.slice (some ⟨gf,0,none⟩) G.length h3')/\W.cell? ⟨P,3,none⟩=some (.slice e4 m.certs.length h4)) (by kernel_rfl) (by have k:=((E4.o.keep (Ad _)).four (P:=P) (v:=vv) (by simp[Ae])).1;rw[HV.o]at k;exact⟨k.2.2.1,k.2.2.2⟩) (fun hHeld=> ?_)
    have E5:=Ah (E4.o.keep (Ad _));clear E4;generalize U5.drew=U6 at E5 hHeld⊢;refine BM 0 ?_;refine BM 1 ?_;refine BM 2 ?_;refine BM 3 ?_;refine BM 4 ?_;refine BM 5 ?_;refine BM 7 ?_;refine BM 8 ?_;refine DQ 6 ?_;intro KC hKC;go_simp;refine(Ai (n:=(G.length:Int)) E5.o.bel.src).mono ?_;rintro e U7 ⟨r,r0,r1,rfl,hs,hd⟩;have E6:=Ah (E5.o.draw hs hd);clear hs hd E5;refine hKC.o _ _ (fun _=>(by have k:=(E6.o.four (P:=P) (v:=vv) (by simp[Ae])).1;rw[HV.o]at k;exact⟨k.2.2.1,k.2.2.2⟩)) (fun hH=> ?_);clear hKC KC;have hHeld:=hH (by decide);clear hH;refine DQ 9 ?_;intro KC hKC;go_simp;refine(Ai (n:=5) E6.o.bel.src).mono ?_;rintro e U8 ⟨t,t0,t1,rfl,hs,hd⟩;have E7:=Ah (E6.o.draw hs hd);clear hs hd E6;refine hKC.o _ _ (fun _=>(by have k:=(E7.o.four (P:=P) (v:=vv) (by simp[Ae])).1;rw[HV.o]at k;exact⟨k.2.2.1,k.2.2.2⟩)) (fun hH=> ?_);clear hKC KC;have hHeld:=hH (by decide);clear hH;refine BM 10 ?_;go_simp;refine DQ 11 ?_;intro KC hKC;go_simp
    have E8:Hid (Bs u (U8.alloc (.cells #[.int .i64 r,.int .i64 (at_:Int),.int .i64 t,.int .u32 0] 118)) s (p+1+1+1+1+1) (Ae vv F m.consts G m.certs [gb P vv,gb RB vN])/\(U8.alloc (.cells #[.int .i64 r,.int .i64 (at_:Int),.int .i64 t,.int .u32 0] 118)).ownsRow u.heap.size 118 4 (.slice (some ⟨U8.heap.size,0,none⟩) 1 1) 1 [.int .i64 r,.int .i64 (at_:Int),.int .i64 t,.int .u32 0]):=⟨E7.o.keep (Aa _ _),ce (base:=u.heap.size) (e:=118) (size:=4) U8 #[.int .i64 r,.int .i64 (at_:Int),.int .i64 t,.int .u32 0] 1 E7.o.size (by unfold maxLen;omega) rfl⟩
    refine hKC.o _ _ (fun _=>(by have k:=(E8.o.1.four (P:=P) (v:=vv) (by simp[Ae])).1;rw[HV.o]at k;exact⟨k.2.2.1,k.2.2.2⟩)) (fun hH=> ?_);clear hKC KC;have hHeld:=hH (by decide);clear hH;clear E7;generalize U8.heap.size=gl at E8⊢;generalize U8.alloc (.cells #[.int .i64 r,.int .i64 (at_:Int),.int .i64 t,.int .u32 0] 118)=U9 at E8 hHeld⊢;refine DQ 12 ?_;intro KC hKC;have OA:=Ah ((by have o:=E8.o.1.prow.2.2.2.2;rw[HV.o]at o;exact o));refine Br rfl (.tmp 192) (.tmp 202) u.heap.size 63 118 iT (.agg #[.int .i64 0,.int .i64 0,.int .i64 0,.int .u32 0]) 4 32 rfl Tryz.underlying63 hiT hT0 hT1 hT2 rfl (by decide) (.slice e4 m.certs.length h4) m.certs.length (m.certs.flatMap MT.cells) (by first|rfl|simp[Act.eval]) OA.o (.slice (some ⟨gl,0,none⟩) 1 1) 1 [.int .i64 r,.int .i64 (at_:Int),.int .i64 t,.int .u32 0] (by first|rfl|simp[Act.eval]) (Rd.of_own E8.o.2) rfl (My [⟨r,(at_:Int),t,0⟩]) (by unfold maxLen;omega) (by omega) E8.o.1.size ?_;intro v1 U10 hown hgrow hat';obtain⟨d1,d2,rfl⟩:=BJ hown;have HB:=Ah (Qx (x:=⟨r,(at_:Int),t,0⟩) E8.o.1 HP.o ⟨(Bl (z:=r)),(Bl (z:=(at_:Int))),(Bl (z:=t)),rfl⟩ hown (by rw[HV.o];exact hgrow) (by rw[HV.o];exact hat'));clear hown hgrow hat' OA E8
    refine hKC.o _ _ (fun _=>(by have k:=HB.o.2.2;rw[HV.o]at k;exact⟨k.2,k.1⟩)) (fun hH=> ?_);clear hKC KC;have hHeld:=hH (by decide);clear hH;refine BM 13 ?_;go_simp;refine DQ 14 ?_;intro KC hKC;have z1:=HB.o.2.1;have z2:=HB.o.2.2.1;rw[HV.o]at z2;go_simp;refine hKC.o _ _ (fun h=>absurd h (by decide)) (fun hH=> ?_);clear hKC KC hH;clear z1 z2 hHeld;refine Bt (by kernel_rfl) ?_ _;go_wp2_with fail;exact Met.intro (hJ _ _ ⟨_,_,_,_,_,_,rfl,by kernel_rfl,HB.o.1,by omega,by omega⟩)
   .
    obtain⟨⟨x0,x1,x2,x3⟩,y0,y1,y2,y3⟩:=CG E4.o HY.o rfl HX.o;have HB:=Ah (H8 E4.o HP.o HY.o rfl hat (Bl (z:=24)) (Bl (z:=0)) (Bl (z:=0)) (Bl (z:=0)));go_wp2_with fail
    exact Met.intro (hJ _ _ ⟨_,_,_,_,vv,_,rfl,by kernel_rfl,HB.o,by omega,by omega⟩)
   .
    go_wp2_with fail
    refine(Ai (n:=(f.code.length:Int)) E4.o.bel.src).mono ?_;rintro e U6 ⟨r,r0,r1,rfl,hs,hd⟩;have E5:=Ah (E4.o.draw hs hd);clear hs hd E4;obtain⟨⟨x0,x1,x2,x3⟩,y0,y1,y2,y3⟩:=CG E5.o HY.o rfl HX.o;have HB:=Ah (H8 E5.o HP.o HY.o rfl hat (Bl (z:=25)) (Bl (z:=0)) (Bl (z:=0)) (Bl (z:=r)));go_wp2_with fail
    exact Met.intro (hJ _ _ ⟨_,_,_,_,vv,_,rfl,by kernel_rfl,HB.o,by omega,by omega⟩)
   .
    obtain⟨⟨k0,k1,k2,k3⟩,z0,z1,z2,z3⟩:=E4.o.four (P:=P) (v:=vv) (by simp[Ae]);rw[HV.o]at k0 k1 k2 k3;simp only[]at k0 k1 k2 k3;go_wp2_with fail
    clear k0 k1 k2 k3 z0 z1 z2 z3;refine(Ai (n:=(G.length:Int)) E4.o.bel.src).mono ?_;rintro e U6 ⟨r,r0,r1,rfl,hs,hd⟩;have E5:=Ah (E4.o.draw hs hd);clear hs hd E4;obtain⟨⟨x0,x1,x2,x3⟩,y0,y1,y2,y3⟩:=CG E5.o HY.o rfl HX.o;have HB:=Ah (H8 E5.o HP.o HY.o rfl hat (Bl (z:=28)) (Bl (z:=r)) (Bl (z:=0)) (Bl (z:=0)));go_wp2_with fail
    exact Met.intro (hJ _ _ ⟨_,_,_,_,vv,_,rfl,by kernel_rfl,HB.o,by omega,by omega⟩)
   .
    by_cases hk:m.consts.length=0
    case pos=>
     have hkI:¬(0:Int)<(m.consts.length:Int):=by omega
     clear hk;obtain⟨⟨k0,k1,k2,k3⟩,z0,z1,z2,z3⟩:=E4.o.four (P:=P) (v:=vv) (by simp[Ae]);rw[HV.o]at k0 k1 k2 k3;simp only[]at k0 k1 k2 k3;go_wp2_with fail
     exact Met.intro (hJ _ _ ⟨_,_,_,_,vv,_,rfl,by kernel_rfl,(Be.of E4.o HP.o).mono (by omega),by omega,by omega⟩)
    case neg=>
     have hkI:(0:Int)<(m.consts.length:Int):=by omega
     have hkn:=HP.o.cl;simp only[]at hkn
     obtain⟨gk,ek⟩:∃g,e2=some ⟨g,0,none⟩:=by
      have o:=E4.o.prow.2.2.1;rw[HV.o]at o;rcases Ba o with⟨e,h0⟩|⟨g,c,e⟩
      . exact absurd h0 hk
      . simp only[aI]at e
        exact⟨g,e.1⟩
     subst ek;obtain⟨⟨k0,k1,k2,k3⟩,z0,z1,z2,z3⟩:=E4.o.four (P:=P) (v:=vv) (by simp[Ae]);rw[HV.o]at k0 k1 k2 k3;simp only[]at k0 k1 k2 k3;go_upto_region 49 with fail
     clear k0 k1 k2 k3 z0 z1 z2 z3;refine wp_region_held_drew (S:=fun W=>W.cell? ⟨P,1,none⟩=some (.slice (some ⟨gk,0,none⟩) m.consts.length h2)) (by kernel_rfl) (by have k:=((E4.o.keep (Ad _)).four (P:=P) (v:=vv) (by simp[Ae])).1;rw[HV.o]at k;exact k.2.1) (fun hHeld=> ?_);have E5:=Ah (E4.o.keep (Ad _));clear E4;generalize U5.drew=U6 at E5 hHeld⊢;refine Ak 0 ?_;refine Ak 1 ?_;refine Ak 2 ?_;refine Ak 3 ?_;refine Ak 4 ?_;refine Ak 5 ?_;refine rdH 6 ?_;intro KC hKC;go_simp;refine(Ai (n:=(m.consts.length:Int)) E5.o.bel.src).mono ?_;rintro e U7 ⟨r,r0,r1,rfl,hs,hd⟩;have E6:=Ah (E5.o.draw hs hd);clear hs hd E5;obtain⟨kq,rfl⟩:=aq r0;refine hKC.o _ _ (by have k:=(E6.o.four (P:=P) (v:=vv) (by simp[Ae])).1;rw[HV.o]at k;exact k.2.1) (fun hHeld=> ?_);clear hKC KC;refine Ak 7 ?_;refine Ak 8 ?_;refine wpAnyH_done (by kernel_rfl) ?_ _;clear hHeld;obtain⟨y,hy⟩:∃y,m.consts[kq]?=some y:=⟨_,aA (by omega)⟩;have HK:=Ah hy;clear hy;go_wp2_with fail;refine(D6 E6.o.bel.src (by omega)).mono ?_;rintro e U8 ⟨x9,p',x90,x91,rfl,hp1,hp2,hs,hd⟩;have E7:=Ah (E6.o.draw hs hd);clear hs hd E6;obtain⟨⟨k0,k1⟩,z0,z1⟩:=Qd (gt:=gk) (ct:=h2) E7.o HK.o (by rw[HV.o])
     have HB1:Hid _:=(Ol (gt:=gk) (ct:=h2) (j:=1) (x':=⟨y.type,x9⟩) (y:=.int .u32 x9) E7.o HP.o HK.o (by rw[HV.o]) (by omega) rfl ⟨(HP.o.wf.consts y (aE HK.o)).1,by simp[Pl,Lit.wf,IntKind.min,IntKind.max,IntKind.signed,IntKind.bits];omega⟩).1;go_wp2_with fail;clear k0 k1 z0 z1;generalize U8.setCell ⟨gk,kq*2+1,none⟩ (.int .u32 x9)=U9 at HB1⊢;obtain⟨cs',l',hx',b1,b2⟩:=HB1.o;clear HB1 E7;have E8:=Ah b1;have HK2:Hid (cs'[kq]?=some ⟨y.type,x9⟩/\cs'.length=m.consts.length/\PB n ⟨F.map Prod.fst,cs',G.map Prod.fst,m.certs⟩):=⟨hx',l',b2⟩
     clear b1 b2 hx' l';refine(Ai (n:=4) E8.o.bel.src).mono ?_;rintro e U10 ⟨t,t0,t1,rfl,hs,hd⟩;have E9:=Ah (E8.o.draw hs hd);clear hs hd E8;obtain⟨⟨k0,k1⟩,z0,z1⟩:=Qd (gt:=gk) (ct:=h2) E9.o HK2.o.1 (by rw[HV.o,HK2.o.2.1]);simp only[]at k0 k1;have HB:Hid _:=(Ol (gt:=gk) (ct:=h2) (j:=0) (x':=⟨1+t,x9⟩) (y:=.int .i64 (1+t)) E9.o HK2.o.2.2 HK2.o.1 (by rw[HV.o,HK2.o.2.1]) (by omega) rfl ⟨Bl (z:=1+t) (by omega) (by omega),(HK2.o.2.2.wf.consts _ (aE HK2.o.1)).2⟩).1;go_wp2_with fail
     obtain⟨cs2,_,_,b1,b2⟩:=HB.o;exact Met.intro (hJ _ _ ⟨_,_,_,_,vv,_,rfl,by kernel_rfl,(Be.of b1 b2).mono (by omega),by omega,by omega⟩)
   .
    go_wp2_with fail
    refine(Ai (n:=4) E4.o.bel.src).mono ?_;rintro e U6 ⟨r,r0,r1,rfl,hs,hd⟩;have E5:=Ah (E4.o.draw hs hd);clear hs hd E4;have hFl:3<=F.length/\F.length<=3:=by rw[<-HR.o.2.2,<-HF.o.1,aj];omega
    have E4:=E5;clear E5
    obtain⟨gr,ek⟩:∃g,e1=some ⟨g,0,none⟩:=by
     have o:=E4.o.prow.2.1;rw[HV.o]at o;rcases Ba o with⟨e,h0⟩|⟨g,c,e⟩
     . exact absurd h0 (by omega)
     . simp only[aI]at e
       exact⟨g,e.1⟩
    subst ek;by_cases hr3:r<3
    case pos=>
     obtain⟨i64,hi,hz0,hz1,hz2⟩:=bH Bf;obtain⟨kk,rfl⟩:=aq r0;obtain⟨⟨rg,vr⟩,hy⟩:∃y,F[kk]?=some y:=⟨_,aA (by omega)⟩;obtain⟨k0,o⟩:=Kv (gr:=gr) (cr:=h1) E4.o hy (by rw[HV.o]);obtain⟨ar,cr,er⟩:=BJ o;subst er;have HK:=Ah hy;clear hy o k0;have hkF:(kk:Int)<(F.length:Int)/\kk<F.length:=by omega
     have hrg:=HP.o.rg rg (bJ.2 ⟨_,aE HK.o,rfl⟩);go_upto_region 55 with fail
     clear r0;refine AZ 14 (S:=fun W=>W.cell? ⟨P,0,none⟩=some (.slice (some ⟨gr,0,none⟩) F.length h1)/\W.cell? ⟨gr,kk,none⟩=some (.slice ar rg.length cr)) (by kernel_rfl) (by have k:=((E4.o.keep (Ad _)).four (P:=P) (v:=vv) (by simp[Ae])).1;rw[HV.o]at k;exact⟨k.1,(Kv (gr:=gr) (cr:=h1) (E4.o.keep (Ad _)) HK.o (by rw[HV.o])).1⟩) (fun hHeld=> ?_)
     have E6:=Ah (E4.o.keep (Ad _));clear E4;generalize U6.drew=U7 at E6 hHeld⊢;refine BM 0 ?_;refine BM 1 ?_;refine BM 2 ?_;refine BM 3 ?_;refine BM 4 ?_;refine BM 5 ?_;refine BM 6 ?_;refine BM 7 ?_;refine BM 8 ?_;refine DQ 9 ?_;intro KC hKC;go_simp;refine(Ai (n:=4) E6.o.bel.src).mono ?_;rintro e U8 ⟨t,t0,t1,rfl,hs,hd⟩;have E7:=Ah (E6.o.draw hs hd);clear hs hd E6;refine hKC.o _ _ (fun _=>(by have k:=(E7.o.four (P:=P) (v:=vv) (by simp[Ae])).1;rw[HV.o]at k;exact⟨k.1,(Kv (gr:=gr) (cr:=h1) E7.o HK.o (by rw[HV.o])).1⟩)) (fun hH=> ?_);clear hKC KC;have hHeld:=hH (by decide);clear hH;refine BM 10 ?_;go_simp;refine DQ 11 ?_;intro KC hKC;go_simp;have E8:Hid (Bs u (U8.alloc (.cells #[.int .i64 (IntKind.i64.wrap (1+t))] 2)) s (p+1+1+1+1+1) (Ae vv F m.consts G m.certs [gb P vv,gb RB vN])/\(U8.alloc (.cells #[.int .i64 (IntKind.i64.wrap (1+t))] 2)).ownsRow u.heap.size 2 1 (.slice (some ⟨U8.heap.size,0,none⟩) 1 1) 1 [.int .i64 (IntKind.i64.wrap (1+t))]):=⟨E7.o.keep (Aa _ _),ce (base:=u.heap.size) (e:=2) (size:=1) U8 #[.int .i64 (IntKind.i64.wrap (1+t))] 1 E7.o.size (by unfold maxLen;omega) rfl⟩
     refine hKC.o _ _ (fun _=>(by have k:=(E8.o.1.four (P:=P) (v:=vv) (by simp[Ae])).1;rw[HV.o]at k;exact⟨k.1,(Kv (gr:=gr) (cr:=h1) E8.o.1 HK.o (by rw[HV.o])).1⟩)) (fun hH=> ?_);clear hKC KC;have hHeld:=hH (by decide);clear hH;clear E7;generalize U8.heap.size=gl at E8⊢;generalize U8.alloc (.cells #[.int .i64 (IntKind.i64.wrap (1+t))] 2)=U9 at E8 hHeld⊢;refine DQ 12 ?_;intro KC hKC;have OA:=Ah ((Kv (gr:=gr) (cr:=h1) E8.o.1 HK.o (by rw[HV.o])).2);refine Br rfl (.tmp 266) (.tmp 270) u.heap.size 26 2 i64 (.int .i64 0) 1 8 rfl Tryz.underlying26 hi hz0 hz1 hz2 rfl (by decide) (.slice ar rg.length cr) rg.length (rg.flatMap Ab) (by first|rfl|simp[Act.eval]) OA.o (.slice (some ⟨gl,0,none⟩) 1 1) 1 [.int .i64 (IntKind.i64.wrap (1+t))] (by first|rfl|simp[Act.eval]) (Rd.of_own E8.o.2) rfl (fun q hq=>by rw[am.1 hq];rfl) (by unfold maxLen;omega) (by omega) E8.o.1.size ?_;intro v1 U10 hown hgrow hat';obtain⟨d1,d2,rfl⟩:=BJ hown;have HB:=Ah (Qw (gr:=gr) (cr:=h1) E8.o.1 HP.o HK.o (by rw[HV.o]) (BN.wrap (1+t)) hown hgrow hat');clear hown hgrow hat' OA E8;refine hKC.o _ _ (fun _=>(by have k:=HB.o.2.2;rw[HV.o]at k;exact⟨k.2,k.1⟩)) (fun hH=> ?_);clear hKC KC;have hHeld:=hH (by decide);clear hH
     refine BM 13 ?_;go_simp;refine DQ 14 ?_;intro KC hKC;have z1:=HB.o.2.1;have z2:=HB.o.2.2.1;go_simp;refine hKC.o _ _ (fun h=>absurd h (by decide)) (fun hH=> ?_);clear hKC KC hH;clear z1 z2 hHeld;refine Bt (by kernel_rfl) ?_ _;go_wp2_with fail
     exact Met.intro (hJ _ _ ⟨_,_,_,_,_,_,rfl,by kernel_rfl,HB.o.1,by omega,by omega⟩)
    case neg=>
     have hcap:3<=h1:=by
      have o:=E4.o.prow.2.1;rw[HV.o]at o;have:=GY o;omega
     obtain⟨⟨k0,k1,k2,k3⟩,z0,z1,z2,z3⟩:=E4.o.four (P:=P) (v:=vv) (by simp[Ae]);rw[HV.o]at k0 k1 k2 k3;simp only[]at k0 k1 k2 k3;have HB:=Ah (Ri (a:=some ⟨gr,0,none⟩) (cr:=h1) (c':=h1) E4.o HP.o (by rw[HV.o]) (by omega));go_wp2_with fail
     exact Met.intro (hJ _ _ ⟨_,_,_,_,_,_,rfl,by kernel_rfl,HB.o,by omega,by omega⟩)
end Go.Proofs.YtjpobijiblcgaaaGreat
