import Derived.Test.YtlejplpkomddeaaGreatG0
import Derived.Test.YtlejplpkomddeaaGreatG47
import Derived.Test.YtlejplpkomddeaaGreatG48
import Derived.Test.YtlejplpkomddeaaGreatG41
import Derived.Test.YtlejplpkomddeaaGreatG21
namespace Go.Proofs.YtlejplpkomddeaaGreat
open Go.ChangeShapes Go.WideShapes Go.ChangeAt Go.RowKit
set_option linter.unusedVariables false
set_option maxHeartbeats 8000000
set_option maxRecDepth 100000
def GT(w:World)(B M:Nat)(t:Int)(c n:Int)(hv:Value)(X0:VS)(C0:List (Value×List MC))(F0:List (MG×Value))(s':MS)(e:Ending)(w':World):Prop:=∃d2 C2 K2 F2,BG w B M t d2 c n C2 K2 F2 hv X0 C0 F0 e w'/\Av t d2 c n C2 K2 F2=s'
theorem Ca{z:MC}{zs:List MC}{a:Int}{ts:List Int}(h:Bw (z::zs) (a::ts)=true)(ha:a≠0):z.type=a:=by
 simp only[Bw,Bool.and_eq_true,Bool.or_eq_true,beq_iff_eq]at h;exact h.1.resolve_left ha
theorem AR.ctk{p:MP}{f:MF}{x:MI}(h:AR p f x){F:Int}(hF:AP x.op=F)(h5:F=5\/F=6\/F=7):Cf F x.a=true/\x.a≠0:=by
 obtain⟨_,_,h⟩:=h;rw[hF]at h
 have ht:AV F x.a:=by
  unfold AS at h;rcases h with h|h|h|h|h|h|h|h|h|h<;>first|(exfalso;omega)|exact h.1
 rcases ht with⟨rfl,h1⟩|⟨rfl,h1⟩|⟨rfl,h1⟩
 ·exact⟨by simp[Cf];exact h1,by omega⟩
 ·exact⟨by simp[Cf];exact h1,by omega⟩
 ·refine⟨by simp[Cf];exact h1,fun e=> ?_⟩
  rw[e]at h1;exact absurd h1 (by decide)
theorem DT:AP 8=5/\AP 9=5/\AP 10=5/\AP 11=5/\AP 12=5/\AP 13=6/\AP 14=6/\AP 15=6/\AP 16=6/\AP 20=7/\AP 21=5:=by decide+kernel
theorem Gg{F:List (MG×Value)}{top:Nat}(z:MG×Value):(F.set top z).take top=F.take top:=by
 rw[List.take_set_of_le lR]
theorem N1(v:VP)(p:MP)(f:MF)(x:MI)(B M top:Nat)(t:Int)(c n:Int)(X:VS)(C:List (Value×List MC))(K ar:List MC)(F0:List (MG×Value))(hv:Value)(gh oh gf c3:Nat)(y0:MG×Value)(w:World)(hB:B<=w.heap.size)(h:Aj w B X C (K++ar) (F0.set top ({y0.1 with at_:=y0.1.at_+1},y0.2)))(hm:MB w M t false c n X hv)(hF:F0.length=top+1)(hF1:top<=1048576)(hy:F0[top]?=some y0)(hXf:X.f=.slice (some ⟨gf,0,none⟩) (top+1) c3)(hk:Dc p f y0.1 x C ar)(hft:Bw ar (Am p f x)=true)(hg3:x.op=27->At f x.a=3)(hK:K.length+ar.length<=64)(hlo:y0.1.locals.length<=32)
  (hP:Rd w 2 v.k p.consts.length (p.consts.flatMap MC.cells)) (hcs:p.consts.length<=1048576) (hck:w.cell? ⟨gh,oh+1,none⟩=some v.k) (kk:Nat) (hop:x.op=(kk:Int)) (h28:kk<28):
  Calls Tryz.prog (GF kk) #[.pointer (some ⟨M,0,none⟩),.agg #[.pointer (some ⟨gh,oh,none⟩),.pointer (some ⟨gf,top*4,none⟩)],.agg #[.int .i64 x.op,.int .i64 x.a,.int .i64 x.b,.int .i64 x.c]] w (GT w B M t c n hv X C (F0.set top ({y0.1 with at_:=y0.1.at_+1},y0.2)) (C8 p f y0.1 (Av t false c n C (K++ar) F0) x)):=by
 generalize hFe:F0.set top ({y0.1 with at_:=y0.1.at_+1},y0.2)=F at h⊢;have hFl:F.length=top+1:=by rw[<-hFe,List.length_set,hF]
 have hyF:F[top]?=some ({y0.1 with at_:=y0.1.at_+1},y0.2):=by rw[<-hFe,List.getElem?_set_self (by omega)]
 have e1:(Av t false c n C (K++ar) F0).stack.drop ((Av t false c n C (K++ar) F0).stack.length-(Am p f x).length)=ar:=by
  rw[<-hk.alen];simp only[Av,List.length_append,Nat.add_sub_cancel];exact List.drop_left
 have e2:(Av t false c n C (K++ar) F0).stack.take ((Av t false c n C (K++ar) F0).stack.length-(Am p f x).length)=K:=by
  rw[<-hk.alen];simp only[Av,List.length_append,Nat.add_sub_cancel];exact List.take_left
 have e3:CW (Av t false c n C (K++ar) F0).frames (fun h=>{h with at_:=y0.1.at_+1})=F.map Prod.fst:=by
  rw[<-hFe];exact BJ hF hy _
 have hcase:kk=0\/kk=1\/kk=2\/kk=3\/kk=4\/kk=5\/kk=6\/kk=7\/kk=8\/kk=9\/kk=10\/kk=11\/kk=12\/kk=13\/kk=14\/kk=15\/kk=16\/kk=17\/kk=18\/kk=19\/kk=20\/kk=21\/kk=22\/kk=23\/kk=24\/kk=25\/kk=26\/kk=27:=by omega
 rcases hcase with rfl|rfl|rfl|rfl|rfl|rfl|rfl|rfl|rfl|rfl|rfl|rfl|rfl|rfl|rfl|rfl|rfl|rfl|rfl|rfl|rfl|rfl|rfl|rfl|rfl|rfl|rfl|rfl
 ·have hop:x.op=0:=hop
  show Calls Tryz.prog 150 _ _ _;have al:ar.length=0:=by rw[hk.alen];simp[Am,hop]
  have ha0:=List.eq_nil_of_length_eq_zero al;subst ha0;rw[List.append_nil]at h;refine(OC B M top t false c n X C K F hv gh oh gf c3 _ x.op x.a x.b x.c w hB h hm hFl hF1 hyF hXf).mono ?_;intro e w' hr;refine⟨_,_,_,_,hr,?_⟩;simp only[C8,e1,e2,e3,hop];simp[Av]
 ·have hop:x.op=1:=hop
  show Calls Tryz.prog 151 _ _ _;have al:ar.length=0:=by rw[hk.alen];simp[Am,hop]
  have ha0:=List.eq_nil_of_length_eq_zero al;subst ha0;rw[List.append_nil]at h;obtain⟨q,z,hq,hz⟩:=hk.ins.const hop;have hql:=(gI.1 hz).1;rcases hP.2 with⟨e,_⟩|⟨gk,ok,ck,e,hc⟩
  ·omega
  rw[e]at hck;refine(Jr B M top t false c n X C K F hv gh oh gf c3 _ x.op x.a x.b x.c w hB h hm hFl hF1 hyF hXf (by omega) q p.consts.length gk ok ck z hq hql hcs hck (Rd.elem MC.cells_length hc q z hz 0 _ rfl) (Rd.elem MC.cells_length hc q z hz 1 _ rfl)).mono ?_;intro e w' hr;refine⟨_,_,_,_,hr,?_⟩;simp only[C8,e1,e2,e3,hop];simp[Av,CD,hq,hz]
 ·have hop:x.op=2:=hop
  show Calls Tryz.prog 152 _ _ _;have al:ar.length=0:=by rw[hk.alen];simp[Am,hop]
  have ha0:=List.eq_nil_of_length_eq_zero al;subst ha0;rw[List.append_nil]at h;obtain⟨q,z,hq,hz,_⟩:=hk.loc (by omega);refine(Ih B M top t false c n X C K F hv gh oh gf c3 _ x.op x.a x.b x.c w hB h hm hFl hF1 hyF hXf (by omega) q z hq hz (by simp only[];omega)).mono ?_;intro e w' hr;refine⟨_,_,_,_,hr,?_⟩;simp only[C8,e1,e2,e3,hop];simp[Av,CD,hq,hz]
 ·have hop:x.op=3:=hop
  show Calls Tryz.prog 153 _ _ _;have al:ar.length=1:=by rw[hk.alen];simp[Am,hop]
  obtain⟨z0,rfl⟩:=CN al;obtain⟨q,z,hq,hz,_⟩:=hk.loc (by omega);refine(Hf z0 B M top t false c n X C K F hv gh oh gf c3 _ x.op x.a x.b x.c w hB h hm hFl hF1 hyF hXf (by omega) q z hq hz (by simp only[];omega)).mono ?_;intro e w' hr;refine⟨_,_,_,_,hr,?_⟩;simp only[C8,e1,e2,e3,hop];simp[Av,CD,hq,BJ hFl hyF]
 ·have hop:x.op=4:=hop
  show Calls Tryz.prog 154 _ _ _;have al:ar.length=0:=by rw[hk.alen];simp[Am,hop]
  have ha0:=List.eq_nil_of_length_eq_zero al;subst ha0;rw[List.append_nil]at h;obtain⟨q,i,r,rt,hq,hi,hr,hrt,hm',ht,h256,h3⟩:=hk.cell (by omega);obtain⟨z,hz,_⟩:=Er hm' ht;refine(Ns B M top t false c n X C K F hv gh oh gf c3 _ x.op x.a x.b x.c w hB h hm hFl hF1 hyF hXf (by omega) q i r z hq hi hr hz (by omega) (by omega)).mono ?_;intro e w' hr';refine⟨_,_,_,_,hr',?_⟩;simp only[C8,e1,e2,e3,hop];simp[Av,cellAt,CD,hq,hi,hr,hz]
 ·have hop:x.op=5:=hop
  show Calls Tryz.prog 155 _ _ _;have al:ar.length=1:=by rw[hk.alen];simp[Am,hop]
  obtain⟨z0,rfl⟩:=CN al;obtain⟨q,i,r,rt,hq,hi,hr,hrt,hm',ht,h256,h3⟩:=hk.cell (by omega);obtain⟨z,hz,_⟩:=Er hm' ht;refine(MX z0 B M top t false c n X C K F hv gh oh gf c3 _ x.op x.a x.b x.c w hB h hm hFl hF1 hyF hXf (by omega) q i r z hq hi hr hz (by omega) (by omega)).mono ?_;intro e w' hr';refine⟨_,_,_,_,hr',?_⟩;simp only[C8,e1,e2,e3,hop];simp[Av,CD,hq,hi,EK hr]
 ·have hop:x.op=6:=hop
  show Calls Tryz.prog 156 _ _ _;have al:ar.length=1:=by rw[hk.alen];simp[Am,hop]
  obtain⟨z0,rfl⟩:=CN al;obtain⟨q,b0,m0,r,hq,hb0,hm0,hm',hr,h256,h3,hall⟩:=hk.masked (by omega);obtain⟨w0,hw0,hw0'⟩:=Dy (hk.awf z0 (by simp));obtain⟨z,hz,_⟩:=hall w0;have hzl:=(gI.1 hz).1
  obtain⟨gl,cl,el⟩:∃g c,r.1=.slice (some ⟨g,0,none⟩) r.2.length c:=by
   rcases Au (h.fam.own r (by simp only[List.mem_append];exact .inl (.inl (mG hr))))with⟨_,e⟩|hh
   ·omega
   ·exact hh
  refine(LJ z0 B M top t false c n X C K F hv gh oh gf c3 _ x.op x.a x.b x.c w hB h hm hFl hF1 hyF hXf (by omega) q b0 m0 w0 _ gl r.2.length cl r z hq hb0 hm0 hr el hz hzl (by omega) (by omega) hw0 rfl hw0' (by omega)).mono ?_;intro e w' hr';refine⟨_,_,_,_,hr',?_⟩;simp only[C8,e1,e2,e3,hop];simp[Av,cellAt,CD,hq,hb0,hm0,hw0,hr,hz]
 ·have hop:x.op=7:=hop
  show Calls Tryz.prog 157 _ _ _;have al:ar.length=2:=by rw[hk.alen];simp[Am,hop]
  obtain⟨z0,z1,rfl⟩:=Cy al;rw[show K++[z0,z1]=K++[z0]++[z1]by simp]at h;obtain⟨q,b0,m0,r,hq,hb0,hm0,hm',hr,h256,h3,hall⟩:=hk.masked (by omega);obtain⟨w0,hw0,hw0'⟩:=Dy (hk.awf z0 (by simp));obtain⟨z,hz,_⟩:=hall w0;have hzl:=(gI.1 hz).1
  obtain⟨gl,cl,el⟩:∃g c,r.1=.slice (some ⟨g,0,none⟩) r.2.length c:=by
   rcases Au (h.fam.own r (by simp only[List.mem_append];exact .inl (.inl (mG hr))))with⟨_,e⟩|hh
   ·omega
   ·exact hh
  refine(JW z0 z1 B M top t false c n X C K F hv gh oh gf c3 _ x.op x.a x.b x.c w hB h hm hFl hF1 hyF hXf (by simp at hK;omega) q b0 m0 w0 _ gl r.2.length cl r z hq hb0 hm0 hr el hz hzl (by omega) (by omega) hw0 rfl hw0' (by omega)).mono ?_;intro e w' hr';refine⟨_,_,_,_,hr',?_⟩;simp only[C8,e1,e2,e3,hop];simp[Av,CD,hq,hb0,hm0,hw0,EK hr]
 ·have hop:x.op=8:=hop
  show Calls Tryz.prog 158 _ _ _;have al:ar.length=2:=by rw[hk.alen];simp[Am,hop]
  obtain⟨z0,z1,rfl⟩:=Cy al;rw[show K++[z0,z1]=K++[z0]++[z1]by simp]at h;obtain⟨hct,hne⟩:=hk.ins.ctk (F:=5) (by rw[hop];exact DT.1) (by decide);have hty:z0.type=x.a:=Ca (by have:=hft;simp only[Am,hop]at this;simpa using this) hne;rw[<-hty]at hct;refine(Bj (Nh z0.type z0.word z1.word) 8 135 z0 z1 B M top t false c n X C K F hv gh oh gf c3 _ x.op x.a x.b x.c w hB h hm hFl hF1 hyF hXf (by simp at hK;omega) hop (by omega) rfl (OY _ _ _) (fun _ _=>by kernel_rfl)).mono ?_;intro e w' hr;refine⟨_,_,_,_,hr,?_⟩;simp only[C8,e1,e2,e3,hop];simp[Av,CD,AF,hct]
 ·have hop:x.op=9:=hop
  show Calls Tryz.prog 158 _ _ _;have al:ar.length=2:=by rw[hk.alen];simp[Am,hop]
  obtain⟨z0,z1,rfl⟩:=Cy al;rw[show K++[z0,z1]=K++[z0]++[z1]by simp]at h;obtain⟨hct,hne⟩:=hk.ins.ctk (F:=5) (by rw[hop];exact DT.2.1) (by decide);have hty:z0.type=x.a:=Ca (by have:=hft;simp only[Am,hop]at this;simpa using this) hne;rw[<-hty]at hct;refine(Bj (Nn z0.type z0.word z1.word) 9 136 z0 z1 B M top t false c n X C K F hv gh oh gf c3 _ x.op x.a x.b x.c w hB h hm hFl hF1 hyF hXf (by simp at hK;omega) hop (by omega) rfl (K6 _ _ _) (fun _ _=>by kernel_rfl)).mono ?_;intro e w' hr;refine⟨_,_,_,_,hr,?_⟩;simp only[C8,e1,e2,e3,hop];simp[Av,CD,AF,hct]
 ·have hop:x.op=10:=hop
  show Calls Tryz.prog 158 _ _ _;have al:ar.length=2:=by rw[hk.alen];simp[Am,hop]
  obtain⟨z0,z1,rfl⟩:=Cy al;rw[show K++[z0,z1]=K++[z0]++[z1]by simp]at h;obtain⟨hct,hne⟩:=hk.ins.ctk (F:=5) (by rw[hop];exact DT.2.2.1) (by decide);have hty:z0.type=x.a:=Ca (by have:=hft;simp only[Am,hop]at this;simpa using this) hne;rw[<-hty]at hct;refine(Bj (Nx z0.type z0.word z1.word) 10 137 z0 z1 B M top t false c n X C K F hv gh oh gf c3 _ x.op x.a x.b x.c w hB h hm hFl hF1 hyF hXf (by simp at hK;omega) hop (by omega) rfl (JY _ _ _) (fun _ _=>by kernel_rfl)).mono ?_;intro e w' hr;refine⟨_,_,_,_,hr,?_⟩;simp only[C8,e1,e2,e3,hop];simp[Av,CD,AF,hct]
 ·have hop:x.op=11:=hop
  show Calls Tryz.prog 158 _ _ _;have al:ar.length=2:=by rw[hk.alen];simp[Am,hop]
  obtain⟨z0,z1,rfl⟩:=Cy al;rw[show K++[z0,z1]=K++[z0]++[z1]by simp]at h;obtain⟨hct,hne⟩:=hk.ins.ctk (F:=5) (by rw[hop];exact DT.2.2.2.1) (by decide);have hty:z0.type=x.a:=Ca (by have:=hft;simp only[Am,hop]at this;simpa using this) hne;rw[<-hty]at hct;refine(Bj (Gu z0.type z0.word z1.word) 11 138 z0 z1 B M top t false c n X C K F hv gh oh gf c3 _ x.op x.a x.b x.c w hB h hm hFl hF1 hyF hXf (by simp at hK;omega) hop (by omega) rfl (MM _ _ _) (fun _ _=>by kernel_rfl)).mono ?_;intro e w' hr;refine⟨_,_,_,_,hr,?_⟩;simp only[C8,e1,e2,e3,hop];simp[Av,CD,AF,hct]
 ·have hop:x.op=12:=hop
  show Calls Tryz.prog 158 _ _ _;have al:ar.length=2:=by rw[hk.alen];simp[Am,hop]
  obtain⟨z0,z1,rfl⟩:=Cy al;rw[show K++[z0,z1]=K++[z0]++[z1]by simp]at h;obtain⟨hct,hne⟩:=hk.ins.ctk (F:=5) (by rw[hop];exact DT.2.2.2.2.1) (by decide);have hty:z0.type=x.a:=Ca (by have:=hft;simp only[Am,hop]at this;simpa using this) hne;rw[<-hty]at hct;refine(Bj (Gt z0.type z0.word z1.word) 12 139 z0 z1 B M top t false c n X C K F hv gh oh gf c3 _ x.op x.a x.b x.c w hB h hm hFl hF1 hyF hXf (by simp at hK;omega) hop (by omega) rfl (Mv _ _ _) (fun _ _=>by kernel_rfl)).mono ?_;intro e w' hr;refine⟨_,_,_,_,hr,?_⟩;simp only[C8,e1,e2,e3,hop];simp[Av,CD,AF,hct]
 ·have hop:x.op=13:=hop
  show Calls Tryz.prog 158 _ _ _;have al:ar.length=2:=by rw[hk.alen];simp[Am,hop]
  obtain⟨z0,z1,rfl⟩:=Cy al;rw[show K++[z0,z1]=K++[z0]++[z1]by simp]at h;obtain⟨hct,hne⟩:=hk.ins.ctk (F:=6) (by rw[hop];exact DT.2.2.2.2.2.1) (by decide);have hty:z0.type=x.a:=Ca (by have:=hft;simp only[Am,hop]at this;simpa using this) hne;rw[<-hty]at hct;refine(Bj (Ny z0.type z0.word z1.word) 13 140 z0 z1 B M top t false c n X C K F hv gh oh gf c3 _ x.op x.a x.b x.c w hB h hm hFl hF1 hyF hXf (by simp at hK;omega) hop (by omega) rfl (MO _ _ _) (fun _ _=>by kernel_rfl)).mono ?_;intro e w' hr;refine⟨_,_,_,_,hr,?_⟩;simp only[C8,e1,e2,e3,hop];simp[Av,CD,AF,hct]
 ·have hop:x.op=14:=hop
  show Calls Tryz.prog 158 _ _ _;have al:ar.length=2:=by rw[hk.alen];simp[Am,hop]
  obtain⟨z0,z1,rfl⟩:=Cy al;rw[show K++[z0,z1]=K++[z0]++[z1]by simp]at h;obtain⟨hct,hne⟩:=hk.ins.ctk (F:=6) (by rw[hop];exact DT.2.2.2.2.2.2.1) (by decide);have hty:z0.type=x.a:=Ca (by have:=hft;simp only[Am,hop]at this;simpa using this) hne;rw[<-hty]at hct;refine(Bj (PP z0.type z0.word z1.word) 14 141 z0 z1 B M top t false c n X C K F hv gh oh gf c3 _ x.op x.a x.b x.c w hB h hm hFl hF1 hyF hXf (by simp at hK;omega) hop (by omega) rfl (NI _ _ _) (fun _ _=>by kernel_rfl)).mono ?_;intro e w' hr;refine⟨_,_,_,_,hr,?_⟩;simp only[C8,e1,e2,e3,hop];simp[Av,CD,AF,hct]
 ·have hop:x.op=15:=hop
  show Calls Tryz.prog 158 _ _ _;have al:ar.length=2:=by rw[hk.alen];simp[Am,hop]
  obtain⟨z0,z1,rfl⟩:=Cy al;rw[show K++[z0,z1]=K++[z0]++[z1]by simp]at h;obtain⟨hct,hne⟩:=hk.ins.ctk (F:=6) (by rw[hop];exact DT.2.2.2.2.2.2.2.1) (by decide);have hty:z0.type=x.a:=Ca (by have:=hft;simp only[Am,hop]at this;simpa using this) hne;rw[<-hty]at hct;refine(Bj (NB z0.type z0.word z1.word) 15 142 z0 z1 B M top t false c n X C K F hv gh oh gf c3 _ x.op x.a x.b x.c w hB h hm hFl hF1 hyF hXf (by simp at hK;omega) hop (by omega) rfl (ML _ _ _) (fun _ _=>by kernel_rfl)).mono ?_;intro e w' hr;refine⟨_,_,_,_,hr,?_⟩;simp only[C8,e1,e2,e3,hop];simp[Av,CD,AF,hct]
 ·have hop:x.op=16:=hop
  show Calls Tryz.prog 159 _ _ _;have al:ar.length=1:=by rw[hk.alen];simp[Am,hop]
  obtain⟨z0,rfl⟩:=CN al;obtain⟨hct,hne⟩:=hk.ins.ctk (F:=6) (by rw[hop];exact DT.2.2.2.2.2.2.2.2.1) (by decide);have hty:z0.type=x.a:=Ca (by have:=hft;simp only[Am,hop]at this;simpa using this) hne;rw[<-hty]at hct;refine(Lc (JN z0.type z0.word 0) 16 143 z0 B M top t false c n X C K F hv gh oh gf c3 _ x.op x.a x.b x.c w hB h hm hFl hF1 hyF hXf (by simp at hK;omega) hop (by omega) rfl (OU _ _ _) (fun _ _=>by kernel_rfl)).mono ?_;intro e w' hr;refine⟨_,_,_,_,hr,?_⟩;simp only[C8,e1,e2,e3,hop];simp[Av,CD,AF,hct]
 ·have hop:x.op=17:=hop
  show Calls Tryz.prog 158 _ _ _;have al:ar.length=2:=by rw[hk.alen];simp[Am,hop]
  obtain⟨z0,z1,rfl⟩:=Cy al;rw[show K++[z0,z1]=K++[z0]++[z1]by simp]at h;have hct:Cf 0 z0.type=true:=rfl;refine(Bj (On z0.type z0.word z1.word) 17 144 z0 z1 B M top t false c n X C K F hv gh oh gf c3 _ x.op x.a x.b x.c w hB h hm hFl hF1 hyF hXf (by simp at hK;omega) hop (by omega) rfl (JF _ _ _) (fun _ _=>by kernel_rfl)).mono ?_;intro e w' hr;refine⟨_,_,_,_,hr,?_⟩;simp only[C8,e1,e2,e3,hop];simp[Av,CD,AF,hct]
 ·have hop:x.op=18:=hop
  show Calls Tryz.prog 158 _ _ _;have al:ar.length=2:=by rw[hk.alen];simp[Am,hop]
  obtain⟨z0,z1,rfl⟩:=Cy al;rw[show K++[z0,z1]=K++[z0]++[z1]by simp]at h;have hct:Cf 0 z0.type=true:=rfl;refine(Bj (Ot z0.type z0.word z1.word) 18 145 z0 z1 B M top t false c n X C K F hv gh oh gf c3 _ x.op x.a x.b x.c w hB h hm hFl hF1 hyF hXf (by simp at hK;omega) hop (by omega) rfl (H6 _ _ _) (fun _ _=>by kernel_rfl)).mono ?_;intro e w' hr;refine⟨_,_,_,_,hr,?_⟩;simp only[C8,e1,e2,e3,hop];simp[Av,CD,AF,hct]
 ·have hop:x.op=19:=hop
  show Calls Tryz.prog 159 _ _ _;have al:ar.length=1:=by rw[hk.alen];simp[Am,hop]
  obtain⟨z0,rfl⟩:=CN al;have hct:Cf 0 z0.type=true:=rfl;refine(Lc (N7 z0.type z0.word 0) 19 146 z0 B M top t false c n X C K F hv gh oh gf c3 _ x.op x.a x.b x.c w hB h hm hFl hF1 hyF hXf (by simp at hK;omega) hop (by omega) rfl (M5 _ _ _) (fun _ _=>by kernel_rfl)).mono ?_;intro e w' hr;refine⟨_,_,_,_,hr,?_⟩;simp only[C8,e1,e2,e3,hop];simp[Av,CD,AF,hct]
 ·have hop:x.op=20:=hop
  show Calls Tryz.prog 160 _ _ _;have al:ar.length=2:=by rw[hk.alen];simp[Am,hop]
  obtain⟨z0,z1,rfl⟩:=Cy al;rw[show K++[z0,z1]=K++[z0]++[z1]by simp]at h;obtain⟨hct,hne⟩:=hk.ins.ctk (F:=7) (by rw[hop];exact DT.2.2.2.2.2.2.2.2.2.1) (by decide);have hty:z0.type=x.a:=Ca (by have:=hft;simp only[Am,hop]at this;simpa using this) hne;rw[<-hty]at hct;refine(GA (PI z0.type z0.word z1.word) 20 147 z0 z1 B M top t false c n X C K F hv gh oh gf c3 _ x.op x.a x.b x.c w hB h hm hFl hF1 hyF hXf (by simp at hK;omega) hop (by omega) rfl (ND _ _ _) (fun _ _=>by kernel_rfl)).mono ?_;intro e w' hr;refine⟨_,_,_,_,hr,?_⟩;simp only[C8,e1,e2,e3,hop];simp[Av,CD,AF,hct]
 ·have hop:x.op=21:=hop
  show Calls Tryz.prog 160 _ _ _;have al:ar.length=2:=by rw[hk.alen];simp[Am,hop]
  obtain⟨z0,z1,rfl⟩:=Cy al;rw[show K++[z0,z1]=K++[z0]++[z1]by simp]at h;obtain⟨hct,hne⟩:=hk.ins.ctk (F:=5) (by rw[hop];exact DT.2.2.2.2.2.2.2.2.2.2) (by decide);have hty:z0.type=x.a:=Ca (by have:=hft;simp only[Am,hop]at this;simpa using this) hne;rw[<-hty]at hct;refine(GA (Gj z0.type z0.word z1.word) 21 148 z0 z1 B M top t false c n X C K F hv gh oh gf c3 _ x.op x.a x.b x.c w hB h hm hFl hF1 hyF hXf (by simp at hK;omega) hop (by omega) rfl (N5 _ _ _) (fun _ _=>by kernel_rfl)).mono ?_;intro e w' hr;refine⟨_,_,_,_,hr,?_⟩;simp only[C8,e1,e2,e3,hop];simp[Av,CD,AF,hct]
 ·have hop:x.op=22:=hop
  show Calls Tryz.prog 161 _ _ _;have al:ar.length=1:=by rw[hk.alen];simp[Am,hop]
  obtain⟨z0,rfl⟩:=CN al;refine(Kn z0 B M top t false c n X C K F hv gh oh gf c3 _ x.op x.a x.b x.c w hB h hm hFl hF1 hyF hXf (by omega)).mono ?_;intro e w' hr;refine⟨_,_,_,_,hr,?_⟩;simp only[C8,e1,e2,e3,hop];simp[Av,CD]
 ·have hop:x.op=23:=hop
  show Calls Tryz.prog 162 _ _ _;have al:ar.length=1:=by rw[hk.alen];simp[Am,hop]
  obtain⟨z0,rfl⟩:=CN al;refine(N2 z0 B M top t false c n X C K F hv gh oh gf c3 _ x.op x.a x.b x.c w hB h hm hFl hF1 hyF hXf (by omega)).mono ?_;intro e w' hr;refine⟨_,_,_,_,hr,?_⟩;simp only[C8,e1,e2,e3,hop];simp[Av,CD]
 ·have hop:x.op=24:=hop
  show Calls Tryz.prog 163 _ _ _;have al:ar.length=1:=by rw[hk.alen];simp[Am,hop]
  obtain⟨z0,rfl⟩:=CN al;refine(NA z0 B M top t false c n X C K F hv gh oh gf c3 _ x.op x.a x.b x.c w hB h hm hFl hF1 hyF hXf (by omega)).mono ?_;intro e w' hr;refine⟨_,_,_,_,hr,?_⟩;simp only[C8,e1,e2,e3,hop];simp[Av]
 ·have hop:x.op=25:=hop
  show Calls Tryz.prog 164 _ _ _;have al:ar.length=0:=by rw[hk.alen];simp[Am,hop]
  have ha0:=List.eq_nil_of_length_eq_zero al;subst ha0;rw[List.append_nil]at h;refine(Nw B M top t false c n X C K F hv gh oh gf c3 _ x.op x.a x.b x.c w hB h hm hFl hF1 hyF hXf).mono ?_;intro e w' hr;refine⟨_,_,_,_,hr,?_⟩;simp only[C8,e1,e2,e3,hop];simp[Av,BJ hFl hyF]
 ·have hop:x.op=26:=hop
  show Calls Tryz.prog 165 _ _ _;have al:ar.length=1:=by rw[hk.alen];simp[Am,hop]
  obtain⟨z0,rfl⟩:=CN al;have hty:z0.type=1:=Ca (by have:=hft;simp only[Am,hop]at this;simpa using this) (by decide);by_cases hz0:z0.word=0
  ·refine(Lu z0 B M top t false c n X C K F hv gh oh gf c3 _ x.op x.a x.b x.c w hB h hm hFl hF1 hyF hXf (by simp at hK;omega) hty hz0).mono ?_
   intro e w' hr;refine⟨_,_,_,_,hr,?_⟩;simp only[C8,e1,e2,e3,hop];simp[Av,CD,hz0,BJ hFl hyF]
  ·refine(LE z0 B M top t false c n X C K F hv gh oh gf c3 _ x.op x.a x.b x.c w hB h hm hFl hF1 hyF hXf (by simp at hK;omega) hty hz0).mono ?_
   intro e w' hr;refine⟨_,_,_,_,hr,?_⟩;simp only[C8,e1,e2,e3,hop];simp[Av,CD,hz0]
 ·have hop:x.op=27:=hop
  show Calls Tryz.prog 166 _ _ _;have al:ar.length=0:=by rw[hk.alen];simp[Am,hop]
  have ha0:=List.eq_nil_of_length_eq_zero al;subst ha0;rw[List.append_nil]at h;obtain⟨q,z,hq,hz,ht⟩:=hk.loc (by omega);obtain⟨w0,hw0,hw0'⟩:=Dy (hk.lwf z (mG hz));rw[hg3 hop]at ht;by_cases hz0:z.word=0
  ·refine(Ol B M top t false c n X C K F hv gh oh gf c3 _ x.op x.a x.b x.c w hB h hm hFl hF1 hyF hXf q z hq hz (by simp only[];omega) ht (by omega) (by omega) hz0).mono ?_
   intro e w' hr;refine⟨_,_,_,_,hr,?_⟩;simp only[C8,e1,e2,e3,hop];simp[Av,CD,hq,hz,hz0,BJ hFl hyF]
  ·refine(NT B M top t false c n X C K F hv gh oh gf c3 _ x.op x.a x.b x.c w hB h hm hFl hF1 hyF hXf q z hq hz (by simp only[];omega) ht (by omega) (by omega) hz0).mono ?_
   intro e w' hr;refine⟨_,_,_,_,hr,?_⟩;simp only[C8,e1,e2,e3,hop];simp[Av,CD,hq,hz,hz0,BJ hFl hyF,Hv hz]
theorem Pi(p:MP)(f:MF)(x:MI)(B M top:Nat)(c n:Int)(X:VS)(C:List (Value×List MC))(K:List MC)(F0:List (MG×Value))(hv:Value)(gh oh gf c3:Nat)(y0:MG×Value)(w:World)(hB:B<=w.heap.size)(h:Aj w B X C K (F0.set top ({y0.1 with at_:=y0.1.at_+1},y0.2)))(hm:MB w M 0 false c n X hv)(hF:F0.length=top+1)(hF1:top<=1048576)(hy:F0[top]?=some y0)(hXf:X.f=.slice (some ⟨gf,0,none⟩) (top+1) c3)(hop:x.op=29):
  Calls Tryz.prog 168 #[.pointer (some ⟨M,0,none⟩),.agg #[.pointer (some ⟨gh,oh,none⟩),.pointer (some ⟨gf,top*4,none⟩)],.agg #[.int .i64 x.op,.int .i64 x.a,.int .i64 x.b,.int .i64 x.c]] w (GT w B M 0 c n hv X C (F0.set top ({y0.1 with at_:=y0.1.at_+1},y0.2)) (C8 p f y0.1 (Av 0 false c n C K F0) x)):=by
 have hFl:(F0.set top ({y0.1 with at_:=y0.1.at_+1},y0.2)).length=top+1:=by rw[List.length_set,hF]
 have hyF:(F0.set top ({y0.1 with at_:=y0.1.at_+1},y0.2))[top]?=some ({y0.1 with at_:=y0.1.at_+1},y0.2):=by rw[List.getElem?_set_self (by omega)]
 have hd:=Mj (p:=p) (f:=f) (g:=y0.1) (C:=C) (K:=K) (F:=F0) (c:=c) (n:=n) hop;rw[hF,Nat.add_sub_cancel]at hd;by_cases hz:top=0
 ·refine(Lq B M top 0 false c n X C K _ hv gh oh gf c3 _ x.op x.a x.b x.c w hB h hm hFl hF1 hyF hXf hz).mono ?_
  intro e w' hr;refine⟨_,_,_,_,hr,?_⟩;rw[<-hd,Gg];simp[hz]
 ·refine(Lv B M top 0 false c n X C K _ hv gh oh gf c3 _ x.op x.a x.b x.c w hB h hm hFl hF1 hyF hXf hz).mono ?_
  intro e w' hr;refine⟨_,_,_,_,hr,?_⟩;rw[<-hd,Gg];simp[hz]
theorem Pe(p:MP)(f fq:MF)(x:MI)(B M top:Nat)(c n:Int)(X:VS)(C:List (Value×List MC))(K ar:List MC)(F0:List (MG×Value))(hv:Value)(gh oh gf c3:Nat)(y0:MG×Value)(w:World)(hB:B<=w.heap.size)(h:Aj w B X C (K++ar) (F0.set top ({y0.1 with at_:=y0.1.at_+1},y0.2)))(hm:MB w M 0 false c n X hv)(hF:F0.length=top+1)(hF1:top<=1048576)(hy:F0[top]?=some y0)(hXf:X.f=.slice (some ⟨gf,0,none⟩) (top+1) c3)(hop:x.op=28)(hK:K.length+ar.length<=64)(hal:ar.length=(Am p f x).length)
  (q gH nf ch nz:Nat) (hq:x.a=(q:Int)) (hfq:p.funcs[q]?=some fq) (hhv:hv=.slice (some ⟨gH,0,none⟩) nf ch) (hqn:q<nf) (hnf:nf<=1048576) (hnz:(fq.params++fq.locals).length=nz) (pp tp:Option Addr) (pc tc:Nat) (hp:w.cell? ⟨gH,q*9+4,none⟩=some (.slice pp fq.params.length pc)) (ht:w.cell? ⟨gH,q*9+8,none⟩=some (.slice tp nz tc)) (hrd:Rd w 1 (.slice tp nz tc) nz ((fq.params++fq.locals).flatMap Af)) (hpl:nz<=1048576):
  Calls Tryz.prog 167 #[.pointer (some ⟨M,0,none⟩),.agg #[.pointer (some ⟨gh,oh,none⟩),.pointer (some ⟨gf,top*4,none⟩)],.agg #[.int .i64 x.op,.int .i64 x.a,.int .i64 x.b,.int .i64 x.c]] w (GT w B M 0 c n hv X C (F0.set top ({y0.1 with at_:=y0.1.at_+1},y0.2)) (C8 p f y0.1 (Av 0 false c n C (K++ar) F0) x)):=by
 have hFl:(F0.set top ({y0.1 with at_:=y0.1.at_+1},y0.2)).length=top+1:=by rw[List.length_set,hF]
 have hyF:(F0.set top ({y0.1 with at_:=y0.1.at_+1},y0.2))[top]?=some ({y0.1 with at_:=y0.1.at_+1},y0.2):=by rw[List.getElem?_set_self (by omega)]
 have htk:Am p f x=fq.params:=by simp[Am,hop,hq,hfq]
 have hap:ar.length=fq.params.length:=by rw[hal,htk]
 refine(NE ar B M top 0 false c n X C K _ hv gh oh gf c3 _ x.op x.a x.b x.c w hB h hm hFl hF1 hyF hXf (by omega) q hq fq.params fq.locals hap gH nf ch hhv hqn hnf nz hnz pp tp pc tc hp ht hrd hpl).mono ?_;rintro e w' ⟨vl,hr⟩;refine⟨_,_,_,_,hr,?_⟩;have hl:(K++ar).length-ar.length=K.length:=by rw[List.length_append];omega
 have hd:=Kr (p:=p) (f:=f) (fq:=fq) (g:=y0.1) (C:=C) (K:=K++ar) (ar:=ar) (F:=F0) (vl:=y0.2) (vv:=vl) (c:=c) (n:=n) (x:=x) (q:=q) (top:=top) hop hq hfq hal (by rw[hl];exact List.drop_left) hF hy;rw[hl,List.take_left]at hd;exact hd
theorem FO{u:World}{B:Nat}{e:TypeId}{k n b:Nat}{s:Value}{xs:List Value}(h:u.ownsRow B e k s n xs)(hb:s.ownBlock=some b):∃cur,Aq u b cur e:=by
 rcases h.2 with⟨rfl,_⟩|⟨g,cap,cur,rfl,_,hg,_⟩
 ·simp[Value.ownBlock]at hb
 ·obtain rfl:g=b:=by simpa[Value.ownBlock]using hb
  exact⟨cur,hg⟩
theorem Aq.ty_one{u:World}{b:Nat}{cur cur':Array Value}{e e':TypeId}(h:Aq u b cur e)(h':Aq u b cur' e'):e=e':=by
 unfold Aq at h h';rw[h]at h';injection h' with h'
 injection h' with _ h' _
theorem Aj.ty{u:World}{B:Nat}{X:VS}{C:List (Value×List MC)}{K:List MC}{F:List (MG×Value)}(h:Aj u B X C K F){b:Nat}(hb:C1 X C F b){cur:Array Value}{e:TypeId}(hk:Aq u b cur e):e=128\/e=36\/e=123:=by
 rcases hb with hb|hb|hb|⟨r,hr,hb⟩|⟨r,hr,hb⟩
 ·obtain⟨_,h2⟩:=FO h.cells hb
  exact .inr (.inl (hk.ty_one h2))
 ·obtain⟨_,h2⟩:=FO (h.fam.own (X.k,K) (by simp)) hb
  exact .inl (hk.ty_one h2)
 ·obtain⟨_,h2⟩:=FO h.frames hb
  exact .inr (.inr (hk.ty_one h2))
 ·obtain⟨_,h2⟩:=FO (h.fam.own r (by simp only[List.mem_append];exact .inl (.inl hr))) hb
  exact .inl (hk.ty_one h2)
 ·obtain⟨_,h2⟩:=FO (h.fam.own r (by simp only[List.mem_append];exact .inr hr)) hb
  exact .inl (hk.ty_one h2)
theorem DW.chg{u u':World}{B M:Nat}{v:VP}{p:MP}{hv hv':Value}{X:VS}{C:List (Value×List MC)}{K:List MC}{F:List (MG×Value)}{t:Int}{d:Bool}{c n:Int}{X':VS}(h:DW u B v p hv)(hB:B<=u.heap.size)(hM:B<=M)(ho:Aj u B X C K F)(hm:MB u M t d c n X' hv')(hc:C5 (fun j=>j=M\/C1 X C F j) u u'):DW u' B v p hv:=by
 obtain⟨H,h1,h2,h3⟩:=h
 have hb:Below B u u':=hc.below hB (fun k hk e=>by
  rcases e with e|e
  ·omega
  ·have:=(ho.ltOf e).1
   omega)
 have key:∀{b:Nat} {cur:Array Value} {e:TypeId},Aq u b cur e->e=167\/e=2->¬(b=M\/C1 X C F b):=fun{b cur e} hk he hR=>by
  rcases hR with rfl|hR
  ·obtain⟨cm,hm1,_⟩:=hm.blk
   have:=hk.ty_one hm1;rcases he with rfl|rfl<;>exact absurd this (by decide)
  ·have:=ho.ty hR hk
   rcases he with rfl|rfl<;>rcases this with this|this|this<;>exact absurd this (by decide)
 refine⟨H,h1,hc.own h2 (fun b hb2=> ?_),fun r hr=>⟨fun u2 hu2=>(h3 r hr).1 u2 (hb.trans hu2),hc.own (h3 r hr).2 (fun b hb2=> ?_)⟩⟩
 ·obtain⟨_,h4⟩:=FO h2 hb2
  exact key h4 (.inl rfl)
 ·obtain⟨_,h4⟩:=FO (h3 r hr).2 hb2
  exact key h4 (.inr rfl)
theorem DW.at{u:World}{B:Nat}{v:VP}{p:MP}{hv:Value}(h:DW u B v p hv){q:Nat}{f:MF}(hq:p.funcs[q]?=some f):∃gH ch,hv=.slice (some ⟨gH,0,none⟩) p.funcs.length ch/\∃(g:VF) (tp:Option Addr) (tc:Nat),(∀u',Below B u u'->CK u' g f)/\u.cell? ⟨gH,q*9,none⟩=some v.r/\u.cell? ⟨gH,q*9+1,none⟩=some v.k/\u.cell? ⟨gH,q*9+2,none⟩=some v.f/\u.cell? ⟨gH,q*9+3,none⟩=some v.t/\u.cell? ⟨gH,q*9+4,none⟩=some g.p/\u.cell? ⟨gH,q*9+5,none⟩=some (.int .i64 f.result)/\u.cell? ⟨gH,q*9+6,none⟩=some g.l/\u.cell? ⟨gH,q*9+7,none⟩=some g.c/\u.cell? ⟨gH,q*9+8,none⟩=some (.slice tp (f.params++f.locals).length tc)/\Rd u 1 (.slice tp (f.params++f.locals).length tc) (f.params++f.locals).length ((f.params++f.locals).flatMap Af):=by
 obtain⟨H,h1,h2,h3⟩:=h;have hl:H.length=p.funcs.length:=by rw[<-h1,List.length_map]
 have hql:=(gI.1 hq).1;obtain⟨⟨f',g,ts⟩,hr⟩:∃r,H[q]?=some r:=⟨_,gE (by omega)⟩
 obtain rfl:f'=f:=by
  have e:(H.map Prod.fst)[q]?=some f':=by rw[List.getElem?_map,hr];rfl
  rw[h1,hq]at e;injection e with e
  exact e.symm
 rcases Au h2 with⟨_,e⟩|⟨gH,ch,e⟩
 ·omega
 subst e;obtain⟨h4,h5⟩:=h3 _ (mG hr);rw[<-List.length_append]at h5;obtain⟨tp,tc,e⟩:=An h5;simp only[]at e h4 h5;subst e;refine⟨gH,ch,by rw[hl],g,tp,tc,h4,?_,?_,?_,?_,?_,?_,?_,?_,?_,Rd.of_own h5⟩
 ·have:=h2.cellAt (q*9+0) (by omega)
  rw[Az (BZ v) 9 (Bt v) H q 0 _ hr (by omega)]at this;exact this
 ·have:=h2.cellAt (q*9+1) (by omega)
  rw[Az (BZ v) 9 (Bt v) H q 1 _ hr (by omega)]at this;exact this
 ·have:=h2.cellAt (q*9+2) (by omega)
  rw[Az (BZ v) 9 (Bt v) H q 2 _ hr (by omega)]at this;exact this
 ·have:=h2.cellAt (q*9+3) (by omega)
  rw[Az (BZ v) 9 (Bt v) H q 3 _ hr (by omega)]at this;exact this
 ·have:=h2.cellAt (q*9+4) (by omega)
  rw[Az (BZ v) 9 (Bt v) H q 4 _ hr (by omega)]at this;exact this
 ·have:=h2.cellAt (q*9+5) (by omega)
  rw[Az (BZ v) 9 (Bt v) H q 5 _ hr (by omega)]at this;exact this
 ·have:=h2.cellAt (q*9+6) (by omega)
  rw[Az (BZ v) 9 (Bt v) H q 6 _ hr (by omega)]at this;exact this
 ·have:=h2.cellAt (q*9+7) (by omega)
  rw[Az (BZ v) 9 (Bt v) H q 7 _ hr (by omega)]at this;exact this
 ·have:=h2.cellAt (q*9+8) (by omega)
  rw[Az (BZ v) 9 (Bt v) H q 8 _ hr (by omega)]at this;exact this
def Np(w:World)(B M:Nat)(p:MP)(s:MS)(hv:Value)(X0:VS)(C0:List (Value×List MC))(F0:List (MG×Value))(e:Ending)(w':World):Prop:=e=.returned (.tuple #[])/\∃(t:Int) (d:Bool) (c n:Int) (X:VS) (C:List (Value×List MC)) (K:List MC) (F:List (MG×Value)),MB w' M t d c n X hv/\Aj w' B X C K F/\Bu p s (Av t d c n C K F)/\C5 (fun j=>j=M\/C1 X0 C0 F0 j) w w'
structure Dp(w u:World)(B M top:Nat)(v:VP)(p:MP)(t c n:Int)(X:VS)(C:List (Value×List MC))(K:List MC)(F:List (MG×Value))(hv:Value)(gH kf gf Y:Nat):Prop where
 mb:MB u M t false c n X hv
 own:Aj u B X C K F
 hd:DW u B v p hv
 fb:Aq u Y #[.pointer (some ⟨gH,kf*9,none⟩),.pointer (some ⟨gf,top*4,none⟩)] 172
 chg:C5 (fun j=>j=M\/C1 X C F j) w u
 hB:B<=w.heap.size
 hM:M<w.heap.size
 hBM:B<=M
 hY:w.heap.size<=Y
 old:∀j,C1 X C F j->B<=j/\j<w.heap.size
theorem DW.keep{u u':World}{B:Nat}{v:VP}{p:MP}{hv:Value}(h:DW u B v p hv)(hB:B<=u.heap.size)(hb:Below u.heap.size u u'):DW u' B v p hv:=by
 obtain⟨H,h1,h2,h3⟩:=h;exact⟨H,h1,Ai h2 hb lR,fun r hr=>⟨fun u2 hu2=>(h3 r hr).1 u2 ((hb.mono hB).trans hu2),Ai (h3 r hr).2 hb lR⟩⟩
theorem Dp.keep{w u:World}{B M top:Nat}{v:VP}{p:MP}{t c n:Int}{X:VS}{C:List (Value×List MC)}{K:List MC}{F:List (MG×Value)}{hv:Value}{gH kf gf Y:Nat}{u':World}(h:Dp w u B M top v p t c n X C K F hv gH kf gf Y)(hb:Below u.heap.size u u'):Dp w u' B M top v p t c n X C K F hv gH kf gf Y:=⟨h.mb.keep hb,h.own.grow hb,h.hd.keep (Nat.le_trans h.hB h.chg.size) hb,h.fb.keep hb,h.chg.trans (.of (R:=fun _=>False) hb) (fun _ _ e=>e.elim),h.hB,h.hM,h.hBM,h.hY,h.old⟩
theorem Dp.low{w u:World}{B M top:Nat}{v:VP}{p:MP}{t c n:Int}{X:VS}{C:List (Value×List MC)}{K:List MC}{F:List (MG×Value)}{hv:Value}{gH kf gf Y:Nat}(h:Dp w u B M top v p t c n X C K F hv gH kf gf Y):Below B w u:=h.chg.below h.hB (fun k hk e=>by
 have:=h.hBM;rcases e with e|e
 ·omega
 ·have:=(h.old k e).1
  omega)
theorem Dp.setM{w u:World}{B M top:Nat}{v:VP}{p:MP}{t c n:Int}{X:VS}{C:List (Value×List MC)}{K:List MC}{F:List (MG×Value)}{hv:Value}{gH kf gf Y:Nat}{t' c' n':Int}{i:Nat}{x:Value}(h:Dp w u B M top v p t c n X C K F hv gH kf gf Y)(hm:MB (u.setCell ⟨M,i,none⟩ x) M t' false c' n' X hv):Dp w (u.setCell ⟨M,i,none⟩ x) B M top v p t' c' n' X C K F hv gH kf gf Y:=by
 have hM:=h.hM;have hY:=h.hY;refine⟨hm,EM h.own h.mb,h.hd.chg (Nat.le_trans h.hB h.chg.size) h.hBM h.own h.mb (C5.setCell (C5.refl _ u) (.inl (.inl rfl)) x),h.fb.other (by simp only[];omega) _,h.chg.setCell (.inl (.inl rfl)) x,h.hB,h.hM,h.hBM,h.hY,h.old⟩
theorem Dp.instr{w u:World}{B M top:Nat}{v:VP}{p:MP}{t c n:Int}{X:VS}{C:List (Value×List MC)}{K:List MC}{F:List (MG×Value)}{hv:Value}{gH kf gf Y:Nat}(h:Dp w u B M top v p t c n X C K F hv gH kf gf Y){Z:Nat}{cur:Array Value}{ty:TypeId}(hz:Aq u Z cur ty)(hZ:w.heap.size<=Z)(i:Nat)(x:Value):Aq (u.setCell ⟨M,i,none⟩ x) Z cur ty:=by
 have hM:=h.hM;exact hz.other (by simp only[];omega) _
theorem Dp.frc{w u:World}{B M top:Nat}{v:VP}{p:MP}{t c n:Int}{X:VS}{C:List (Value×List MC)}{K:List MC}{F:List (MG×Value)}{hv:Value}{gH kf gf Y:Nat}(h:Dp w u B M top v p t c n X C K F hv gH kf gf Y){y:MG×Value}{m c3:Nat}(hXf:X.f=.slice (some ⟨gf,0,none⟩) m c3)(hy:F[top]?=some y):u.cell? ⟨gf,top*4+1,none⟩=some (.int .i64 y.1.at_)/\u.frozen? ⟨gf,top*4+1,none⟩=false:=by
 have ho:=h.own.frames;rw[hXf]at ho;have hl:=Bz ho;subst hl;have hlt:=(gI.1 hy).1;refine⟨?_,ho.frozenAt _⟩;rw[ho.cellAt (top*4+1) (by omega),Az As 4 Al F top 1 y hy (by omega)];rfl
structure JM(w u:World)(B M top:Nat)(v:VP)(p:MP)(c n:Int)(X:VS)(C:List (Value×List MC))(K:List MC)(F0:List (MG×Value))(F:List (MG×Value))(hv:Value)(gH kf gf Y Z:Nat)(x:MI):Prop where
 mb:MB u M 0 false c n X hv
 own:Aj u B X C K F
 hd:DW u B v p hv
 fb:Aq u Y #[.pointer (some ⟨gH,kf*9,none⟩),.pointer (some ⟨gf,top*4,none⟩)] 172
 ib:Aq u Z #[.int .i64 x.op,.int .i64 x.a,.int .i64 x.b,.int .i64 x.c] 134
 chg:C5 (fun j=>j=M\/C1 X C F0 j) w u
 hB:B<=w.heap.size
 low:Below B w u
theorem Dp.jump{w u:World}{B M top:Nat}{v:VP}{p:MP}{c n:Int}{X:VS}{C:List (Value×List MC)}{K:List MC}{F:List (MG×Value)}{hv:Value}{gH kf gf Y:Nat}(h:Dp w u B M top v p 0 c n X C K F hv gH kf gf Y){Z:Nat}{x:MI}(hz:Aq u Z #[.int .i64 x.op,.int .i64 x.a,.int .i64 x.b,.int .i64 x.c] 134)(hZ:w.heap.size<=Z){y:MG×Value}{m c3:Nat}(hXf:X.f=.slice (some ⟨gf,0,none⟩) m c3)(hy:F[top]?=some y)(z:Int):JM w (u.setCell ⟨gf,top*4+1,none⟩ (.int .i64 z)) B M top v p c n X C K F (F.set top ({y.1 with at_:=z},y.2)) hv gH kf gf Y Z x:=by
 obtain⟨o1,g1⟩:=h.own.setAt hXf hy z;have hX:C1 X C F gf:=.inr (.inr (.inl (by rw[hXf];rfl)));have hg:=h.old gf hX;have hY:=h.hY;have hc:C5 (fun j=>j=M\/C1 X C F j) u (u.setCell ⟨gf,top*4+1,none⟩ (.int .i64 z)):=C5.setCell (C5.refl _ u) (.inl (.inr hX)) _
 have hc2:C5 (fun j=>j=M\/C1 X C F j) w (u.setCell ⟨gf,top*4+1,none⟩ (.int .i64 z)):=C5.setCell h.chg (.inl (.inr hX)) _
 have hMg:M≠gf:=fun e=>by
  subst e;obtain⟨cur,hb,_⟩:=h.mb.blk;rcases h.own.ty hX hb with e|e|e<;>exact absurd e (by decide)
 refine⟨h.mb.other (by simpa using hMg) _,o1,h.hd.chg (Nat.le_trans h.hB h.chg.size) h.hBM h.own h.mb hc,h.fb.other (by simp only[];omega) _,hz.other (by simp only[];omega) _,hc2,h.hB,hc2.below h.hB (fun k hk e=> ?_)⟩;have:=h.hBM;rcases e with e|e
 ·omega
 ·have:=(h.old k e).1
  omega
theorem JM.keep{w u u':World}{B M top:Nat}{v:VP}{p:MP}{c n:Int}{X:VS}{C:List (Value×List MC)}{K:List MC}{F0 F:List (MG×Value)}{hv:Value}{gH kf gf Y Z:Nat}{x:MI}(h:JM w u B M top v p c n X C K F0 F hv gH kf gf Y Z x)(hb:Below u.heap.size u u'):JM w u' B M top v p c n X C K F0 F hv gH kf gf Y Z x:=⟨h.mb.keep hb,h.own.grow hb,h.hd.keep (Nat.le_trans h.hB h.chg.size) hb,h.fb.keep hb,h.ib.keep hb,h.chg.trans (.of (R:=fun _=>False) hb) (fun _ _ e=>e.elim),h.hB,h.low.trans (hb.mono (Nat.le_trans h.hB h.chg.size))⟩
theorem JM.late{w u u':World}{B M top:Nat}{v:VP}{p:MP}{c n:Int}{X:VS}{C:List (Value×List MC)}{K:List MC}{F0 F:List (MG×Value)}{hv:Value}{gH kf gf Y Z:Nat}{x:MI}(h:JM w u B M top v p c n X C K F0 F hv gH kf gf Y Z x)(hc:C5 (fun j=>j=M\/C1 X C F j) u u'):Aq u' Y #[.pointer (some ⟨gH,kf*9,none⟩),.pointer (some ⟨gf,top*4,none⟩)] 172/\Aq u' Z #[.int .i64 x.op,.int .i64 x.a,.int .i64 x.b,.int .i64 x.c] 134:=by
 obtain⟨cur,hm,_⟩:=h.mb.blk;refine⟨hc.blk h.fb (fun e=> ?_),hc.blk h.ib (fun e=> ?_)⟩
 ·rcases e with e|e
  ·have hf:=h.fb
   rw[e]at hf;exact absurd (hm.ty_one hf) (by decide)
  ·rcases h.own.ty e h.fb with e|e|e<;>exact absurd e (by decide)
 ·rcases e with e|e
  ·have hf:=h.ib
   rw[e]at hf;exact absurd (hm.ty_one hf) (by decide)
  ·rcases h.own.ty e h.ib with e|e|e<;>exact absurd e (by decide)
theorem IB{p:MP}{C:List (Value×List MC)}{K:List MC}{F:List (MG×Value)}{c n:Int}{fg:MG}{f:MF}{x:MI}{b:Nat}(h29:x.op≠29)(hb:fg.base=(b:Int))(hbK:b<=K.length)(ht:DY p f fg (Av 0 false c n C K F) x=0):∃K1 ar,K=K1++ar/\ar.length=(Am p f x).length/\Bw ar (Am p f x)=true/\(x.op=27->At f x.a=3):=by
 rw[Ht h29 hb hbK rfl]at ht;by_cases h1:K.length-b<(Am p f x).length
 ·rw[if_pos h1]at ht
  exact absurd ht (by decide)
 rw[if_neg h1]at ht;by_cases h2:Bw (K.drop (K.length-(Am p f x).length)) (Am p f x)=false\/(x.op=27/\At f x.a≠3)
 ·rw[if_pos h2]at ht
  exact absurd ht (by decide)
 refine⟨K.take (K.length-(Am p f x).length),K.drop (K.length-(Am p f x).length),(List.take_append_drop _ _).symm,by rw[List.length_drop];omega,?_,fun e=>Classical.byContradiction fun e'=>h2 (.inr ⟨e,e'⟩)⟩;cases hfb:Bw (K.drop (K.length-(Am p f x).length)) (Am p f x)with
 |true=>rfl
 |false=>exact absurd (.inl hfb) h2
end Go.Proofs.YtlejplpkomddeaaGreat
