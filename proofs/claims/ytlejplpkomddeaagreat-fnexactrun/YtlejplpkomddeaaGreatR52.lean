import Derived.Test.YtlejplpkomddeaaGreatR0
import Derived.Test.YtlejplpkomddeaaGreatR49
import Derived.Test.YtlejplpkomddeaaGreatR50
import Derived.Test.YtlejplpkomddeaaGreatR42
import Derived.Test.YtlejplpkomddeaaGreatR19
import Derived.Test.YtlejplpkomddeaaGreatR4
import Derived.Test.YtlejplpkomddeaaGreatR51
import Derived.Test.YtlejplpkomddeaaGreatR34
import Derived.Test.YtlejplpkomddeaaGreatR12
namespace Go.Proofs.YtlejplpkomddeaaGreat
open Go.ChangeShapes Go.WideShapes Go.ChangeAt Go.RowKit
set_option linter.unusedVariables false
set_option maxHeartbeats 8000000
set_option maxRecDepth 100000
def Hg(w:World)(B M:Nat)(t:Int)(c n:Int)(hv:Value)(X0:VS)(C0:List (Value×List MC))(F0:List (MG×Value))(s':MS)(e:Ending)(w':World):Prop:=∃d2 C2 K2 F2,BP w B M t d2 c n C2 K2 F2 hv X0 C0 F0 e w'/\Ao t d2 c n C2 K2 F2=s'
theorem Cl{z:MC}{zs:List MC}{a:Int}{ts:List Int}(h:Bc (z::zs) (a::ts)=true)(ha:a≠0):z.type=a:=by
 simp only[Bc,Bool.and_eq_true,Bool.or_eq_true,beq_iff_eq]at h;exact h.1.resolve_left ha
theorem AN.ctk{p:MP}{f:MF}{x:MI}(h:AN p f x){F:Int}(hF:AC x.op=F)(h5:F=5\/F=6\/F=7):Ci F x.a=true/\x.a≠0:=by
 obtain⟨_,_,h⟩:=h;rw[hF]at h
 have ht:AQ F x.a:=by
  unfold AP at h;rcases h with h|h|h|h|h|h|h|h|h|h<;>first|(exfalso;omega)|exact h.1
 rcases ht with⟨rfl,h1⟩|⟨rfl,h1⟩|⟨rfl,h1⟩
 ·exact⟨by simp[Ci];exact h1,by omega⟩
 ·exact⟨by simp[Ci];exact h1,by omega⟩
 ·refine⟨by simp[Ci];exact h1,fun e=> ?_⟩
  rw[e]at h1;exact absurd h1 (by decide)
theorem Ed:AC 8=5/\AC 9=5/\AC 10=5/\AC 11=5/\AC 12=5/\AC 13=6/\AC 14=6/\AC 15=6/\AC 16=6/\AC 20=7/\AC 21=5:=by decide+kernel
theorem GA{F:List (MG×Value)}{top:Nat}(z:MG×Value):(F.set top z).take top=F.take top:=by
 rw[List.take_set_of_le lR]
theorem OP(v:VP)(p:MP)(f:MF)(x:MI)(B M top:Nat)(t:Int)(c n:Int)(X:VS)(C:List (Value×List MC))(K ar:List MC)(F0:List (MG×Value))(hv:Value)(gh oh gf c3:Nat)(y0:MG×Value)(w:World)(hB:B<=w.heap.size)(h:Ah w B X C (K++ar) (F0.set top ({y0.1 with at_:=y0.1.at_+1},y0.2)))(hm:MB w M t false c n X hv)(hF:F0.length=top+1)(hF1:top<=1048576)(hy:F0[top]?=some y0)(hXf:X.f=.slice (some ⟨gf,0,none⟩) (top+1) c3)(hk:Dp p f y0.1 x C ar)(hft:Bc ar (Ak p f x)=true)(hg3:x.op=27->Av f x.a=3)(hK:K.length+ar.length<=64)(hlo:y0.1.locals.length<=32)
 (hP:Rd w 2 v.k p.consts.length (p.consts.flatMap MC.cells)) (hcs:p.consts.length<=1048576) (hck:w.cell? ⟨gh,oh+1,none⟩=some v.k) (kk:Nat) (hop:x.op=(kk:Int)) (h28:kk<28):
 Calls Tryz.prog (GS kk) #[.pointer (some ⟨M,0,none⟩),.agg #[.pointer (some ⟨gh,oh,none⟩),.pointer (some ⟨gf,top*4,none⟩)],.agg #[.int .i64 x.op,.int .i64 x.a,.int .i64 x.b,.int .i64 x.c]] w (Hg w B M t c n hv X C (F0.set top ({y0.1 with at_:=y0.1.at_+1},y0.2)) (CF p f y0.1 (Ao t false c n C (K++ar) F0) x)):=by
 generalize hFe:F0.set top ({y0.1 with at_:=y0.1.at_+1},y0.2)=F at h⊢;have hFl:F.length=top+1:=by rw[<-hFe,List.length_set,hF]
 have hyF:F[top]?=some ({y0.1 with at_:=y0.1.at_+1},y0.2):=by rw[<-hFe,List.getElem?_set_self (by omega)]
 have e1:(Ao t false c n C (K++ar) F0).stack.drop ((Ao t false c n C (K++ar) F0).stack.length-(Ak p f x).length)=ar:=by
  rw[<-hk.alen];simp only[Ao,List.length_append,Nat.add_sub_cancel];exact List.drop_left
 have e2:(Ao t false c n C (K++ar) F0).stack.take ((Ao t false c n C (K++ar) F0).stack.length-(Ak p f x).length)=K:=by
  rw[<-hk.alen];simp only[Ao,List.length_append,Nat.add_sub_cancel];exact List.take_left
 have e3:CV (Ao t false c n C (K++ar) F0).frames (fun h=>{h with at_:=y0.1.at_+1})=F.map Prod.fst:=by
  rw[<-hFe];exact BZ hF hy _
 have hcase:kk=0\/kk=1\/kk=2\/kk=3\/kk=4\/kk=5\/kk=6\/kk=7\/kk=8\/kk=9\/kk=10\/kk=11\/kk=12\/kk=13\/kk=14\/kk=15\/kk=16\/kk=17\/kk=18\/kk=19\/kk=20\/kk=21\/kk=22\/kk=23\/kk=24\/kk=25\/kk=26\/kk=27:=by omega
 rcases hcase with rfl|rfl|rfl|rfl|rfl|rfl|rfl|rfl|rfl|rfl|rfl|rfl|rfl|rfl|rfl|rfl|rfl|rfl|rfl|rfl|rfl|rfl|rfl|rfl|rfl|rfl|rfl|rfl
 ·have hop:x.op=0:=hop
  show Calls Tryz.prog 150 _ _ _;have al:ar.length=0:=by rw[hk.alen];simp[Ak,hop]
  have ha0:=List.eq_nil_of_length_eq_zero al;subst ha0;rw[List.append_nil]at h;refine(OO B M top t false c n X C K F hv gh oh gf c3 _ x.op x.a x.b x.c w hB h hm hFl hF1 hyF hXf).mono ?_;intro e w' hr;refine⟨_,_,_,_,hr,?_⟩;simp only[CF,e1,e2,e3,hop];simp[Ao]
 ·have hop:x.op=1:=hop
  show Calls Tryz.prog 151 _ _ _;have al:ar.length=0:=by rw[hk.alen];simp[Ak,hop]
  have ha0:=List.eq_nil_of_length_eq_zero al;subst ha0;rw[List.append_nil]at h;obtain⟨q,z,hq,hz⟩:=hk.ins.const hop;have hql:=(gI.1 hz).1;rcases hP.2 with⟨e,_⟩|⟨gk,ok,ck,e,hc⟩
  ·omega
  rw[e]at hck;refine(JF B M top t false c n X C K F hv gh oh gf c3 _ x.op x.a x.b x.c w hB h hm hFl hF1 hyF hXf (by omega) q p.consts.length gk ok ck z hq hql hcs hck (Rd.elem MC.cells_length hc q z hz 0 _ rfl) (Rd.elem MC.cells_length hc q z hz 1 _ rfl)).mono ?_;intro e w' hr;refine⟨_,_,_,_,hr,?_⟩;simp only[CF,e1,e2,e3,hop];simp[Ao,Cn,hq,hz]
 ·have hop:x.op=2:=hop
  show Calls Tryz.prog 152 _ _ _;have al:ar.length=0:=by rw[hk.alen];simp[Ak,hop]
  have ha0:=List.eq_nil_of_length_eq_zero al;subst ha0;rw[List.append_nil]at h;obtain⟨q,z,hq,hz,_⟩:=hk.loc (by omega);refine(IC B M top t false c n X C K F hv gh oh gf c3 _ x.op x.a x.b x.c w hB h hm hFl hF1 hyF hXf (by omega) q z hq hz (by simp only[];omega)).mono ?_;intro e w' hr;refine⟨_,_,_,_,hr,?_⟩;simp only[CF,e1,e2,e3,hop];simp[Ao,Cn,hq,hz]
 ·have hop:x.op=3:=hop
  show Calls Tryz.prog 153 _ _ _;have al:ar.length=1:=by rw[hk.alen];simp[Ak,hop]
  obtain⟨z0,rfl⟩:=CX al;obtain⟨q,z,hq,hz,_⟩:=hk.loc (by omega);refine(H8 z0 B M top t false c n X C K F hv gh oh gf c3 _ x.op x.a x.b x.c w hB h hm hFl hF1 hyF hXf (by omega) q z hq hz (by simp only[];omega)).mono ?_;intro e w' hr;refine⟨_,_,_,_,hr,?_⟩;simp only[CF,e1,e2,e3,hop];simp[Ao,Cn,hq,BZ hFl hyF]
 ·have hop:x.op=4:=hop
  show Calls Tryz.prog 154 _ _ _;have al:ar.length=0:=by rw[hk.alen];simp[Ak,hop]
  have ha0:=List.eq_nil_of_length_eq_zero al;subst ha0;rw[List.append_nil]at h;obtain⟨q,i,r,rt,hq,hi,hr,hrt,hm',ht,h256,h3⟩:=hk.cell (by omega);obtain⟨z,hz,_⟩:=ET hm' ht;refine(NC B M top t false c n X C K F hv gh oh gf c3 _ x.op x.a x.b x.c w hB h hm hFl hF1 hyF hXf (by omega) q i r z hq hi hr hz (by omega) (by omega)).mono ?_;intro e w' hr';refine⟨_,_,_,_,hr',?_⟩;simp only[CF,e1,e2,e3,hop];simp[Ao,cellAt,Cn,hq,hi,hr,hz]
 ·have hop:x.op=5:=hop
  show Calls Tryz.prog 155 _ _ _;have al:ar.length=1:=by rw[hk.alen];simp[Ak,hop]
  obtain⟨z0,rfl⟩:=CX al;obtain⟨q,i,r,rt,hq,hi,hr,hrt,hm',ht,h256,h3⟩:=hk.cell (by omega);obtain⟨z,hz,_⟩:=ET hm' ht;refine(MV z0 B M top t false c n X C K F hv gh oh gf c3 _ x.op x.a x.b x.c w hB h hm hFl hF1 hyF hXf (by omega) q i r z hq hi hr hz (by omega) (by omega)).mono ?_;intro e w' hr';refine⟨_,_,_,_,hr',?_⟩;simp only[CF,e1,e2,e3,hop];simp[Ao,Cn,hq,hi,EX hr]
 ·have hop:x.op=6:=hop
  show Calls Tryz.prog 156 _ _ _;have al:ar.length=1:=by rw[hk.alen];simp[Ak,hop]
  obtain⟨z0,rfl⟩:=CX al;obtain⟨q,b0,m0,r,hq,hb0,hm0,hm',hr,h256,h3,hall⟩:=hk.masked (by omega);obtain⟨w0,hw0,hw0'⟩:=DY (hk.awf z0 (by simp));obtain⟨z,hz,_⟩:=hall w0;have hzl:=(gI.1 hz).1
  obtain⟨gl,cl,el⟩:∃g c,r.1=.slice (some ⟨g,0,none⟩) r.2.length c:=by
   rcases At (h.fam.own r (by simp only[List.mem_append];exact .inl (.inl (mG hr))))with⟨_,e⟩|hh
   ·omega
   ·exact hh
  refine(LN z0 B M top t false c n X C K F hv gh oh gf c3 _ x.op x.a x.b x.c w hB h hm hFl hF1 hyF hXf (by omega) q b0 m0 w0 _ gl r.2.length cl r z hq hb0 hm0 hr el hz hzl (by omega) (by omega) hw0 rfl hw0' (by omega)).mono ?_;intro e w' hr';refine⟨_,_,_,_,hr',?_⟩;simp only[CF,e1,e2,e3,hop];simp[Ao,cellAt,Cn,hq,hb0,hm0,hw0,hr,hz]
 ·have hop:x.op=7:=hop
  show Calls Tryz.prog 157 _ _ _;have al:ar.length=2:=by rw[hk.alen];simp[Ak,hop]
  obtain⟨z0,z1,rfl⟩:=CO al;rw[show K++[z0,z1]=K++[z0]++[z1]by simp]at h;obtain⟨q,b0,m0,r,hq,hb0,hm0,hm',hr,h256,h3,hall⟩:=hk.masked (by omega);obtain⟨w0,hw0,hw0'⟩:=DY (hk.awf z0 (by simp));obtain⟨z,hz,_⟩:=hall w0;have hzl:=(gI.1 hz).1
  obtain⟨gl,cl,el⟩:∃g c,r.1=.slice (some ⟨g,0,none⟩) r.2.length c:=by
   rcases At (h.fam.own r (by simp only[List.mem_append];exact .inl (.inl (mG hr))))with⟨_,e⟩|hh
   ·omega
   ·exact hh
  refine(Kr z0 z1 B M top t false c n X C K F hv gh oh gf c3 _ x.op x.a x.b x.c w hB h hm hFl hF1 hyF hXf (by simp at hK;omega) q b0 m0 w0 _ gl r.2.length cl r z hq hb0 hm0 hr el hz hzl (by omega) (by omega) hw0 rfl hw0' (by omega)).mono ?_;intro e w' hr';refine⟨_,_,_,_,hr',?_⟩;simp only[CF,e1,e2,e3,hop];simp[Ao,Cn,hq,hb0,hm0,hw0,EX hr]
 ·have hop:x.op=8:=hop
  show Calls Tryz.prog 158 _ _ _;have al:ar.length=2:=by rw[hk.alen];simp[Ak,hop]
  obtain⟨z0,z1,rfl⟩:=CO al;rw[show K++[z0,z1]=K++[z0]++[z1]by simp]at h;obtain⟨hct,hne⟩:=hk.ins.ctk (F:=5) (by rw[hop];exact Ed.1) (by decide);have hty:z0.type=x.a:=Cl (by have:=hft;simp only[Ak,hop]at this;simpa using this) hne;rw[<-hty]at hct;refine(Bo (MA z0.type z0.word z1.word) 8 135 z0 z1 B M top t false c n X C K F hv gh oh gf c3 _ x.op x.a x.b x.c w hB h hm hFl hF1 hyF hXf (by simp at hK;omega) hop (by omega) rfl (P7 _ _ _) (fun _ _=>by kernel_rfl)).mono ?_;intro e w' hr;refine⟨_,_,_,_,hr,?_⟩;simp only[CF,e1,e2,e3,hop];simp[Ao,Cn,AD,hct]
 ·have hop:x.op=9:=hop
  show Calls Tryz.prog 158 _ _ _;have al:ar.length=2:=by rw[hk.alen];simp[Ak,hop]
  obtain⟨z0,z1,rfl⟩:=CO al;rw[show K++[z0,z1]=K++[z0]++[z1]by simp]at h;obtain⟨hct,hne⟩:=hk.ins.ctk (F:=5) (by rw[hop];exact Ed.2.1) (by decide);have hty:z0.type=x.a:=Cl (by have:=hft;simp only[Ak,hop]at this;simpa using this) hne;rw[<-hty]at hct;refine(Bo (MQ z0.type z0.word z1.word) 9 136 z0 z1 B M top t false c n X C K F hv gh oh gf c3 _ x.op x.a x.b x.c w hB h hm hFl hF1 hyF hXf (by simp at hK;omega) hop (by omega) rfl (Kh _ _ _) (fun _ _=>by kernel_rfl)).mono ?_;intro e w' hr;refine⟨_,_,_,_,hr,?_⟩;simp only[CF,e1,e2,e3,hop];simp[Ao,Cn,AD,hct]
 ·have hop:x.op=10:=hop
  show Calls Tryz.prog 158 _ _ _;have al:ar.length=2:=by rw[hk.alen];simp[Ak,hop]
  obtain⟨z0,z1,rfl⟩:=CO al;rw[show K++[z0,z1]=K++[z0]++[z1]by simp]at h;obtain⟨hct,hne⟩:=hk.ins.ctk (F:=5) (by rw[hop];exact Ed.2.2.1) (by decide);have hty:z0.type=x.a:=Cl (by have:=hft;simp only[Ak,hop]at this;simpa using this) hne;rw[<-hty]at hct;refine(Bo (MU z0.type z0.word z1.word) 10 137 z0 z1 B M top t false c n X C K F hv gh oh gf c3 _ x.op x.a x.b x.c w hB h hm hFl hF1 hyF hXf (by simp at hK;omega) hop (by omega) rfl (Kq _ _ _) (fun _ _=>by kernel_rfl)).mono ?_;intro e w' hr;refine⟨_,_,_,_,hr,?_⟩;simp only[CF,e1,e2,e3,hop];simp[Ao,Cn,AD,hct]
 ·have hop:x.op=11:=hop
  show Calls Tryz.prog 158 _ _ _;have al:ar.length=2:=by rw[hk.alen];simp[Ak,hop]
  obtain⟨z0,z1,rfl⟩:=CO al;rw[show K++[z0,z1]=K++[z0]++[z1]by simp]at h;obtain⟨hct,hne⟩:=hk.ins.ctk (F:=5) (by rw[hop];exact Ed.2.2.2.1) (by decide);have hty:z0.type=x.a:=Cl (by have:=hft;simp only[Ak,hop]at this;simpa using this) hne;rw[<-hty]at hct;refine(Bo (Gq z0.type z0.word z1.word) 11 138 z0 z1 B M top t false c n X C K F hv gh oh gf c3 _ x.op x.a x.b x.c w hB h hm hFl hF1 hyF hXf (by simp at hK;omega) hop (by omega) rfl (ME _ _ _) (fun _ _=>by kernel_rfl)).mono ?_;intro e w' hr;refine⟨_,_,_,_,hr,?_⟩;simp only[CF,e1,e2,e3,hop];simp[Ao,Cn,AD,hct]
 ·have hop:x.op=12:=hop
  show Calls Tryz.prog 158 _ _ _;have al:ar.length=2:=by rw[hk.alen];simp[Ak,hop]
  obtain⟨z0,z1,rfl⟩:=CO al;rw[show K++[z0,z1]=K++[z0]++[z1]by simp]at h;obtain⟨hct,hne⟩:=hk.ins.ctk (F:=5) (by rw[hop];exact Ed.2.2.2.2.1) (by decide);have hty:z0.type=x.a:=Cl (by have:=hft;simp only[Ak,hop]at this;simpa using this) hne;rw[<-hty]at hct;refine(Bo (Gn z0.type z0.word z1.word) 12 139 z0 z1 B M top t false c n X C K F hv gh oh gf c3 _ x.op x.a x.b x.c w hB h hm hFl hF1 hyF hXf (by simp at hK;omega) hop (by omega) rfl (MO _ _ _) (fun _ _=>by kernel_rfl)).mono ?_;intro e w' hr;refine⟨_,_,_,_,hr,?_⟩;simp only[CF,e1,e2,e3,hop];simp[Ao,Cn,AD,hct]
 ·have hop:x.op=13:=hop
  show Calls Tryz.prog 158 _ _ _;have al:ar.length=2:=by rw[hk.alen];simp[Ak,hop]
  obtain⟨z0,z1,rfl⟩:=CO al;rw[show K++[z0,z1]=K++[z0]++[z1]by simp]at h;obtain⟨hct,hne⟩:=hk.ins.ctk (F:=6) (by rw[hop];exact Ed.2.2.2.2.2.1) (by decide);have hty:z0.type=x.a:=Cl (by have:=hft;simp only[Ak,hop]at this;simpa using this) hne;rw[<-hty]at hct;refine(Bo (Nv z0.type z0.word z1.word) 13 140 z0 z1 B M top t false c n X C K F hv gh oh gf c3 _ x.op x.a x.b x.c w hB h hm hFl hF1 hyF hXf (by simp at hK;omega) hop (by omega) rfl (Nb _ _ _) (fun _ _=>by kernel_rfl)).mono ?_;intro e w' hr;refine⟨_,_,_,_,hr,?_⟩;simp only[CF,e1,e2,e3,hop];simp[Ao,Cn,AD,hct]
 ·have hop:x.op=14:=hop
  show Calls Tryz.prog 158 _ _ _;have al:ar.length=2:=by rw[hk.alen];simp[Ak,hop]
  obtain⟨z0,z1,rfl⟩:=CO al;rw[show K++[z0,z1]=K++[z0]++[z1]by simp]at h;obtain⟨hct,hne⟩:=hk.ins.ctk (F:=6) (by rw[hop];exact Ed.2.2.2.2.2.2.1) (by decide);have hty:z0.type=x.a:=Cl (by have:=hft;simp only[Ak,hop]at this;simpa using this) hne;rw[<-hty]at hct;refine(Bo (Qo z0.type z0.word z1.word) 14 141 z0 z1 B M top t false c n X C K F hv gh oh gf c3 _ x.op x.a x.b x.c w hB h hm hFl hF1 hyF hXf (by simp at hK;omega) hop (by omega) rfl (N1 _ _ _) (fun _ _=>by kernel_rfl)).mono ?_;intro e w' hr;refine⟨_,_,_,_,hr,?_⟩;simp only[CF,e1,e2,e3,hop];simp[Ao,Cn,AD,hct]
 ·have hop:x.op=15:=hop
  show Calls Tryz.prog 158 _ _ _;have al:ar.length=2:=by rw[hk.alen];simp[Ak,hop]
  obtain⟨z0,z1,rfl⟩:=CO al;rw[show K++[z0,z1]=K++[z0]++[z1]by simp]at h;obtain⟨hct,hne⟩:=hk.ins.ctk (F:=6) (by rw[hop];exact Ed.2.2.2.2.2.2.2.1) (by decide);have hty:z0.type=x.a:=Cl (by have:=hft;simp only[Ak,hop]at this;simpa using this) hne;rw[<-hty]at hct;refine(Bo (N4 z0.type z0.word z1.word) 15 142 z0 z1 B M top t false c n X C K F hv gh oh gf c3 _ x.op x.a x.b x.c w hB h hm hFl hF1 hyF hXf (by simp at hK;omega) hop (by omega) rfl (MW _ _ _) (fun _ _=>by kernel_rfl)).mono ?_;intro e w' hr;refine⟨_,_,_,_,hr,?_⟩;simp only[CF,e1,e2,e3,hop];simp[Ao,Cn,AD,hct]
 ·have hop:x.op=16:=hop
  show Calls Tryz.prog 159 _ _ _;have al:ar.length=1:=by rw[hk.alen];simp[Ak,hop]
  obtain⟨z0,rfl⟩:=CX al;obtain⟨hct,hne⟩:=hk.ins.ctk (F:=6) (by rw[hop];exact Ed.2.2.2.2.2.2.2.2.1) (by decide);have hty:z0.type=x.a:=Cl (by have:=hft;simp only[Ak,hop]at this;simpa using this) hne;rw[<-hty]at hct;refine(Kt (IQ z0.type z0.word 0) 16 143 z0 B M top t false c n X C K F hv gh oh gf c3 _ x.op x.a x.b x.c w hB h hm hFl hF1 hyF hXf (by simp at hK;omega) hop (by omega) rfl (P8 _ _ _) (fun _ _=>by kernel_rfl)).mono ?_;intro e w' hr;refine⟨_,_,_,_,hr,?_⟩;simp only[CF,e1,e2,e3,hop];simp[Ao,Cn,AD,hct]
 ·have hop:x.op=17:=hop
  show Calls Tryz.prog 158 _ _ _;have al:ar.length=2:=by rw[hk.alen];simp[Ak,hop]
  obtain⟨z0,z1,rfl⟩:=CO al;rw[show K++[z0,z1]=K++[z0]++[z1]by simp]at h;have hct:Ci 0 z0.type=true:=rfl;refine(Bo (N3 z0.type z0.word z1.word) 17 144 z0 z1 B M top t false c n X C K F hv gh oh gf c3 _ x.op x.a x.b x.c w hB h hm hFl hF1 hyF hXf (by simp at hK;omega) hop (by omega) rfl (JU _ _ _) (fun _ _=>by kernel_rfl)).mono ?_;intro e w' hr;refine⟨_,_,_,_,hr,?_⟩;simp only[CF,e1,e2,e3,hop];simp[Ao,Cn,AD,hct]
 ·have hop:x.op=18:=hop
  show Calls Tryz.prog 158 _ _ _;have al:ar.length=2:=by rw[hk.alen];simp[Ak,hop]
  obtain⟨z0,z1,rfl⟩:=CO al;rw[show K++[z0,z1]=K++[z0]++[z1]by simp]at h;have hct:Ci 0 z0.type=true:=rfl;refine(Bo (Nw z0.type z0.word z1.word) 18 145 z0 z1 B M top t false c n X C K F hv gh oh gf c3 _ x.op x.a x.b x.c w hB h hm hFl hF1 hyF hXf (by simp at hK;omega) hop (by omega) rfl (IL _ _ _) (fun _ _=>by kernel_rfl)).mono ?_;intro e w' hr;refine⟨_,_,_,_,hr,?_⟩;simp only[CF,e1,e2,e3,hop];simp[Ao,Cn,AD,hct]
 ·have hop:x.op=19:=hop
  show Calls Tryz.prog 159 _ _ _;have al:ar.length=1:=by rw[hk.alen];simp[Ak,hop]
  obtain⟨z0,rfl⟩:=CX al;have hct:Ci 0 z0.type=true:=rfl;refine(Kt (NE z0.type z0.word 0) 19 146 z0 B M top t false c n X C K F hv gh oh gf c3 _ x.op x.a x.b x.c w hB h hm hFl hF1 hyF hXf (by simp at hK;omega) hop (by omega) rfl (Mx _ _ _) (fun _ _=>by kernel_rfl)).mono ?_;intro e w' hr;refine⟨_,_,_,_,hr,?_⟩;simp only[CF,e1,e2,e3,hop];simp[Ao,Cn,AD,hct]
 ·have hop:x.op=20:=hop
  show Calls Tryz.prog 160 _ _ _;have al:ar.length=2:=by rw[hk.alen];simp[Ak,hop]
  obtain⟨z0,z1,rfl⟩:=CO al;rw[show K++[z0,z1]=K++[z0]++[z1]by simp]at h;obtain⟨hct,hne⟩:=hk.ins.ctk (F:=7) (by rw[hop];exact Ed.2.2.2.2.2.2.2.2.2.1) (by decide);have hty:z0.type=x.a:=Cl (by have:=hft;simp only[Ak,hop]at this;simpa using this) hne;rw[<-hty]at hct;refine(GX (Qd z0.type z0.word z1.word) 20 147 z0 z1 B M top t false c n X C K F hv gh oh gf c3 _ x.op x.a x.b x.c w hB h hm hFl hF1 hyF hXf (by simp at hK;omega) hop (by omega) rfl (NI _ _ _) (fun _ _=>by kernel_rfl)).mono ?_;intro e w' hr;refine⟨_,_,_,_,hr,?_⟩;simp only[CF,e1,e2,e3,hop];simp[Ao,Cn,AD,hct]
 ·have hop:x.op=21:=hop
  show Calls Tryz.prog 160 _ _ _;have al:ar.length=2:=by rw[hk.alen];simp[Ak,hop]
  obtain⟨z0,z1,rfl⟩:=CO al;rw[show K++[z0,z1]=K++[z0]++[z1]by simp]at h;obtain⟨hct,hne⟩:=hk.ins.ctk (F:=5) (by rw[hop];exact Ed.2.2.2.2.2.2.2.2.2.2) (by decide);have hty:z0.type=x.a:=Cl (by have:=hft;simp only[Ak,hop]at this;simpa using this) hne;rw[<-hty]at hct;refine(GX (FQ z0.type z0.word z1.word) 21 148 z0 z1 B M top t false c n X C K F hv gh oh gf c3 _ x.op x.a x.b x.c w hB h hm hFl hF1 hyF hXf (by simp at hK;omega) hop (by omega) rfl (Pd _ _ _) (fun _ _=>by kernel_rfl)).mono ?_;intro e w' hr;refine⟨_,_,_,_,hr,?_⟩;simp only[CF,e1,e2,e3,hop];simp[Ao,Cn,AD,hct]
 ·have hop:x.op=22:=hop
  show Calls Tryz.prog 161 _ _ _;have al:ar.length=1:=by rw[hk.alen];simp[Ak,hop]
  obtain⟨z0,rfl⟩:=CX al;refine(Lr z0 B M top t false c n X C K F hv gh oh gf c3 _ x.op x.a x.b x.c w hB h hm hFl hF1 hyF hXf (by omega)).mono ?_;intro e w' hr;refine⟨_,_,_,_,hr,?_⟩;simp only[CF,e1,e2,e3,hop];simp[Ao,Cn]
 ·have hop:x.op=23:=hop
  show Calls Tryz.prog 162 _ _ _;have al:ar.length=1:=by rw[hk.alen];simp[Ak,hop]
  obtain⟨z0,rfl⟩:=CX al;refine(Ov z0 B M top t false c n X C K F hv gh oh gf c3 _ x.op x.a x.b x.c w hB h hm hFl hF1 hyF hXf (by omega)).mono ?_;intro e w' hr;refine⟨_,_,_,_,hr,?_⟩;simp only[CF,e1,e2,e3,hop];simp[Ao,Cn]
 ·have hop:x.op=24:=hop
  show Calls Tryz.prog 163 _ _ _;have al:ar.length=1:=by rw[hk.alen];simp[Ak,hop]
  obtain⟨z0,rfl⟩:=CX al;refine(Oc z0 B M top t false c n X C K F hv gh oh gf c3 _ x.op x.a x.b x.c w hB h hm hFl hF1 hyF hXf (by omega)).mono ?_;intro e w' hr;refine⟨_,_,_,_,hr,?_⟩;simp only[CF,e1,e2,e3,hop];simp[Ao]
 ·have hop:x.op=25:=hop
  show Calls Tryz.prog 164 _ _ _;have al:ar.length=0:=by rw[hk.alen];simp[Ak,hop]
  have ha0:=List.eq_nil_of_length_eq_zero al;subst ha0;rw[List.append_nil]at h;refine(Nq B M top t false c n X C K F hv gh oh gf c3 _ x.op x.a x.b x.c w hB h hm hFl hF1 hyF hXf).mono ?_;intro e w' hr;refine⟨_,_,_,_,hr,?_⟩;simp only[CF,e1,e2,e3,hop];simp[Ao,BZ hFl hyF]
 ·have hop:x.op=26:=hop
  show Calls Tryz.prog 165 _ _ _;have al:ar.length=1:=by rw[hk.alen];simp[Ak,hop]
  obtain⟨z0,rfl⟩:=CX al;have hty:z0.type=1:=Cl (by have:=hft;simp only[Ak,hop]at this;simpa using this) (by decide);by_cases hz0:z0.word=0
  ·refine(LV z0 B M top t false c n X C K F hv gh oh gf c3 _ x.op x.a x.b x.c w hB h hm hFl hF1 hyF hXf (by simp at hK;omega) hty hz0).mono ?_
   intro e w' hr;refine⟨_,_,_,_,hr,?_⟩;simp only[CF,e1,e2,e3,hop];simp[Ao,Cn,hz0,BZ hFl hyF]
  ·refine(LQ z0 B M top t false c n X C K F hv gh oh gf c3 _ x.op x.a x.b x.c w hB h hm hFl hF1 hyF hXf (by simp at hK;omega) hty hz0).mono ?_
   intro e w' hr;refine⟨_,_,_,_,hr,?_⟩;simp only[CF,e1,e2,e3,hop];simp[Ao,Cn,hz0]
 ·have hop:x.op=27:=hop
  show Calls Tryz.prog 166 _ _ _;have al:ar.length=0:=by rw[hk.alen];simp[Ak,hop]
  have ha0:=List.eq_nil_of_length_eq_zero al;subst ha0;rw[List.append_nil]at h;obtain⟨q,z,hq,hz,ht⟩:=hk.loc (by omega);obtain⟨w0,hw0,hw0'⟩:=DY (hk.lwf z (mG hz));rw[hg3 hop]at ht;by_cases hz0:z.word=0
  ·refine(Oo B M top t false c n X C K F hv gh oh gf c3 _ x.op x.a x.b x.c w hB h hm hFl hF1 hyF hXf q z hq hz (by simp only[];omega) ht (by omega) (by omega) hz0).mono ?_
   intro e w' hr;refine⟨_,_,_,_,hr,?_⟩;simp only[CF,e1,e2,e3,hop];simp[Ao,Cn,hq,hz,hz0,BZ hFl hyF]
  ·refine(Om B M top t false c n X C K F hv gh oh gf c3 _ x.op x.a x.b x.c w hB h hm hFl hF1 hyF hXf q z hq hz (by simp only[];omega) ht (by omega) (by omega) hz0).mono ?_
   intro e w' hr;refine⟨_,_,_,_,hr,?_⟩;simp only[CF,e1,e2,e3,hop];simp[Ao,Cn,hq,hz,hz0,BZ hFl hyF,Ik hz]
theorem PZ(p:MP)(f:MF)(x:MI)(B M top:Nat)(c n:Int)(X:VS)(C:List (Value×List MC))(K:List MC)(F0:List (MG×Value))(hv:Value)(gh oh gf c3:Nat)(y0:MG×Value)(w:World)(hB:B<=w.heap.size)(h:Ah w B X C K (F0.set top ({y0.1 with at_:=y0.1.at_+1},y0.2)))(hm:MB w M 0 false c n X hv)(hF:F0.length=top+1)(hF1:top<=1048576)(hy:F0[top]?=some y0)(hXf:X.f=.slice (some ⟨gf,0,none⟩) (top+1) c3)(hop:x.op=29):
 Calls Tryz.prog 168 #[.pointer (some ⟨M,0,none⟩),.agg #[.pointer (some ⟨gh,oh,none⟩),.pointer (some ⟨gf,top*4,none⟩)],.agg #[.int .i64 x.op,.int .i64 x.a,.int .i64 x.b,.int .i64 x.c]] w (Hg w B M 0 c n hv X C (F0.set top ({y0.1 with at_:=y0.1.at_+1},y0.2)) (CF p f y0.1 (Ao 0 false c n C K F0) x)):=by
 have hFl:(F0.set top ({y0.1 with at_:=y0.1.at_+1},y0.2)).length=top+1:=by rw[List.length_set,hF]
 have hyF:(F0.set top ({y0.1 with at_:=y0.1.at_+1},y0.2))[top]?=some ({y0.1 with at_:=y0.1.at_+1},y0.2):=by rw[List.getElem?_set_self (by omega)]
 have hd:=Mp (p:=p) (f:=f) (g:=y0.1) (C:=C) (K:=K) (F:=F0) (c:=c) (n:=n) hop;rw[hF,Nat.add_sub_cancel]at hd;by_cases hz:top=0
 ·refine(Lz B M top 0 false c n X C K _ hv gh oh gf c3 _ x.op x.a x.b x.c w hB h hm hFl hF1 hyF hXf hz).mono ?_
  intro e w' hr;refine⟨_,_,_,_,hr,?_⟩;rw[<-hd,GA];simp[hz]
 ·refine(Ly B M top 0 false c n X C K _ hv gh oh gf c3 _ x.op x.a x.b x.c w hB h hm hFl hF1 hyF hXf hz).mono ?_
  intro e w' hr;refine⟨_,_,_,_,hr,?_⟩;rw[<-hd,GA];simp[hz]
theorem PN(p:MP)(f fq:MF)(x:MI)(B M top:Nat)(c n:Int)(X:VS)(C:List (Value×List MC))(K ar:List MC)(F0:List (MG×Value))(hv:Value)(gh oh gf c3:Nat)(y0:MG×Value)(w:World)(hB:B<=w.heap.size)(h:Ah w B X C (K++ar) (F0.set top ({y0.1 with at_:=y0.1.at_+1},y0.2)))(hm:MB w M 0 false c n X hv)(hF:F0.length=top+1)(hF1:top<=1048576)(hy:F0[top]?=some y0)(hXf:X.f=.slice (some ⟨gf,0,none⟩) (top+1) c3)(hop:x.op=28)(hK:K.length+ar.length<=64)(hal:ar.length=(Ak p f x).length)
 (q gH nf ch nz:Nat) (hq:x.a=(q:Int)) (hfq:p.funcs[q]?=some fq) (hhv:hv=.slice (some ⟨gH,0,none⟩) nf ch) (hqn:q<nf) (hnf:nf<=1048576) (hnz:(fq.params++fq.locals).length=nz) (pp tp:Option Addr) (pc tc:Nat) (hp:w.cell? ⟨gH,q*9+4,none⟩=some (.slice pp fq.params.length pc)) (ht:w.cell? ⟨gH,q*9+8,none⟩=some (.slice tp nz tc)) (hrd:Rd w 1 (.slice tp nz tc) nz ((fq.params++fq.locals).flatMap Ae)) (hpl:nz<=1048576):
 Calls Tryz.prog 167 #[.pointer (some ⟨M,0,none⟩),.agg #[.pointer (some ⟨gh,oh,none⟩),.pointer (some ⟨gf,top*4,none⟩)],.agg #[.int .i64 x.op,.int .i64 x.a,.int .i64 x.b,.int .i64 x.c]] w (Hg w B M 0 c n hv X C (F0.set top ({y0.1 with at_:=y0.1.at_+1},y0.2)) (CF p f y0.1 (Ao 0 false c n C (K++ar) F0) x)):=by
 have hFl:(F0.set top ({y0.1 with at_:=y0.1.at_+1},y0.2)).length=top+1:=by rw[List.length_set,hF]
 have hyF:(F0.set top ({y0.1 with at_:=y0.1.at_+1},y0.2))[top]?=some ({y0.1 with at_:=y0.1.at_+1},y0.2):=by rw[List.getElem?_set_self (by omega)]
 have htk:Ak p f x=fq.params:=by simp[Ak,hop,hq,hfq]
 have hap:ar.length=fq.params.length:=by rw[hal,htk]
 refine(N7 ar B M top 0 false c n X C K _ hv gh oh gf c3 _ x.op x.a x.b x.c w hB h hm hFl hF1 hyF hXf (by omega) q hq fq.params fq.locals hap gH nf ch hhv hqn hnf nz hnz pp tp pc tc hp ht hrd hpl).mono ?_;rintro e w' ⟨vl,hr⟩;refine⟨_,_,_,_,hr,?_⟩;have hl:(K++ar).length-ar.length=K.length:=by rw[List.length_append];omega
 have hd:=K3 (p:=p) (f:=f) (fq:=fq) (g:=y0.1) (C:=C) (K:=K++ar) (ar:=ar) (F:=F0) (vl:=y0.2) (vv:=vl) (c:=c) (n:=n) (x:=x) (q:=q) (top:=top) hop hq hfq hal (by rw[hl];exact List.drop_left) hF hy;rw[hl,List.take_left]at hd;exact hd
theorem Gd{u:World}{B:Nat}{e:TypeId}{k n b:Nat}{s:Value}{xs:List Value}(h:u.ownsRow B e k s n xs)(hb:s.ownBlock=some b):∃cur,Ap u b cur e:=by
 rcases h.2 with⟨rfl,_⟩|⟨g,cap,cur,rfl,_,hg,_⟩
 ·simp[Value.ownBlock]at hb
 ·obtain rfl:g=b:=by simpa[Value.ownBlock]using hb
  exact⟨cur,hg⟩
theorem Ap.ty_one{u:World}{b:Nat}{cur cur':Array Value}{e e':TypeId}(h:Ap u b cur e)(h':Ap u b cur' e'):e=e':=by
 unfold Ap at h h';rw[h]at h';injection h' with h'
 injection h' with _ h' _
theorem Ah.ty{u:World}{B:Nat}{X:VS}{C:List (Value×List MC)}{K:List MC}{F:List (MG×Value)}(h:Ah u B X C K F){b:Nat}(hb:C8 X C F b){cur:Array Value}{e:TypeId}(hk:Ap u b cur e):e=128\/e=36\/e=123:=by
 rcases hb with hb|hb|hb|⟨r,hr,hb⟩|⟨r,hr,hb⟩
 ·obtain⟨_,h2⟩:=Gd h.cells hb
  exact .inr (.inl (hk.ty_one h2))
 ·obtain⟨_,h2⟩:=Gd (h.fam.own (X.k,K) (by simp)) hb
  exact .inl (hk.ty_one h2)
 ·obtain⟨_,h2⟩:=Gd h.frames hb
  exact .inr (.inr (hk.ty_one h2))
 ·obtain⟨_,h2⟩:=Gd (h.fam.own r (by simp only[List.mem_append];exact .inl (.inl hr))) hb
  exact .inl (hk.ty_one h2)
 ·obtain⟨_,h2⟩:=Gd (h.fam.own r (by simp only[List.mem_append];exact .inr hr)) hb
  exact .inl (hk.ty_one h2)
theorem El.chg{u u':World}{B M:Nat}{v:VP}{p:MP}{hv hv':Value}{X:VS}{C:List (Value×List MC)}{K:List MC}{F:List (MG×Value)}{t:Int}{d:Bool}{c n:Int}{X':VS}(h:El u B v p hv)(hB:B<=u.heap.size)(hM:B<=M)(ho:Ah u B X C K F)(hm:MB u M t d c n X' hv')(hc:C9 (fun j=>j=M\/C8 X C F j) u u'):El u' B v p hv:=by
 obtain⟨H,h1,h2,h3⟩:=h
 have hb:Below B u u':=hc.below hB (fun k hk e=>by
  rcases e with e|e
  ·omega
  ·have:=(ho.ltOf e).1
   omega)
 have key:∀{b:Nat} {cur:Array Value} {e:TypeId},Ap u b cur e->e=167\/e=2->¬(b=M\/C8 X C F b):=fun{b cur e} hk he hR=>by
  rcases hR with rfl|hR
  ·obtain⟨cm,hm1,_⟩:=hm.blk
   have:=hk.ty_one hm1;rcases he with rfl|rfl<;>exact absurd this (by decide)
  ·have:=ho.ty hR hk
   rcases he with rfl|rfl<;>rcases this with this|this|this<;>exact absurd this (by decide)
 refine⟨H,h1,hc.own h2 (fun b hb2=> ?_),fun r hr=>⟨fun u2 hu2=>(h3 r hr).1 u2 (hb.trans hu2),hc.own (h3 r hr).2 (fun b hb2=> ?_)⟩⟩
 ·obtain⟨_,h4⟩:=Gd h2 hb2
  exact key h4 (.inl rfl)
 ·obtain⟨_,h4⟩:=Gd (h3 r hr).2 hb2
  exact key h4 (.inr rfl)
theorem El.at{u:World}{B:Nat}{v:VP}{p:MP}{hv:Value}(h:El u B v p hv){q:Nat}{f:MF}(hq:p.funcs[q]?=some f):∃gH ch,hv=.slice (some ⟨gH,0,none⟩) p.funcs.length ch/\∃(g:VF) (tp:Option Addr) (tc:Nat),(∀u',Below B u u'->CP u' g f)/\u.cell? ⟨gH,q*9,none⟩=some v.r/\u.cell? ⟨gH,q*9+1,none⟩=some v.k/\u.cell? ⟨gH,q*9+2,none⟩=some v.f/\u.cell? ⟨gH,q*9+3,none⟩=some v.t/\u.cell? ⟨gH,q*9+4,none⟩=some g.p/\u.cell? ⟨gH,q*9+5,none⟩=some (.int .i64 f.result)/\u.cell? ⟨gH,q*9+6,none⟩=some g.l/\u.cell? ⟨gH,q*9+7,none⟩=some g.c/\u.cell? ⟨gH,q*9+8,none⟩=some (.slice tp (f.params++f.locals).length tc)/\Rd u 1 (.slice tp (f.params++f.locals).length tc) (f.params++f.locals).length ((f.params++f.locals).flatMap Ae):=by
 obtain⟨H,h1,h2,h3⟩:=h;have hl:H.length=p.funcs.length:=by rw[<-h1,List.length_map]
 have hql:=(gI.1 hq).1;obtain⟨⟨f',g,ts⟩,hr⟩:∃r,H[q]?=some r:=⟨_,gE (by omega)⟩
 obtain rfl:f'=f:=by
  have e:(H.map Prod.fst)[q]?=some f':=by rw[List.getElem?_map,hr];rfl
  rw[h1,hq]at e;injection e with e
  exact e.symm
 rcases At h2 with⟨_,e⟩|⟨gH,ch,e⟩
 ·omega
 subst e;obtain⟨h4,h5⟩:=h3 _ (mG hr);rw[<-List.length_append]at h5;obtain⟨tp,tc,e⟩:=Al h5;simp only[]at e h4 h5;subst e;refine⟨gH,ch,by rw[hl],g,tp,tc,h4,?_,?_,?_,?_,?_,?_,?_,?_,?_,Rd.of_own h5⟩
 ·have:=h2.cellAt (q*9+0) (by omega)
  rw[AF (Ch v) 9 (Bw v) H q 0 _ hr (by omega)]at this;exact this
 ·have:=h2.cellAt (q*9+1) (by omega)
  rw[AF (Ch v) 9 (Bw v) H q 1 _ hr (by omega)]at this;exact this
 ·have:=h2.cellAt (q*9+2) (by omega)
  rw[AF (Ch v) 9 (Bw v) H q 2 _ hr (by omega)]at this;exact this
 ·have:=h2.cellAt (q*9+3) (by omega)
  rw[AF (Ch v) 9 (Bw v) H q 3 _ hr (by omega)]at this;exact this
 ·have:=h2.cellAt (q*9+4) (by omega)
  rw[AF (Ch v) 9 (Bw v) H q 4 _ hr (by omega)]at this;exact this
 ·have:=h2.cellAt (q*9+5) (by omega)
  rw[AF (Ch v) 9 (Bw v) H q 5 _ hr (by omega)]at this;exact this
 ·have:=h2.cellAt (q*9+6) (by omega)
  rw[AF (Ch v) 9 (Bw v) H q 6 _ hr (by omega)]at this;exact this
 ·have:=h2.cellAt (q*9+7) (by omega)
  rw[AF (Ch v) 9 (Bw v) H q 7 _ hr (by omega)]at this;exact this
 ·have:=h2.cellAt (q*9+8) (by omega)
  rw[AF (Ch v) 9 (Bw v) H q 8 _ hr (by omega)]at this;exact this
def Nm(w:World)(B M:Nat)(p:MP)(s:MS)(hv:Value)(X0:VS)(C0:List (Value×List MC))(F0:List (MG×Value))(e:Ending)(w':World):Prop:=e=.returned (.tuple #[])/\∃(t:Int) (d:Bool) (c n:Int) (X:VS) (C:List (Value×List MC)) (K:List MC) (F:List (MG×Value)),MB w' M t d c n X hv/\Ah w' B X C K F/\Bk p s (Ao t d c n C K F)/\C9 (fun j=>j=M\/C8 X0 C0 F0 j) w w'
structure DL(w u:World)(B M top:Nat)(v:VP)(p:MP)(t c n:Int)(X:VS)(C:List (Value×List MC))(K:List MC)(F:List (MG×Value))(hv:Value)(gH kf gf Y:Nat):Prop where
 mb:MB u M t false c n X hv
 own:Ah u B X C K F
 hd:El u B v p hv
 fb:Ap u Y #[.pointer (some ⟨gH,kf*9,none⟩),.pointer (some ⟨gf,top*4,none⟩)] 172
 chg:C9 (fun j=>j=M\/C8 X C F j) w u
 hB:B<=w.heap.size
 hM:M<w.heap.size
 hBM:B<=M
 hY:w.heap.size<=Y
 old:∀j,C8 X C F j->B<=j/\j<w.heap.size
theorem El.keep{u u':World}{B:Nat}{v:VP}{p:MP}{hv:Value}(h:El u B v p hv)(hB:B<=u.heap.size)(hb:Below u.heap.size u u'):El u' B v p hv:=by
 obtain⟨H,h1,h2,h3⟩:=h;exact⟨H,h1,Ag h2 hb lR,fun r hr=>⟨fun u2 hu2=>(h3 r hr).1 u2 ((hb.mono hB).trans hu2),Ag (h3 r hr).2 hb lR⟩⟩
theorem DL.keep{w u:World}{B M top:Nat}{v:VP}{p:MP}{t c n:Int}{X:VS}{C:List (Value×List MC)}{K:List MC}{F:List (MG×Value)}{hv:Value}{gH kf gf Y:Nat}{u':World}(h:DL w u B M top v p t c n X C K F hv gH kf gf Y)(hb:Below u.heap.size u u'):DL w u' B M top v p t c n X C K F hv gH kf gf Y:=⟨h.mb.keep hb,h.own.grow hb,h.hd.keep (Nat.le_trans h.hB h.chg.size) hb,h.fb.keep hb,h.chg.trans (.of (R:=fun _=>False) hb) (fun _ _ e=>e.elim),h.hB,h.hM,h.hBM,h.hY,h.old⟩
theorem DL.low{w u:World}{B M top:Nat}{v:VP}{p:MP}{t c n:Int}{X:VS}{C:List (Value×List MC)}{K:List MC}{F:List (MG×Value)}{hv:Value}{gH kf gf Y:Nat}(h:DL w u B M top v p t c n X C K F hv gH kf gf Y):Below B w u:=h.chg.below h.hB (fun k hk e=>by
 have:=h.hBM;rcases e with e|e
 ·omega
 ·have:=(h.old k e).1
  omega)
theorem DL.setM{w u:World}{B M top:Nat}{v:VP}{p:MP}{t c n:Int}{X:VS}{C:List (Value×List MC)}{K:List MC}{F:List (MG×Value)}{hv:Value}{gH kf gf Y:Nat}{t' c' n':Int}{i:Nat}{x:Value}(h:DL w u B M top v p t c n X C K F hv gH kf gf Y)(hm:MB (u.setCell ⟨M,i,none⟩ x) M t' false c' n' X hv):DL w (u.setCell ⟨M,i,none⟩ x) B M top v p t' c' n' X C K F hv gH kf gf Y:=by
 have hM:=h.hM;have hY:=h.hY;refine⟨hm,Fc h.own h.mb,h.hd.chg (Nat.le_trans h.hB h.chg.size) h.hBM h.own h.mb (C9.setCell (C9.refl _ u) (.inl (.inl rfl)) x),h.fb.other (by simp only[];omega) _,h.chg.setCell (.inl (.inl rfl)) x,h.hB,h.hM,h.hBM,h.hY,h.old⟩
theorem DL.instr{w u:World}{B M top:Nat}{v:VP}{p:MP}{t c n:Int}{X:VS}{C:List (Value×List MC)}{K:List MC}{F:List (MG×Value)}{hv:Value}{gH kf gf Y:Nat}(h:DL w u B M top v p t c n X C K F hv gH kf gf Y){Z:Nat}{cur:Array Value}{ty:TypeId}(hz:Ap u Z cur ty)(hZ:w.heap.size<=Z)(i:Nat)(x:Value):Ap (u.setCell ⟨M,i,none⟩ x) Z cur ty:=by
 have hM:=h.hM;exact hz.other (by simp only[];omega) _
theorem DL.frc{w u:World}{B M top:Nat}{v:VP}{p:MP}{t c n:Int}{X:VS}{C:List (Value×List MC)}{K:List MC}{F:List (MG×Value)}{hv:Value}{gH kf gf Y:Nat}(h:DL w u B M top v p t c n X C K F hv gH kf gf Y){y:MG×Value}{m c3:Nat}(hXf:X.f=.slice (some ⟨gf,0,none⟩) m c3)(hy:F[top]?=some y):u.cell? ⟨gf,top*4+1,none⟩=some (.int .i64 y.1.at_)/\u.frozen? ⟨gf,top*4+1,none⟩=false:=by
 have ho:=h.own.frames;rw[hXf]at ho;have hl:=BG ho;subst hl;have hlt:=(gI.1 hy).1;refine⟨?_,ho.frozenAt _⟩;rw[ho.cellAt (top*4+1) (by omega),AF AA 4 Au F top 1 y hy (by omega)];rfl
structure J7(w u:World)(B M top:Nat)(v:VP)(p:MP)(c n:Int)(X:VS)(C:List (Value×List MC))(K:List MC)(F0:List (MG×Value))(F:List (MG×Value))(hv:Value)(gH kf gf Y Z:Nat)(x:MI):Prop where
 mb:MB u M 0 false c n X hv
 own:Ah u B X C K F
 hd:El u B v p hv
 fb:Ap u Y #[.pointer (some ⟨gH,kf*9,none⟩),.pointer (some ⟨gf,top*4,none⟩)] 172
 ib:Ap u Z #[.int .i64 x.op,.int .i64 x.a,.int .i64 x.b,.int .i64 x.c] 134
 chg:C9 (fun j=>j=M\/C8 X C F0 j) w u
 hB:B<=w.heap.size
 low:Below B w u
theorem DL.jump{w u:World}{B M top:Nat}{v:VP}{p:MP}{c n:Int}{X:VS}{C:List (Value×List MC)}{K:List MC}{F:List (MG×Value)}{hv:Value}{gH kf gf Y:Nat}(h:DL w u B M top v p 0 c n X C K F hv gH kf gf Y){Z:Nat}{x:MI}(hz:Ap u Z #[.int .i64 x.op,.int .i64 x.a,.int .i64 x.b,.int .i64 x.c] 134)(hZ:w.heap.size<=Z){y:MG×Value}{m c3:Nat}(hXf:X.f=.slice (some ⟨gf,0,none⟩) m c3)(hy:F[top]?=some y)(z:Int):J7 w (u.setCell ⟨gf,top*4+1,none⟩ (.int .i64 z)) B M top v p c n X C K F (F.set top ({y.1 with at_:=z},y.2)) hv gH kf gf Y Z x:=by
 obtain⟨o1,g1⟩:=h.own.setAt hXf hy z;have hX:C8 X C F gf:=.inr (.inr (.inl (by rw[hXf];rfl)));have hg:=h.old gf hX;have hY:=h.hY;have hc:C9 (fun j=>j=M\/C8 X C F j) u (u.setCell ⟨gf,top*4+1,none⟩ (.int .i64 z)):=C9.setCell (C9.refl _ u) (.inl (.inr hX)) _
 have hc2:C9 (fun j=>j=M\/C8 X C F j) w (u.setCell ⟨gf,top*4+1,none⟩ (.int .i64 z)):=C9.setCell h.chg (.inl (.inr hX)) _
 have hMg:M≠gf:=fun e=>by
  subst e;obtain⟨cur,hb,_⟩:=h.mb.blk;rcases h.own.ty hX hb with e|e|e<;>exact absurd e (by decide)
 refine⟨h.mb.other (by simpa using hMg) _,o1,h.hd.chg (Nat.le_trans h.hB h.chg.size) h.hBM h.own h.mb hc,h.fb.other (by simp only[];omega) _,hz.other (by simp only[];omega) _,hc2,h.hB,hc2.below h.hB (fun k hk e=> ?_)⟩;have:=h.hBM;rcases e with e|e
 ·omega
 ·have:=(h.old k e).1
  omega
theorem J7.keep{w u u':World}{B M top:Nat}{v:VP}{p:MP}{c n:Int}{X:VS}{C:List (Value×List MC)}{K:List MC}{F0 F:List (MG×Value)}{hv:Value}{gH kf gf Y Z:Nat}{x:MI}(h:J7 w u B M top v p c n X C K F0 F hv gH kf gf Y Z x)(hb:Below u.heap.size u u'):J7 w u' B M top v p c n X C K F0 F hv gH kf gf Y Z x:=⟨h.mb.keep hb,h.own.grow hb,h.hd.keep (Nat.le_trans h.hB h.chg.size) hb,h.fb.keep hb,h.ib.keep hb,h.chg.trans (.of (R:=fun _=>False) hb) (fun _ _ e=>e.elim),h.hB,h.low.trans (hb.mono (Nat.le_trans h.hB h.chg.size))⟩
theorem J7.late{w u u':World}{B M top:Nat}{v:VP}{p:MP}{c n:Int}{X:VS}{C:List (Value×List MC)}{K:List MC}{F0 F:List (MG×Value)}{hv:Value}{gH kf gf Y Z:Nat}{x:MI}(h:J7 w u B M top v p c n X C K F0 F hv gH kf gf Y Z x)(hc:C9 (fun j=>j=M\/C8 X C F j) u u'):Ap u' Y #[.pointer (some ⟨gH,kf*9,none⟩),.pointer (some ⟨gf,top*4,none⟩)] 172/\Ap u' Z #[.int .i64 x.op,.int .i64 x.a,.int .i64 x.b,.int .i64 x.c] 134:=by
 obtain⟨cur,hm,_⟩:=h.mb.blk;refine⟨hc.blk h.fb (fun e=> ?_),hc.blk h.ib (fun e=> ?_)⟩
 ·rcases e with e|e
  ·have hf:=h.fb
   rw[e]at hf;exact absurd (hm.ty_one hf) (by decide)
  ·rcases h.own.ty e h.fb with e|e|e<;>exact absurd e (by decide)
 ·rcases e with e|e
  ·have hf:=h.ib
   rw[e]at hf;exact absurd (hm.ty_one hf) (by decide)
  ·rcases h.own.ty e h.ib with e|e|e<;>exact absurd e (by decide)
theorem Jd{p:MP}{C:List (Value×List MC)}{K:List MC}{F:List (MG×Value)}{c n:Int}{fg:MG}{f:MF}{x:MI}{b:Nat}(h29:x.op≠29)(hb:fg.base=(b:Int))(hbK:b<=K.length)(ht:Ds p f fg (Ao 0 false c n C K F) x=0):∃K1 ar,K=K1++ar/\ar.length=(Ak p f x).length/\Bc ar (Ak p f x)=true/\(x.op=27->Av f x.a=3):=by
 rw[Hz h29 hb hbK rfl]at ht;by_cases h1:K.length-b<(Ak p f x).length
 ·rw[if_pos h1]at ht
  exact absurd ht (by decide)
 rw[if_neg h1]at ht;by_cases h2:Bc (K.drop (K.length-(Ak p f x).length)) (Ak p f x)=false\/(x.op=27/\Av f x.a≠3)
 ·rw[if_pos h2]at ht
  exact absurd ht (by decide)
 refine⟨K.take (K.length-(Ak p f x).length),K.drop (K.length-(Ak p f x).length),(List.take_append_drop _ _).symm,by rw[List.length_drop];omega,?_,fun e=>Classical.byContradiction fun e'=>h2 (.inr ⟨e,e'⟩)⟩;cases hfb:Bc (K.drop (K.length-(Ak p f x).length)) (Ak p f x)with
 |true=>rfl
 |false=>exact absurd (.inl hfb) h2
theorem El.at2{u:World}{B gH nf ch:Nat}{v:VP}{p:MP}(h:El u B v p (.slice (some ⟨gH,0,none⟩) nf ch)){q:Nat}{f:MF}(hq:p.funcs[q]?=some f):∃(g:VF) (tp:Option Addr) (tc:Nat),(∀u',Below B u u'->CP u' g f)/\u.cell? ⟨gH,q*9,none⟩=some v.r/\u.cell? ⟨gH,q*9+1,none⟩=some v.k/\u.cell? ⟨gH,q*9+2,none⟩=some v.f/\u.cell? ⟨gH,q*9+3,none⟩=some v.t/\u.cell? ⟨gH,q*9+4,none⟩=some g.p/\u.cell? ⟨gH,q*9+5,none⟩=some (.int .i64 f.result)/\u.cell? ⟨gH,q*9+6,none⟩=some g.l/\u.cell? ⟨gH,q*9+7,none⟩=some g.c/\u.cell? ⟨gH,q*9+8,none⟩=some (.slice tp (f.params++f.locals).length tc)/\Rd u 1 (.slice tp (f.params++f.locals).length tc) (f.params++f.locals).length ((f.params++f.locals).flatMap Ae):=by
 obtain⟨gH',ch',e,h2⟩:=h.at hq;simp only[sJ,Option.some.injEq,Addr.mk.injEq]at e;obtain⟨⟨rfl,_⟩,_⟩:=e;exact h2
theorem JI(k:Nat)(hk:k<30)(args:Array Value)(w:World):(callFunc (GS k) args).run Tryz.prog w=.ok (.enter (GS k) args) w:=by
 have h:k=0\/k=1\/k=2\/k=3\/k=4\/k=5\/k=6\/k=7\/k=8\/k=9\/k=10\/k=11\/k=12\/k=13\/k=14\/k=15\/k=16\/k=17\/k=18\/k=19\/k=20\/k=21\/k=22\/k=23\/k=24\/k=25\/k=26\/k=27\/k=28\/k=29:=by omega
 clear hk;rcases h with rfl|rfl|rfl|rfl|rfl|rfl|rfl|rfl|rfl|rfl|rfl|rfl|rfl|rfl|rfl|rfl|rfl|rfl|rfl|rfl|rfl|rfl|rfl|rfl|rfl|rfl|rfl|rfl|rfl|rfl<;>(show Sem.run _ _ _=Result.ok _ _;kernel_rfl)
theorem Md(k:Nat)(hk:k<30):BF[k*4+1]?=some (.int .i64 (BC k)):=by
 have h:k=0\/k=1\/k=2\/k=3\/k=4\/k=5\/k=6\/k=7\/k=8\/k=9\/k=10\/k=11\/k=12\/k=13\/k=14\/k=15\/k=16\/k=17\/k=18\/k=19\/k=20\/k=21\/k=22\/k=23\/k=24\/k=25\/k=26\/k=27\/k=28\/k=29:=by omega
 rcases h with rfl|rfl|rfl|rfl|rfl|rfl|rfl|rfl|rfl|rfl|rfl|rfl|rfl|rfl|rfl|rfl|rfl|rfl|rfl|rfl|rfl|rfl|rfl|rfl|rfl|rfl|rfl|rfl|rfl|rfl<;>rfl
theorem Oa(v:VP)(p:MP)(c n:Int)(X:VS)(C:List (Value×List MC))(K:List MC)(F:List (MG×Value))(hv:Value)(B M:Nat)(w:World)(hB:B<=w.heap.size)(hBM:B<=M)(h:Ah w B X C K F)(hm:MB w M 0 false c n X hv)(hd:El w B v p hv)(hsh:FA p (Ao 0 false c n C K F))(hwf:(Ao 0 false c n C K F).wf)(hps:p.small)(hpw:p.wf)(hP:∀u,Below B w u->Cx u v p):
 Calls Tryz.prog 44 #[.pointer (some ⟨M,0,none⟩)] w (Nm w B M p (Ao 0 false c n C K F) hv X C F):=by
 have hK:K.length<=64:=hsh.high
 have hF32:F.length<=32:=by have:=hsh.deep;simpa[Ao]using this
 obtain⟨top,htop⟩:∃top,F.length=top+1:=⟨F.length-1,by
  have:=hsh.some
  cases F with
  |nil=>exact absurd rfl this
  |cons a r=>simp⟩
 obtain⟨⟨fg,vl⟩,hy⟩:∃y,F[top]?=some y:=⟨_,gE (by omega)⟩
 have hfgm:fg∈(Ao 0 false c n C K F).frames:=List.mem_map_of_mem (f:=Prod.fst) (mG hy)
 have hfr:=hsh.frames fg hfgm
 obtain⟨f,hf,hfl⟩:=hfr.locals
 have hb0:=Jc hsh.bases fg hfgm
 obtain⟨b,hb⟩:=Int.eq_ofNat_of_zero_le hb0
 obtain⟨qf,hqf⟩:=Int.eq_ofNat_of_zero_le hfr.lo
 have hbK:b<=K.length:=by have:=hfr.base;rw[hb]at this;simp only[Ao]at this;omega
 have hlast:(Ao 0 false c n C K F).frames.getLast?=some fg:=Mm htop hy
 have hfn:p.funcs[fg.func.toNat]?=some f:=hf
 rw[hqf,Int.toNat_natCast]at hf
 have hql:=(gI.1 hf).1
 have hfs:f.small:=hps.func f (mG hf)
 have hcode:f.code.length<=1048576:=hfs.2.2
 have hnf:p.funcs.length<=1048576:=hps.funcs
 have hat64:Dr fg.at_:=(hwf.frames fg hfgm).at_
 obtain⟨hatl,hath⟩:=Dz hat64
 obtain⟨hc0,hc1⟩:=hsh.cost
 obtain⟨hn0,hn1⟩:=hsh.steps
 simp only[Ao]at hc0 hc1 hn0 hn1
 have h3:p.regions.length=3:=hsh.prog.parts.1.1
 rcases At h.frames with⟨_,e⟩|⟨gf,c3,e3⟩
 ·omega
 have hlo:fg.locals.length<=32:=by
  have h1:=hfl.1
  have h2:fg.locals.length=(f.params++f.locals).length:=by rw[<-h1,List.length_map]
  have h4:BO f:=hsh.prog.parts.2.2.1.2.2.1 qf hql f hf
  have:=h4.loc
  rw[h2,List.length_append]
  exact this
 rw[htop]at e3
 obtain⟨vc,vk',vf'⟩:=X
 simp only[]at e3
 subst e3
 obtain⟨gH,ch,eh,_⟩:=hd.at hf
 subst eh
 have hKw:∀z∈K,0<=z.word:=fun z hz=>NY (hwf.stack z hz)
 have hXo:∀j,C8 ⟨vc,vk',.slice (some ⟨gf,0,none⟩) (top+1) c3⟩ C F j->B<=j/\j<w.heap.size:=fun j hj=>h.ltOf hj
 have hMl:=hm.lt
 have H:Hid (FA p (Ao 0 false c n C K F)/\(Ao 0 false c n C K F).wf/\p.small/\p.wf/\F[top]?=some (fg,vl)/\fg.base=(b:Int)/\fg.func=(qf:Int)/\(∀z∈K,0<=z.word)/\p.regions.length=3):=⟨hsh,hwf,hps,hpw,hy,hb,hqf,hKw,h3⟩
 have HP:Hid (∀u,Below B w u->Cx u v p):=hP
 have HF:Hid ((Ao 0 false c n C K F).frames.getLast?=some fg/\p.funcs[fg.func.toNat]?=some f/\p.funcs[qf]?=some f/\f.small/\CQ fg.locals (f.params++f.locals)/\F.length=top+1/\fg.locals.length<=32):=⟨hlast,hfn,hf,hfs,hfl,htop,hlo⟩
 have HXO:Hid (∀j,C8 ⟨vc,vk',.slice (some ⟨gf,0,none⟩) (top+1) c3⟩ C F j->B<=j/\j<w.heap.size):=hXo
 have HW:Hid (Ah w B ⟨vc,vk',.slice (some ⟨gf,0,none⟩) (top+1) c3⟩ C K F/\MB w M 0 false c n ⟨vc,vk',.slice (some ⟨gf,0,none⟩) (top+1) c3⟩ (.slice (some ⟨gH,0,none⟩) p.funcs.length ch)/\El w B v p (.slice (some ⟨gH,0,none⟩) p.funcs.length ch)):=⟨h,hm,hd⟩
 have htl:top+1<=32:=by omega
 clear h hm hd hsh hwf hps hpw hP hlast hfn hf hfs hfl hfr hy hb hqf hfgm hb0 hat64 hKw h3 hXo hlo htop
 go_enter Tryz.func44,Tryz.ntmps44
 go_wp2_with fail
 refine(OT B M top 0 false c n ⟨vc,vk',.slice (some ⟨gf,0,none⟩) (top+1) c3⟩ C K F (.slice (some ⟨gH,0,none⟩) p.funcs.length ch) gf c3 gH p.funcs.length ch qf (fg,vl) w HW.out.1 HW.out.2.1 HF.out.2.2.2.2.2.1 (by omega) H.out.2.2.2.2.1 rfl rfl H.out.2.2.2.2.2.2.1 hql hnf).mono ?_
 rintro e u1 ⟨rfl,b1⟩
 have E0:Hid (DL w (u1.alloc (.cells #[.pointer (some ⟨gH,qf*9,none⟩),.pointer (some ⟨gf,top*4,none⟩)] 172)) B M top v p 0 c n ⟨vc,vk',.slice (some ⟨gf,0,none⟩) (top+1) c3⟩ C K F (.slice (some ⟨gH,0,none⟩) p.funcs.length ch) gH qf gf u1.heap.size):=by
  have b2:=Ab b1 lR (Aa u1 (.cells #[.pointer (some ⟨gH,qf*9,none⟩),.pointer (some ⟨gf,top*4,none⟩)] 172))
  exact⟨HW.out.2.1.keep b2,HW.out.1.grow b2,HW.out.2.2.keep hB b2,Ap.new _ _ _,C9.of b2,hB,hMl,hBM,b1.size,HXO.out⟩
 clear b1
 go_upto_region 1 with fail
 generalize u1.heap.size=Y at E0⊢
 refine Af (fun u=>Hid (DL w u B M top v p 0 c n ⟨vc,vk',.slice (some ⟨gf,0,none⟩) (top+1) c3⟩ C K F (.slice (some ⟨gH,0,none⟩) p.funcs.length ch) gH qf gf Y)) E0 ?_
 rintro U E1
 clear E0
 clear u1
 obtain⟨y0,y1⟩:=E1.out.fb.c2
 try dsimp only at y0 y1
 obtain⟨fc1,-⟩:=E1.out.frc rfl H.out.2.2.2.2.1
 simp only[]at fc1
 obtain⟨g,tp,tc,hRF,-,-,-,-,-,-,-,hg7,-,-⟩:=E1.out.hd.at2 HF.out.2.2.1
 obtain⟨gi0,g9,eg3⟩:=(hRF U (Below.refl B U)).2.2.is_slice
 rw[eg3]at hg7
 by_cases hat:0<=fg.at_/\fg.at_<(f.code.length:Int)
 ·have hdi:decide (0<=fg.at_/\fg.at_<(f.code.length:Int))=true:=decide_eq_true hat
  have inst:=Aj.some U
  have J0:=fun n:Aj U=>Aj.cell y0 n
  have J1:=fun n:Aj U=>Aj.cell y1 n
  have J2:=fun n:Aj U=>Aj.cell fc1 n
  have J3:=fun n:Aj U=>Aj.cell hg7 n
  go_wp2_with fail
  refine Am (by kernel_rfl) (by kernel_rfl) ?_
  repeat(go_big_quiet_step ((go_at_call 99;rename_i n';exact(AM fg.at_ (f.code.length:Int) n'.u).mono fun e w'' h=>⟨by rw[h.1,hdi],⟨n',h.2⟩⟩)))
  refine wpQuiet_nil ?_
  rintro w'' ⟨n',rfl⟩
  have E2:Hid (DL w n'.u B M top v p 0 c n ⟨vc,vk',.slice (some ⟨gf,0,none⟩) (top+1) c3⟩ C K F (.slice (some ⟨gH,0,none⟩) p.funcs.length ch) gH qf gf Y):=E1.out.keep n'.h
  clear J0 J1 J2 J3 inst y0 y1 fc1 hg7 eg3 hRF E1
  go_upto_region 3 with fail
  generalize n'.u=V at E2⊢
  clear n'
  clear U
  obtain⟨ia,hia⟩:=Int.eq_ofNat_of_zero_le hat.1
  obtain⟨x,hx⟩:∃x,f.code[ia]?=some x:=⟨_,gE (by omega)⟩
  obtain⟨g',tp',tc',hRF,-,-,-,-,-,-,-,hg7,-,-⟩:=E2.out.hd.at2 HF.out.2.2.1
  obtain⟨gi,oi,g9',eg3,ic0,ic1,ic2,ic3⟩:=Pk (hRF V (Below.refl B V)).2.2 hx
  rw[eg3]at hg7
  obtain⟨y0,y1⟩:=E2.out.fb.c2
  try dsimp only at y0 y1
  obtain⟨fc1,-⟩:=E2.out.frc rfl H.out.2.2.2.2.1
  simp only[]at fc1
  rw[hia]at fc1
  have bD:=Ad V
  have KD:V.drew.cell? ⟨Y,0,none⟩=some (.pointer (some ⟨gH,qf*9,none⟩))/\V.drew.cell? ⟨Y,1,none⟩=some (.pointer (some ⟨gf,top*4,none⟩))/\V.drew.cell? ⟨gH,qf*9+7,none⟩=some (.slice (some ⟨gi,oi,none⟩) f.code.length g9')/\V.drew.cell? ⟨gf,top*4+1,none⟩=some (.int .i64 (ia:Int))/\V.drew.cell? ⟨gi,oi+ia*4,none⟩=some (.int .i64 x.op)/\V.drew.cell? ⟨gi,oi+ia*4+1,none⟩=some (.int .i64 x.a)/\V.drew.cell? ⟨gi,oi+ia*4+2,none⟩=some (.int .i64 x.b)/\V.drew.cell? ⟨gi,oi+ia*4+3,none⟩=some (.int .i64 x.c):=⟨Ac bD y0,Ac bD y1,Ac bD hg7,Ac bD fc1,Ac bD ic0,Ac bD ic1,Ac bD ic2,Ac bD ic3⟩
  have HC:Hid (∀u,Below V.heap.size V u->u.cell? ⟨Y,0,none⟩=some (.pointer (some ⟨gH,qf*9,none⟩))/\u.cell? ⟨Y,1,none⟩=some (.pointer (some ⟨gf,top*4,none⟩))/\u.cell? ⟨gH,qf*9+7,none⟩=some (.slice (some ⟨gi,oi,none⟩) f.code.length g9')/\u.cell? ⟨gf,top*4+1,none⟩=some (.int .i64 (ia:Int))/\u.cell? ⟨gi,oi+ia*4,none⟩=some (.int .i64 x.op)/\u.cell? ⟨gi,oi+ia*4+1,none⟩=some (.int .i64 x.a)/\u.cell? ⟨gi,oi+ia*4+2,none⟩=some (.int .i64 x.b)/\u.cell? ⟨gi,oi+ia*4+3,none⟩=some (.int .i64 x.c)):=fun u bD=>⟨Ac bD y0,Ac bD y1,Ac bD hg7,Ac bD fc1,Ac bD ic0,Ac bD ic1,Ac bD ic2,Ac bD ic3⟩
  have KE0:=HC.out (V.alloc (.cells #[.int .i64 0,.int .i64 0,.int .i64 0,.int .i64 0] 134)).drew (Ab (Aa _ _) lR (Ad _))
  have KE1:=HC.out (V.alloc (.cells #[.int .i64 x.op,.int .i64 x.a,.int .i64 x.b,.int .i64 x.c] 134)).drew (Ab (Aa _ _) lR (Ad _))
  have HX:Hid (f.code[ia]?=some x/\fg.at_=(ia:Int)):=⟨hx,hia⟩
  have hiaI:(ia:Int)<(f.code.length:Int):=by omega
  clear y0 y1 fc1 hg7 ic0 ic1 ic2 ic3 eg3 hRF hx hia hat hdi
  go_region_held_law (fun w'=>w'.cell? ⟨Y,0,none⟩=some (.pointer (some ⟨gH,qf*9,none⟩))/\w'.cell? ⟨Y,1,none⟩=some (.pointer (some ⟨gf,top*4,none⟩))/\w'.cell? ⟨gH,qf*9+7,none⟩=some (.slice (some ⟨gi,oi,none⟩) f.code.length g9')/\w'.cell? ⟨gf,top*4+1,none⟩=some (.int .i64 (ia:Int))/\w'.cell? ⟨gi,oi+ia*4,none⟩=some (.int .i64 x.op)/\w'.cell? ⟨gi,oi+ia*4+1,none⟩=some (.int .i64 x.a)/\w'.cell? ⟨gi,oi+ia*4+2,none⟩=some (.int .i64 x.b)/\w'.cell? ⟨gi,oi+ia*4+3,none⟩=some (.int .i64 x.c)) (first|exact KD|exact KE0|exact KE1) (fail)
  have hZ:w.heap.size<=V.heap.size:=E2.out.chg.size
  have hYZ:Y<V.heap.size:=E2.out.fb.lt
  have E3:Hid (DL w (V.alloc (.cells #[.int .i64 x.op,.int .i64 x.a,.int .i64 x.b,.int .i64 x.c] 134)).drew B M top v p 0 c n ⟨vc,vk',.slice (some ⟨gf,0,none⟩) (top+1) c3⟩ C K F (.slice (some ⟨gH,0,none⟩) p.funcs.length ch) gH qf gf Y/\Ap (V.alloc (.cells #[.int .i64 x.op,.int .i64 x.a,.int .i64 x.b,.int .i64 x.c] 134)).drew V.heap.size #[.int .i64 x.op,.int .i64 x.a,.int .i64 x.b,.int .i64 x.c] 134):=⟨E2.out.keep (Ab (Aa _ _) lR (Ad _)),(Ap.new _ _ _).keep (Ad _)⟩
  clear KD KE0 KE1 HC bD E2
  go_upto_region 4 with fail
  generalize V.heap.size=Z at E3 hZ hYZ⊢
  refine Af (fun u=>Hid (DL w u B M top v p 0 c n ⟨vc,vk',.slice (some ⟨gf,0,none⟩) (top+1) c3⟩ C K F (.slice (some ⟨gH,0,none⟩) p.funcs.length ch) gH qf gf Y/\Ap u Z #[.int .i64 x.op,.int .i64 x.a,.int .i64 x.b,.int .i64 x.c] 134)) E3 ?_
  rintro U3 E4
  clear E3
  have hin:AN p f x:=H.out.1.prog.instr HF.out.2.2.1 HX.out.1
  have hop0:0<=x.op:=hin.1
  have hop1:x.op<=29:=hin.2.1
  have HIN:Hid (AN p f x):=hin
  obtain⟨co,hco⟩:∃co,BC x.op=co:=⟨_,rfl⟩
  have hcb:0<=co/\co<=8:=by rw[<-hco];exact GG hop0 hop1
  obtain⟨hcb0,hcb1⟩:=hcb
  have HCO:Hid (BC x.op=co):=hco
  clear hin hco
  have m3:=E4.out.1.mb.at.2.2.2.1
  have z3:=E4.out.1.mb.frozen 3
  have E5:Hid (DL w (U3.setCell ⟨M,3,none⟩ (.int .i64 (n+1))) B M top v p 0 c (n+1) ⟨vc,vk',.slice (some ⟨gf,0,none⟩) (top+1) c3⟩ C K F (.slice (some ⟨gH,0,none⟩) p.funcs.length ch) gH qf gf Y/\Ap (U3.setCell ⟨M,3,none⟩ (.int .i64 (n+1))) Z #[.int .i64 x.op,.int .i64 x.a,.int .i64 x.b,.int .i64 x.c] 134):=⟨E4.out.1.setM (E4.out.1.mb.setN _),E4.out.1.instr E4.out.2 hZ _ _⟩
  clear E4
  go_upto_region 5 with fail
  refine Af (fun u=>Hid (DL w u B M top v p 0 c (n+1) ⟨vc,vk',.slice (some ⟨gf,0,none⟩) (top+1) c3⟩ C K F (.slice (some ⟨gH,0,none⟩) p.funcs.length ch) gH qf gf Y/\Ap u Z #[.int .i64 x.op,.int .i64 x.a,.int .i64 x.b,.int .i64 x.c] 134)) E5 ?_
  rintro U4 E6
  clear E5 m3 z3
  clear U3
  obtain⟨kk,hkk⟩:=Int.eq_ofNat_of_zero_le hop0
  have hk30:kk<30:=by omega
  have m2:=E6.out.1.mb.at.2.2.1
  have i0:=E6.out.2.cell 0
  simp only[gA,gZ]at i0
  rw[hkk]at i0
  have rc:=E6.out.1.mb.row (kk*4+1) _ (Md kk hk30)
  rw[show BC (kk:Int)=co by rw[<-hkk];exact HCO.out,<-Nat.add_assoc]at rc
  have bD:=Ad U4
  have m2d:=Ac bD m2
  have z2d:U4.drew.frozen? ⟨M,2,none⟩=false:=E6.out.1.mb.frozen 2
  have hkI:(kk:Int)<30:=by omega
  have hwc:IntKind.i64.wrap (c+co)=c+co:=IntWalk.i64_in _ (by omega)
  have E7:Hid (DL w (U4.setCell ⟨M,2,none⟩ (.int .i64 (c+co))).drew B M top v p 0 (c+co) (n+1) ⟨vc,vk',.slice (some ⟨gf,0,none⟩) (top+1) c3⟩ C K F (.slice (some ⟨gH,0,none⟩) p.funcs.length ch) gH qf gf Y/\Ap (U4.setCell ⟨M,2,none⟩ (.int .i64 (c+co))).drew Z #[.int .i64 x.op,.int .i64 x.a,.int .i64 x.b,.int .i64 x.c] 134):=⟨(E6.out.1.setM (E6.out.1.mb.setCo _)).keep (Ad _),(E6.out.1.instr E6.out.2 hZ _ _).keep (Ad _)⟩
  have KD:U4.drew.cell? ⟨Z,0,none⟩=some (.int .i64 (kk:Int))/\U4.drew.cell? ⟨M,8+kk*4+1,none⟩=some (.int .i64 co):=⟨Ac bD i0,Ac bD rc⟩
  have KV:(U4.setCell ⟨M,2,none⟩ (.int .i64 (c+co))).drew.cell? ⟨Z,0,none⟩=some (.int .i64 (kk:Int))/\(U4.setCell ⟨M,2,none⟩ (.int .i64 (c+co))).drew.cell? ⟨M,8+kk*4+1,none⟩=some (.int .i64 co):=by
   have h1:=E7.out.2.cell 0
   have h2:=E7.out.1.mb.row (kk*4+1) _ (Md kk hk30)
   simp only[gA,gZ]at h1
   rw[hkk]at h1
   rw[show BC (kk:Int)=co by rw[<-hkk];exact HCO.out,<-Nat.add_assoc]at h2
   exact⟨h1,h2⟩
  have HKK:Hid (x.op=(kk:Int)):=hkk
  clear m2 i0 rc E6 bD hkk
  go_upto_region 5 with fail
  refine wp_region_held_drew (S:=fun w'=>w'.cell? ⟨Z,0,none⟩=some (.int .i64 (kk:Int))/\w'.cell? ⟨M,8+kk*4+1,none⟩=some (.int .i64 co)) (by kernel_rfl) KD (fun hHeld=> ?_)
  refine wpAnyH_take (i:=0) (v:= ?_) rfl (by kernel_rfl) (by kernel_rfl) (by kernel_rfl) (fun _ _ _ h=>h) (Or.inl ⟨by rfl,?_⟩) (by assumption) ?_
  rotate_left
  ·(intro w hSw;(try dsimp only at hSw);go_simp;(try with_reducible rfl))
  refine wpAnyH_take (i:=1) (v:= ?_) rfl (by kernel_rfl) (by kernel_rfl) (by kernel_rfl) (fun _ _ _ h=>h) (Or.inl ⟨by rfl,?_⟩) (by assumption) ?_
  rotate_left
  ·(intro w hSw;(try dsimp only at hSw);go_simp;(try with_reducible rfl))
  refine wpAnyH_take (i:=2) (v:= ?_) rfl (by kernel_rfl) (by kernel_rfl) (by kernel_rfl) (fun _ _ _ h=>h) (Or.inl ⟨by rfl,?_⟩) (by assumption) ?_
  rotate_left
  ·(intro w hSw;(try dsimp only at hSw);go_simp;(try with_reducible rfl))
  refine wpAnyH_take (i:=3) (v:= ?_) rfl (by kernel_rfl) (by kernel_rfl) (by kernel_rfl) (fun _ _ _ h=>h) (Or.inl ⟨by rfl,?_⟩) (by assumption) ?_
  rotate_left
  ·(intro w hSw;(try dsimp only at hSw);go_simp;(try with_reducible rfl))
  refine wpAnyH_take (i:=5) (v:= ?_) rfl (by kernel_rfl) (by kernel_rfl) (by kernel_rfl) (fun _ _ _ h=>h) (Or.inl ⟨by rfl,?_⟩) (by assumption) ?_
  rotate_left
  ·(intro w hSw;(try dsimp only at hSw);go_simp;(try with_reducible rfl))
  refine wpAnyH_take (i:=6) (v:= ?_) rfl (by kernel_rfl) (by kernel_rfl) (by kernel_rfl) (fun _ _ _ h=>h) (Or.inl ⟨by rfl,?_⟩) (by assumption) ?_
  rotate_left
  ·(intro w hSw;(try dsimp only at hSw);go_simp;(try with_reducible rfl))
  refine wpAnyH_take (i:=7) (v:= ?_) rfl (by kernel_rfl) (by kernel_rfl) (by kernel_rfl) (fun _ _ _ h=>h) (Or.inl ⟨by rfl,?_⟩) (by assumption) ?_
  rotate_left
  ·(intro w hSw;(try dsimp only at hSw);go_simp;(try with_reducible rfl))
  refine wpAnyH_take (i:=8) (v:= ?_) rfl (by kernel_rfl) (by kernel_rfl) (by kernel_rfl) (fun _ _ _ h=>h) (Or.inl ⟨by rfl,?_⟩) (by assumption) ?_
  rotate_left
  ·(intro w hSw;(try dsimp only at hSw);go_simp;(try with_reducible rfl))
  refine wpAnyH_take (i:=9) (v:= ?_) rfl (by kernel_rfl) (by kernel_rfl) (by kernel_rfl) (fun _ _ _ h=>h) (Or.inl ⟨by rfl,?_⟩) (by assumption) ?_
  rotate_left
  ·(intro w hSw;(try dsimp only at hSw);go_simp;(try with_reducible rfl))
  refine wpAnyH_take (i:=10) (v:= ?_) rfl (by kernel_rfl) (by kernel_rfl) (by kernel_rfl) (fun _ _ _ h=>h) (Or.inl ⟨by rfl,?_⟩) (by assumption) ?_
  rotate_left
  ·(intro w hSw;(try dsimp only at hSw);go_simp;(try with_reducible rfl))
  refine wpAnyH_take (i:=11) (v:= ?_) rfl (by kernel_rfl) (by kernel_rfl) (by kernel_rfl) (fun _ _ _ h=>h) (Or.inl ⟨by rfl,?_⟩) (by assumption) ?_
  rotate_left
  ·(intro w hSw;(try dsimp only at hSw);go_simp;(try with_reducible rfl))
  refine wpAnyH_take (i:=12) (v:= ?_) rfl (by kernel_rfl) (by kernel_rfl) (by kernel_rfl) (fun _ _ _ h=>h) (Or.inl ⟨by rfl,?_⟩) (by assumption) ?_
  rotate_left
  ·(intro w hSw;(try dsimp only at hSw);go_simp;(try with_reducible rfl))
  refine wpAnyH_take (i:=13) (v:= ?_) rfl (by kernel_rfl) (by kernel_rfl) (by kernel_rfl) (fun _ _ _ h=>h) (Or.inl ⟨by rfl,?_⟩) (by assumption) ?_
  rotate_left
  ·(intro w hSw;(try dsimp only at hSw);go_simp;(try with_reducible rfl))
  refine wpAnyH_ready (rs:=[4]) (by kernel_rfl) (by simp) ?_
  refine AllReadyH.cons rfl (fun KC hKC=> ?_) AllReadyH.nil
  go_simp
  refine hKC.out _ _ KD (fun hHeld=> ?_)
  clear hKC KC
  refine wpAnyH_take (i:=14) (v:= ?_) rfl (by kernel_rfl) (by kernel_rfl) (by kernel_rfl) (fun _ _ _ h=>h) (Or.inl ⟨by rfl,?_⟩) (by assumption) ?_
  rotate_left
  ·(intro w hSw;(try dsimp only at hSw);go_simp;(try with_reducible rfl))
  refine wpAnyH_take (i:=15) (v:= ?_) rfl (by kernel_rfl) (by kernel_rfl) (by kernel_rfl) (fun _ _ _ h=>h) (Or.inl ⟨by rfl,?_⟩) (by assumption) ?_
  rotate_left
  ·(intro w hSw;(try dsimp only at hSw);go_simp;(try with_reducible rfl))
  refine wpAnyH_take (i:=16) (v:= ?_) rfl (by kernel_rfl) (by kernel_rfl) (by kernel_rfl) (fun _ _ _ h=>h) (Or.inl ⟨by rfl,?_⟩) (by assumption) ?_
  rotate_left
  ·(intro w hSw;(try dsimp only at hSw);go_simp;(try with_reducible rfl))
  refine wpAnyH_take (i:=17) (v:= ?_) rfl (by kernel_rfl) (by kernel_rfl) (by kernel_rfl) (fun _ _ _ h=>h) (Or.inl ⟨by rfl,?_⟩) (by assumption) ?_
  rotate_left
  ·(intro w hSw;(try dsimp only at hSw);go_simp;(try with_reducible rfl))
  refine wpAnyH_ready (rs:=[18]) (by kernel_rfl) (by simp) ?_
  refine AllReadyH.cons rfl (fun KC hKC=> ?_) AllReadyH.nil
  go_simp
  refine hKC.out _ _ KV (fun hHeld=> ?_)
  clear hKC KC
  refine wpAnyH_done (by kernel_rfl) ?_ _
  clear KD KV m2d z2d hwc
  go_upto_region 6 with fail
  refine Af (fun u=>Hid (DL w u B M top v p 0 (c+co) (n+1) ⟨vc,vk',.slice (some ⟨gf,0,none⟩) (top+1) c3⟩ C K F (.slice (some ⟨gH,0,none⟩) p.funcs.length ch) gH qf gf Y/\Ap u Z #[.int .i64 x.op,.int .i64 x.a,.int .i64 x.b,.int .i64 x.c] 134)) E7 ?_
  rintro U5 E8
  clear E7
  obtain⟨tr,htr⟩:∃tr,Ds p f fg (Ao 0 false (c+co) (n+1) C K F) x=tr:=⟨_,rfl⟩
  have HTR:Hid (Ds p f fg (Ao 0 false c n C K F) x=tr):=htr
  obtain⟨g2,tp2,tc2,hRF,hg0,hg1,hg2,hg3,hg4,hg5,hg6,hg7,-,-⟩:=E8.out.1.hd.at2 HF.out.2.2.1
  have HCL:Hid (Calls Tryz.prog 100 #[.pointer (some ⟨M,0,none⟩),.agg #[.pointer (some ⟨gH,qf*9,none⟩),.pointer (some ⟨gf,top*4,none⟩)],.agg #[.int .i64 x.op,.int .i64 x.a,.int .i64 x.b,.int .i64 x.c]] U5 fun e w'=>e=.returned (.int .i64 tr)/\Below U5.heap.size U5 w'):=by
   have h5:=L8 B M top 0 false (c+co) (n+1) ⟨vc,vk',.slice (some ⟨gf,0,none⟩) (top+1) c3⟩ C K F (.slice (some ⟨gH,0,none⟩) p.funcs.length ch) gH (qf*9) gf c3 b (fg,vl) v p g2 f x U5 (Nat.le_trans hB E8.out.1.chg.size) E8.out.1.own E8.out.1.mb HF.out.2.2.2.2.2.1 hF32 H.out.2.2.2.2.1 rfl H.out.2.2.2.2.2.1 hbK hK H.out.2.2.2.2.2.2.2.1 H.out.2.2.1 H.out.2.2.2.2.2.2.2.2 HF.out.2.2.2.1 (HP.out U5 E8.out.1.low) (hRF U5 (Below.refl B U5)) HIN.out H.out.1.prog hg0 hg1 hg2 hg3 hg4 hg5 hg6 hg7
   rw[htr]at h5
   exact h5
  clear hRF hg0 hg1 hg2 hg3 hg4 hg5 hg6 hg7 htr
  obtain⟨y0,y1⟩:=E8.out.1.fb.c2
  obtain⟨i0,i1,i2,i3⟩:=E8.out.2.c4
  try dsimp only at y0 y1 i0 i1 i2 i3
  go_wp2_with fail
  refine HCL.out.mono ?_
  rintro e u6 ⟨rfl,b6⟩
  have E9:Hid (DL w (u6.setCell ⟨M,0,none⟩ (.int .i64 tr)) B M top v p tr (c+co) (n+1) ⟨vc,vk',.slice (some ⟨gf,0,none⟩) (top+1) c3⟩ C K F (.slice (some ⟨gH,0,none⟩) p.funcs.length ch) gH qf gf Y/\Ap (u6.setCell ⟨M,0,none⟩ (.int .i64 tr)) Z #[.int .i64 x.op,.int .i64 x.a,.int .i64 x.b,.int .i64 x.c] 134):=⟨(E8.out.1.keep b6).setM ((E8.out.1.keep b6).mb.setT _),(E8.out.1.keep b6).instr (E8.out.2.keep b6) hZ _ _⟩
  have m0:=(E8.out.1.keep b6).mb.at.1
  have z0:=(E8.out.1.keep b6).mb.frozen 0
  clear y0 y1 i0 i1 i2 i3 E8 HCL b6
  go_upto_region 7 with fail
  refine Af (fun u=>Hid (DL w u B M top v p tr (c+co) (n+1) ⟨vc,vk',.slice (some ⟨gf,0,none⟩) (top+1) c3⟩ C K F (.slice (some ⟨gH,0,none⟩) p.funcs.length ch) gH qf gf Y/\Ap u Z #[.int .i64 x.op,.int .i64 x.a,.int .i64 x.b,.int .i64 x.c] 134)) E9 ?_
  rintro U7 EA
  clear E9 m0 z0
  clear u6
  clear U5
  have m0:=EA.out.1.mb.at.1
  by_cases ht0:tr=0
  ·subst ht0
   obtain⟨fc1,fz1⟩:=EA.out.1.frc rfl H.out.2.2.2.2.1
   simp only[]at fc1
   have y1:=EA.out.1.fb.cell 1
   simp only[gA,gZ,gS]at y1
   have hat0:0<=fg.at_:=by rw[HX.out.2];omega
   have hat1:fg.at_<(f.code.length:Int):=by rw[HX.out.2];exact hiaI
   have EB:Hid (J7 w (U7.setCell ⟨gf,top*4+1,none⟩ (.int .i64 (fg.at_+1))) B M top v p (c+co) (n+1) ⟨vc,vk',.slice (some ⟨gf,0,none⟩) (top+1) c3⟩ C K F (F.set top ({fg with at_:=fg.at_+1},vl)) (.slice (some ⟨gH,0,none⟩) p.funcs.length ch) gH qf gf Y Z x):=EA.out.1.jump EA.out.2 hZ rfl H.out.2.2.2.2.1 (fg.at_+1)
   clear EA
   go_upto_region 9 with fail
   refine Af (fun u=>Hid (J7 w u B M top v p (c+co) (n+1) ⟨vc,vk',.slice (some ⟨gf,0,none⟩) (top+1) c3⟩ C K F (F.set top ({fg with at_:=fg.at_+1},vl)) (.slice (some ⟨gH,0,none⟩) p.funcs.length ch) gH qf gf Y Z x)) EB ?_
   rintro U8 EC
   clear EB y1 fc1 fz1 m0
   clear U7
   obtain⟨y0,y1⟩:=EC.out.fb.c2
   obtain⟨i0,i1,i2,i3⟩:=EC.out.ib.c4
   try dsimp only at y0 y1 i0 i1 i2 i3
   have acc:=EC.out.mb.act x.op.toNat (by omega)
   have HU:Hid (B<=U8.heap.size):=Nat.le_trans hB EC.out.chg.size
   clear acc
   have acc:=EC.out.mb.act kk hk30
   have hkk:x.op=(kk:Int):=HKK.out
   rw[hkk]at i0
   clear hkk
   have bD:=Ad U8
   have KD:U8.drew.cell? ⟨Y,0,none⟩=some (.pointer (some ⟨gH,qf*9,none⟩))/\U8.drew.cell? ⟨Y,1,none⟩=some (.pointer (some ⟨gf,top*4,none⟩))/\U8.drew.cell? ⟨Z,0,none⟩=some (.int .i64 (kk:Int))/\U8.drew.cell? ⟨Z,1,none⟩=some (.int .i64 x.a)/\U8.drew.cell? ⟨Z,2,none⟩=some (.int .i64 x.b)/\U8.drew.cell? ⟨Z,3,none⟩=some (.int .i64 x.c)/\U8.drew.cell? ⟨M,128+kk,none⟩=some (.func (.func (GS kk)) #[.pointer (some ⟨M,0,none⟩)] #[]):=⟨Ac bD y0,Ac bD y1,Ac bD i0,Ac bD i1,Ac bD i2,Ac bD i3,Ac bD acc⟩
   have ED:Hid (J7 w U8.drew B M top v p (c+co) (n+1) ⟨vc,vk',.slice (some ⟨gf,0,none⟩) (top+1) c3⟩ C K F (F.set top ({fg with at_:=fg.at_+1},vl)) (.slice (some ⟨gH,0,none⟩) p.funcs.length ch) gH qf gf Y Z x):=EC.out.keep bD
   clear y0 y1 i0 i1 i2 i3 acc EC
   have HC:Hid (Calls Tryz.prog (GS kk) #[.pointer (some ⟨M,0,none⟩),.agg #[.pointer (some ⟨gH,qf*9,none⟩),.pointer (some ⟨gf,top*4,none⟩)],.agg #[.int .i64 (kk:Int),.int .i64 x.a,.int .i64 x.b,.int .i64 x.c]] U8.drew (Hg U8.drew B M 0 (c+co) (n+1) (.slice (some ⟨gH,0,none⟩) p.funcs.length ch) ⟨vc,vk',.slice (some ⟨gf,0,none⟩) (top+1) c3⟩ C (F.set top ({fg with at_:=fg.at_+1},vl)) (CF p f fg (Ao 0 false (c+co) (n+1) C K F) x))):=by
    have hkk:=HKK.out
    have hU:B<=U8.drew.heap.size:=Nat.le_trans hB ED.out.chg.size
    show Calls _ _ _ _ _
    rw[<-hkk]
    rcases(show x.op<28\/x.op=28\/x.op=29 by omega)with hop|hop|hop
    ·obtain⟨K1,ar,hKe,hal,hfit,hgd⟩:=Jd (by omega) H.out.2.2.2.2.2.1 hbK HTR.out
     obtain⟨g3,tp3,tc3,hRF,hg0,hg1,hg2,hg3,hg4,hg5,hg6,hg7,hg8,hgt⟩:=ED.out.hd.at2 HF.out.2.2.1
     have own:=ED.out.own
     rw[hKe]at own
     have hK2:=hK
     rw[hKe,List.length_append]at hK2
     have hdk:Dp p f fg x C ar:=⟨H.out.1.prog,HIN.out,by have:=H.out.1.three;simpa[Ao]using this,fun i r rt hr hrt=>(H.out.1.cells i r.2 rt (by simp only[Ao,List.getElem?_map,hr,Option.map_some]) hrt).1,HF.out.2.2.2.2.1.1,(H.out.2.1.frames fg (List.mem_map_of_mem (f:=Prod.fst) (mG H.out.2.2.2.2.1))).locals,fun z hz=>H.out.2.1.stack z (by show z∈K;rw[hKe];exact List.mem_append_right _ hz),hal⟩
     have h9:=OP v p f x B M top 0 (c+co) (n+1) ⟨vc,vk',.slice (some ⟨gf,0,none⟩) (top+1) c3⟩ C K1 ar F (.slice (some ⟨gH,0,none⟩) p.funcs.length ch) gH (qf*9) gf c3 (fg,vl) U8.drew hU own ED.out.mb HF.out.2.2.2.2.2.1 (by omega) H.out.2.2.2.2.1 rfl hdk hfit hgd hK2 HF.out.2.2.2.2.2.2 (HP.out U8.drew ED.out.low).consts H.out.2.2.1.consts hg1 kk hkk (by omega)
     rw[<-hKe]at h9
     exact h9
    ·obtain⟨q,fq,hq,hfq⟩:=HIN.out.callee hop
     have hfql:=(gI.1 hfq).1
     obtain⟨g5,tp5,tc5,hRF5,-,-,-,-,hp5,-,-,-,ht5,hr5⟩:=ED.out.hd.at2 hfq
     obtain⟨pp,pc,ep⟩:=(hRF5 U8.drew (Below.refl B U8.drew)).1.is_slice
     rw[ep]at hp5
     obtain⟨K1,ar,hKe,hal,hfit,hgd⟩:=Jd (by omega) H.out.2.2.2.2.2.1 hbK HTR.out
     have own:=ED.out.own
     rw[hKe]at own
     have hK2:=hK
     rw[hKe,List.length_append]at hK2
     have hnz:(fq.params++fq.locals).length<=1048576:=by
      have h4:BO fq:=H.out.1.prog.parts.2.2.1.2.2.1 q hfql fq hfq
      have:=h4.loc
      rw[List.length_append]
      omega
     have h9:=PN p f fq x B M top (c+co) (n+1) ⟨vc,vk',.slice (some ⟨gf,0,none⟩) (top+1) c3⟩ C K1 ar F (.slice (some ⟨gH,0,none⟩) p.funcs.length ch) gH (qf*9) gf c3 (fg,vl) U8.drew hU own ED.out.mb HF.out.2.2.2.2.2.1 (by omega) H.out.2.2.2.2.1 rfl hop hK2 hal q gH p.funcs.length ch (fq.params++fq.locals).length hq hfq rfl hfql hnf rfl pp tp5 pc tc5 hp5 ht5 hr5 hnz
     rw[<-hKe]at h9
     have hk28:kk=28:=by omega
     subst hk28
     exact h9
    ·have h9:=PZ p f x B M top (c+co) (n+1) ⟨vc,vk',.slice (some ⟨gf,0,none⟩) (top+1) c3⟩ C K F (.slice (some ⟨gH,0,none⟩) p.funcs.length ch) gH (qf*9) gf c3 (fg,vl) U8.drew hU ED.out.own ED.out.mb HF.out.2.2.2.2.2.1 (by omega) H.out.2.2.2.2.1 rfl hop
     have hk29:kk=29:=by omega
     subst hk29
     exact h9
   refine wp_region_held_drew (S:=fun w'=>w'.cell? ⟨Y,0,none⟩=some (.pointer (some ⟨gH,qf*9,none⟩))/\w'.cell? ⟨Y,1,none⟩=some (.pointer (some ⟨gf,top*4,none⟩))/\w'.cell? ⟨Z,0,none⟩=some (.int .i64 (kk:Int))/\w'.cell? ⟨Z,1,none⟩=some (.int .i64 x.a)/\w'.cell? ⟨Z,2,none⟩=some (.int .i64 x.b)/\w'.cell? ⟨Z,3,none⟩=some (.int .i64 x.c)/\w'.cell? ⟨M,128+kk,none⟩=some (.func (.func (GS kk)) #[.pointer (some ⟨M,0,none⟩)] #[])) (by kernel_rfl) KD (fun hHeld=> ?_)
   refine wpAnyH_take (i:=0) (v:= ?_) rfl (by kernel_rfl) (by kernel_rfl) (by kernel_rfl) (fun _ _ _ h=>h) (Or.inl ⟨by rfl,?_⟩) (by assumption) ?_
   rotate_left
   ·(intro w hSw;(try dsimp only at hSw);go_simp;(try with_reducible rfl))
   refine wpAnyH_take (i:=1) (v:= ?_) rfl (by kernel_rfl) (by kernel_rfl) (by kernel_rfl) (fun _ _ _ h=>h) (Or.inl ⟨by rfl,?_⟩) (by assumption) ?_
   rotate_left
   ·(intro w hSw;(try dsimp only at hSw);go_simp;(try with_reducible rfl))
   refine wpAnyH_take (i:=2) (v:= ?_) rfl (by kernel_rfl) (by kernel_rfl) (by kernel_rfl) (fun _ _ _ h=>h) (Or.inl ⟨by rfl,?_⟩) (by assumption) ?_
   rotate_left
   ·(intro w hSw;(try dsimp only at hSw);go_simp;(try with_reducible rfl))
   refine wpAnyH_take (i:=3) (v:= ?_) rfl (by kernel_rfl) (by kernel_rfl) (by kernel_rfl) (fun _ _ _ h=>h) (Or.inl ⟨by rfl,?_⟩) (by assumption) ?_
   rotate_left
   ·(intro w hSw;(try dsimp only at hSw);go_simp;(try with_reducible rfl))
   refine wpAnyH_take (i:=4) (v:= ?_) rfl (by kernel_rfl) (by kernel_rfl) (by kernel_rfl) (fun _ _ _ h=>h) (Or.inl ⟨by rfl,?_⟩) (by assumption) ?_
   rotate_left
   ·(intro w hSw;(try dsimp only at hSw);go_simp;(try with_reducible rfl))
   refine wpAnyH_take (i:=5) (v:= ?_) rfl (by kernel_rfl) (by kernel_rfl) (by kernel_rfl) (fun _ _ _ h=>h) (Or.inl ⟨by rfl,?_⟩) (by assumption) ?_
   rotate_left
   ·(intro w hSw;(try dsimp only at hSw);go_simp;(try with_reducible rfl))
   refine wpAnyH_take (i:=6) (v:= ?_) rfl (by kernel_rfl) (by kernel_rfl) (by kernel_rfl) (fun _ _ _ h=>h) (Or.inl ⟨by rfl,?_⟩) (by assumption) ?_
   rotate_left
   ·(intro w hSw;(try dsimp only at hSw);go_simp;(try with_reducible rfl))
   refine wpAnyH_take (i:=7) (v:= ?_) rfl (by kernel_rfl) (by kernel_rfl) (by kernel_rfl) (fun _ _ _ h=>h) (Or.inl ⟨by rfl,?_⟩) (by assumption) ?_
   rotate_left
   ·(intro w hSw;(try dsimp only at hSw);go_simp;(try with_reducible rfl))
   refine wpAnyH_take (i:=8) (v:= ?_) rfl (by kernel_rfl) (by kernel_rfl) (by kernel_rfl) (fun _ _ _ h=>h) (Or.inl ⟨by rfl,?_⟩) (by assumption) ?_
   rotate_left
   ·(intro w hSw;(try dsimp only at hSw);go_simp;(try with_reducible rfl))
   refine wpAnyH_ready (rs:=[9]) (by kernel_rfl) (by simp) ?_
   refine AllReadyH.cons rfl (fun KC hKC=> ?_) AllReadyH.nil
   go_simp
   rw[JI kk hk30]
   refine HC.out.mono ?_
   rintro e u9 ⟨d2,C2,K2,F2,⟨rfl,X2,mb2,own2,chg2⟩,heq⟩
   have HJ:Hid (Bk p (Ao 0 false c n C K F) (Ao 0 d2 (c+co) (n+1) C2 K2 F2)):=Gu HF.out.1 HF.out.2.1 HX.out.2 HX.out.1 HCO.out HTR.out heq
   have KW:u9.cell? ⟨Y,0,none⟩=some (.pointer (some ⟨gH,qf*9,none⟩))/\u9.cell? ⟨Y,1,none⟩=some (.pointer (some ⟨gf,top*4,none⟩))/\u9.cell? ⟨Z,0,none⟩=some (.int .i64 (kk:Int))/\u9.cell? ⟨Z,1,none⟩=some (.int .i64 x.a)/\u9.cell? ⟨Z,2,none⟩=some (.int .i64 x.b)/\u9.cell? ⟨Z,3,none⟩=some (.int .i64 x.c)/\u9.cell? ⟨M,128+kk,none⟩=some (.func (.func (GS kk)) #[.pointer (some ⟨M,0,none⟩)] #[]):=by
    obtain⟨h1,h2⟩:=ED.out.late chg2
    have h3:=h2.cell 0
    simp only[gA,gZ]at h3
    rw[HKK.out]at h3
    exact⟨h1.cell 0,h1.cell 1,h3,h2.cell 1,h2.cell 2,h2.cell 3,mb2.act kk hk30⟩
   have HZ:Hid (Nm w B M p (Ao 0 false c n C K F) (.slice (some ⟨gH,0,none⟩) p.funcs.length ch) ⟨vc,vk',.slice (some ⟨gf,0,none⟩) (top+1) c3⟩ C F (.returned (.tuple #[])) u9):=⟨rfl,0,d2,c+co,n+1,X2,C2,K2,F2,mb2,own2,HJ.out,ED.out.chg.trans chg2 (fun k hk e=>e.imp_right (fun h=>h.at_ H.out.2.2.2.2.1))⟩
   clear heq mb2 own2 chg2 KD HC HJ
   refine hKC.out _ _ KW (fun hHeld=> ?_)
   clear hKC KC
   refine wpAnyH_done (by kernel_rfl) ?_ _
   go_wp2_with fail
   exact bodyPost_end (v:=.tuple #[]) (by kernel_rfl) rfl HZ.out
  ·have htb:(tr==0)=false:=by simpa using ht0
   have HJ:Hid (Bk p (Ao 0 false c n C K F) (Ao tr false (c+co) (n+1) C K F)):=Eg HF.out.1 HF.out.2.1 HX.out.2 HX.out.1 HCO.out HTR.out ht0
   clear ht0
   go_wp2_with fail
   exact bodyPost_end (v:=.tuple #[]) (by kernel_rfl) rfl ⟨rfl,tr,false,c+co,n+1,_,C,K,F,EA.out.1.mb,EA.out.1.own,HJ.out,EA.out.1.chg⟩
 ·have hdi:decide (0<=fg.at_/\fg.at_<(f.code.length:Int))=false:=decide_eq_false hat
  have HJ:Hid (Bk p (Ao 0 false c n C K F) (Ao 4 false c n C K F)):=.jump HF.out.1 HF.out.2.1 (by omega)
  have inst:=Aj.some U
  have J0:=fun n:Aj U=>Aj.cell y0 n
  have J1:=fun n:Aj U=>Aj.cell y1 n
  have J2:=fun n:Aj U=>Aj.cell fc1 n
  have J3:=fun n:Aj U=>Aj.cell hg7 n
  go_wp2_with fail
  refine Am (by kernel_rfl) (by kernel_rfl) ?_
  repeat(go_big_quiet_step ((go_at_call 99;rename_i n';exact(AM fg.at_ (f.code.length:Int) n'.u).mono fun e w'' h=>⟨by rw[h.1,hdi],⟨n',h.2⟩⟩)))
  refine wpQuiet_nil ?_
  rintro w'' ⟨n',rfl⟩
  have E2:Hid (DL w n'.u B M top v p 0 c n ⟨vc,vk',.slice (some ⟨gf,0,none⟩) (top+1) c3⟩ C K F (.slice (some ⟨gH,0,none⟩) p.funcs.length ch) gH qf gf Y):=E1.out.keep n'.h
  clear J0 J1 J2 J3 inst y0 y1 fc1 hg7 eg3 hRF E1
  have m0:=E2.out.mb.at.1
  have z0:=E2.out.mb.frozen 0
  go_wp2_with fail
  exact bodyPost_ret (v:=.tuple #[]) (by kernel_rfl) rfl ⟨rfl,4,false,c,n,_,C,K,F,E2.out.mb.setT 4,Fc E2.out.own E2.out.mb,HJ.out,E2.out.chg.setCell (.inl (.inl rfl)) _⟩
end Go.Proofs.YtlejplpkomddeaaGreat
