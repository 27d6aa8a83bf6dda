import Derived.Test.YtlejplpkomddeaaGreatG0
import Derived.Test.YtlejplpkomddeaaGreatG10
namespace Go.Proofs.YtlejplpkomddeaaGreat
open Go.ChangeShapes Go.WideShapes Go.ChangeAt Go.RowKit
set_option linter.unusedVariables false
set_option maxHeartbeats 2000000
set_option maxRecDepth 100000
def Bh(x:Value×List MC):List Value:=[x.1]
theorem Db(x:Value×List MC):(Bh x).length=1:=rfl
theorem Fi(k:Int)(L:List (Value×List MC)):(AU k L).flatMap Bh=L.flatMap Bh:=by
 induction L generalizing k with
 |nil=>rfl
 |cons x r ih=>simp[AU,Bh,ih]
theorem Ho(base:Nat)(s:Value)(A L B:List (Value×List MC))(k0:Int)(w:World)(hB:base<=w.heap.size)(hn:L.length<=1048576)(hr:∀x∈L,x.2.length<=1048576)(h0:0<=k0)(h1:k0<=281474976710656)(h:w.ownsRow base 36 1 s L.length (L.flatMap Bh))(hf:Et w base (A++L++B)):
  Calls Tryz.prog 56 #[s,.int .i64 k0] w fun e w'=>e=.returned (.int .i64 (Ct k0 L))/\Et w' base (A++AU k0 L++B)/\Wv base w w':=by
 have H:Hid (w.ownsRow base 36 1 s L.length (L.flatMap Bh)/\(∀x∈L,x.2.length<=1048576)):=⟨h,hr⟩
 have HF0:Hid (Et w base (A++L++B)):=hf;obtain⟨a1,c1,rfl⟩:=An h;clear h hr hf;generalize hLL:L.length=n at hn H;have HL:Hid (L.length=n):=hLL;clear hLL;go_enter Tryz.func56,Tryz.ntmps56;go_wp2
 go_loopw [1,5] (fun q i wr=>∃D E:List (Value×List MC),Hid (L=D++E)/\D.length<=n/\q=.int .i64 (Ct k0 D)/\i=.int .i64 (D.length:Nat)/\Hid (Et wr base (A++AU k0 D++(E++B))/\Wv base w wr)) (fun _ i _=>n-(intOf i).toNat)
 case atStart=>exact⟨[],L,rfl,by simp,rfl,rfl,⟨by simpa[AU]using HF0.out,Wv.refl _ _⟩⟩
 case round=>
  obtain⟨D,E,HD,hk,rfl,rfl,HM⟩:=hrel;have hlen:D.length+E.length=n:=by have:=HL.out;rw[HD.out,List.length_append]at this;exact this
  have hend:=Gh k0 D (fun x hx=>H.out.2 x (by rw[HD.out];simp[hx]));cases E with
  | cons x E'=>
   obtain⟨v,c⟩:=x;have hx:L[D.length]?=some (v,c):=by rw[HD.out];simp
   have hlt:D.length<n:=by simp only[List.length_cons]at hlen;omega
   have hcl:c.length<=1048576:=H.out.2 (v,c) (mG hx);have hrow:=HM.out.2.own H.out.1 (by decide);have hov:=HM.out.1.own (v,c) (by simp);simp only[]at hov;rcases(Rd.of_own hrow).2 with⟨e0,_⟩|⟨g,o,cc,e1,hc1⟩
   ·omega
   simp only[sJ,true_and]at e1;obtain⟨rfl,rfl⟩:=e1;have j0:=Rd.elem Db hc1 D.length _ hx 0 _ rfl;rw[Nat.mul_one,Nat.add_zero]at j0;simp only[]at j0;have HO:Hid (wr.ownsRow base 128 2 v c.length (c.flatMap MC.cells)):=hov;clear hrow hc1 hx hov;have hdl:(D.length:Int)<(n:Int):=by omega
   go_wp2_with fail
   refine(Ed base v c (Ct k0 D) _ hcl (by omega) (by omega) HO.out).mono ?_;rintro e u ⟨rfl,ho',hg⟩
   have HN:Hid (Et u base (A++AU k0 (D++[(v,c)])++(E'++B))/\Wv base w u):=by
    refine⟨?_,HM.out.2.trans (Wv.of_row HO.out hg (Nat.le_trans hB HM.out.2.bel.size))⟩;have hf:=HM.out.1;rw[List.cons_append]at hf;have:=Et.put (c':=Ba (Ct k0 D) c.length) hf (BI _ _) ho' hg;rw[FE];simpa[List.append_assoc]using this
   have hes:Ct k0 (D++[(v,c)])=Ct k0 D+2*(c.length:Int):=ID k0 D (v,c);clear ho' hg j0;go_wp2
   go_roundw
   case rel=>exact⟨D++[(v,c)],E',by show _=_;rw[HD.out];simp,by simp;omega,by rw[hes],by simp,HN⟩
   case measure=>simp[intOf];omega
  |nil=>
   have hDn:D.length=n:=by simpa using hlen
   have hDL:D=L:=by rw[HD.out];simp
   subst hDL;have HE:Hid (Et wr base (A++AU k0 D++B)/\Wv base w wr):=⟨by simpa using HM.out.1,HM.out.2⟩
   go_wp2
   go_ret
   exact⟨rfl,HE.out.1,HE.out.2⟩
theorem GU(s:Value)(L:List (Value×List MC))(k0:Int)(w:World)(hn:L.length<=1048576)(hr:∀x∈L,x.2.length<=1048576)(h0:0<=k0)(h1:k0<=281474976710656)(h:Rd w 1 s L.length (L.flatMap Bh))(hf:∀x∈AU k0 L,Rd w 2 x.1 x.2.length (x.2.flatMap MC.cells)):
  Calls Tryz.prog 59 #[s,.int .i64 k0] w fun e w'=>e=.returned (.int .i64 (Ct k0 L))/\w'=w:=by
 have H:=h3 h hr hf;obtain⟨a1,c1,rfl⟩:=h.is_slice;clear h hr hf;generalize hLL:L.length=n at hn H;have HL:Hid (L.length=n):=hLL;clear hLL;go_enter Tryz.func59,Tryz.ntmps59;go_wp2
 go_loopw [1,5] (fun q i wr=>∃D E:List (Value×List MC),Hid (L=D++E)/\D.length<=n/\q=.int .i64 (Ct k0 D)/\i=.int .i64 (D.length:Nat)/\wr=w) (fun _ i _=>n-(intOf i).toNat)
 case atStart=>exact⟨[],L,rfl,by simp,rfl,rfl,rfl⟩
 case round=>
  obtain⟨D,E,HD,hk,rfl,rfl,rfl⟩:=hrel;have hlen:D.length+E.length=n:=by have:=HL.out;rw[HD.out,List.length_append]at this;exact this
  have hend:=Gh k0 D (fun x hx=>H.out.2.1 x (by rw[HD.out];simp[hx]));cases E with
  | cons x E'=>
   obtain⟨v,c⟩:=x;have hx:L[D.length]?=some (v,c):=by rw[HD.out];simp
   have hlt:D.length<n:=by simp only[List.length_cons]at hlen;omega
   have hcl:c.length<=1048576:=H.out.2.1 (v,c) (mG hx)
   have hmem:(v,Ba (Ct k0 D) c.length)∈AU k0 L:=by
    have e2:L=(D++[(v,c)])++E':=by rw[HD.out];simp
    rw[e2,Ji,FE];simp
   have hov:=H.out.2.2 _ hmem;simp only[BI]at hov;rcases H.out.1.2 with⟨e0,_⟩|⟨g,o,cc,e1,hc1⟩
   ·omega
   simp only[sJ,true_and]at e1;obtain⟨rfl,rfl⟩:=e1;have j0:=Rd.elem Db hc1 D.length _ hx 0 _ rfl;rw[Nat.mul_one,Nat.add_zero]at j0;simp only[]at j0;have HO:=AM hov;clear hc1 hx hov hmem;have hdl:(D.length:Int)<(n:Int):=by omega
   have hes:Ct k0 (D++[(v,c)])=Ct k0 D+2*(c.length:Int):=ID k0 D (v,c);have hn0:¬Ct k0 D+2*(c.length:Int)<0:=by omega
   go_wp2_with fail
   refine(Ek v c.length (Ct k0 D) _ hcl (by omega) (by omega) HO.out).mono ?_;rintro e u ⟨rfl,rfl⟩;clear j0;go_wp2
   go_roundw
   case rel=>exact⟨D++[(v,c)],E',by show _=_;rw[HD.out];simp,by simp;omega,by rw[hes],by simp,by trivial⟩
   case measure=>simp[intOf];omega
  |nil=>
   have hDn:D.length=n:=by simpa using hlen
   have hDL:D=L:=by rw[HD.out];simp
   subst hDL;go_wp2
   go_ret
   exact⟨rfl,rfl⟩
end Go.Proofs.YtlejplpkomddeaaGreat
