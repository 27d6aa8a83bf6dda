import Derived.Test.YtjcamlobelcepaaGreatDoorCt27
import Derived.LaidEql
import Derived.Stop.Asserts
import Derived.RowKitTokens
namespace Go.Proofs.YtjcamlobelcepaaGreatDoor
open Go.ChangeShapes Go.WideShapes Go.ChangeAt Go.RowKit
set_option linter.unusedVariables false
set_option maxHeartbeats 4000000
set_option maxRecDepth 100000
def NH(y:ML×Value×Value):Prop:=(∃a c,y.2.1=.slice a y.1.back.length c)/\∃a c,y.2.2=.slice a y.1.blocks.length c
theorem Ni{ys:List (ML×Value×Value)}(h:∀y∈ys,NH y):∀u∈ys.flatMap Cm,u.oneCell'=true:=by
 intro u hu;obtain⟨y,hy,hu⟩:=cG.1 hu;obtain⟨⟨a,c,e1⟩,a',c',e2⟩:=h y hy;simp only[Cm,bG,bY,cZ]at hu;rcases hu with rfl|rfl|rfl
 . rfl
 . rw[e1];rfl
 . rw[e2];rfl
theorem Pv(ty:TypeId)(u:World)(B':Nat)(V:Value)(ys:List (ML×Value×Value))(h:Rd u 3 V ys.length (ys.flatMap Cm))(hS:∀y∈ys,NH y)(hB:B'<=u.heap.size)(hl:ys.length<=1048576):∃v' w',(Builtin.append_ #[161,161] ty #[.slice (some ⟨u.heap.size,0,none⟩) 0 0,V]).run Tryz.prog (u.alloc (.cells #[] 171))=.ok v' w'/\w'.ownsRow B' 171 3 v' ys.length (ys.flatMap Cm)/\Below u.heap.size u w':=by
 obtain⟨i0,hi,hz0,hz1,hz2⟩:=bJ QK;have ho:(u.alloc (.cells #[] 171)).ownsRow u.heap.size 171 3 (.slice (some ⟨u.heap.size,0,none⟩) 0 0) 0 []:=⟨rfl,.inr ⟨u.heap.size,0,#[],rfl,Nat.le_refl _,dB _ _,Nat.le_refl _,cU _,rfl,by simp⟩⟩;obtain⟨a,c,rfl⟩:=Rd.is_slice h;cases a with
 | none=>
   have hz:ys.length=0:=by
    rcases h.2 with⟨e0,_⟩|⟨g,o,c,e1,_⟩
    . exact e0
    . cases e1
   have h0:ys=[]:=bx hz;subst h0;exact⟨_,_,Es (P:=Tryz.prog) u.heap.size 161 ty 171 i0 3 Tryz.underlying161 hi _ _ _ ho c,CA ho hB,Aa _ _⟩
 | some ad=>
   have hN:∀j v,(ys.flatMap Cm)[j]?=some v->(u.alloc (.cells #[] 171)).cell? (ad.add j)=some v:=fun j v hj=>by
    rcases h.2 with⟨e0,_⟩|⟨g,o,c,e1,hc⟩
    . have:ys=[]:=bx e0
      subst this;simp at hj
    . simp only[aI,aM]at e1
      obtain⟨rfl,_⟩:=e1;have:=hc j v hj;rw[Ds,(Aa u (.cells #[] 171)).cell (aD this)];exact this
   obtain⟨v',w',hr,h2,h3,h4⟩:=run_append_own (P:=Tryz.prog) (u.alloc (.cells #[] 171)) u.heap.size 161 ty 171 i0 (.agg #[.int .i64 0,.slice none 0 0,.slice none 0 0]) 3 56 Tryz.underlying161 hi hz0 hz1 hz2 rfl (by decide) _ 0 [] ho ad ys.length c (ys.flatMap Cm) (by rw[Aq Cm 3 Cn]) hN (Ni hS) (by unfold maxLen;omega) (by omega) (Aa _ _).size;have h5:w'.ownsRow u.heap.size 171 3 v' ys.length (ys.flatMap Cm):=by simpa using h2
   exact⟨_,w',hr,CA h5 hB,(Aa u (.cells #[] 171)).grown h3 (Aa _ _).size (fun j hj=>(ho.lt j hj).1)⟩
theorem L8{ops:Array Oper}{rest:List Oper}{o:Oper}{a:Act}{Q:Exit->Act->World->Prop}(hgd:o.guard=none)(s x:Operand)(ho:o.op=.call {callee:=.builtin .append,args:=#[s,x],argTypes:=#[161,161]})(u:World)(B':Nat)(V:Value)(ys:List (ML×Value×Value))(hs:a.eval s=.slice (some ⟨u.heap.size,0,none⟩) 0 0)(hx:a.eval x=V)(h:Rd u 3 V ys.length (ys.flatMap Cm))(hS:∀y∈ys,NH y)(hB:B'<=u.heap.size)(hl:ys.length<=1048576)(hK:∀v' w',w'.ownsRow B' 171 3 v' ys.length (ys.flatMap Cm)->Below u.heap.size u w'->wpList Tryz.prog ops Q rest (a.put o.dst v') w'):wpList Tryz.prog ops Q (o::rest) a (u.alloc (.cells #[] 171)):=
 wpList_plain hgd fun _ hK'=>by
  obtain⟨v',w',hr,h1,h2⟩:=Pv o.type u B' V ys h hS hB hl;exact Lib.wp_append_run _ s x 161 161 ho _ _ hs hx v' w' hr (hK' _ _ (hK v' w' h1 h2))
structure GT(w u:World)(V:Value)(n:Nat)(ys zs:List (ML×Value×Value)):Prop where
 own:u.ownsRow w.heap.size 171 3 V n (zs.flatMap Cm)
 len:zs.length=n
 sub:∀z∈zs,z∈ys
 bel:Below w.heap.size w u
theorem GT.at_{w u:World}{g n c:Nat}{ys zs:List (ML×Value×Value)}(h:GT w u (.slice (some ⟨g,0,none⟩) n c) n ys zs)(hS:∀y∈ys,NH y){k:Nat}(hk:k<n):∃z a b d e,zs[k]?=some z/\z∈ys/\z.2.1=.slice a z.1.back.length b/\z.2.2=.slice d z.1.blocks.length e/\u.cell? ⟨g,k*3,none⟩=some (.int .i64 z.1.head)/\u.cell? ⟨g,k*3+1,none⟩=some (.slice a z.1.back.length b)/\u.cell? ⟨g,k*3+2,none⟩=some (.slice d z.1.blocks.length e):=by
 have hk':k<zs.length:=by rw[h.len];exact hk
 have hz:zs[k]?=some zs[k]:=aA hk';have hm:=h.sub _ (be hk');obtain⟨⟨a,b,e1⟩,d,e,e2⟩:=hS _ hm;rcases(Rd.of_own h.own).2 with⟨e0,_⟩|⟨g',o',c',e0,hc⟩
 . omega
 . simp only[aI,aM,cN,ao,cj]at e0
   obtain⟨⟨rfl,rfl⟩,rfl⟩:=e0;have q0:=Rd.elem Cn hc k _ hz 0 _ rfl;have q1:=Rd.elem Cn hc k _ hz 1 _ rfl;have q2:=Rd.elem Cn hc k _ hz 2 _ rfl;rw[e1]at q1;rw[e2]at q2;simp only[bV,aT]at q0 q1 q2;exact⟨_,a,b,d,e,hz,hm,e1,e2,q0,q1,q2⟩
theorem GT.keep{w u u':World}{V:Value}{n:Nat}{ys zs:List (ML×Value×Value)}(h:GT w u V n ys zs)(hb:Below u.heap.size u u'):GT w u' V n ys zs:=⟨Ah h.own hb lR,h.len,h.sub,Ab h.bel lR hb⟩
theorem Sd{zs:List (ML×Value×Value)}{k:Nat}{z:ML×Value×Value}:(((zs.flatMap Cm).set (k*3) (.int .i64 z.1.head)).set (k*3+1) z.2.1).set (k*3+2) z.2.2=(zs.set k z).flatMap Cm:=by
 induction zs generalizing k with
 |nil=>rfl
 | cons y r ih=>
   cases k with
   |zero=>rfl
   | succ k=>
     rw[aw,am,am,<-ih,show(k+1)*3=k*3+1+1+1 by omega];rfl
theorem GT.put3{w U:World}{g n c k:Nat}{ys zs:List (ML×Value×Value)}(h:GT w U (.slice (some ⟨g,0,none⟩) n c) n ys zs){z:ML×Value×Value}(hz:z∈ys){v1 v2:Value}(h1:z.2.1=v1)(h2:z.2.2=v2):GT w (((U.setCell ⟨g,k*3,none⟩ (.int .i64 z.1.head)).setCell ⟨g,k*3+1,none⟩ v1).setCell ⟨g,k*3+2,none⟩ v2) (.slice (some ⟨g,0,none⟩) n c) n ys (zs.set k z):=by
 subst h1 h2;have hg:=(AF h.own).1;have s1:=(cP h.own (k*3) (.int .i64 z.1.head)).1;have s2:=(cP s1 (k*3+1) z.2.1).1;have s3:=(cP s2 (k*3+2) z.2.2).1;rw[Sd]at s3;refine⟨s3,by rw[cg];exact h.len,fun y hy=> ?_,((h.bel.setCell hg _).setCell hg _).setCell hg _⟩;rcases dR hy with e|e
 . exact h.sub y e
 . subst e
   exact hz
theorem GT.cells2{w U:World}{g n c q r:Nat}{ys zs:List (ML×Value×Value)}(h:GT w U (.slice (some ⟨g,0,none⟩) n c) n ys zs)(hS:∀y∈ys,NH y)(hq:q<n)(hr:r<n){z1 z2:ML×Value×Value}{a1 a2 d1 d2:Option Addr}{b1 b2 e1 e2:Nat}(hz1:zs[q]?=some z1)(hz2:zs[r]?=some z2)(f1:z1.2.1=.slice a1 z1.1.back.length b1)(f2:z1.2.2=.slice d1 z1.1.blocks.length e1)(f3:z2.2.1=.slice a2 z2.1.back.length b2)(f4:z2.2.2=.slice d2 z2.1.blocks.length e2):U.cell? ⟨g,q*3,none⟩=some (.int .i64 z1.1.head)/\U.cell? ⟨g,q*3+1,none⟩=some (.slice a1 z1.1.back.length b1)/\U.cell? ⟨g,q*3+2,none⟩=some (.slice d1 z1.1.blocks.length e1)/\U.cell? ⟨g,r*3,none⟩=some (.int .i64 z2.1.head)/\U.cell? ⟨g,r*3+1,none⟩=some (.slice a2 z2.1.back.length b2)/\U.cell? ⟨g,r*3+2,none⟩=some (.slice d2 z2.1.blocks.length e2):=by
 obtain⟨y1,_,_,_,_,k1,_,k2,k3,k4,k5,k6⟩:=h.at_ hS hq;obtain⟨y2,_,_,_,_,l1,_,l2,l3,l4,l5,l6⟩:=h.at_ hS hr;rw[hz1]at k1;rw[hz2]at l1;cases k1
 cases l1
 rw[f1]at k2;rw[f2]at k3;rw[f3]at l2;rw[f4]at l3;cases k2
 cases k3
 cases l2
 cases l3
 exact⟨k4,k5,k6,l4,l5,l6⟩
theorem Nb(s:Value)(n:Nat)(ys:List (ML×Value×Value))(w:World)(hN:ys.length=n)(hn:n<=1048576)(h:Rd w 3 s n (ys.flatMap Cm))(hS:∀y∈ys,NH y):
 Calls Tryz.prog 137 #[s] w fun e w'=>∃V zs,e=.returned V/\GT w w' V n ys zs:=by
 obtain⟨a1,c1,e1⟩:=Rd.is_slice h;subst e1;have H:=Af (aG h hS);have HN:=Af hN;go_enter Tryz.func137,Tryz.ntmps137;go_wp2_with (at_builtin;refine L8 rfl (.tmp 7) (.tmp 8) rfl w w.heap.size (.slice a1 n c1) ys rfl rfl (by rw[HN.o];exact H.o.1) H.o.2 lR (by rw[HN.o];exact hn) ?_;intro V w3 hown hb3);have E0:Hid (GT w w3 V n ys ys):=⟨by rw[<-HN.o];exact hown,HN.o,fun z hz=>hz,hb3⟩;rcases Ci E0.o.own with⟨rfl,hz⟩|⟨g,c,rfl⟩
 . subst hz
   go_wp2_with fail
   go_loopw [4,5,6] (fun i _ _ wr=>i=.int .i64 0/\wr=w3) (fun _ _ _ _=>0)
   case atStart=>exact⟨rfl,rfl⟩
   case round=>
    obtain⟨rfl,rfl⟩:=hrel;go_wp2_with fail
    go_ret
    exact⟨.slice none 0 0,_,rfl,E0.o⟩
 . go_wp2_with fail
   go_loopw [4,5,6] (fun i _ _ wr=>∃(m:Nat) (zs:List (ML×Value×Value)),m<=n/\i=.int .i64 m/\Hid (GT w wr (.slice (some ⟨g,0,none⟩) n c) n ys zs)) (fun i _ _ _=>n-(intOf i).toNat)
   case atStart=>exact⟨0,_,by omega,rfl,E0⟩
   case round=>
    obtain⟨m,zs,hm,rfl,E0⟩:=hrel;by_cases hlt:m<n
    case neg=>
     go_wp2_with fail
     go_ret
     exact⟨.slice (some ⟨g,0,none⟩) n c,_,rfl,E0.o⟩
    have hltI:(m:Int)<(n:Int):=by omega
    go_wp2_with fail
    go_loopw [5,6] (fun k _ wr=>∃(q:Nat) (zs:List (ML×Value×Value)),q<n/\k=.int .i64 q/\Hid (GT w wr (.slice (some ⟨g,0,none⟩) n c) n ys zs)) (fun k _ _=>(intOf k).toNat)
    case atStart=>exact⟨n-1,zs,by omega,by go_num,E0⟩
    case round=>
     obtain⟨q,zs,hq,rfl,E0⟩:=hrel;by_cases hgt:m<q
     case neg=>
      go_wp2_with fail
      go_roundw
      case rel=>exact⟨m+1,zs,by omega,by go_num,E0⟩
      case measure=>simp[intOf];omega
     have hgtI:(q:Int)>(m:Int):=by omega
     have hqI:(q:Int)<(n:Int):=by omega
     obtain⟨r,hr⟩:∃r,q=r+1:=⟨q-1,by omega⟩;have HQ:=Af hr;obtain⟨z1,a1,b1,d1,e1,hz1,hm1,f1,f2,p0,p1,p2⟩:=E0.o.at_ H.o.2 hq;obtain⟨z2,a2,b2,d2,e2,hz2,hm2,f3,f4,q0,q1,q2⟩:=E0.o.at_ H.o.2 (show r<n by have:=HQ.o;omega);have g6:(q:Int)-1=(r:Int):=by omega
     have g3:(0:Int)<=(r:Int):=by omega
     have g4:(r:Int)<(n:Int):=by omega
     clear hr;have g5:IntKind.i64.wrap (r:Int)=(r:Int):=cQ _ ⟨by omega,by omega⟩;go_upto_region 8 with fail
     have ED:Hid (GT w wr.drew (.slice (some ⟨g,0,none⟩) n c) n ys zs):=⟨Ah E0.o.own (Ae _) lR,E0.o.len,E0.o.sub,Ab E0.o.bel lR (Ae _)⟩;refine wp_region_held_drew (S:=fun W=>W.cell? ⟨g,q*3+2,none⟩=some (.slice d1 z1.1.blocks.length e1)/\W.cell? ⟨g,r*3+2,none⟩=some (.slice d2 z2.1.blocks.length e2)) (by kernel_rfl) (by exact⟨p2,q2⟩) (fun hHeld=> ?_)
     clear E0 p0 p1 p2 q0 q1 q2;generalize wr.drew=UD at ED hHeld⊢;refine Ar 0 ?_;refine Ar 1 ?_;refine Ar 2 ?_;refine Ar 3 ?_;refine Ar 4 ?_;refine Ar 5 ?_;refine Ar 6 ?_;refine Ar 7 ?_;refine Ar 8 ?_;refine Ar 9 ?_;refine Ar 10 ?_;refine Ar 11 ?_;refine Ar 12 ?_;refine Ar 13 ?_;refine wpAnyH_done (by kernel_rfl) ?_ _;go_simp;by_cases hls:z1.1.blocks.length<z2.1.blocks.length
     case neg=>
      rw[cI hls];go_wp2_with fail
      go_roundw
      case rel=>exact⟨r,zs,by have:=HQ.o;omega,by go_num,ED⟩
      case measure=>simp[intOf];have:=HQ.o;omega
     rw[decide_eq_true hls];have PC:Hid _:=ED.o.cells2 H.o.2 hq (show r<n by have:=HQ.o;omega) hz1 hz2 f1 f2 f3 f4;obtain⟨p0,p1,p2,q0,q1,q2⟩:=PC.o;go_upto_region 10 with fail
     have E6:Hid (GT w (UD.alloc (.cells #[.int .i64 z1.1.head,.slice a1 z1.1.back.length b1,.slice d1 z1.1.blocks.length e1] 171)) (.slice (some ⟨g,0,none⟩) n c) n ys zs/\Ap (UD.alloc (.cells #[.int .i64 z1.1.head,.slice a1 z1.1.back.length b1,.slice d1 z1.1.blocks.length e1] 171)) UD.heap.size #[.int .i64 z1.1.head,.slice a1 z1.1.back.length b1,.slice d1 z1.1.blocks.length e1] 171/\g≠UD.heap.size):=⟨ED.o.keep (Aa _ _),Ap.new _ _ _,fun e=>by obtain⟨_,_,h1⟩:=AF ED.o.own;have:=(an.1 h1).1;omega⟩
     generalize UD.heap.size=X at E6⊢;refine An (fun U=>Hid (GT w U (.slice (some ⟨g,0,none⟩) n c) n ys zs/\Ap U X #[.int .i64 z1.1.head,.slice a1 z1.1.back.length b1,.slice d1 z1.1.blocks.length e1] 171/\g≠X)) E6 ?_
     rintro U E6;have PC:Hid _:=E6.o.1.cells2 H.o.2 hq (show r<n by have:=HQ.o;omega) hz1 hz2 f1 f2 f3 f4;obtain⟨p0,p1,p2,q0,q1,q2⟩:=PC.o;have y0:=E6.o.1.own.frozenAt (q*3);have y1:=E6.o.1.own.frozenAt (q*3+1);have y2:=E6.o.1.own.frozenAt (q*3+2);go_upto_region 11 with fail
     have E7:Hid (GT w (((U.setCell ⟨g,q*3,none⟩ (.int .i64 z2.1.head)).setCell ⟨g,q*3+1,none⟩ (.slice a2 z2.1.back.length b2)).setCell ⟨g,q*3+2,none⟩ (.slice d2 z2.1.blocks.length e2)) (.slice (some ⟨g,0,none⟩) n c) n ys (zs.set q z2)/\Ap (((U.setCell ⟨g,q*3,none⟩ (.int .i64 z2.1.head)).setCell ⟨g,q*3+1,none⟩ (.slice a2 z2.1.back.length b2)).setCell ⟨g,q*3+2,none⟩ (.slice d2 z2.1.blocks.length e2)) X #[.int .i64 z1.1.head,.slice a1 z1.1.back.length b1,.slice d1 z1.1.blocks.length e1] 171):=⟨E6.o.1.put3 hm2 f3 f4,((E6.o.2.1.other (a:=⟨g,q*3,none⟩) (fun e=>E6.o.2.2 e.symm) _).other (a:=⟨g,q*3+1,none⟩) (fun e=>E6.o.2.2 e.symm) _).other (a:=⟨g,q*3+2,none⟩) (fun e=>E6.o.2.2 e.symm) _⟩
     refine An (fun U=>Hid (GT w U (.slice (some ⟨g,0,none⟩) n c) n ys (zs.set q z2)/\Ap U X #[.int .i64 z1.1.head,.slice a1 z1.1.back.length b1,.slice d1 z1.1.blocks.length e1] 171)) E7 ?_
     rintro U' E7;have x0:U'.cell? ⟨X,0,none⟩=some (.int .i64 z1.1.head):=by rw[E7.o.2.cell];rfl
     have x1:U'.cell? ⟨X,1,none⟩=some (.slice a1 z1.1.back.length b1):=by rw[E7.o.2.cell];rfl
     have x2:U'.cell? ⟨X,2,none⟩=some (.slice d1 z1.1.blocks.length e1):=by rw[E7.o.2.cell];rfl
     obtain⟨zz,_,_,_,_,_,_,_,_,k4,k5,k6⟩:=E7.o.1.at_ H.o.2 (show r<n by have:=HQ.o;omega);have y0:=E7.o.1.own.frozenAt (r*3);have y1:=E7.o.1.own.frozenAt (r*3+1);have y2:=E7.o.1.own.frozenAt (r*3+2);have E8:Hid (GT w (((U'.setCell ⟨g,r*3,none⟩ (.int .i64 z1.1.head)).setCell ⟨g,r*3+1,none⟩ (.slice a1 z1.1.back.length b1)).setCell ⟨g,r*3+2,none⟩ (.slice d1 z1.1.blocks.length e1)) (.slice (some ⟨g,0,none⟩) n c) n ys ((zs.set q z2).set r z1)):=E7.o.1.put3 hm1 f1 f2;go_wp2_with fail;go_roundw
     case rel=>exact⟨r,_,by have:=HQ.o;omega,by go_num,E8⟩
     case measure=>simp[intOf];have:=HQ.o;omega
def Uj:Value->Nat
 |.slice _ n _=>n
 |_=>0
def Hy(zs:List Int)(n:Nat):List Value:=(List.range n).map fun(i:Nat)=>Value.bool (zs.contains (i:Int))
theorem Ed(zs:List Int)(n:Nat):(Hy zs n).length=n:=by simp[Hy]
theorem Fh(zs:List Int)(n i:Nat)(h:i<n):(Hy zs n)[i]?=some (.bool (zs.contains (i:Int))):=by simp[Hy,h]
theorem Pw(n:Nat):List.replicate n (Value.bool false)=Hy [] n:=by
 apply cL;intro j;by_cases hj:j<n
 . rw[Fh _ _ _ hj]
   simp[hj]
 . rw[ae (by simp;omega),ae (by rw[Ed];omega)]
theorem Px(zs:List Int)(n i:Nat)(h:i<n):(Hy zs n).set i (.bool true)=Hy (zs++[(i:Int)]) n:=by
 apply cL;intro j;by_cases hj:j<n
 . rw[Fh _ _ _ hj]
   by_cases e:j=i
   . subst e
     rw[cR (by rw[Ed];exact h)];simp
   . rw[cJ (by omega),Fh _ _ _ hj]
     have:¬(j:Int)=(i:Int):=by omega
     simp[this]
 . rw[ae (by simp[Ed];omega),ae (by rw[Ed];omega)]
def Ji(zs:List Int)(code:List MI)(k:Nat):Bool:=(code.take k).all fun x=> !decide (x.op=28)||zs.contains x.a
theorem J9(fs:List MF)(zs:List Int)(i:Nat)(f:MF)(hf:fs[i]?=some f):Ey fs zs i=(!zs.contains (i:Int)&&Ji zs f.code f.code.length):=by
 unfold Ey Ji Jm;rw[hf,bg lR];congr 1
 simp only[List.all_map,List.all_filter,Function.comp_def]
theorem Lc(zs:List Int)(code:List MI)(k:Nat)(x:MI)(hx:code[k]?=some x):Ji zs code (k+1)=(Ji zs code k&&(!decide (x.op=28)||zs.contains x.a)):=by
 obtain⟨hlt,rfl⟩:=aE.1 hx;unfold Ji;rw[aj hlt,List.all_append];simp
theorem Om(zs:List Int)(code:List MI)(k:Nat)(h:Ji zs code k=false):Ji zs code code.length=false:=by
 unfold Ji at*;rw[bg lR];rw[List.all_eq_false]at*;obtain⟨x,hx,h2⟩:=h;exact⟨x,eJ hx,h2⟩
theorem Og(n:Nat):(madeCells (Value.bool false).cells (n*1)).toList=List.replicate n (.bool false):=by
 rw[EK (fun b:Bool=>[Value.bool b]) [.bool false] [] n (.bool false) 1 rfl rfl (by omega)];simp[CE,List.flatten_replicate_singleton]
structure CW(w u:World)(v:VP)(n bd:Nat)(V:Value)(zs:List Int):Prop where
 pb:DE u w.heap.size v.r v.k v.f v.t
 done:u.ownsRow w.heap.size 4 1 (.slice (some ⟨bd,0,none⟩) n n) n (Hy zs n)
 o:u.ownsRow (w.heap.size+1) 2 1 V zs.length (zs.flatMap Ac)
 bel:Below w.heap.size w u
theorem CW.keep{w u u':World}{v:VP}{n bd:Nat}{V:Value}{zs:List Int}(h:CW w u v n bd V zs)(hb:Below u.heap.size u u'):CW w u' v n bd V zs:=⟨h.pb.keep hb,Ah h.done hb lR,Ah h.o hb lR,Ab h.bel lR hb⟩
theorem J5{w:World}{base:Nat}{e:TypeId}{s:Value}{k n:Nat}{xs:List Value}(h:w.ownsRow base e k s n xs):∃a c,s=.slice a n c/\n<=c:=by
 rcases h.2 with⟨rfl,rfl⟩|⟨g,cap,cur,rfl,_,_,hc,_⟩
 . exact⟨_,_,rfl,Nat.le_refl _⟩
 . exact⟨_,_,rfl,hc⟩
theorem J6{w:World}{base:Nat}{e:TypeId}{s:Value}{k n:Nat}{xs:List Value}(h:w.ownsRow base e k s n xs):NI s:=by
 rcases h.2 with⟨rfl,rfl⟩|⟨g,cap,cur,rfl,_⟩
 . exact .inl rfl
 . exact .inr ⟨_,_,_,rfl⟩
theorem Ft.rdc{w:World}{base:Nat}{s:Value}{rs:List (List Int)}(h:Ft w base s rs):Jv w s rs:=by
 obtain⟨xs,h1,h2,h3⟩:=h;exact⟨xs,h1,Rd.of_own h2,fun x hx=>⟨Rd.of_own (h3 x hx),J5 (h3 x hx)⟩⟩
theorem Do.rdp{w:World}{base:Nat}{s:Value}{fs:List MF}(h:Do w base s fs):Lw w s fs:=by
 obtain⟨xs,h1,h2,h3⟩:=h;exact⟨xs,h1,Rd.of_own h2,fun x hx=>⟨(h3 x hx).rd,J6 (h3 x hx).1,J6 (h3 x hx).2.1⟩⟩
section
open Go.Extern.Stop Go.Stop Go.Extern
theorem SQ(t:Value)(w:World):Calls Tryz.prog 50 #[.nilIface,t] w fun e w'=>e=.returned (.bool false)/\w'=w:=by
 go_enter Tryz.func50,Tryz.ntmps50;go_wp2
 go_ret
 exact⟨rfl,rfl⟩
theorem Ro(t:Addr)(w:World):(ReflectliteValue.unpack (.iface 105 (.pointer (some t)))).run Tryz.prog w=.ok (.agg #[.pointer (some ⟨2,105,none⟩),.pointer (some ⟨w.heap.size,0,none⟩),.int .u64 150]) (w.alloc (.cells #[.pointer (some t)] 105)):=by kernel_rfl
theorem Ui(a:Addr)(w:World):(ReflectliteValue.methodAny (ReflectliteValue.valueError "reflectlite.Value.Type" 0) (fun t _ _ _=>ReflectliteType.toType t) #[.agg #[.pointer (some ⟨2,105,none⟩),.pointer (some a),.int .u64 150]]).run Tryz.prog w=.ok (.iface 191 (.agg #[.pointer (some ⟨2,105,none⟩)])) w:=by kernel_rfl
theorem Oj(h:Value)(w:World):(Go.method 372 191 (.agg #[h]) "Kind").run Tryz.prog w=.ok (181,h) w:=by kernel_rfl
theorem T4(w:World):((ReflectliteType.abiMethod fun t=>(fun a:Nat=>Value.int IntKind.u8 (a:Int))<$>Rtype.kind t) #[.pointer (some ⟨2,105,none⟩)]).run Tryz.prog w=.ok (.int .u8 22) w:=by kernel_rfl
theorem T3(w:World):((ReflectliteType.abiMethod fun t=>(fun a:Nat=>Value.int IntKind.u8 (a:Int))<$>Rtype.kind t) #[.pointer (some ⟨2,90,none⟩)]).run Tryz.prog w=.ok (.int .u8 6) w:=by kernel_rfl
theorem Q7(a:Addr)(w:World):(ReflectliteValue.parts (.agg #[.pointer (some ⟨2,105,none⟩),.pointer (some a),.int .u64 150])).run Tryz.prog w=.ok (some (105,a,150)) w:=by kernel_rfl
theorem S0(a p:Addr)(W:World)(ha:W.cell? a=some (.pointer (some p))):
 (ReflectliteValue.method (ReflectliteValue.valueError "reflectlite.Value.IsNil" 0) ReflectliteValue.isNil #[.agg #[.pointer (some ⟨2,105,none⟩),.pointer (some a),.int .u64 150]]).run Tryz.prog W=.ok (.bool false) W:=by
 change Sem.run Tryz.prog (ReflectliteValue.parts (.agg #[.pointer (some ⟨2,105,none⟩),.pointer (some a),.int .u64 150])>>=_) W=_;simp only[Sem.run_bind,Q7,Result.andThen];simp[ReflectliteValue.isNil,loadVar,isAgg,underlying,Tryz.underlying105,ha,Result.andThen]
theorem Oi(h:Value)(w:World):(Go.method 372 191 (.agg #[h]) "Elem").run Tryz.prog w=.ok (191,.agg #[h]) w:=by kernel_rfl
theorem ID(h:Value)(w:World):(Go.method 372 191 (.agg #[h]) "Implements").run Tryz.prog w=.ok (192,.agg #[h]) w:=by kernel_rfl
theorem Ho(h:Value)(w:World):(Go.method 372 191 (.agg #[h]) "AssignableTo").run Tryz.prog w=.ok (189,.agg #[h]) w:=by kernel_rfl
theorem TX(w:World):(ReflectliteType.method ReflectliteType.elem #[.agg #[.pointer (some ⟨2,105,none⟩)]]).run Tryz.prog w=.ok (.iface 191 (.agg #[.pointer (some ⟨2,90,none⟩)])) w:=by kernel_rfl
theorem MX(w:World):(ReflectliteType.relation "Implements" ReflectliteType.implements_ #[.agg #[.pointer (some ⟨2,90,none⟩)],.iface 191 (.agg #[.pointer (some ⟨2,41,none⟩)])]).run Tryz.prog w=.ok (.bool true) w:=by kernel_rfl
theorem Sm(v:Value)(w:World):(ReflectliteType.typeOf #[.iface 90 v]).run Tryz.prog w=.ok (.iface 191 (.agg #[.pointer (some ⟨2,90,none⟩)])) w:=by kernel_rfl
theorem Mv(w:World):(ReflectliteType.relation "AssignableTo" ReflectliteType.assignableTo #[.agg #[.pointer (some ⟨2,90,none⟩)],.iface 191 (.agg #[.pointer (some ⟨2,90,none⟩)])]).run Tryz.prog w=.ok (.bool true) w:=by kernel_rfl
theorem Rn(n:Int)(w:World):(ReflectliteValue.unpack (.iface 90 (.int .i64 n))).run Tryz.prog w=.ok (.agg #[.pointer (some ⟨2,90,none⟩),.pointer (some ⟨w.heap.size,0,none⟩),.int .u64 134]) (w.alloc (.cells #[.int .i64 n] 90)):=by kernel_rfl
theorem RR(w:World):(Rtype.elem? 105).run Tryz.prog w=.ok (some 90) w:=by kernel_rfl
theorem mkF(p:Addr)(w:World):(ReflectliteValue.mk 90 p ReflectliteValue.flagAddr).run Tryz.prog w=.ok (.agg #[.pointer (some ⟨2,90,none⟩),.pointer (some p),.int .u64 390]) w:=by kernel_rfl
theorem SU(a p:Addr)(W:World)(ha:W.cell? a=some (.pointer (some p))):
 (ReflectliteValue.method (ReflectliteValue.valueError "reflectlite.Value.Elem" 0) ReflectliteValue.elem #[.agg #[.pointer (some ⟨2,105,none⟩),.pointer (some a),.int .u64 150]]).run Tryz.prog W=.ok (.agg #[.pointer (some ⟨2,90,none⟩),.pointer (some p),.int .u64 390]) W:=by
 change Sem.run Tryz.prog (ReflectliteValue.parts (.agg #[.pointer (some ⟨2,105,none⟩),.pointer (some a),.int .u64 150])>>=_) W=_;simp only[Sem.run_bind,Q7,Result.andThen];simp[ReflectliteValue.elem,loadVar,isAgg,underlying,Tryz.underlying105,ha,Result.andThen,RR,mkF]
theorem Sg(a:Addr)(w:World):(ReflectliteValue.parts (.agg #[.pointer (some ⟨2,90,none⟩),.pointer (some a),.int .u64 390])).run Tryz.prog w=.ok (some (90,a,390)) w:=by kernel_rfl
theorem Tm(a:Addr)(w:World):(ReflectliteValue.parts (.agg #[.pointer (some ⟨2,90,none⟩),.pointer (some a),.int .u64 134])).run Tryz.prog w=.ok (some (90,a,134)) w:=by kernel_rfl
theorem RQ(w:World):(Rtype.directlyAssignable 90 90).run Tryz.prog w=.ok true w:=by kernel_rfl
theorem UL(ta b:Addr)(n:Int)(old:Value)(W:World)(hb:W.cell? b=some (.int .i64 n))(ht:W.cell? ta=some old)(hf:W.frozen? ta=false):
 (ReflectliteValue.set #[.agg #[.pointer (some ⟨2,90,none⟩),.pointer (some ta),.int .u64 390],.agg #[.pointer (some ⟨2,90,none⟩),.pointer (some b),.int .u64 134]]).run Tryz.prog W=.ok (.tuple #[]) (W.setCell ta (.int .i64 n)):=by
 change Sem.run Tryz.prog (ReflectliteValue.parts (.agg #[.pointer (some ⟨2,90,none⟩),.pointer (some ta),.int .u64 390])>>=fun y=>ReflectliteValue.parts (.agg #[.pointer (some ⟨2,90,none⟩),.pointer (some b),.int .u64 134])>>=_) W=_;simp only[Sem.run_bind,Sg,Tm,Result.andThen];simp[ReflectliteValue.flagAddr,loadVar,isAgg,underlying,Tryz.underlying90,hb,Result.andThen,RQ,storeVar,Value.cells,storeCells,Addr.add];rw[run_store Tryz.prog W ta _ _ (by rfl)];simp[ht,hf]
end
end Go.Proofs.YtjcamlobelcepaaGreatDoor
