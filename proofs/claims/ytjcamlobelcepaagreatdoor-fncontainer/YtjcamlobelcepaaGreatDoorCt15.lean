import Derived.Test.YtjcamlobelcepaaGreatDoorCt14
import Derived.Test.YtjcamlobelcepaaGreatDoorCt9
namespace Go.Proofs.YtjcamlobelcepaaGreatDoor
open Go.ChangeShapes Go.WideShapes Go.ChangeAt Go.RowKit
set_option linter.unusedVariables false
set_option maxHeartbeats 8000000
set_option maxRecDepth 100000
def Io(n g:Nat):Value:=sG g n n
theorem SX:(Tryz.prog.info? 159).map (fun i=>(i.zero,i.size,i.bytes))=some (some sN,1,24):=by kernel_rfl
structure DM(w u:World)(n:Nat)(V:Value)(R:List Nat)(P:Nat->Nat->Bool):Prop where
 o:u.ownsRow w.heap.size 159 1 V R.length (R.map (Io n))
 rows:∀i g,R[i]?=some g->Fs u w.heap.size g n (P i)
 nodup:R.Nodup
 bel:Below w.heap.size w u
theorem DM.keep{w u u':World}{n:Nat}{V:Value}{R:List Nat}{P:Nat->Nat->Bool}(h:DM w u n V R P)(hb:Below u.heap.size u u'):DM w u' n V R P:=⟨Ah h.o hb lR,fun i g hi=>(h.rows i g hi).keep hb,h.nodup,Ab h.bel lR hb⟩
theorem Fs.lt{w:World}{base g n:Nat}{P:Nat->Bool}(h:Fs w base g n P):g<w.heap.size:=by
 obtain⟨_,cur,h1⟩:=AF h;exact(an.1 h1).1
theorem Fs.other{w:World}{base g g' n i:Nat}{P:Nat->Bool}{x:Value}(h:Fs w base g n P)(hne:g≠g'):Fs (w.setCell ⟨g',i,none⟩ x) base g n P:=aN h (a:=⟨g',i,none⟩) (fun e=>hne (by simpa[Value.ownBlock]using e)) x
theorem DM.set{w u:World}{n:Nat}{V:Value}{R:List Nat}{P Q:Nat->Nat->Bool}(h:DM w u n V R P){b g d:Nat}{x:Bool}(hb:R[b]?=some g)(hQb:∀j,j<n->Q b j=if j=d then x else P b j)(hQ:∀i,i≠b->Q i=P i):DM w (u.setCell ⟨g,d,none⟩ (.bool x)) n V R Q:=by
 have hg:=h.rows b g hb;refine⟨Cc h.o hg (by decide) d _,fun i g' hi=> ?_,h.nodup,h.bel.setCell (AF hg).1 _⟩;by_cases e:i=b
 . subst e
   rw[hb]at hi;cases hi
   exact hg.set d x hQb
 . rw[hQ i e]
   refine(h.rows i g' hi).other fun q=>e ?_
   subst q;obtain⟨i1,e1⟩:=aE.1 hi;obtain⟨i2,e2⟩:=aE.1 hb;exact(List.getElem_inj h.nodup).1 (e1.trans e2.symm)
theorem DM.add{w u u3 u':World}{n:Nat}{V V':Value}{R:List Nat}{P:Nat->Nat->Bool}(h:DM w u n V R P)(hP:∀i,i=R.length->P i=fun _=>false)(h3:u3.ownsRow u.heap.size 4 1 (sG u.heap.size n n) n (bv (fun _=>false) n))(hb3:Below u.heap.size u u3)(hown:u'.ownsRow w.heap.size 159 1 V' (R.length+1) (R.map (Io n)++[Io n u.heap.size]))(hg:(u3.alloc (.cells #[Io n u.heap.size] 159)).grownBy u' V.ownBlock):DM w u' n V' (R++[u.heap.size]) P:=by
 have bA:=Aa u3 (.cells #[Io n u.heap.size] 159);have hbb:Below u.heap.size u (u3.alloc (.cells #[Io n u.heap.size] 159)):=Ab hb3 lR bA;have o1:=Ah h.o hbb lR;have k3:Fs (u3.alloc (.cells #[Io n u.heap.size] 159)) w.heap.size u.heap.size n (fun _=>false):=CA (Ah h3 bA lR) h.bel.size;refine⟨by rw[aH,aP,dK];exact hown,fun i g hi=> ?_,?_,(Ab h.bel lR hbb).grown hg (aR h.bel.size hbb.size) (fun i hi=>(h.o.lt i hi).1)⟩
 . by_cases e:i<R.length
   . rw[bS e]at hi
     exact Cs ((h.rows i g hi).keep hbb) hg o1 (by decide)
   . have hl:=(aE.1 hi).1
     simp only[aH,aP]at hl;have hiR:i=R.length:=by omega
     rw[bH (by omega)]at hi;subst hiR;simp only[eP,aJ,aM]at hi;subst hi;rw[hP _ rfl];exact Cs k3 hg o1 (by decide)
 . refine dk.2 ⟨h.nodup,by simp,fun a ha c hc e=> ?_⟩
   simp only[bG,bY,cZ]at hc;subst hc;obtain⟨i,hi⟩:=bt ha;have:=(h.rows i a hi).lt;omega
theorem IF(U:World)(x:Value)(t:TypeId):∀j u,[x][j]?=some u->(U.alloc (.cells #[x] t)).cell? ((⟨U.heap.size,0,none⟩:Addr).add j)=some u:=fun j u hj=>by
 rw[Ds,bV,(Ap.new U #[x] t).cell j];simpa using hj
def F7(w:World)(g n:Nat)(D:Nat->Nat->Bool):Prop:=∀b,b<n->∃r,w.cell? ⟨g,b,none⟩=some (sG r n n)/\∀d,d<n->w.cell? ⟨r,d,none⟩=some (.bool (D b d))
theorem F7.keep{w w':World}{g n:Nat}{D:Nat->Nat->Bool}(h:F7 w g n D)(hb:Below w.heap.size w w'):F7 w' g n D:=fun b hb'=>by
 obtain⟨r,h1,h2⟩:=h b hb';exact⟨r,Ad hb h1,fun d hd=>Ad hb (h2 d hd)⟩
theorem DM.cell{w u:World}{n g c m:Nat}{R:List Nat}{P:Nat->Nat->Bool}(h:DM w u n (sG g m c) R P)(hm:R.length=m){b:Nat}(hb:b<m):∃r,R[b]?=some r/\u.cell? ⟨g,b,none⟩=some (sG r n n):=by
 subst hm;have:=h.o.cellAt b (by omega);rw[bQ,aA hb]at this;exact⟨_,aA hb,this⟩
theorem DM.mat{w u:World}{n g c:Nat}{R:List Nat}{P:Nat->Nat->Bool}(h:DM w u n (sG g n c) R P)(hl:R.length=n):F7 u g n P:=fun b hb=>by
 obtain⟨r,h1,h2⟩:=h.cell hl (b:=b) (by omega);exact⟨r,h2,fun d hd=>(h.rows b r h1).cell hd⟩
theorem N5 (g o c n:Nat)(E:Nat->List Nat)(D:Nat->Nat->Bool)(w:World)(hn:n<=1048576)(h0:0<n)(hD:∀d b,D d b=true↔Fd E d b)(hE:∀b,b<n->∀x∈E b,x<n)(hsz:∀b,(E b).length<=2)(h:Iu w g o n E):
 Calls Tryz.prog 128 #[sO g o n c] w fun e w'=>∃gm cm,e=.returned (sG gm n cm)/\F7 w' gm n (fun b d=>D d b)/\Below w.heap.size w w'/\w.heap.size<=gm/\(∀b r,b<n->w'.cell? ⟨gm,b,none⟩=some (sG r n n)->w.heap.size<=r):=by
 obtain⟨j0,hj,hy0,hy1,hy2⟩:=bJ Dv;obtain⟨k0,hk,hx0,hx1,hx2⟩:=bJ SX;have H:Hid (Iu w g o n E/\(∀b,b<n->∀x∈E b,x<n)/\(∀b,(E b).length<=2)/\(∀d b,D d b=true↔Fd E d b)):=⟨h,hE,hsz,hD⟩
 clear h hE hsz hD
 have HS:Hid (DM w (w.alloc (.cells #[] 159)) n (sG w.heap.size 0 0) [] (fun _ _=>false)):=by
  refine⟨?_,fun i g hi=>by simp at hi,List.nodup_nil,Aa _ _⟩;exact⟨rfl,.inr ⟨w.heap.size,0,#[],rfl,Nat.le_refl _,Ap.new w #[] 159,Nat.le_refl _,cU _,rfl,rfl⟩⟩
 go_enter Tryz.func128,Tryz.ntmps128;go_wp2
 go_loopw [4,5] (fun V i wr=>∃(R:List Nat) (gm cm:Nat),V=sG gm R.length cm/\i=iZ (R.length:Int)/\R.length<=n/\Hid (DM w wr n V R (fun _ _=>false))) (fun _ i _=>n-(intOf i).toNat)
 case atStart=>exact⟨[],_,_,rfl,rfl,by simp,HS⟩
 case round=>
  clear HS;obtain⟨R,gm,cm,rfl,rfl,hR,HM⟩:=hrel;by_cases hlt:R.length<n
  . have hltI:(R.length:Int)<(n:Int):=by omega
    have hsz1:=HM.o.bel.size
    go_wp2_with (first
     |(at_make;refine bu _ rfl _ _ 159 rfl wr.heap.size 4 j0 (.bool false) 1 Tryz.underlying159 hj hy0 hy1 .i64 .i64 _ _ n rfl rfl rfl rfl (by rw[hy2];omega) (by unfold maxLen;omega) lR ?_;intro w3 hown hgrow;rw[Dj,GD]at hown;have hb3:Below wr.heap.size wr w3:=(aq _ _).grown hgrow lR (fun k hk=>by cases hk);have hoA:(w3.alloc (.cells #[Io n wr.heap.size] 159)).ownsRow w.heap.size 159 1 (sG gm R.length cm) R.length (R.map (Io n)):=Ah HM.o.o (Ab hb3 lR (Aa _ _)) lR;have hsA:w.heap.size<=(w3.alloc (.cells #[Io n wr.heap.size] 159)).heap.size:=by have h1:=hb3.size;have h2:=(Aa w3 (.cells #[Io n wr.heap.size] 159)).size;omega)
     |(at_builtin;refine wpList_append_lies _ rfl _ _ 211 rfl w.heap.size 159 k0 sN 1 24 Tryz.underlying211 hk hx0 hx1 hx2 rfl (by decide) _ R.length (R.map (Io n)) rfl hoA ⟨w3.heap.size,0,none⟩ 1 1 [Io n wr.heap.size] rfl rfl (IF w3 _ _) (fun u hu=>by simp at hu;subst hu;rfl) (by omega) (by simp[maxLen];omega) (by omega) hsA _ rfl ?_;intro g5 cap5 w5 hown5 hgrow5 hat hlt3;have HM5:Hid (DM w w5 n (sG g5 (R.length+1) cap5) (R++[wr.heap.size]) (fun _ _=>false)):=HM.o.add (fun _ _=>rfl) hown hb3 hown5 hgrow5;clear hown hgrow hown5 hgrow5 hat hlt3 hb3 hoA hsA)
     |go_in)
    go_roundw
    case rel=>exact⟨R++[wr.heap.size],g5,cap5,by rw[aH,aP],by rw[aH,aP];go_num,by rw[aH,aP];omega,HM5⟩
    case measure=>simp[intOf];omega
  . have hRn : R.length=n:=by omega
    have HRN:Hid (R.length=n):=hRn;rw[hRn]at HM;rw[hRn];clear hlt hR hRn
    have HM0:Hid (DM w wr n (sG gm n cm) R (fun i k=>decide (k<0)&&D k i)):=by
     have:(fun i k=>decide (k<0)&&D k i)=(fun(_ _:Nat)=>false):=by funext i k;simp
     show DM w wr n _ R _;rw[this];exact HM.o
    clear HM;go_wp2
    go_loopw [6] (fun i wr=>∃d:Nat,d<=n/\i=iZ d/\Hid (DM w wr n (sG gm n cm) R (fun i k=>decide (k<d)&&D k i))) (fun i _=>n-(intOf i).toNat)
    case atStart=>exact⟨0,by omega,rfl,HM0⟩
    case round =>
     clear HM0;obtain⟨d,hd,rfl,HM⟩:=hrel;by_cases hlt:d<n
     . have hltI:(d:Int)<(n:Int):=by omega
       go_wp2_with fail
       refine(Oa g o c n 0 (d:Int) E _ hn H.o.2.1 H.o.2.2.1 h0 (H.o.1.keep HM.o.bel)).mono ?_;rintro e u2 ⟨gs,P,rfl,hP,hPi,b2⟩
       have HP:Hid (Fs u2 wr.heap.size gs n P/\(∀x,x<n->(!P x)=D d x)/\wr.heap.size<=gs):=by
        refine⟨hP,fun x hx=> ?_,(AF hP).1⟩;rw[eA,H.o.2.2.2 d x];unfold Fd;have e1:EH E (fun y=>(y:Int)≠(d:Int)) 0 x↔EH E (· ≠d) 0 x:=⟨fun q=>q.mono fun y hy e=>hy (by rw[e]),fun q=>q.mono fun y hy e=>hy (by omega)⟩;rw[<-e1,<-hPi x hx];simp
       have HM2:Hid (DM w u2 n (sG gm n cm) R (fun i k=>(decide (k<d)||(decide (k=d)&&decide (i<0)))&&D k i)):=by
        have e1:(fun i k=>(decide (k<d)||(decide (k=d)&&decide (i<0)))&&D k i)=(fun i k=>decide (k<d)&&D k i):=by funext i k;simp
        show DM w u2 n _ R _;rw[e1];exact HM.o.keep b2
       have HR:Hid ((∀i r,R[i]?=some r->r<wr.heap.size)/\w.heap.size<=wr.heap.size):=⟨fun i r hi=>(HM.o.rows i r hi).lt,HM.o.bel.size⟩
       clear hP hPi b2 HM;go_wp2
       go_loopw [8] (fun i wr=>∃b:Nat,b<=n/\i=iZ b/\Hid (DM w wr n (sG gm n cm) R (fun i k=>(decide (k<d)||(decide (k=d)&&decide (i<b)))&&D k i)/\Fs wr w.heap.size gs n P)) (fun i _=>n-(intOf i).toNat)
       case atStart=>exact⟨0,by omega,rfl,HM2.o,CA HP.o.1 HR.o.2⟩
       case round=>
        clear HM2;obtain⟨b,hb,rfl,HM⟩:=hrel;by_cases hlt2:b<n
        . have hlt2I:(b:Int)<(n:Int):=by omega
          obtain⟨r,hr,c0⟩:=HM.o.1.cell HRN.o hlt2;have c1:=HM.o.2.cell hlt2;have hrow:=HM.o.1.rows b r hr;have c2:=hrow.cell hlt;have z2:=hrow.frozen d;have hne:gs≠r:=by have:=HR.o.1 b r hr;have:=HP.o.2.2;omega
          have HN:Hid (DM w (wr.setCell ⟨r,d,none⟩ (.bool (!P b))) n (sG gm n cm) R (fun i k=>(decide (k<d)||(decide (k=d)&&decide (i<b+1)))&&D k i)/\Fs (wr.setCell ⟨r,d,none⟩ (.bool (!P b))) w.heap.size gs n P):=by
           refine⟨HM.o.1.set hr (fun j hj=> ?_) (fun i hi=> ?_),HM.o.2.other hne⟩
           . by_cases e:j=d
             . subst e
               simp[HP.o.2.1 b hlt2]
             . simp[e]
           . funext k
             have:decide (i<b+1)=decide (i<b):=by simp;omega
             simp[this]
          clear hr hrow;go_wp2
          go_region
          refine AQ (fun u=>Hid (DM w u n (sG gm n cm) R (fun i k=>(decide (k<d)||(decide (k=d)&&decide (i<b+1)))&&D k i)/\Fs u w.heap.size gs n P)) ?_ ?_
          . exact⟨HN.o.1.keep (Ae _),HN.o.2.keep (Ae _)⟩
          intro U HU;go_wp2
          go_roundw
          case rel=>exact⟨b+1,by omega,by go_num,HU⟩
          case measure=>simp[intOf];omega
        . obtain rfl:b=n:=by omega
          have HN:Hid (DM w wr b (sG gm b cm) R (fun i k=>decide (k<d+1)&&D k i)):=by
           refine⟨HM.o.1.o,fun i r hi=> ?_,HM.o.1.nodup,HM.o.1.bel⟩;have h1:=HM.o.1.rows i r hi;unfold Fs at h1⊢;rw[Mz (Q:=fun k=>decide (k<d+1)&&D k i)]at h1
           . exact h1
           . intro k hk
             have hib:i<b:=by have:=(aE.1 hi).1;rw[HRN.o]at this;exact this
             have e1:(decide (k<d)||(decide (k=d)&&decide (i<b)))=decide (k<d+1):=by
              rw[eA];simp;omega
             simp only[e1]
          go_wp2
          go_roundw
          case rel=>exact⟨d+1,by omega,by go_num,HN⟩
          case measure=>simp[intOf];omega
     . obtain rfl:d=n:=by omega
       have HN:Hid (F7 wr gm d (fun b k=>D k b)):=fun b hb=>by
        obtain⟨r,h1,h2⟩:=HM.o.mat HRN.o b hb;refine⟨r,h1,fun k hk=> ?_⟩;have:=h2 k hk;simpa[hk]using this
       have HMO:Hid (wr.ownsRow w.heap.size 159 1 (sG gm d cm) d (R.map (Io d))):=by
        have:=HM.o.o;rw[HRN.o]at this;exact this
       go_wp2
       go_ret
       refine⟨gm,cm,rfl,HN.o,HM.o.bel,(AF HMO.o).1,fun b r hb hr=> ?_⟩;obtain⟨r',h1,h2⟩:=HM.o.cell HRN.o (b:=b) hb;rw[hr]at h2;simp only[aM,aI,cN,cj]at h2;rw[h2];exact(AF (HM.o.rows b r' h1)).1
def Hx(D:Nat->Nat->Bool)(d j:Nat):Nat:=((List.range j).filter fun k=>D k d).length
theorem NQ(D:Nat->Nat->Bool)(d j:Nat):Hx D d (j+1)=Hx D d j+if D j d=true then 1 else 0:=by
 unfold Hx;rw[ch,cS,aH];cases h:D j d<;>simp[h]
theorem Qv(D:Nat->Nat->Bool)(d j:Nat):Hx D d j<=j:=by
 have:=cT (fun k=>D k d) (List.range j);simpa[Hx]using this
theorem N7 (gm cm n b:Nat)(D:Nat->Nat->Bool)(w:World)(hn:n<=1048576)(hb:b<n)(h:F7 w gm n (fun b d=>D d b)):
 Calls Tryz.prog 129 #[.slice (some ⟨gm,0,none⟩) n cm,.int .i64 (b:Int)] w fun e w'=>∃best most,e=.returned (.int .i64 best)/\Cp D n b n best most/\w'=w:=by
 have H:Hid (F7 w gm n (fun b d=>D d b)):=h;obtain⟨rb,r0,r1⟩:=h b hb;have HR:Hid (∀d,d<n->w.cell? ⟨rb,d,none⟩=some (.bool (D d b))):=r1;have hbI:(b:Int)<(n:Int):=by omega
 clear h r1;go_enter Tryz.func129,Tryz.ntmps129;go_wp2
 go_loopw [5,6,7] (fun x y i wr=>∃(d:Nat) (best most:Int),d<=n/\x=.int .i64 best/\y=.int .i64 most/\i=.int .i64 d∧-1<=most/\most<=1048576/\Hid (Cp D n b d best most)/\wr=w) (fun _ _ i _=>n-(intOf i).toNat)
 case atStart=>exact⟨0,-1,-1,by omega,rfl,rfl,rfl,by omega,by omega,Cp.start D n b,rfl⟩
 case round=>
  obtain⟨d,best,most,hd,rfl,rfl,rfl,hm1,hm2,HB,rfl⟩:=hrel;by_cases hlt:d<n
  . have hltI:(d:Int)<(n:Int):=by omega
    by_cases e:d=b
    . subst e
      have HN:Hid (Cp D n d (d+1) best most):=HB.o.skip (fun q=>q.1 rfl);go_wp2
      go_roundw
      case rel=>exact⟨d+1,best,most,by omega,by trivial,by trivial,by go_num,hm1,hm2,HN,by trivial⟩
      case measure=>simp[intOf];omega
    . have e':((d:Int)==(b:Int))=false:=by simp;omega
      have eI:¬(d:Int)=(b:Int):=by omega
      have c0:=HR.o d hlt;cases hD:D d b
      . rw[hD]at c0
        have HN:Hid (Cp D n b (d+1) best most):=HB.o.skip (fun q=>by rw[hD]at q;cases q.2);go_wp2;go_roundw
        case rel=>exact⟨d+1,best,most,by omega,by trivial,by trivial,by go_num,hm1,hm2,HN,by trivial⟩
        case measure=>simp[intOf];omega
      . rw [hD]at c0
        obtain⟨rd,d0,d1⟩:=H.o d hlt;have HD1:Hid (∀k,k<n->wr.cell? ⟨rd,k,none⟩=some (.bool (D k d))):=d1;clear d1;go_wp2
        go_loopw [8,9] (fun x i wr'=>∃k:Nat,k<=n/\x=.int .i64 (Hx D d k:Int)/\i=.int .i64 k/\wr'=wr) (fun _ i _=>n-(intOf i).toNat)
        case atStart=>exact⟨0,by omega,rfl,rfl,rfl⟩
        case round=>
         obtain⟨k,hk,rfl,rfl,rfl⟩:=hrel;have hle:=Qv D d k;by_cases hlt2:k<n
         . have hlt2I:(k:Int)<(n:Int):=by omega
           have c1:=HD1.o k hlt2;have hs:=NQ D d k;cases hDk:D k d
           . rw[hDk]at c1 hs
             simp only[dO,if_false,aT]at hs;go_wp2
             go_roundw
             case rel=>exact⟨k+1,by omega,by rw[hs],by go_num,by trivial⟩
             case measure=>simp[intOf];omega
           . rw[hDk]at c1 hs
             simp only[if_true]at hs;go_wp2
             go_roundw
             case rel=>exact⟨k+1,by omega,by rw[hs];go_num,by go_num,by trivial⟩
             case measure=>simp[intOf];omega
         . obtain rfl:k=n:=by omega
           have hc:Lz D k d=Hx D d k:=rfl;by_cases hg:most<(Hx D d k:Int)
           . have HN:Hid (Cp D k b (d+1) (d:Int) (Hx D d k:Int)):=HB.o.more e hD hg
             go_wp2
             go_roundw
             case rel=>exact⟨d+1,_,_,by omega,rfl,rfl,by go_num,by omega,by omega,HN,by trivial⟩
             case measure=>simp[intOf];omega
           . have HN:Hid (Cp D k b (d+1) best most):=HB.o.less (by rw[hc];omega)
             go_wp2
             go_roundw
             case rel=>exact⟨d+1,best,most,by omega,by trivial,by trivial,by go_num,hm1,hm2,HN,by trivial⟩
             case measure=>simp[intOf];omega
  . obtain rfl:d=n:=by omega
    go_wp2
    go_ret
    exact⟨best,most,rfl,HB.o,rfl⟩
section
variable {E:Nat->List Nat} {D:Nat->Nat->Bool} {n h b k y:Nat}
def DG(E:Nat->List Nat)(D:Nat->Nat->Bool)(h b k:Nat):List Nat:=(((E b).take k).filter fun x=>decide (x=h)&&D h b).map fun _=>b
theorem Jx(E:Nat->List Nat)(D:Nat->Nat->Bool)(b h:Nat):Bg E D (b+1) h=Bg E D b h++DG E D h b (E b).length:=by
 unfold Bg DG;rw[ch,a8];simp
theorem NM(E:Nat->List Nat)(D:Nat->Nat->Bool)(h b:Nat):DG E D h b 0=[]:=by simp[DG]
theorem Pq(hy:(E b)[k]?=some h)(hD:D h b=true):DG E D h b (k+1)=DG E D h b k++[b]:=by
 obtain⟨hl,e⟩:=aE.1 hy;unfold DG;rw[aj hl,cS,dK,e];simp[hD]
theorem Mw(hy:(E b)[k]?=some y)(hn:¬(y=h/\D h b=true)):DG E D h b (k+1)=DG E D h b k:=by
 obtain⟨hl,e⟩:=aE.1 hy;unfold DG;rw[aj hl,cS,dK,e]
 have:(decide (y=h)&&D h b)=false:=by
  cases q:D h b with
  |false=>simp
  |true=>simp;exact fun e=>hn ⟨e,q⟩
 simp[this]
theorem KR(E:Nat->List Nat)(D:Nat->Nat->Bool)(h b k:Nat):(DG E D h b k).length<=(E b).length:=by
 unfold DG;rw[bB];refine aR (cT _ _) ?_;rw[b9];omega
theorem Ix(hsz:∀b,(E b).length<=2)(D:Nat->Nat->Bool)(h b:Nat):(Bg E D b h).length<=2*b:=by
 induction b with
 |zero=>simp[Bg]
 | succ b ih=>
   have h1:=KR E D h b (E b).length;have h2:=hsz b;rw[Jx,aH];omega
def Uz(E:Nat->List Nat)(D:Nat->Nat->Bool)(n h x:Nat):Prop:=∃t∈Bg E D n h,EH (OM E n) (· ≠h) t x
structure ND(E:Nat->List Nat)(D:Nat->Nat->Bool)(n h:Nat)(L:List Nat):Prop where
 nodup:L.Nodup
 ne:∀x∈L,x≠h
 lt:∀x∈L,x<n
 src:∀x∈L,Uz E D n h x
theorem ND.len{L:List Nat}(h':ND E D n h L):L.length<=n:=by
 have:=JZ L n h'.lt h'.nodup;omega
theorem ND.nil:ND E D n h []:=⟨List.nodup_nil,fun _ q=>(by cases q),fun _ q=>(by cases q),fun _ q=>(by cases q)⟩
theorem ND.add{L:List Nat}(h':ND E D n h L)(hne:y≠h)(hlt:y<n)(hs:Uz E D n h y)(hL:y∉L):ND E D n h (L++[y]):=by
 have hm:∀x,x∈L++[y]->x∈L\/x=y:=fun x hx=>by simpa using hx
 refine⟨dk.2 ⟨h'.nodup,by simp,fun a ha c hc e=> ?_⟩,fun x hx=> ?_,fun x hx=> ?_,fun x hx=> ?_⟩
 . simp only[bG,bY,cZ]at hc
   subst hc e;exact hL ha
 . rcases hm x hx with q|rfl
   . exact h'.ne x q
   . exact hne
 . rcases hm x hx with q|rfl
   . exact h'.lt x q
   . exact hlt
 . rcases hm x hx with q|rfl
   . exact h'.src x q
   . exact hs
def Ph(h:Nat)(L B:List Nat):Prop:=∀x∈B,x=h\/x∈L
theorem Ph.app{L B:List Nat}(h':Ph h L B)(z:Nat):Ph h (L++[z]) B:=fun x hx=>(h' x hx).imp id fun q=>ah.2 (.inl q)
theorem Ph.next{L L' B:List Nat}(h':Ph h L (B.take k))(hs:∀x∈L,x∈L')(hy:B[k]?=some y)(hL:y=h\/y∈L'):Ph h L' (B.take (k+1)):=fun z hz=>by
 obtain⟨hlt,rfl⟩:=aE.1 hy;rw[aj hlt]at hz;rcases ah.1 hz with hz|hz
 . exact(h' z hz).imp id (hs z)
 . simp only[bG,bY,cZ]at hz
   subst hz;exact hL
def Rq(E:Nat->List Nat)(n h:Nat)(L:List Nat)(i:Nat):Prop:=∀j x,L[j]?=some x->j<i->∀y,y<n->x∈E y->y=h\/y∈L
def Lo(E:Nat->List Nat)(h:Nat)(L:List Nat)(x b:Nat):Prop:=∀y,y<b->x∈E y->y=h\/y∈L
theorem Rq.app{L:List Nat}{i:Nat}(h':Rq E n h L i)(hi:i<=L.length)(z:Nat):Rq E n h (L++[z]) i:=fun j x hj hl y hy hx=>by
 rw[bS (by omega)]at hj;exact(h' j x hj hl y hy hx).imp id fun q=>ah.2 (.inl q)
theorem Lo.app{L:List Nat}{x:Nat}(h':Lo E h L x b)(z:Nat):Lo E h (L++[z]) x b:=fun y hy hx=>(h' y hy hx).imp id fun q=>ah.2 (.inl q)
theorem Lo.next{L:List Nat}{x:Nat}(h':Lo E h L x b)(hb:x∈E b->b=h\/b∈L):Lo E h L x (b+1):=fun y hy hx=>by
 by_cases e:y=b
 . subst e;exact hb hx
 . exact h' y (by omega) hx
theorem Rq.next{L:List Nat}{i x:Nat}(h':Rq E n h L i)(hx:L[i]?=some x)(hb:Lo E h L x n):Rq E n h L (i+1):=fun j z hj hl y hy hz=>by
 by_cases e:j=i
 . subst e
   rw[hx]at hj;cases hj
   exact hb y hy hz
 . exact h' j z hj (by omega) y hy hz
theorem ND.step{L:List Nat}(h':ND E D n h L){x:Nat}(hx:x∈L)(hb:b<n)(he:x∈E b)(hne:b≠h):Uz E D n h b:=by
 obtain⟨t,h1,h2⟩:=h'.src x hx;exact⟨t,h1,.step h2 ((K5 E n x b).2 ⟨hb,he⟩) hne⟩
theorem ND.iff{L:List Nat}(h':ND E D n h L)(hB:Ph h L (Bg E D n h))(hc:Rq E n h L L.length)(x:Nat):(h::L).contains x=true↔Hg E D n h x:=by
 simp only[List.contains_eq_mem,dE,bG];unfold Hg;refine or_congr_right ⟨h'.src x,?_⟩;rintro⟨t,h1,h2⟩;induction h2 with
 |here q=>exact(hB t h1).resolve_left q
 | step _ q2 q3 ih=>
   obtain⟨j,hj⟩:=bt ih;obtain⟨q4,q5⟩:=(K5 E n _ _).1 q2;exact(hc j _ hj (aE.1 hj).1 _ q4 q5).resolve_left q3
end
theorem MG(h:Nat)(L:List Nat)(y n:Nat):∀j,j<n->(h::(L++[y])).contains j=if j=y then true else(h::L).contains j:=fun j _=>by
 by_cases e:j=y
 . subst e;simp
 . simp[e]
theorem QK:(Tryz.prog.info? 171).map (fun i=>(i.zero,i.size,i.bytes))=some (some (.agg #[iZ 0,sN,sN]),3,56):=by kernel_rfl
structure L1(w u:World)(n h bl gi:Nat)(BV:Value)(B:List Nat):Prop where
 res:Ap u w.heap.size #[iZ 0,sN,sN] 171
 blk:Ap u bl #[iZ (h:Int),BV,sN] 171
 inn:Fs u w.heap.size gi n (fun x=>[h].contains x)
 back:Jc u w.heap.size BV B
 bel:Below w.heap.size w u
 lt:w.heap.size<bl
theorem L1.al{w u:World}{n h bl gi:Nat}{BV:Value}{B:List Nat}(l:L1 w u n h bl gi BV B)(o:Obj):(u.alloc o).ownsRow w.heap.size 2 1 BV B.length (nv B)/\w.heap.size<=(u.alloc o).heap.size:=⟨l.back.keep (Aa _ _),aR l.bel.size (Aa _ _).size⟩
theorem L1.app{w u u':World}{n h bl gi:Nat}{BV V':Value}{B:List Nat}{y:Nat}(l:L1 w u n h bl gi BV B)(hown:u'.ownsRow w.heap.size 2 1 V' (B.length+1) (nv B++[iZ (y:Int)]))(hg:(u.alloc (.cells #[iZ (y:Int)] 2)).grownBy u' BV.ownBlock):Ap u' bl #[iZ (h:Int),BV,sN] 171/\L1 w (u'.setCell ⟨bl,1,none⟩ V') n h bl gi V' (B++[y]):=by
 have bA:=Aa u (.cells #[iZ (y:Int)] 2);have o1:=l.back.keep bA;have kb:Ap u' bl #[iZ (h:Int),BV,sN] 171:=(l.blk.keep bA).grown hg o1 (by decide);have kr:=(l.res.keep bA).grown hg o1 (by decide);have ki:Fs u' w.heap.size gi n (fun x=>[h].contains x):=Cs (l.inn.keep bA) hg o1 (by decide);have hbel:Below w.heap.size w u':=(Ab l.bel lR bA).grown hg (aR l.bel.size bA.size) (fun i hi=>(l.back.lt i hi).1);refine⟨kb,kr.other (by have:=l.lt;simp only[];omega) _,?_,?_,?_,hbel.setCell (dY l.lt) _,l.lt⟩
 . have:=kb.set 1 V'
   simpa using this
 . refine ki.other fun e=> ?_
   obtain⟨_,cur,h1⟩:=AF ki;subst e;unfold Ap at kb;rw[kb]at h1;simp only[aM,cD]at h1;exact absurd h1.2.1 (by decide)
 . unfold Jc
   rw[aH,aP,IE];refine aN hown (a:=⟨bl,1,none⟩) (fun q=> ?_) _;rcases hown.2 with⟨rfl,_⟩|⟨g',cap',cur',rfl,_,hg',_⟩
   . cases q
   . simp only[Value.ownBlock,aM]at q
     subst q;unfold Ap at kb;rw[kb]at hg';simp only[aM,cD]at hg';exact absurd hg'.2.1 (by decide)
theorem L1.keep{w u:World}{n h bl gi:Nat}{BV:Value}{B:List Nat}(l:L1 w u n h bl gi BV B){u':World}(hb:Below u.heap.size u u'):L1 w u' n h bl gi BV B:=⟨l.res.keep hb,l.blk.keep hb,l.inn.keep hb,l.back.keep hb,Ab l.bel lR hb,l.lt⟩
structure L2(w w1 u:World)(n gi:Nat)(P:Nat->Bool)(LV:Value)(L:List Nat):Prop where
 inn:Fs u w.heap.size gi n P
 list:Jc u w1.heap.size LV L
 fx:∀k,k<w1.heap.size->k≠gi->u.heap[k]?=w1.heap[k]?
 bel:Below w.heap.size w u
 size:w1.heap.size<=u.heap.size
 glt:gi<w1.heap.size
theorem L2.mark{w w1 u:World}{n gi:Nat}{P Q:Nat->Bool}{LV:Value}{L:List Nat}(l:L2 w w1 u n gi P LV L)(i:Nat)(b:Bool)(hQ:∀j,j<n->Q j=if j=i then b else P j):L2 w w1 (u.setCell ⟨gi,i,none⟩ (.bool b)) n gi Q LV L:=⟨l.inn.set i b hQ,Cc l.list l.inn (by decide) i _,fun k hk hne=>by rw[bI u _ k _ hne];exact l.fx k hk hne,l.bel.setCell (AF l.inn).1 _,by rw[bf];exact l.size,l.glt⟩
theorem L2.al{w w1 u:World}{n gi:Nat}{P:Nat->Bool}{LV:Value}{L:List Nat}(l:L2 w w1 u n gi P LV L)(o:Obj):(u.alloc o).ownsRow w1.heap.size 2 1 LV L.length (nv L)/\w1.heap.size<=(u.alloc o).heap.size:=⟨l.list.keep (Aa _ _),aR l.size (Aa _ _).size⟩
theorem L2.keep{w w1 u u':World}{n gi:Nat}{P:Nat->Bool}{LV:Value}{L:List Nat}(l:L2 w w1 u n gi P LV L)(hb:Below u.heap.size u u'):L2 w w1 u' n gi P LV L:=⟨l.inn.keep hb,l.list.keep hb,fun k hk hne=>by rw[hb.block k (bZ hk l.size)];exact l.fx k hk hne,Ab l.bel lR hb,aR l.size hb.size,l.glt⟩
theorem L2.app{w w1 u u':World}{n gi:Nat}{P:Nat->Bool}{LV V':Value}{L:List Nat}{y:Nat}(l:L2 w w1 u n gi P LV L)(hw:w.heap.size<=w1.heap.size)(hown:u'.ownsRow w1.heap.size 2 1 V' (L.length+1) (nv L++[iZ (y:Int)]))(hg:(u.alloc (.cells #[iZ (y:Int)] 2)).grownBy u' LV.ownBlock):L2 w w1 u' n gi P V' (L++[y]):=by
 have bA:=Aa u (.cells #[iZ (y:Int)] 2);have o1:=l.list.keep bA;refine⟨Cs (l.inn.keep bA) hg o1 (by decide),?_,fun k hk hne=> ?_,(Ab l.bel lR bA).grown hg (aR l.bel.size bA.size) (fun i hi=>aR hw (l.list.lt i hi).1),aR l.size (aR bA.size hg.size),l.glt⟩
 . unfold Jc
   rw[aH,aP,IE];exact hown
 . rw[hg.block k (bZ hk (aR l.size bA.size)) (fun e=>by have:=(l.list.lt k e.symm).1;omega),bA.block k (bZ hk l.size)]
   exact l.fx k hk hne
theorem L2.blk{w w1 u:World}{n gi:Nat}{P:Nat->Bool}{LV:Value}{L:List Nat}(l:L2 w w1 u n gi P LV L){b:Nat}{cur:Array Value}{t:TypeId}(hb:Ap w1 b cur t)(hne:b≠gi):Ap u b cur t:=by
 unfold Ap at*;rw[l.fx b (an.1 hb).1 hne];exact hb
theorem L2.cell{w w1 u:World}{n gi:Nat}{P:Nat->Bool}{LV:Value}{L:List Nat}(l:L2 w w1 u n gi P LV L){a:Addr}{x:Value}(hb:w1.cell? a=some x)(hne:a.block≠gi):u.cell? a=some x:=by
 have:=l.fx a.block (aD hb) hne;unfold World.cell? at*;rw[this];exact hb
theorem Jc.fx{w1 u:World}{base x:Nat}{s:Value}{l:List Nat}(h:Jc w1 base s l)(hf:∀k,k<w1.heap.size->k≠x->u.heap[k]?=w1.heap[k]?)(hx:∀g,s.ownBlock=some g->g≠x):Jc u base s l:=by
 refine⟨h.1,?_⟩;rcases h.2 with h|⟨g,cap,cur,rfl,hb1,hgg,hr⟩
 . exact .inl h
 . refine .inr ⟨g,cap,cur,rfl,hb1,?_,hr⟩
   rw[hf g (an.1 hgg).1 (hx g rfl)];exact hgg
theorem Jc.ne_blk{w:World}{base b:Nat}{s:Value}{l:List Nat}{cur:Array Value}{t:TypeId}(h:Jc w base s l)(hb:Ap w b cur t)(hne:2≠t):∀g,s.ownBlock=some g->g≠b:=Bn h hb hne
theorem Fs.congr{w:World}{base g n:Nat}{P Q:Nat->Bool}(h:Fs w base g n P)(hQ:∀i,i<n->P i=Q i):Fs w base g n Q:=by
 unfold Fs at*;rw[Mz hQ]at h;exact h
structure L4(w w2 u:World)(n h bl gi:Nat)(BV KV:Value)(K:List Nat)(P:Nat->Bool):Prop where
 res:Ap u w.heap.size #[iZ 0,sN,sN] 171
 blk:Ap u bl #[iZ (h:Int),BV,KV] 171
 inn:Fs u w.heap.size gi n P
 row:Jc u w2.heap.size KV K
 fx:∀k,k<w2.heap.size->k≠bl->u.heap[k]?=w2.heap[k]?
 bel:Below w.heap.size w u
 size:w2.heap.size<=u.heap.size
 blt:bl<w2.heap.size
theorem L4.al{w w2 u:World}{n h bl gi:Nat}{BV KV:Value}{K:List Nat}{P:Nat->Bool}(l:L4 w w2 u n h bl gi BV KV K P)(o:Obj):(u.alloc o).ownsRow w2.heap.size 2 1 KV K.length (nv K)/\w2.heap.size<=(u.alloc o).heap.size:=⟨l.row.keep (Aa _ _),aR l.size (Aa _ _).size⟩
theorem L4.app{w w2 u u':World}{n h bl gi:Nat}{BV KV V':Value}{K:List Nat}{P:Nat->Bool}{y:Nat}(l:L4 w w2 u n h bl gi BV KV K P)(hw:w.heap.size<bl)(hown:u'.ownsRow w2.heap.size 2 1 V' (K.length+1) (nv K++[iZ (y:Int)]))(hg:(u.alloc (.cells #[iZ (y:Int)] 2)).grownBy u' KV.ownBlock):Ap u' bl #[iZ (h:Int),BV,KV] 171/\L4 w w2 (u'.setCell ⟨bl,2,none⟩ V') n h bl gi BV V' (K++[y]) P:=by
 have bA:=Aa u (.cells #[iZ (y:Int)] 2);have o1:=l.row.keep bA;have kb:Ap u' bl #[iZ (h:Int),BV,KV] 171:=(l.blk.keep bA).grown hg o1 (by decide);have kr:=(l.res.keep bA).grown hg o1 (by decide);have ki:Fs u' w.heap.size gi n P:=Cs (l.inn.keep bA) hg o1 (by decide);have hlow:w.heap.size<=w2.heap.size:=by have:=l.blt;omega
 have hbel:Below w.heap.size w u':=(Ab l.bel lR bA).grown hg (aR l.bel.size bA.size) (fun i hi=>aR hlow (l.row.lt i hi).1);refine⟨kb,kr.other (by simp only[];omega) _,?_,?_,?_,fun k hk hne=> ?_,hbel.setCell (dY hw) _,?_,l.blt⟩
 . have:=kb.set 2 V'
   simpa using this
 . refine ki.other fun e=> ?_
   obtain⟨_,cur,h1⟩:=AF ki;subst e;unfold Ap at kb;rw[kb]at h1;simp only[aM,cD]at h1;exact absurd h1.2.1 (by decide)
 . unfold Jc
   rw[aH,aP,IE];refine aN hown (a:=⟨bl,2,none⟩) (fun q=> ?_) _;have:=(hown.lt bl q).1;have:=l.blt;omega
 . rw[bI u' _ k _ hne,hg.block k (bZ hk (aR l.size bA.size)) (fun e=>by have:=(l.row.lt k e.symm).1;omega),bA.block k (bZ hk l.size)]
   exact l.fx k hk hne
 . rw[bf]
   exact aR l.size (aR bA.size hg.size)
def En(p:MP)(f:MF):Prop:=∀k,k<f.code.length->∀x,f.code[k]?=some x->AH p f x
def Ck(p:MP):Prop:=∀j,j<p.funcs.length->∀f,p.funcs[j]?=some f->En p f
def AV(p:MP)(n:Int):Prop:=
 (n=1/\¬Ax p.regions)\/(n=2/\Ax p.regions/\¬AP p.consts)\/(n=3/\Ax p.regions/\AP p.consts/\¬AX p.funcs)\/
 (n=4/\Ax p.regions/\AP p.consts/\AX p.funcs/\¬Ck p)\/(n=5/\Ax p.regions/\AP p.consts/\AX p.funcs/\Ck p/\¬Bc p)\/
 (n=0/\Ax p.regions/\AP p.consts/\AX p.funcs/\Ck p/\Bc p)
theorem AV.one{p:MP}{n m:Int}(h:AV p n)(h':AV p m):n=m:=by
 unfold AV at h h';by_cases q1:Ax p.regions<;>by_cases q2:AP p.consts<;>by_cases q3:AX p.funcs<;>by_cases q4:Ck p<;>by_cases q5:Bc p<;>simp[q1,q2,q3,q4,q5]at h h'<;>omega
def BI(e:Ending)(p:MP):Prop:=∃n,e=.returned (.int .i64 n)/\AV p n
theorem BI.f1{p:MP}(h:¬Ax p.regions):BI (.returned (.int .i64 1)) p:=⟨_,rfl,.inl ⟨rfl,h⟩⟩
theorem BI.f2{p:MP}(h1:Ax p.regions)(h:¬AP p.consts):BI (.returned (.int .i64 2)) p:=⟨_,rfl,.inr (.inl ⟨rfl,h1,h⟩)⟩
theorem BI.f3{p:MP}(h1:Ax p.regions/\AP p.consts)(h:¬AX p.funcs):BI (.returned (.int .i64 3)) p:=⟨_,rfl,.inr (.inr (.inl ⟨rfl,h1.1,h1.2,h⟩))⟩
theorem BI.f4{p:MP}(h1:Ax p.regions/\AP p.consts)(h2:AX p.funcs)(h:¬Ck p):BI (.returned (.int .i64 4)) p:=⟨_,rfl,.inr (.inr (.inr (.inl ⟨rfl,h1.1,h1.2,h2,h⟩)))⟩
theorem BI.f5{p:MP}(h1:Ax p.regions/\AP p.consts)(h2:AX p.funcs)(h3:Ck p)(h:¬Bc p):BI (.returned (.int .i64 5)) p:=⟨_,rfl,.inr (.inr (.inr (.inr (.inl ⟨rfl,h1.1,h1.2,h2,h3,h⟩))))⟩
theorem BI.f0{p:MP}(h1:Ax p.regions/\AP p.consts)(h2:AX p.funcs)(h3:Ck p)(h:Bc p):BI (.returned (.int .i64 0)) p:=⟨_,rfl,.inr (.inr (.inr (.inr (.inr ⟨rfl,h1.1,h1.2,h2,h3,h⟩))))⟩
theorem MV{fs:List MF}{n:Nat}(hl:fs.length=n)(h0:¬n=0)(h1:n<=32)(h:∀j,j<n->∀f,fs[j]?=some f->BW f (decide (j=0))):AX fs:=by
 refine⟨by rw[hl];exact h0,by rw[hl];exact h1,fun j hj f hf=>(h j (by omega) f hf).1,fun f hf=>(h 0 (by omega) f hf).2 (by simp)⟩
theorem MY{fs:List MF}{k:Nat}{f:MF}(h:AX fs)(hf:fs[k]?=some f):BW f (decide (k=0)):=by
 refine⟨h.2.2.1 k (aE.1 hf).1 f hf,fun e=> ?_⟩;obtain rfl:k=0:=by simpa using e
 exact h.2.2.2 f hf
theorem RW{fs:List MF}{k:Nat}{f:MF}(h1:fs[k]?=some f)(hx:BW f (decide (k=0)))(h:∀j,j<k->∀f,fs[j]?=some f->BW f (decide (j=0))):∀j,j<k+1->∀f,fs[j]?=some f->BW f (decide (j=0)):=by
 intro j hj g hg;by_cases e:j=k
 . subst e
   rw[h1]at hg;exact(aZ hg)▸hx
 . exact h j (by omega) g hg
structure Kh(w u:World)(a b c d:Value):Prop where
 bel:Below w.heap.size w u
 prog:DE u w.heap.size a b c d
theorem Kh.keep{w u u':World}{a b c d:Value}(h:Kh w u a b c d)(hb:Below u.heap.size u u'):Kh w u' a b c d:=⟨Ab h.bel lR hb,h.prog.keep hb⟩
theorem Kh.of(w:World)(a b c d:Value)(t:TypeId):Kh w (w.alloc (.cells #[a,b,c,d] t)) a b c d:=⟨Aa _ _,DE.new _ _ _ _ _ _⟩
structure Pg(w:World)(vr vk vf vt:Value)(p:MP)(xs:List (List Int×Value))(ys:List (MF×VF)):Prop where
 small:p.small
 wf:p.wf
 rd:Ej w ⟨vr,vk,vf,vt⟩ p
 rr:Rd w 1 vr p.regions.length (xs.flatMap BE)
 rm:xs.map Prod.fst=p.regions
 re:∀x∈xs,Rd w 1 x.2 x.1.length (x.1.flatMap Ac)
 rl:xs.length=p.regions.length
 fr:Rd w 4 vf p.funcs.length (ys.flatMap AW)
 fm:ys.map Prod.fst=p.funcs
 fe:∀x∈ys,EI w x.2 x.1
 fl:ys.length=p.funcs.length
theorem Pg.of{w:World}{v:VP}{p:MP}(hs:p.small)(hw:p.wf)(h:Ej w v p):∃xs ys,Pg w v.r v.k v.f v.t p xs ys:=by
 obtain⟨xs,h1,h2,h3⟩:=h.regions;obtain⟨ys,k1,k2,k3⟩:=h.funcs;exact⟨xs,ys,hs,hw,h,h2,h1,h3,by rw[<-h1];simp,k2,k1,k3,by rw[<-k1];simp⟩
theorem C7 (v :VP)(p:MP)(w:World)(hs:p.small)(hw:p.wf)(h:Ej w v p):
 Calls Tryz.prog 58 #[.agg #[v.r,v.k,v.f,v.t]] w fun e w'=>BI e p/\Below w.heap.size w w':=by
 obtain⟨xs,ys,hP⟩:=Pg.of hs hw h
 obtain⟨vr,vk,vf,vt⟩:=v
 simp only[]at hP
 obtain⟨r1,c1,e1⟩:=hP.rr.is_slice
 obtain⟨r3,c3,e3⟩:=hP.fr.is_slice
 have hm:=hs.funcs
 subst e1 e3
 clear hs hw h
 have HP:Hid _:=hP
 clear hP
 have HI:Hid _:=Kh.of w (.slice r1 p.regions.length c1) vk (.slice r3 p.funcs.length c3) vt 28
 by_cases q0:p.regions.length=3
 . generalize hN :p.regions.length=n at*
   subst q0
   generalize hM:p.funcs.length=m at*
   have HL:=Af (aG hN hM)
   have HP:=Af HP
   clear hN hM
   go_enter Tryz.func58,Tryz.ntmps58
   go_wp2
   go_loopw [3] (fun i wr=>∃k:Nat,k<=3/\i=.int .i64 k/\Hid (∀j,j<k->∀r,p.regions[j]?=some r->Gd r)/\Hid (Kh w wr (.slice r1 3 c1) vk (.slice r3 m c3) vt)) (fun i _=>3-(intOf i).toNat)
   case atStart=>exact⟨0,by omega,rfl,fun j hj=>by omega,HI⟩
   case round =>
    clear HI
    obtain⟨k,hk,rfl,HT,HI⟩:=hrel
    obtain⟨p0,p1,p2,p3⟩:=HI.o.prog
    by_cases hlt:k<3
    . obtain⟨⟨f,v⟩,hx⟩:∃x,xs[k]?=some x:=⟨_,aA (by rw[HP.o.rl,HL.o.1];exact hlt)⟩
      have e1:=BG HP.o.rm hx
      have hf:=(HP.o.re _ (aF hx)).keep HI.o.bel lR
      have HX:=Af (aG hf (aG (HP.o.small.region _ (aF e1)) e1))
      clear e1
      rcases HP.o.rr.2 with⟨e0,_⟩|⟨b,o,c,e1,hc1⟩
      . rw[HL.o.1]at e0
        omega
      . rw [HL.o.1]at e1
        simp only[aI,ao]at e1
        obtain⟨rfl,rfl⟩:=e1
        have i0:=Rd.elem AK hc1 k _ hx 0 _ rfl
        rw[<-HI.o.bel.cell (aD i0)]at i0
        rw[bR,aT]at i0
        clear hc1 hx
        simp only[]at i0 hf
        obtain⟨av,cv,ev⟩:=hf.is_slice
        subst ev
        clear hf
        have hz:=HX.o.2.1
        by_cases q1:256<f.length
        . have HN:Hid (¬Ax p.regions):=fun e=>absurd (e.2 k (by rw[HL.o.1];exact hlt) f HX.o.2.2).1 (by omega)
          have q1':(256:Int)<(f.length:Int):=by omega
          generalize f.length=z at*
          go_wp2
          go_ret
          exact⟨.f1 HN.o,HI.o.bel⟩
        . have q1':¬(256:Int)<(f.length:Int):=by omega
          go_wp2_with fail
          refine(Gj _ f _ HX.o.2.1 HX.o.1).mono ?_
          rintro e u ⟨rfl,rfl⟩
          cases t1:f.all DZ
          . have HN:Hid (¬Ax p.regions):=fun e=>by have:=(e.2 k (by rw[HL.o.1];exact hlt) f HX.o.2.2).2;simp[t1]at this
            clear t1
            go_wp2
            go_ret
            exact⟨.f1 HN.o,HI.o.bel⟩
          . have HN:Hid (Gd f):=⟨by omega,t1⟩
            clear t1
            go_wp2
            go_roundw
            case rel=>exact⟨k+1,by omega,by go_num,CC HX.o.2.2 HN.o HT.o,HI⟩
            case measure=>simp[intOf];omega
    . have hkn : 3=k:=by omega
      subst hkn
      have HR:Hid (Ax p.regions):=⟨HL.o.1,by rw[HL.o.1];exact HT.o⟩
      clear HT hlt hk
      go_wp2_with fail
      refine(LJ ⟨.slice r1 3 c1,vk,.slice r3 m c3,vt⟩ p _ HP.o.small (HP.o.rd.keep HI.o.bel lR)).mono ?_
      rintro e u1 ⟨⟨b1,rfl,hb1⟩,bl1⟩
      have HI1:=Af (HI.o.keep bl1)
      clear bl1 p0 p1 p2 p3 HI
      cases b1
      . have HN:Hid (¬AP p.consts):=fun e=>by simp[e]at hb1
        clear hb1
        go_wp2
        go_ret
        exact⟨.f2 HR.o HN.o,HI1.o.bel⟩
      have HRC:=Af (aG HR.o (hb1.1 rfl))
      clear hb1 HR
      obtain⟨p0,p1,p2,p3⟩:=HI1.o.prog
      by_cases q2:m=0
      . have HN:Hid (¬AX p.funcs):=fun e=>e.1 (HL.o.2.trans q2)
        subst q2
        go_wp2
        go_ret
        exact⟨.f3 HRC.o HN.o,HI1.o.bel⟩
      have q2':((m:Int)==0)=false:=by simpa using q2
      by_cases q3:32<m
      . have HN:Hid (¬AX p.funcs):=fun e=>absurd e.2.1 (by rw[HL.o.2];omega)
        have q3':(32:Int)<(m:Int):=by omega
        go_wp2
        go_ret
        exact⟨.f3 HRC.o HN.o,HI1.o.bel⟩
      have q3':¬(32:Int)<(m:Int):=by omega
      go_wp2
      clear p0 p1 p2 p3 q2' q3'
      go_loopw [4] (fun i wr=>∃k:Nat,k<=m/\i=.int .i64 k/\Hid (∀j,j<k->∀f,p.funcs[j]?=some f->BW f (decide (j=0)))/\Hid (Kh w wr (.slice r1 3 c1) vk (.slice r3 m c3) vt)) (fun i _=>m-(intOf i).toNat)
      case atStart=>exact⟨0,by omega,rfl,fun j hj=>by omega,HI1⟩
      case round =>
       clear HI1
       obtain⟨k,hk,rfl,HT,HI⟩:=hrel
       obtain⟨p0,p1,p2,p3⟩:=HI.o.prog
       by_cases hlt:k<m
       . obtain⟨⟨f,v⟩,hx⟩:∃x,ys[k]?=some x:=⟨_,aA (by rw[HP.o.fl,HL.o.2];exact hlt)⟩
         have e1:=BG HP.o.fm hx
         have HX:=Af (aG ((HP.o.fe _ (aF hx)).keep HI.o.bel lR) (aG (HP.o.small.func _ (aF e1)) e1))
         clear e1
         rcases HP.o.fr.2 with⟨e0,_⟩|⟨b,o,c,e1,hc1⟩
         . rw[HL.o.2]at e0
           omega
         rw[HL.o.2]at e1
         simp only[aI,ao]at e1
         obtain⟨rfl,rfl⟩:=e1
         have i0:=Rd.elem Ag hc1 k _ hx 0 _ rfl
         have i1:=Rd.elem Ag hc1 k _ hx 1 _ rfl
         have i2:=Rd.elem Ag hc1 k _ hx 2 _ rfl
         have i3:=Rd.elem Ag hc1 k _ hx 3 _ rfl
         rw[<-HI.o.bel.cell (aD i0),aT]at i0
         rw[<-HI.o.bel.cell (aD i1)]at i1
         rw[<-HI.o.bel.cell (aD i2)]at i2
         rw[<-HI.o.bel.cell (aD i3)]at i3
         clear hc1 hx
         simp only[]at i0 i1 i2 i3
         go_wp2_with fail
         refine(N3 v f ((k:Int)==0) _ HX.o.2.1 HX.o.1).mono ?_
         rintro e u2 ⟨⟨b2,rfl,hb2⟩,bl2⟩
         have HI2:=Af (HI.o.keep bl2)
         have hk0:((k:Int)==0)=decide (k=0):=by
          by_cases e:k=0
          . subst e
            rfl
          . rw[cI e]
            simpa using e
         rw[hk0]at hb2
         clear bl2 HI p0 p1 p2 p3 i0 i1 i2 i3 hk0
         cases b2
         . have HN:Hid (¬AX p.funcs):=fun e=>by simp[MY e HX.o.2.2]at hb2
           clear hb2
           go_wp2
           go_ret
           exact⟨.f3 HRC.o HN.o,HI2.o.bel⟩
         . have HC:Hid (BW f (decide (k=0))):=hb2.1 rfl
           clear hb2
           go_wp2
           go_roundw
           case rel=>exact⟨k+1,by omega,by go_num,RW HX.o.2.2 HC.o HT.o,HI2⟩
           case measure=>simp[intOf];omega
       . have hkn:m=k:=by omega
         subst hkn
         have HFo:=Af (MV HL.o.2 q2 (by omega) HT.o)
         clear HT hlt hk
         go_wp2
         clear p0 p1 p2 p3
         go_loopw [5,6] (fun i kk wr=>∃k:Nat,k<=m/\i=.int .i64 k/\Hid (∀j,j<k->∀f,p.funcs[j]?=some f->En p f)/\Hid (Kh w wr (.slice r1 3 c1) vk (.slice r3 m c3) vt)) (fun i _ _=>m-(intOf i).toNat)
         case atStart=>exact⟨0,by omega,rfl,fun j hj=>by omega,HI⟩
         case round=>
          clear HI
          obtain⟨k,hk,rfl,HT,HI⟩:=hrel
          obtain⟨p0,p1,p2,p3⟩:=HI.o.prog
          by_cases hlt:k<m
          . obtain⟨⟨f,v⟩,hx⟩:∃x,ys[k]?=some x:=⟨_,aA (by rw[HP.o.fl,HL.o.2];exact hlt)⟩
            have e1:=BG HP.o.fm hx
            have HX:=Af (aG (HP.o.fe _ (aF hx)) (aG (HP.o.small.func _ (aF e1)) (aG e1 (HP.o.wf.funcs _ (aF e1)))))
            clear e1
            rcases HP.o.fr.2 with⟨e0,_⟩|⟨b,o,c,e1,hc1⟩
            . rw[HL.o.2]at e0
              omega
            rw[HL.o.2]at e1
            simp only[aI,ao]at e1
            obtain⟨rfl,rfl⟩:=e1
            have HCF:Hid (w.cell? ⟨b,o+k*4,none⟩=some v.p/\w.cell? ⟨b,o+k*4+1,none⟩=some (.int .i64 f.result)/\w.cell? ⟨b,o+k*4+2,none⟩=some v.l/\w.cell? ⟨b,o+k*4+3,none⟩=some v.c):=⟨Rd.elem Ag hc1 k _ hx 0 _ rfl,Rd.elem Ag hc1 k _ hx 1 _ rfl,Rd.elem Ag hc1 k _ hx 2 _ rfl,Rd.elem Ag hc1 k _ hx 3 _ rfl⟩
            clear hc1 hx
            obtain⟨ac,cc,ec⟩:=HX.o.1.2.2.is_slice
            obtain⟨vp,vl,vc⟩:=v
            simp only[]at ec
            subst ec
            have hz:=HX.o.2.1.2.2
            generalize hZ:f.code.length=z at*
            have HZ:=Af hZ
            clear hZ
            have i3:=HCF.o.2.2.2
            rw[<-HI.o.bel.cell (aD i3)]at i3
            simp only[]at i3
            go_wp2
            clear p0 p1 p2 p3 i3
            go_loopw [6] (fun i wr=>∃q:Nat,q<=z/\i=.int .i64 q/\Hid (∀j,j<q->∀x,f.code[j]?=some x->AH p f x)/\Hid (Kh w wr (.slice r1 3 c1) vk (.slice (some ⟨b,o,none⟩) m c3) vt)) (fun i _=>z-(intOf i).toNat)
            case atStart=>exact⟨0,by omega,rfl,fun j hj=>by omega,HI⟩
            case round=>
             clear HI
             obtain⟨q,hq,rfl,HTT,HI⟩:=hrel
             obtain⟨p0,p1,p2,p3⟩:=HI.o.prog
             obtain⟨i0,i1,i2,i3⟩:=HCF.o
             rw[<-HI.o.bel.cell (aD i0)]at i0
             rw[<-HI.o.bel.cell (aD i1)]at i1
             rw[<-HI.o.bel.cell (aD i2)]at i2
             rw[<-HI.o.bel.cell (aD i3)]at i3
             by_cases hlq:q<z
             . obtain⟨x,hx⟩:∃x,f.code[q]?=some x:=⟨_,aA (by rw[HZ.o];exact hlq)⟩
               have hxw:=HX.o.2.2.2.code x (aF hx)
               rcases HX.o.1.2.2.2 with⟨e0,_⟩|⟨b',o',c',e1,hc2⟩
               . rw[HZ.o]at e0
                 omega
               rw[HZ.o]at e1
               simp only[aI,ao]at e1
               obtain⟨rfl,rfl⟩:=e1
               have j0:=Rd.elem MI.cells_length hc2 q x hx 0 _ rfl
               have j1:=Rd.elem MI.cells_length hc2 q x hx 1 _ rfl
               have j2:=Rd.elem MI.cells_length hc2 q x hx 2 _ rfl
               have j3:=Rd.elem MI.cells_length hc2 q x hx 3 _ rfl
               rw[<-HI.o.bel.cell (aD j0),aT]at j0
               rw[<-HI.o.bel.cell (aD j1)]at j1
               rw[<-HI.o.bel.cell (aD j2)]at j2
               rw[<-HI.o.bel.cell (aD j3)]at j3
               have HXX:Hid (f.code[q]?=some x/\x.wf):=⟨hx,hxw⟩
               clear hc2 hx hxw
               obtain⟨xo,xa,xb,xc⟩:=x
               simp only[]at j0 j1 j2 j3
               have inst:=Ao.some wr
               have P0:=fun n:Ao wr=>Ao.cell p0 n
               have P1:=fun n:Ao wr=>Ao.cell p1 n
               have P2:=fun n:Ao wr=>Ao.cell p2 n
               have P3:=fun n:Ao wr=>Ao.cell p3 n
               have I0:=fun n:Ao wr=>Ao.cell i0 n
               have I1:=fun n:Ao wr=>Ao.cell i1 n
               have I2:=fun n:Ao wr=>Ao.cell i2 n
               have I3:=fun n:Ao wr=>Ao.cell i3 n
               have J0:=fun n:Ao wr=>Ao.cell j0 n
               have J1:=fun n:Ao wr=>Ao.cell j1 n
               have J2:=fun n:Ao wr=>Ao.cell j2 n
               have J3:=fun n:Ao wr=>Ao.cell j3 n
               by_cases hok:AH p f ⟨xo,xa,xb,xc⟩
               . have HOK:Hid (AH p f ⟨xo,xa,xb,xc⟩):=hok
                 clear hok
                 go_wp2_with fail
                 refine AC (by kernel_rfl) (by kernel_rfl) ?_
                 repeat(go_big_quiet_step ((go_at_call 95;rename_i n;exact(IW ⟨.slice r1 3 c1,vk,.slice (some ⟨b,o,none⟩) m c3,vt⟩ p ⟨vp,vl,.slice (some ⟨b',o',none⟩) z cc⟩ f xo xa xb xc n.u HP.o.small HL.o.1 HX.o.2.1 HXX.o.2.2.1 HXX.o.2.2.2.1 HXX.o.2.2.2.2 (HP.o.rd.keep (Ab HI.o.bel lR n.h) lR) (HX.o.1.keep (Ab HI.o.bel lR n.h) lR)).mono fun e w'' h=>⟨h.1.true HOK.o,⟨⟨w'',Ab n.h lR h.2⟩,rfl⟩⟩)))
                 refine wpQuiet_nil ?_
                 rintro w'' ⟨n,rfl⟩
                 have HI4:=Af (HI.o.keep n.h)
                 clear HI p0 p1 p2 p3 i0 i1 i2 i3 j0 j1 j2 j3 P0 P1 P2 P3 I0 I1 I2 I3 J0 J1 J2 J3 inst
                 go_wp2
                 go_roundw
                 case rel=>exact⟨q+1,by omega,by go_num,CC HXX.o.1 HOK.o HTT.o,HI4⟩
                 case measure=>simp[intOf];omega
               . have HOK:Hid (¬AH p f ⟨xo,xa,xb,xc⟩):=hok
                 have HN:Hid (¬Ck p):=fun e=>hok (e k (by rw[HL.o.2];exact hlt) f HX.o.2.2.1 q (by rw[HZ.o];exact hlq) _ HXX.o.1)
                 clear hok
                 go_wp2_with fail
                 refine AC (by kernel_rfl) (by kernel_rfl) ?_
                 repeat(go_big_quiet_step ((go_at_call 95;rename_i n;exact(IW ⟨.slice r1 3 c1,vk,.slice (some ⟨b,o,none⟩) m c3,vt⟩ p ⟨vp,vl,.slice (some ⟨b',o',none⟩) z cc⟩ f xo xa xb xc n.u HP.o.small HL.o.1 HX.o.2.1 HXX.o.2.2.1 HXX.o.2.2.2.1 HXX.o.2.2.2.2 (HP.o.rd.keep (Ab HI.o.bel lR n.h) lR) (HX.o.1.keep (Ab HI.o.bel lR n.h) lR)).mono fun e w'' h=>⟨h.1.false HOK.o,⟨⟨w'',Ab n.h lR h.2⟩,rfl⟩⟩)))
                 refine wpQuiet_nil ?_
                 rintro w'' ⟨n,rfl⟩
                 have HI4:=Af (HI.o.keep n.h)
                 clear HI p0 p1 p2 p3 i0 i1 i2 i3 j0 j1 j2 j3 P0 P1 P2 P3 I0 I1 I2 I3 J0 J1 J2 J3 inst
                 go_wp2
                 go_ret
                 exact⟨.f4 HRC.o HFo.o HN.o,HI4.o.bel⟩
             . have hqz:z=q:=by omega
               subst hqz
               have HFC:Hid (En p f):=fun j hj x hx=>HTT.o j (by rw[<-HZ.o];exact hj) x hx
               go_wp2
               go_roundw
               case rel=>exact⟨k+1,by omega,by go_num,CC HX.o.2.2.1 HFC.o HT.o,HI⟩
               case measure=>simp[intOf];omega
          . have hkn:m=k:=by omega
            subst hkn
            have HCo:Hid (Ck p):=fun j hj f hf=>HT.o j (by rw[<-HL.o.2];exact hj) f hf
            go_wp2_with fail
            refine(M9 ⟨.slice r1 3 c1,vk,.slice r3 m c3,vt⟩ p _ HP.o.small HP.o.wf (HP.o.rd.keep HI.o.bel lR)).mono ?_
            rintro e u5 ⟨⟨b5,rfl,hb5⟩,bl5⟩
            have HI5:=Af (Ab HI.o.bel lR bl5)
            clear bl5 p0 p1 p2 p3
            cases b5
            . have HN:Hid (¬Bc p):=fun e=>by simp[e]at hb5
              clear hb5
              go_wp2
              go_ret
              exact⟨.f5 HRC.o HFo.o HCo.o HN.o,HI5.o⟩
            . have HY:Hid (Bc p):=hb5.1 rfl
              clear hb5
              go_wp2
              go_ret
              exact⟨.f0 HRC.o HFo.o HCo.o HY.o,HI5.o⟩
 . have HN:Hid (¬Ax p.regions):=fun e=>q0 e.1
   have q0':((p.regions.length:Int)==3)=false:=by simp;omega
   have q0'':¬(p.regions.length:Int)=3:=by omega
   go_enter Tryz.func58,Tryz.ntmps58
   go_wp2
   go_ret
   exact⟨.f1 HN.o,HI.o.bel⟩
end Go.Proofs.YtjcamlobelcepaaGreatDoor
