import Derived.Test.YtdfmdgbolmbffaaGreatTy29
import Derived.Test.YtdfmdgbolmbffaaGreatTy33
import Derived.Deep.AppendLies
namespace Go.Proofs.YtdfmdgbolmbffaaGreat
open Go.ChangeShapes Go.WideShapes Go.ChangeAt Go.RowKit
set_option linter.unusedVariables false
structure GI(w:World)(G n gp cp gi ci:Nat)(pl:Nat->Nat)(I:Nat->Int):Prop where
  p:w.cell? ⟨G,3,none⟩=some (.slice (some ⟨gp,0,none⟩) n cp)
  i:w.cell? ⟨G,4,none⟩=some (.slice (some ⟨gi,0,none⟩) n ci)
  pc:∀x,x<n->w.cell? ⟨gp,x,none⟩=some (.int .i64 (pl x:Int))
  ic:∀x,x<n->w.cell? ⟨gi,x,none⟩=some (.int .i64 (I x))
theorem GI.keep{w w':World}{G n gp cp gi ci:Nat}{pl:Nat->Nat}{I:Nat->Int}(h:GI w G n gp cp gi ci pl I)(hb:Below w.heap.size w w'):GI w' G n gp cp gi ci pl I:=⟨bcell_keep hb h.p,bcell_keep hb h.i,fun x hx=>bcell_keep hb (h.pc x hx),fun x hx=>bcell_keep hb (h.ic x hx)⟩
set_option maxHeartbeats 4000000 in
set_option maxRecDepth 100000 in
theorem meet_any(G n gp cp gi ci a b:Nat)(pl:Nat->Nat)(I:Nat->Int)(w:World)(hn:n<=1024)(ht:Tree n pl I)(hz:pl 0=0)(hinj:∀a b,a<n->b<n->pl a=pl b->a=b)(ha:a<n)(hb:b<n)(ka:Kn I a)(kb:Kn I b)(h:GI w G n gp cp gi ci pl I):
    Calls Tryz.prog 144 #[.pointer (some ⟨G,0,none⟩),.int .i64 (a:Int),.int .i64 (b:Int)] w fun e w'=>∃m:Nat,e=.returned (.int .i64 (m:Int))/\m<n/\Kn I m/\MeetIs I a b m/\Below w.heap.size w w':=by
  have H:Hid (GI w G n gp cp gi ci pl I/\Tree n pl I/\pl 0=0/\(∀a b,a<n->b<n->pl a=pl b->a=b)):=⟨h,ht,hz,hinj⟩
  have K0:Hid (Kn I a/\Kn I b):=⟨ka,kb⟩
  clear h ht hz hinj ka kb
  go_enter Tryz.func144,Tryz.ntmps144
  go_wp2
  go_loopw [1,2] (fun v u wr=>∃x y:Nat,x<n/\y<n/\v=.int .i64 (x:Int)/\u=.int .i64 (y:Int)/\Hid (Kn I x/\Kn I y/\(∀m,MeetIs I x y m->MeetIs I a b m)/\Below w.heap.size w wr)) (fun v u _=>pl (intOf v).toNat+pl (intOf u).toNat)
  case atStart=>exact⟨a,b,ha,hb,rfl,rfl,K0.out.1,K0.out.2,fun m h=>h,Below.refl _ _⟩
  case round=>
    obtain⟨x,y,hx,hy,rfl,rfl,HL⟩:=hrel
    by_cases e:x=y
    . subst e
      go_wp2
      go_ret
      exact⟨x,rfl,hx,HL.out.1,HL.out.2.2.1 x (MeetIs.same I x),HL.out.2.2.2⟩
    . have eI:¬(x:Int)=(y:Int):=by omega
      have eB:((x:Int)==(y:Int))=false:=by simpa using eI
      have eN:((x:Int) != (y:Int))=true:=by simpa using eI
      have hg:=H.out.1.keep HL.out.2.2.2
      have p0:=hg.p
      have i0:=hg.i
      have px:=hg.pc x hx
      have py:=hg.pc y hy
      have ix:=hg.ic x hx
      have iy:=hg.ic y hy
      clear hg
      have hxI:(x:Int)<(n:Int):=by omega
      have hyI:(y:Int)<(n:Int):=by omega
      by_cases hp:pl y<pl x
      . have hpI:(pl y:Int)<(pl x:Int):=by omega
        have hx0:x≠0:=fun q=>by have:=H.out.2.2.1;rw[q]at hp;omega
        obtain⟨c,c1,c2,c3,c4⟩:=H.out.2.1.up x hx hx0 (HL.out.1.resolve_left hx0)
        rw[c1]at ix
        have HN:Hid (Kn I c/\Kn I y/\(∀m,MeetIs I c y m->MeetIs I a b m)/\Below w.heap.size w wr/\pl c<pl x):=⟨c4,HL.out.2.1,fun m hm=>HL.out.2.2.1 m (MeetIs.left H.out.2.1 hy hp hx0 c1 hm),HL.out.2.2.2,c3⟩
        clear c1 c4
        go_wp2
        go_quiet (fail)
        refine with_world (fun u=>Hid (Below wr.heap.size wr u)) (below_drewN _ _ _) ?_
        intro U HU
        replace p0:=bcell_keep HU.out p0
        replace i0:=bcell_keep HU.out i0
        replace ix:=bcell_keep HU.out ix
        clear px py iy
        go_wp2
        go_roundw
        case rel=>exact⟨c,y,c2,hy,rfl,rfl,HN.out.1,HN.out.2.1,HN.out.2.2.1,below_on HN.out.2.2.2.1 (Nat.le_refl _) HU.out⟩
        case measure=>simp[intOf];have:=HN.out.2.2.2.2;omega
      . have hpI:¬(pl y:Int)<(pl x:Int):=by omega
        have hp2:pl x<pl y:=by
          have:=H.out.2.2.2 x y hx hy
          omega
        have hy0:y≠0:=fun q=>by have:=H.out.2.2.1;rw[q]at hp2;omega
        obtain⟨c,c1,c2,c3,c4⟩:=H.out.2.1.up y hy hy0 (HL.out.2.1.resolve_left hy0)
        rw[c1]at iy
        have HN:Hid (Kn I x/\Kn I c/\(∀m,MeetIs I x c m->MeetIs I a b m)/\Below w.heap.size w wr/\pl c<pl y):=⟨HL.out.1,c4,fun m hm=>HL.out.2.2.1 m (MeetIs.symm (MeetIs.left H.out.2.1 hx hp2 hy0 c1 hm.symm)),HL.out.2.2.2,c3⟩
        clear c1 c4
        go_wp2
        go_quiet (fail)
        refine with_world (fun u=>Hid (Below wr.heap.size wr u)) (below_drewN _ _ _) ?_
        intro U HU
        replace p0:=bcell_keep HU.out p0
        replace i0:=bcell_keep HU.out i0
        replace iy:=bcell_keep HU.out iy
        clear px py ix
        go_wp2
        go_roundw
        case rel=>exact⟨x,c,hx,c2,rfl,rfl,HN.out.1,HN.out.2.1,HN.out.2.2.1,below_on HN.out.2.2.2.1 (Nat.le_refl _) HU.out⟩
        case measure=>simp[intOf];have:=HN.out.2.2.2.2;omega
theorem CommonIs.skip{n:Nat}{I:Nat->Int}{ps:List Nat}{z:Int}{p:Nat}(h:CommonIs n I ps z)(hp:¬Kn I p):CommonIs n I (ps++[p]) z:=by
  have hm:∀q,q∈ps++[p]->q∈ps\/q=p:=fun q hq=>by simpa using hq
  rcases h with⟨h1,h2⟩|⟨m,h1,h2,h3,⟨q,h4,h4'⟩,h5⟩
  . exact .inl ⟨h1,fun q hq=>(hm q hq).elim (h2 q) (fun e=>by rw[e];exact hp)⟩
  . refine .inr ⟨m,h1,h2,h3,⟨q,List.mem_append.2 (.inl h4),h4'⟩,fun d=> ?_⟩
    rw[h5 d]
    exact⟨fun k q hq hk=>(hm q hq).elim (fun r=>k q r hk) (fun e=>absurd (e▸hk) hp),fun k q hq hk=>k q (List.mem_append.2 (.inl hq)) hk⟩
theorem CommonIs.first{n:Nat}{I:Nat->Int}{ps:List Nat}{p:Nat}(h:CommonIs n I ps (-1))(hp:Kn I p)(hn:p<n):CommonIs n I (ps++[p]) (p:Int):=by
  have hm:∀q,q∈ps++[p]->q∈ps\/q=p:=fun q hq=>by simpa using hq
  rcases h with⟨h1,h2⟩|⟨m,h1,_⟩
  . refine .inr ⟨p,rfl,hn,hp,⟨p,by simp,hp⟩,fun d=>⟨fun k q hq hk=>(hm q hq).elim (fun r=>absurd hk (h2 q r)) (fun e=>e▸k),fun k=>k p (by simp) hp⟩⟩
  . omega
theorem CommonIs.meet{n:Nat}{I:Nat->Int}{ps:List Nat}{p m m':Nat}(h:CommonIs n I ps (m:Int))(hp:Kn I p)(hm':m'<n)(hk':Kn I m')(hM:MeetIs I m p m'):CommonIs n I (ps++[p]) (m':Int):=by
  have hm:∀q,q∈ps++[p]->q∈ps\/q=p:=fun q hq=>by simpa using hq
  rcases h with⟨h1,_⟩|⟨m0,h1,h2,h3,⟨q,h4,h4'⟩,h5⟩
  . omega
  . obtain rfl:m=m0:=by omega
    refine .inr ⟨m',rfl,hm',hk',⟨q,List.mem_append.2 (.inl h4),h4'⟩,fun d=> ?_⟩
    rw[hM d,h5 d]
    exact⟨fun k q hq hk=>(hm q hq).elim (fun r=>k.1 q r hk) (fun e=>e▸k.2),fun k=>⟨fun q hq hk=>k q (List.mem_append.2 (.inl hq)) hk,k p (by simp) hp⟩⟩
theorem CommonIs.some{n:Nat}{I:Nat->Int}{ps:List Nat}{z:Int}(h:CommonIs n I ps z)(hz:z≠ -1):∃m:Nat,z=(m:Int)/\m<n/\Kn I m:=by
  rcases h with⟨h1,_⟩|⟨m,h1,h2,h3,_⟩
  . exact absurd h1 hz
  . exact⟨m,h1,h2,h3⟩
set_option maxHeartbeats 8000000 in
set_option maxRecDepth 100000 in
theorem commonOf_any(G n gp cp gi ci:Nat)(pl:Nat->Nat)(I:Nat->Int)(s:Value)(ps:List Nat)(w:World)(hn:n<=1024)(ht:Tree n pl I)(hz:pl 0=0)(hinj:∀a b,a<n->b<n->pl a=pl b->a=b)(hps:∀p∈ps,p<n)(hpl:ps.length<=4096)(hs:RdN w s ps)(h:GI w G n gp cp gi ci pl I):
    Calls Tryz.prog 143 #[.pointer (some ⟨G,0,none⟩),s] w fun e w'=>∃z,e=.returned (.int .i64 z)/\CommonIs n I ps z/\Below w.heap.size w w':=by
  have H:Hid (GI w G n gp cp gi ci pl I/\RdN w s ps/\(∀p∈ps,p<n)):=⟨h,hs,hps⟩
  obtain⟨a1,c1,rfl⟩:=Rd.is_slice hs
  have HT:Hid (∀(a b:Nat) (U:World),a<n->b<n->Kn I a->Kn I b->GI U G n gp cp gi ci pl I->Calls Tryz.prog 144 #[.pointer (some ⟨G,0,none⟩),.int .i64 (a:Int),.int .i64 (b:Int)] U fun e w'=>∃m:Nat,e=.returned (.int .i64 (m:Int))/\m<n/\Kn I m/\MeetIs I a b m/\Below U.heap.size U w'):=fun a b U ha hb ka kb hU=>meet_any G n gp cp gi ci a b pl I U hn ht hz hinj ha hb ka kb hU
  clear h hs hps ht hz hinj
  go_enter Tryz.func143,Tryz.ntmps143
  go_wp2
  go_loopw [5,11] (fun v i wr=>∃(k:Nat) (z:Int),k<=ps.length/\v=.int .i64 z/\i=.int .i64 k/\Hid (CommonIs n I (ps.take k) z/\Below w.heap.size w wr)) (fun _ i _=>ps.length-(intOf i).toNat)
  case atStart=>exact⟨0,-1,by omega,rfl,rfl,.inl ⟨rfl,fun p hp=>by simp at hp⟩,Below.refl _ _⟩
  case round=>
    obtain⟨k,z,hk,rfl,rfl,HL⟩:=hrel
    by_cases hlt:k<ps.length
    . have hltI:(k:Int)<(ps.length:Int):=by omega
      obtain⟨p,hp⟩:∃p,ps[k]?=some p:=⟨_,List.getElem?_eq_getElem hlt⟩
      have hpn:p<n:=H.out.2.2 p (List.mem_of_getElem? hp)
      have hpnI:(p:Int)<(n:Int):=by omega
      have HTK:Hid (ps.take (k+1)=ps.take k++[p]):=by
        obtain⟨hl,rfl⟩:=List.getElem?_eq_some_iff.1 hp
        exact List.take_succ_eq_append_getElem hl
      obtain⟨ga,oa,rfl,_,y0⟩:=H.out.2.1.at_ hp
      replace y0:=bcell_keep HL.out.2 y0
      have hg:=H.out.1.keep HL.out.2
      have i0:=hg.i
      have ip:=hg.ic p hpn
      clear hp hg
      by_cases hkn:Kn I p
      . have HKB:Hid (Kn I p):=hkn
        go_upto_region 5 with fail
        go_cut [8]from 15 to 26 (fun c wx=>c=.bool true/\wx=wr)
        case first=>
          by_cases hp0:p=0
          . subst hp0
            go_wp2
            go_meet
            case rel=>exact⟨rfl,rfl⟩
          . have hp0B:((p:Int)==0)=false:=by simp;omega
            have hpi:=HKB.out.resolve_left hp0
            have hpiB:(I p== -1)=false:=by simpa using hpi
            have hpiN:(I p != -1)=true:=by simpa using hpi
            go_wp2
            go_meet
            case rel=>exact⟨rfl,rfl⟩
        case rest=>
          obtain⟨rfl,hwc⟩:=hcut
          rw[hwc]
          clear hwc y0 i0 ip
          by_cases hz1:z=-1
          . subst hz1
            have HN:Hid (CommonIs n I (ps.take (k+1)) (p:Int)):=by
              show CommonIs _ _ _ _
              rw[HTK.out]
              exact HL.out.1.first HKB.out hpn
            go_wp2
            go_roundw
            case rel=>exact⟨k+1,_,by omega,rfl,by go_num,HN.out,HL.out.2⟩
            case measure=>simp[intOf];omega
          . have hzB:(z== -1)=false:=by simpa using hz1
            obtain⟨m,rfl,hm,hkm⟩:=HL.out.1.some hz1
            go_wp2_with fail
            refine(HT.out m p wr hm hpn hkm HKB.out (H.out.1.keep HL.out.2)).mono ?_
            rintro e u1 ⟨m',rfl,h1,h2,h3,b1⟩
            have HN:Hid (CommonIs n I (ps.take (k+1)) (m':Int)/\Below w.heap.size w u1):=by
              refine⟨?_,below_on HL.out.2 (Nat.le_refl _) b1⟩
              rw[HTK.out]
              exact HL.out.1.meet HKB.out h1 h2 h3
            clear h2 h3 b1
            go_wp2
            go_roundw
            case rel=>exact⟨k+1,_,by omega,rfl,by go_num,HN.out⟩
            case measure=>simp[intOf];omega
      . have hp0:¬p=0:=fun q=>hkn (.inl q)
        have hpi:I p=-1:=Classical.byContradiction fun q=>hkn (.inr q)
        have hp0B:((p:Int)==0)=false:=by simp;omega
        rw[hpi]at ip
        have HN:Hid (CommonIs n I (ps.take (k+1)) z):=by
          show CommonIs _ _ _ _
          rw[HTK.out]
          exact HL.out.1.skip hkn
        go_wp2
        go_roundw
        case rel=>exact⟨k+1,z,by omega,by trivial,by go_num,HN.out,HL.out.2⟩
        case measure=>simp[intOf];omega
    . obtain rfl:k=ps.length:=by omega
      have HN:Hid (CommonIs n I ps z):=by
        have:=HL.out.1
        rw[List.take_of_length_le (Nat.le_refl _)]at this
        exact this
      go_wp2
      go_ret
      exact⟨z,rfl,HN.out,HL.out.2⟩
end Go.Proofs.YtdfmdgbolmbffaaGreat
namespace Go.Proofs.YtdfmdgbolmbffaaGreat
open Go.ChangeShapes Go.WideShapes Go.ChangeAt Go.RowKit
set_option linter.unusedVariables false
theorem zeroU(w:World):(zeroValue 205).run Tryz.prog w=.ok (.agg #[]) w:=by kernel_rfl
set_option maxHeartbeats 1000000 in
theorem has_any(b cnt:Nat)(D:DataW Unit)(z:Int)(w:World)(hz:W64 z)(h:SetAt w b cnt D):
    Calls Tryz.prog 152 #[.map (some b),.int .i64 z] w fun e w'=>e=.returned (.bool (Go.Maps.has D (.int .i64 z)))/\Below w.heap.size w w':=by
  have hown:w.ownsMap Tryz.prog 2 (unitElem (H:=Unit)) b cnt D:=h
  go_enter Tryz.func152,Tryz.ntmps152
  go_wp2_with (at_lookup;refine wpList_lookup_own_unit _ rfl _ _ 142 rfl 2 205 law64 Tryz.underlying142 (zeroU _) b cnt D rfl hown _ _ rfl (Go.Maps.keyOf_int_mk Tryz.underlying2 hz) ?_)
  go_ret
  exact⟨rfl,below_alloc _ _⟩
set_option maxHeartbeats 1000000 in
theorem add_none(b:Nat)(w:World):
    Calls Tryz.prog 117 #[.map (some b),.slice none 0 0] w fun e w'=>e=.returned (.tuple #[])/\w'=w:=by
  go_enter Tryz.func117,Tryz.ntmps117
  go_wp2
  go_loopw [8] (fun i wr=>i=.int .i64 0/\wr=w) (fun _ _=>0)
  case atStart=>exact⟨rfl,rfl⟩
  case round=>
    obtain⟨rfl,rfl⟩:=hrel
    go_wp2
    go_end0
    exact⟨rfl,rfl⟩
def EdAt(w:World)(g o n:Nat)(E:Nat->List Nat):Prop:=∀b,b<n->∃a c,w.cell? ⟨g,o+b,none⟩=some (.slice a (E b).length c)/\RdN w (.slice a (E b).length c) (E b)
theorem EdAt.keep{w w':World}{g o n:Nat}{E:Nat->List Nat}(h:EdAt w g o n E)(hb:Below w.heap.size w w'):EdAt w' g o n E:=fun b hb'=>by
  obtain⟨a,c,h1,h2⟩:=h b hb'
  exact⟨a,c,bcell_keep hb h1,h2.keep hb⟩
def walkV(bs be bw bl:Nat):Value:=.func (.func 164) #[] #[.pointer (some ⟨bs,0,none⟩),.pointer (some ⟨be,0,none⟩),.pointer (some ⟨bw,0,none⟩),.pointer (some ⟨bl,0,none⟩)]
structure PO(w u:World)(n bm bs be bw bl:Nat)(EV V:Value)(S O:List Nat):Prop where
  set:∃cnt D,SetAt u bm cnt D/\cnt+unseen S n<=n+1/\∀x:Nat,Go.Maps.has D (.int .i64 (x:Int))=S.contains x
  sb:Blk u bs #[.map (some bm)] 142
  eb:Blk u be #[EV] 22
  wb:Blk u bw #[walkV bs be bw bl] 214
  lb:Blk u bl #[V] 48
  list:OwN u w.heap.size V O
  bel:Below w.heap.size w u
  ge:w.heap.size<=bm/\w.heap.size<=bl
  len:O.length+unseen S n<=n
theorem PO.keep{w u u':World}{n bm bs be bw bl:Nat}{EV V:Value}{S O:List Nat}(h:PO w u n bm bs be bw bl EV V S O)(hb:Below u.heap.size u u'):PO w u' n bm bs be bw bl EV V S O:=by
  obtain⟨cnt,D,h1,h2,h3⟩:=h.set
  exact⟨⟨cnt,D,h1.keep hb,h2,h3⟩,h.sb.keep hb,h.eb.keep hb,h.wb.keep hb,h.lb.keep hb,h.list.keep hb,below_on h.bel (Nat.le_refl _) hb,h.ge,h.len⟩
theorem Blk.gb{w w':World}{b:Nat}{cur:Array Value}{t:TypeId}{row:Option Nat}(h:Blk w b cur t)(hg:w.grownBy w' row)(hne:some b≠row):Blk w' b cur t:=by
  unfold Blk at*
  rw[hg.block b (Array.getElem?_eq_some_iff.1 h).1 hne]
  exact h
theorem set_ne_blk{w:World}{b b' cnt:Nat}{D:DataW Unit}{cur:Array Value}{t:TypeId}(h:SetAt w b cnt D)(hb:Blk w b' cur t):b'≠b:=fun e=>by
  obtain⟨es,clock,h1,_⟩:=h
  subst e
  unfold Blk at hb
  rw[hb]at h1
  cases h1
theorem set_ne_row{w:World}{base k n b cnt:Nat}{e:TypeId}{v:Value}{xs:List Value}{D:DataW Unit}(h:w.ownsRow base e k v n xs)(hm:SetAt w b cnt D):some b≠v.ownBlock:=by
  obtain⟨es,clock,hb,_⟩:=hm
  intro e1
  rcases h.2 with⟨rfl,_⟩|⟨g,cap,cur,rfl,_,hc,_⟩
  . cases e1
  . simp only[Value.ownBlock,Option.some.injEq]at e1
    subst e1
    rw[hb]at hc
    cases hc
theorem PO.add{w u u':World}{n bm bs be bw bl cnt b:Nat}{EV V:Value}{S O:List Nat}{D:DataW Unit}(h:PO w u n bm bs be bw bl EV V S O)(hs:SetAt u bm cnt D)(hc:cnt+unseen S n<=n+1)(hD:∀x:Nat,Go.Maps.has D (.int .i64 (x:Int))=S.contains x)(hb:b<n)(hbS:b∉S)(hs':SetAt u' bm (cnt+1) (D.put (.int .i64 (b:Int)) (.agg [])))(hg:u.grownBy u' (some bm)):PO w u' n bm bs be bw bl EV V (b::S) O:=by
  have hu:=unseen_cons S n b hb hbS
  have ne:∀{b':Nat} {cur:Array Value} {t:TypeId},Blk u b' cur t->some b'≠some bm:=fun k e=>set_ne_blk hs k (Option.some.inj e)
  refine⟨⟨_,_,hs',by omega,fun x=> ?_⟩,h.sb.gb hg (ne h.sb),h.eb.gb hg (ne h.eb),h.wb.gb hg (ne h.wb),h.lb.gb hg (ne h.lb),own_apart' h.list hg (fun g hgx e=>by rw[e]at hgx;exact set_ne_row h.list hs hgx.symm),h.bel.grown hg h.bel.size (fun j hj=>by cases hj;exact h.ge.1),h.ge,by have:=h.len;omega⟩
  rw[has_put D (World.ownsMap.isMap hs),hD x]
  by_cases e:x=b
  . subst e;simp
  . have:¬(x:Int)=(b:Int):=by omega
    simp[e,this]
theorem PO.al{w u:World}{n bm bs be bw bl:Nat}{EV V:Value}{S O:List Nat}(h:PO w u n bm bs be bw bl EV V S O)(o:Obj):(u.alloc o).ownsRow w.heap.size 2 1 V O.length (nv O)/\w.heap.size<=(u.alloc o).heap.size:=⟨h.list.keep (below_alloc _ _),Nat.le_trans h.bel.size (below_alloc _ _).size⟩
theorem PO.app{w u u':World}{n bm bs be bw bl b:Nat}{EV V V':Value}{S O:List Nat}(h:PO w u n bm bs be bw bl EV V S O)(hown:u'.ownsRow w.heap.size 2 1 V' (O.length+1) (nv O++[.int .i64 (b:Int)]))(hg:(u.alloc (.cells #[.int .i64 (b:Int)] 2)).grownBy u' V.ownBlock)(hl:O.length+1+unseen S n<=n):Blk u' bl #[V] 48/\PO w (u'.setCell ⟨bl,0,none⟩ V') n bm bs be bw bl EV V' S (O++[b]):=by
  have bA:=below_alloc u (.cells #[.int .i64 (b:Int)] 2)
  have h':=h.keep bA
  obtain⟨cnt,D,h1,h2,h3⟩:=h'.set
  have s1:SetAt u' bm cnt D:=World.ownsMap.kept h1 hg (set_ne_row h'.list h1)
  have kb:Blk u' bl #[V] 48:=h'.lb.grown hg h'.list (by decide)
  have ks:=h'.sb.grown hg h'.list (by decide)
  have ke:=h'.eb.grown hg h'.list (by decide)
  have kw:=h'.wb.grown hg h'.list (by decide)
  have hbel:Below w.heap.size w u':=h'.bel.grown hg h'.bel.size (fun i hi=>(h'.list.lt i hi).1)
  have neb:∀{b':Nat} {cur:Array Value} {t:TypeId},Blk u' b' cur t->t≠48->b'≠(⟨bl,0,none⟩:Addr).block:=fun k q e=>by
    simp only[]at e
    subst e
    unfold Blk at k kb
    rw[kb]at k
    simp only[Option.some.injEq,Obj.cells.injEq]at k
    exact q k.2.1.symm
  refine⟨kb,⟨cnt,D,?_,h2,h3⟩,ks.other (neb ks (by decide)) _,ke.other (neb ke (by decide)) _,kw.other (neb kw (by decide)) _,?_,?_,hbel.setCell h.ge.2 _,h.ge,by rw[List.length_append,List.length_singleton];exact hl⟩
  . refine World.ownsMap.kept s1 (row:=some bl) ⟨rfl,rfl,rfl,by rw[World.size_setCell];exact Nat.le_refl _,fun k hk hne=>heap_setCell_other u' _ k _ (fun e=>hne (by rw[e]))⟩ (fun e=>set_ne_blk s1 kb (Option.some.inj e).symm)
  . have:=kb.set 0 V'
    simpa using this
  . unfold OwN
    rw[List.length_append,List.length_singleton,nv_app]
    exact ownsRow_setCell_other hown (a:=⟨bl,0,none⟩) (fun q=>type_apart hown kb (by decide) bl q rfl) _
end Go.Proofs.YtdfmdgbolmbffaaGreat
namespace Go.Proofs.YtdfmdgbolmbffaaGreat
open Go.ChangeShapes Go.WideShapes Go.ChangeAt Go.RowKit
set_option linter.unusedVariables false
theorem w64_nat{x:Nat}(h:x<=1048576):W64 (x:Int):=by
  simp[W64,Lit.wf,IntKind.min,IntKind.max,IntKind.signed,IntKind.bits]
  omega
set_option maxHeartbeats 8000000 in
set_option maxRecDepth 100000 in
theorem walk_any(w:World)(g o c n bm bs be bw bl:Nat)(E:Nat->List Nat)(hn:n<=1024)(hE:∀b,b<n->∀x∈E b,x<n)(hsz:∀b,(E b).length<=2048)(h:EdAt w g o n E):
    ∀(m:Nat) (S O:List Nat) (b:Nat) (V:Value) (u:World),unseen S n=m->b<n->PO w u n bm bs be bw bl (.slice (some ⟨g,o,none⟩) n c) V S O->(b∉S->O.length+unseen S n<=n)->
    Calls Tryz.prog 164 #[.int .i64 (b:Int),.pointer (some ⟨bs,0,none⟩),.pointer (some ⟨be,0,none⟩),.pointer (some ⟨bw,0,none⟩),.pointer (some ⟨bl,0,none⟩)] u fun e u'=>e=.returned (.tuple #[])/\∃V' S' O',Vs E S O [b] S' O'/\PO w u' n bm bs be bw bl (.slice (some ⟨g,o,none⟩) n c) V' S' O'/\O'.length+unseen S' n<=O.length+unseen S n:=by
  obtain⟨k0,hk,hx0,hx1,hx2⟩:=info_parts info64
  have H:Hid (EdAt w g o n E/\(∀b,b<n->∀x∈E b,x<n)/\(∀b,(E b).length<=2048)):=⟨h,hE,hsz⟩
  clear h hE hsz
  intro m
  induction m using Nat.strongRecOn with
  | ind m ih=>
    intro S O b V u hm hb hpo hlen
    have IH:Hid (∀m',m'<m->∀(S O:List Nat) (b:Nat) (V:Value) (u:World),unseen S n=m'->b<n->PO w u n bm bs be bw bl (.slice (some ⟨g,o,none⟩) n c) V S O->(b∉S->O.length+unseen S n<=n)->
      Calls Tryz.prog 164 #[.int .i64 (b:Int),.pointer (some ⟨bs,0,none⟩),.pointer (some ⟨be,0,none⟩),.pointer (some ⟨bw,0,none⟩),.pointer (some ⟨bl,0,none⟩)] u fun e u'=>e=.returned (.tuple #[])/\∃V' S' O',Vs E S O [b] S' O'/\PO w u' n bm bs be bw bl (.slice (some ⟨g,o,none⟩) n c) V' S' O'/\O'.length+unseen S' n<=O.length+unseen S n):=ih
    have HP:Hid (PO w u n bm bs be bw bl (.slice (some ⟨g,o,none⟩) n c) V S O):=hpo
    obtain⟨cnt,D,hs,hcn,hD⟩:=hpo.set
    have HS:Hid (SetAt u bm cnt D/\cnt+unseen S n<=n+1/\∀x:Nat,Go.Maps.has D (.int .i64 (x:Int))=S.contains x):=⟨hs,hcn,hD⟩
    have hDb:=hD b
    have s0:u.cell? ⟨bs,0,none⟩=some (.map (some bm)):=hpo.sb.cell 0
    have hbI:(b:Int)<(n:Int):=by omega
    clear ih hpo hs hD
    go_enter Tryz.func164,Tryz.ntmps164
    go_wp2_with fail
    refine(has_any bm cnt D (b:Int) u (w64_nat (by omega)) HS.out.1).mono ?_
    rintro e u1 ⟨rfl,b1⟩
    rw[hDb]
    have HP1:Hid (PO w u1 n bm bs be bw bl (.slice (some ⟨g,o,none⟩) n c) V S O/\SetAt u1 bm cnt D):=⟨HP.out.keep b1,HS.out.1.keep b1⟩
    clear b1 s0 hDb
    cases hc:S.contains b
    . have hbS:b∉S:=by simpa using hc
      have hu1:=unseen_cons S n b hb hbS
      have HU1:Hid (unseen (b::S) n+1=unseen S n/\unseen S n=m/\O.length+unseen S n<=n):=⟨hu1,hm,hlen hbS⟩
      clear hu1 hm hlen
      have s0:u1.cell? ⟨bs,0,none⟩=some (.map (some bm)):=HP1.out.1.sb.cell 0
      have HA:Hid ((u1.alloc (.cells #[.int .i64 (b:Int)] 2)).cell? ⟨u1.heap.size,0,none⟩=some (.int .i64 (b:Int))/\SetAt (u1.alloc (.cells #[.int .i64 (b:Int)] 2)) bm cnt D/\PO w (u1.alloc (.cells #[.int .i64 (b:Int)] 2)) n bm bs be bw bl (.slice (some ⟨g,o,none⟩) n c) V S O/\¬u1.heap.size=bm):=⟨(Blk.new u1 #[.int .i64 (b:Int)] 2).cell 0,HP1.out.2.keep (below_alloc _ _),HP1.out.1.keep (below_alloc _ _),by have:=World.ownsMap.lt HP1.out.2;omega⟩
      go_wp2_with fail
      refine(add_one bm cnt u1.heap.size 1 D (b:Int) _ (w64_nat (by omega)) (by have:=HS.out.2.1;omega) HA.out.1 HA.out.2.2.2 HA.out.2.1).mono ?_
      rintro e u2 ⟨rfl,s2,g2⟩
      have HP2:Hid (PO w u2 n bm bs be bw bl (.slice (some ⟨g,o,none⟩) n c) V (b::S) O):=HA.out.2.2.1.add HA.out.2.1 HS.out.2.1 HS.out.2.2 hb hbS s2 g2
      clear s2 g2 s0 HA HP1 HS HP hcn
      obtain⟨a,ca,g0,g1⟩:=H.out.1 b hb
      have HG:Hid (w.cell? ⟨g,o+b,none⟩=some (.slice a (E b).length ca)/\RdN w (.slice a (E b).length ca) (E b)):=⟨g0,g1⟩
      replace g0:=bcell_keep HP2.out.bel g0
      have e0:u2.cell? ⟨be,0,none⟩=some (.slice (some ⟨g,o,none⟩) n c):=HP2.out.eb.cell 0
      have hE2:=H.out.2.2 b
      clear g1
      go_wp2
      go_loopw [20] (fun i wr=>∃(S' O':List Nat) (V':Value) (k:Nat),i=.int .i64 k/\k<=(E b).length/\Hid (Vs E (b::S) O ((E b).take k) S' O'/\PO w wr n bm bs be bw bl (.slice (some ⟨g,o,none⟩) n c) V' S' O'/\O'.length+unseen S' n+1<=O.length+unseen S n)) (fun i _=>(E b).length-(intOf i).toNat)
      case atStart=>exact⟨b::S,O,V,0,rfl,by omega,by simpa using Vs.nil (b::S) O,HP2.out,by have:=HU1.out;omega⟩
      case round=>
        clear HP2 g0 e0
        obtain⟨S',O',V',k,rfl,hkE,HL⟩:=hrel
        by_cases hlt:k<(E b).length
        . have hltI:(k:Int)<((E b).length:Int):=by omega
          obtain⟨y,hy⟩:∃y,(E b)[k]?=some y:=⟨_,List.getElem?_eq_getElem hlt⟩
          have hyn:y<n:=H.out.2.1 b hb y (List.mem_of_getElem? hy)
          obtain⟨ga,oa,rfl,_,y0⟩:=HG.out.2.at_ hy
          replace y0:=bcell_keep HL.out.2.1.bel y0
          have f0:wr.cell? ⟨bw,0,none⟩=some (.func (.func 164) #[] #[.pointer (some ⟨bs,0,none⟩),.pointer (some ⟨be,0,none⟩),.pointer (some ⟨bw,0,none⟩),.pointer (some ⟨bl,0,none⟩)]):=HL.out.2.1.wb.cell 0
          have HT:Hid ((E b).take (k+1)=(E b).take k++[y]):=by
            obtain⟨hl,rfl⟩:=List.getElem?_eq_some_iff.1 hy
            exact List.take_succ_eq_append_getElem hl
          have hmo:=HL.out.1.more
          have hun:=unseen_mono n hmo
          have HC:Hid (Calls Tryz.prog 164 #[.int .i64 (y:Int),.pointer (some ⟨bs,0,none⟩),.pointer (some ⟨be,0,none⟩),.pointer (some ⟨bw,0,none⟩),.pointer (some ⟨bl,0,none⟩)] wr fun e u'=>e=.returned (.tuple #[])/\∃V'' S'' O'',Vs E S' O' [y] S'' O''/\PO w u' n bm bs be bw bl (.slice (some ⟨g,o,none⟩) n c) V'' S'' O''/\O''.length+unseen S'' n<=O'.length+unseen S' n):=IH.out (unseen S' n) (by have:=HU1.out;omega) S' O' y V' wr rfl hyn HL.out.2.1 (fun _=>by have:=HL.out.2.2;have:=HU1.out;omega)
          clear hy hmo hun
          go_wp2_with fail
          refine HC.out.mono ?_
          rintro e u3 ⟨rfl,V3,S3,O3,hv3,hp3,hl3⟩
          have HN:Hid (Vs E (b::S) O ((E b).take (k+1)) S3 O3/\PO w u3 n bm bs be bw bl (.slice (some ⟨g,o,none⟩) n c) V3 S3 O3/\O3.length+unseen S3 n+1<=O.length+unseen S n):=by
            refine⟨?_,hp3,by have:=HL.out.2.2;omega⟩
            rw[HT.out]
            exact HL.out.1.app hv3
          clear hv3 hp3 hl3 y0 f0 HC
          go_wp2
          go_roundw
          case rel=>exact⟨S3,O3,V3,k+1,by go_num,by omega,HN⟩
          case measure=>simp[intOf];omega
        . obtain rfl:k=(E b).length:=by omega
          obtain⟨aV,cV,rfl⟩:=own_slice HL.out.2.1.list
          have hO3:=HU1.out
          have hO4:=HL.out.2.2
          go_upto_region 7 with fail
          refine wp_world (fun u=>Hid (PO w u n bm bs be bw bl (.slice (some ⟨g,o,none⟩) n c) (.slice aV O'.length cV) S' O')) HL.out.2.1 ?_
          intro U HU
          have l0:U.cell? ⟨bl,0,none⟩=some (.slice aV O'.length cV):=HU.out.lb.cell 0
          go_wp2_with (at_builtin;refine wpList_append_lies _ rfl _ _ 48 rfl w.heap.size 2 k0 (.int .i64 0) 1 8 Tryz.underlying48 hk hx0 hx1 hx2 rfl (by decide) _ O'.length (nv O') rfl (HU.out.al (.cells #[.int .i64 (b:Int)] 2)).1 ⟨U.heap.size,0,none⟩ 1 1 [.int .i64 (b:Int)] rfl rfl (one_cell U (b:Int)) (fun u hu=>by simp at hu;subst hu;rfl) (by omega) (by simp[maxLen];omega) (by omega) (HU.out.al (.cells #[.int .i64 (b:Int)] 2)).2 _ rfl ?_;intro g5 cap5 w5 hown hgrow hat hlt9;obtain⟨kb5,l5⟩:=HU.out.app hown hgrow (by omega);have HU5:Hid (PO w (w5.setCell ⟨bl,0,none⟩ (.slice (some ⟨g5,0,none⟩) (O'.length+1) cap5)) n bm bs be bw bl (.slice (some ⟨g,o,none⟩) n c) (.slice (some ⟨g5,0,none⟩) (O'.length+1) cap5) S' (O'++[b])):=l5;have t5:w5.cell? ⟨bl,0,none⟩=some (.slice aV O'.length cV):=kb5.cell 0;have z5:=kb5.frozen 0;clear hown hgrow hat hlt9 kb5 l5)
          go_end0
          refine⟨rfl,_,S',O'++[b],?_,HU5.out,by rw[List.length_append,List.length_singleton];omega⟩
          have:=HL.out.1
          rw[List.take_of_length_le (Nat.le_refl _)]at this
          exact .new hbS this (.nil _ _)
    . go_wp2_with fail
      exact bodyPost_ret (v:=.tuple #[]) (by simp[results,Tryz.results164,go_sem]) rfl ⟨rfl,V,S,O,.old (by simpa using hc) (.nil _ _),HP1.out.1,Nat.le_refl _⟩
end Go.Proofs.YtdfmdgbolmbffaaGreat
namespace Go.Proofs.YtdfmdgbolmbffaaGreat
open Go.ChangeShapes Go.WideShapes Go.ChangeAt Go.RowKit
set_option linter.unusedVariables false
theorem run_store_func(P:Program)(w:World)(a:Addr)(m:Mode)(f:Fn)(x y:Array Value):(store a (.func f x y) m).run P w=stored P w a (.func f x y) m:=run_store P w a _ m rfl
set_option maxHeartbeats 8000000 in
set_option maxRecDepth 100000 in
theorem postorder_any(g o c n:Nat)(E:Nat->List Nat)(sv:Value)(T:List Nat)(bv_:Value)(S0:List Nat)(w:World)(hn:n<=1024)(hE:∀b,b<n->∀x∈E b,x<n)(hsz:∀b,(E b).length<=2048)(h:EdAt w g o n E)(hT:∀x∈T,x<n)(hTl:T.length<=4096)(hs:RdN w sv T)(hS:(bv_=.slice none 0 0/\S0=[])\/∃x gx cx:Nat,S0=[x]/\x<n/\bv_=.slice (some ⟨gx,0,none⟩) 1 cx/\w.cell? ⟨gx,0,none⟩=some (.int .i64 (x:Int))):
    Calls Tryz.prog 139 #[.slice (some ⟨g,o,none⟩) n c,sv,bv_] w fun e w'=>∃V S O,e=.returned V/\Vs E S0 [] T S O/\OwN w' w.heap.size V O/\Below w.heap.size w w':=by
  have H:Hid (EdAt w g o n E/\(∀b,b<n->∀x∈E b,x<n)/\(∀b,(E b).length<=2048)/\(∀x∈T,x<n)/\RdN w sv T):=⟨h,hE,hsz,hT,hs⟩
  obtain⟨at_,ct,rfl⟩:=Rd.is_slice hs
  clear h hE hsz hT hs
  have hmm:= @run_makeMap Tryz.prog
  have hmf:∀(fn:Fn) (first cap:Array Value) (w:World),(Instr.makeFunc fn first cap).run Tryz.prog w=.ok (.func fn first cap) w:=fun _ _ _ _=>rfl
  go_enter Tryz.func139,Tryz.ntmps139
  go_upto_region 3 with fail
  refine wp_world (fun u=>Hid (Blk u w.heap.size #[.slice (some ⟨g,o,none⟩) n c] 22/\Blk u (w.heap.size+1) #[.slice none 0 0] 48/\SetAt u (w.heap.size+1+1) 0 (.map [])/\Blk u (w.heap.size+1+1+1) #[.map (some (w.heap.size+1+1))] 142/\Below w.heap.size w u)) ?_ ?_
  . have b1:=below_alloc w (.cells #[.slice (some ⟨g,o,none⟩) n c] 22)
    have k1:=Blk.new w #[.slice (some ⟨g,o,none⟩) n c] 22
    have z1:(w.alloc (.cells #[.slice (some ⟨g,o,none⟩) n c] 22)).heap.size=w.heap.size+1:=by simp
    generalize w.alloc (.cells #[.slice (some ⟨g,o,none⟩) n c] 22)=W1 at b1 k1 z1⊢
    have b2:=below_alloc W1 (.cells #[.slice none 0 0] 48)
    have k2:=Blk.new W1 #[.slice none 0 0] 48
    have z2:(W1.alloc (.cells #[.slice none 0 0] 48)).heap.size=w.heap.size+1+1:=by simp[z1]
    rw[z1]at k2
    generalize W1.alloc (.cells #[.slice none 0 0] 48)=W2 at b2 k2 z2⊢
    have b3:=below_alloc W2 (.map #[] 0)
    have k3:SetAt (W2.alloc (.map #[] 0)) W2.heap.size 0 (.map []):=World.ownsMap_made _ _ _ _
    have z3:(W2.alloc (.map #[] 0)).heap.size=w.heap.size+1+1+1:=by simp[z2]
    rw[z2]at k3
    generalize W2.alloc (.map #[] 0)=W3 at b3 k3 z3⊢
    have b4:=below_alloc W3 (.cells #[.map (some (w.heap.size+1+1))] 142)
    have k4:=Blk.new W3 #[.map (some (w.heap.size+1+1))] 142
    rw[z3]at k4
    exact⟨((k1.keep b2).keep b3).keep b4,(k2.keep b3).keep b4,k3.keep b4,k4,below_on (below_on (below_on b1 (Nat.le_refl _) b2) (Nat.le_refl _) b3) (Nat.le_refl _) b4⟩
  intro U0 HU0
  have s0:U0.cell? ⟨w.heap.size+1+1+1,0,none⟩=some (.map (some (w.heap.size+1+1))):=HU0.out.2.2.2.1.cell 0
  have HAD:Hid (Calls Tryz.prog 117 #[.map (some (w.heap.size+1+1)),bv_] U0 fun e u'=>e=.returned (.tuple #[])/\(∃cnt D,SetAt u' (w.heap.size+1+1) cnt D/\cnt+unseen S0 n<=n+1/\∀x:Nat,Go.Maps.has D (.int .i64 (x:Int))=S0.contains x)/\U0.grownBy u' (some (w.heap.size+1+1))):=by
    rcases hS with⟨rfl,rfl⟩|⟨x,gx,cx,rfl,hx,rfl,hc⟩
    . refine(add_none _ U0).mono ?_
      rintro e u' ⟨rfl,rfl⟩
      exact⟨rfl,⟨0,.map [],HU0.out.2.2.1,by rw[unseen_nil];omega,fun x=>rfl⟩,⟨rfl,rfl,rfl,Nat.le_refl _,fun _ _ _=>rfl⟩⟩
    . refine(add_one _ 0 gx cx _ (x:Int) U0 (w64_nat (by omega)) (by omega) (bcell_keep HU0.out.2.2.2.2 hc) (by have:=block_lt_of_cell hc;simp only[]at this;omega) HU0.out.2.2.1).mono ?_
      rintro e u' ⟨rfl,h1,h2⟩
      refine⟨rfl,⟨_,_,h1,?_,fun y=> ?_⟩,h2⟩
      . have:=unseen_cons [] n x hx (by simp)
        rw[unseen_nil]at this
        omega
      . rw[has_put _ (World.ownsMap.isMap HU0.out.2.2.1)]
        by_cases e:y=x
        . subst e;simp
        . have:¬(y:Int)=(x:Int):=by omega
          simp[e,this]
          rfl
  clear hS
  go_wp2_with fail
  refine HAD.out.mono ?_
  rintro e u1 ⟨rfl,hset,hg1⟩
  have HU1:Hid (Blk u1 w.heap.size #[.slice (some ⟨g,o,none⟩) n c] 22/\Blk u1 (w.heap.size+1) #[.slice none 0 0] 48/\(∃cnt D,SetAt u1 (w.heap.size+1+1) cnt D/\cnt+unseen S0 n<=n+1/\∀x:Nat,Go.Maps.has D (.int .i64 (x:Int))=S0.contains x)/\Blk u1 (w.heap.size+1+1+1) #[.map (some (w.heap.size+1+1))] 142/\Below w.heap.size w u1):=⟨HU0.out.1.gb hg1 (by simp;omega),HU0.out.2.1.gb hg1 (by simp),hset,HU0.out.2.2.2.1.gb hg1 (by simp),HU0.out.2.2.2.2.grown hg1 HU0.out.2.2.2.2.size (fun j hj=>by cases hj;omega)⟩
  clear hset hg1 HAD HU0 s0
  have hsf:= @run_store_func Tryz.prog
  have kF:=Blk.new u1 #[.nilFunc] 214
  have c9:(u1.alloc (.cells #[.nilFunc] 214)).cell? ⟨u1.heap.size,0,none⟩=some .nilFunc:=kF.cell 0
  have f9:=kF.frozen 0
  have HPO:Hid (PO w (u1.alloc (.cells #[.func (.func 164) #[] #[.pointer (some ⟨w.heap.size+1+1+1,0,none⟩),.pointer (some ⟨w.heap.size,0,none⟩),.pointer (some ⟨u1.heap.size,0,none⟩),.pointer (some ⟨w.heap.size+1,0,none⟩)]] 214)) n (w.heap.size+1+1) (w.heap.size+1+1+1) w.heap.size u1.heap.size (w.heap.size+1) (.slice (some ⟨g,o,none⟩) n c) (.slice none 0 0) S0 []):=by
    have bA:=below_alloc u1 (.cells #[walkV (w.heap.size+1+1+1) w.heap.size u1.heap.size (w.heap.size+1)] 214)
    obtain⟨cnt,D,h1,h2,h3⟩:=HU1.out.2.2.1
    refine⟨⟨cnt,D,h1.keep bA,h2,h3⟩,HU1.out.2.2.2.1.keep bA,HU1.out.1.keep bA,Blk.new u1 _ _,HU1.out.2.1.keep bA,World.ownsRow_nil _ _ _ _,below_on HU1.out.2.2.2.2 (Nat.le_refl _) bA,⟨by omega,by omega⟩,?_⟩
    have:=unseen_mono n (S:=[]) (S':=S0) (fun x hx=>by cases hx)
    rw[unseen_nil]at this
    simpa using this
  go_upto_region 6 with fail
  refine wp_world (fun u=>Hid (PO w u n (w.heap.size+1+1) (w.heap.size+1+1+1) w.heap.size u1.heap.size (w.heap.size+1) (.slice (some ⟨g,o,none⟩) n c) (.slice none 0 0) S0 [])) HPO ?_
  intro U2 HU2
  clear HPO kF c9 f9 HU1
  obtain⟨bw,hbw⟩:∃bw,bw=u1.heap.size:=⟨_,rfl⟩
  rw[<-hbw]at HU2⊢
  clear hbw
  go_wp2
  go_loopw [19] (fun i wr=>∃(k:Nat) (V:Value) (S O:List Nat),k<=T.length/\i=.int .i64 k/\Hid (Vs E S0 [] (T.take k) S O/\PO w wr n (w.heap.size+1+1) (w.heap.size+1+1+1) w.heap.size bw (w.heap.size+1) (.slice (some ⟨g,o,none⟩) n c) V S O)) (fun i _=>T.length-(intOf i).toNat)
  case atStart=>exact⟨0,_,S0,[],by omega,rfl,by simpa using Vs.nil S0 [],HU2.out⟩
  case round=>
    clear HU2
    obtain⟨k,V,S,O,hk,rfl,HL⟩:=hrel
    by_cases hlt:k<T.length
    . have hltI:(k:Int)<(T.length:Int):=by omega
      obtain⟨y,hy⟩:∃y,T[k]?=some y:=⟨_,List.getElem?_eq_getElem hlt⟩
      have hyn:y<n:=H.out.2.2.2.1 y (List.mem_of_getElem? hy)
      obtain⟨ga,oa,rfl,_,y0⟩:=H.out.2.2.2.2.at_ hy
      replace y0:=bcell_keep HL.out.2.bel y0
      have f0:wr.cell? ⟨bw,0,none⟩=some (.func (.func 164) #[] #[.pointer (some ⟨w.heap.size+1+1+1,0,none⟩),.pointer (some ⟨w.heap.size,0,none⟩),.pointer (some ⟨bw,0,none⟩),.pointer (some ⟨w.heap.size+1,0,none⟩)]):=HL.out.2.wb.cell 0
      have HT:Hid (T.take (k+1)=T.take k++[y]):=by
        obtain⟨hl,rfl⟩:=List.getElem?_eq_some_iff.1 hy
        exact List.take_succ_eq_append_getElem hl
      clear hy
      go_wp2_with fail
      refine(walk_any w g o c n (w.heap.size+1+1) (w.heap.size+1+1+1) w.heap.size bw (w.heap.size+1) E hn H.out.2.1 H.out.2.2.1 H.out.1 _ S O y V wr rfl hyn HL.out.2 (fun _=>HL.out.2.len)).mono ?_
      rintro e u3 ⟨rfl,V3,S3,O3,hv3,hp3,hl3⟩
      have HN:Hid (Vs E S0 [] (T.take (k+1)) S3 O3/\PO w u3 n (w.heap.size+1+1) (w.heap.size+1+1+1) w.heap.size bw (w.heap.size+1) (.slice (some ⟨g,o,none⟩) n c) V3 S3 O3):=by
        refine⟨?_,hp3⟩
        rw[HT.out]
        exact HL.out.1.app hv3
      clear hv3 hp3 hl3 y0 f0
      go_wp2
      go_roundw
      case rel=>exact⟨k+1,V3,S3,O3,by omega,by go_num,HN⟩
      case measure=>simp[intOf];omega
    . obtain rfl:k=T.length:=by omega
      have l0:wr.cell? ⟨w.heap.size+1,0,none⟩=some V:=HL.out.2.lb.cell 0
      have HF:Hid (Vs E S0 [] T S O):=by
        have:=HL.out.1
        rw[List.take_of_length_le (Nat.le_refl _)]at this
        exact this
      go_wp2
      go_ret
      exact⟨V,S,O,rfl,HF.out,HL.out.2.list,HL.out.2.bel⟩
end Go.Proofs.YtdfmdgbolmbffaaGreat
