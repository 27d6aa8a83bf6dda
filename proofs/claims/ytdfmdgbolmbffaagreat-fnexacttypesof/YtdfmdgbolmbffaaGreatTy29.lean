import Derived.Test.YtdfmdgbolmbffaaGreatTy27
import Derived.Deep.AppendLies
namespace Go.Proofs.YtdfmdgbolmbffaaGreat
open Go.ChangeShapes Go.WideShapes Go.ChangeAt Go.RowKit
set_option linter.unusedVariables false
def nv(l:List Nat):List Value:=l.map fun(k:Nat)=>Value.int .i64 (k:Int)
theorem nv_length(l:List Nat):(nv l).length=l.length:=by simp[nv]
theorem nv_app(l m:List Nat):nv (l++m)=nv l++nv m:=by simp[nv]
theorem nv_flat(l:List Nat):nv l=(ints l).flatMap intCell:=by
  induction l with
  |nil=>rfl
  | cons x r ih=>
    simp only[nv,ints,List.map_cons,List.flatMap_cons]at ih⊢
    rw[ih]
    rfl
theorem nv_at{l:List Nat}{k x:Nat}(h:l[k]?=some x):(nv l)[k]?=some (.int .i64 (x:Int)):=by simp[nv,h]
def RdN(w:World)(s:Value)(l:List Nat):Prop:=Rd w 1 s l.length (nv l)
def OwN(w:World)(base:Nat)(s:Value)(l:List Nat):Prop:=w.ownsRow base 2 1 s l.length (nv l)
theorem OwN.rd{w:World}{base:Nat}{s:Value}{l:List Nat}(h:OwN w base s l):RdN w s l:=Rd.of_own h
theorem OwN.keep{w w':World}{base:Nat}{s:Value}{l:List Nat}(h:OwN w base s l)(hb:Below w.heap.size w w'):OwN w' base s l:=own_keep h hb (Nat.le_refl _)
theorem RdN.keep{w w':World}{s:Value}{l:List Nat}(h:RdN w s l)(hb:Below w.heap.size w w'):RdN w' s l:=Rd.keep h hb (Nat.le_refl _)
theorem RdN.at_{w:World}{a:Option Addr}{n c:Nat}{l:List Nat}(h:RdN w (.slice a n c) l){k x:Nat}(hk:l[k]?=some x):∃g o,a=some ⟨g,o,none⟩/\n=l.length/\w.cell? ⟨g,o+k,none⟩=some (.int .i64 (x:Int)):=by
  rcases h.2 with⟨e0,_⟩|⟨g,o,c',e1,hc⟩
  . have:=(List.getElem?_eq_some_iff.1 hk).1
    omega
  . simp only[Value.slice.injEq]at e1
    obtain⟨rfl,rfl,rfl⟩:=e1
    exact⟨g,o,rfl,rfl,hc k _ (nv_at hk)⟩
theorem RdN.all{w:World}{a:Option Addr}{n c:Nat}{l:List Nat}(h:RdN w (.slice a n c) l)(hl:0<l.length):∃g o,a=some ⟨g,o,none⟩/\n=l.length/\∀k x:Nat,l[k]?=some x->w.cell? ⟨g,o+k,none⟩=some (.int .i64 (x:Int)):=by
  rcases h.2 with⟨e0,_⟩|⟨g,o,c',e1,hc⟩
  . omega
  . simp only[Value.slice.injEq]at e1
    obtain⟨rfl,rfl,rfl⟩:=e1
    exact⟨g,o,rfl,rfl,fun k x hk=>hc k _ (nv_at hk)⟩
def bv(P:Nat->Bool)(n:Nat):List Value:=(List.range n).map fun i=>Value.bool (P i)
theorem bv_length(P:Nat->Bool)(n:Nat):(bv P n).length=n:=by simp[bv]
theorem bv_at(P:Nat->Bool)(n i:Nat)(h:i<n):(bv P n)[i]?=some (.bool (P i)):=by simp[bv,h]
theorem bv_congr{P Q:Nat->Bool}{n:Nat}(h:∀i,i<n->P i=Q i):bv P n=bv Q n:=by
  unfold bv
  apply List.map_congr_left
  intro i hi
  rw[h i (List.mem_range.1 hi)]
theorem bv_set{P Q:Nat->Bool}{n i:Nat}{b:Bool}(h:∀j,j<n->Q j=if j=i then b else P j):(bv P n).set i (.bool b)=bv Q n:=by
  apply List.ext_getElem?
  intro j
  by_cases hj:j<n
  . rw[bv_at _ _ _ hj,h j hj]
    by_cases e:j=i
    . subst e
      rw[List.getElem?_set_self (by rw[bv_length];exact hj),if_pos rfl]
    . rw[List.getElem?_set_ne (by omega),bv_at _ _ _ hj,if_neg e]
  . rw[List.getElem?_eq_none (by simp[bv_length];omega),List.getElem?_eq_none (by rw[bv_length];omega)]
theorem bv_zero(n:Nat):List.replicate n (Value.bool false)=bv (fun _=>false) n:=by
  apply List.ext_getElem?
  intro j
  by_cases hj:j<n
  . rw[bv_at _ _ _ hj]
    simp[hj]
  . rw[List.getElem?_eq_none (by simp;omega),List.getElem?_eq_none (by rw[bv_length];omega)]
def OwB(w:World)(base g n:Nat)(P:Nat->Bool):Prop:=w.ownsRow base 4 1 (.slice (some ⟨g,0,none⟩) n n) n (bv P n)
theorem OwB.keep{w w':World}{base g n:Nat}{P:Nat->Bool}(h:OwB w base g n P)(hb:Below w.heap.size w w'):OwB w' base g n P:=own_keep h hb (Nat.le_refl _)
theorem OwB.cell{w:World}{base g n:Nat}{P:Nat->Bool}(h:OwB w base g n P){i:Nat}(hi:i<n):w.cell? ⟨g,i,none⟩=some (.bool (P i)):=by
  have:=World.ownsRow.cellAt h i (by omega)
  rw[bv_at _ _ _ hi]at this
  exact this
theorem OwB.frozen{w:World}{base g n:Nat}{P:Nat->Bool}(h:OwB w base g n P)(i:Nat):w.frozen? ⟨g,i,none⟩=false:=World.ownsRow.frozenAt h i
theorem OwB.set{w:World}{base g n:Nat}{P Q:Nat->Bool}(h:OwB w base g n P)(i:Nat)(b:Bool)(hQ:∀j,j<n->Q j=if j=i then b else P j):OwB (w.setCell ⟨g,i,none⟩ (.bool b)) base g n Q:=by
  have:=(World.ownsRow.stored h i (.bool b)).1
  rw[bv_set hQ]at this
  exact this
def GrAt(w:World)(g o n:Nat)(E:Nat->List Nat):Prop:=∀b,b<n->∃a c,w.cell? ⟨g,o+b*3+2,none⟩=some (.slice a (E b).length c)/\RdN w (.slice a (E b).length c) (E b)
theorem GrAt.keep{w w':World}{g o n:Nat}{E:Nat->List Nat}(h:GrAt w g o n E)(hb:Below w.heap.size w w'):GrAt w' g o n E:=fun b hb'=>by
  obtain⟨a,c,h1,h2⟩:=h b hb'
  exact⟨a,c,bcell_keep hb h1,h2.keep hb⟩
theorem RdBs.graph{w:World}{V:Value}{xs:List MI}(hg:CodeGood xs)(h:RdBs w V (specL xs)):∃g o c,V=.slice (some ⟨g,o,none⟩) (specL xs).length c/\GrAt w g o (specL xs).length (nx (specL xs))/\∀b m,(specL xs)[b]?=some m->w.cell? ⟨g,o+b*3,none⟩=some (.int .i64 m.first):=by
  obtain⟨ys,h1,h2,h3⟩:=h
  have hp:=lds_pos hg
  rcases h2.2 with⟨e0,_⟩|⟨g,o,c,e1,hc⟩
  . omega
  . have hyb:∀b m,(specL xs)[b]?=some m->∃v,ys[b]?=some (m,v):=fun b m hm=>by
      rw[<-h1,List.getElem?_map]at hm
      obtain⟨⟨m',v⟩,q1,q2⟩:=Option.map_eq_some_iff.1 hm
      simp only[]at q2
      subst q2
      exact⟨v,q1⟩
    refine⟨g,o,c,e1,fun b hb=> ?_,fun b m hm=> ?_⟩
    . obtain⟨v,hv⟩:=hyb b _ (List.getElem?_eq_getElem hb)
      have r:=h3 _ (List.mem_of_getElem? hv)
      have e:=nx_ints hg (List.getElem?_eq_getElem hb)
      have r':RdN w v (nx (specL xs) b):=by
        unfold RdN
        rw[nv_flat]
        unfold RdB at r
        simp only[e]at r
        rw[ints_length]at r
        exact r
      obtain⟨a,cc,ev⟩:=Rd.is_slice r'
      subst ev
      exact⟨a,cc,Rd.elem bCells_length hc b _ hv 2 _ rfl,r'⟩
    . obtain⟨v,hv⟩:=hyb b m hm
      have:=Rd.elem bCells_length hc b _ hv 0 _ rfl
      rw[Nat.add_zero]at this
      exact this
end Go.Proofs.YtdfmdgbolmbffaaGreat
namespace Go.Proofs.YtdfmdgbolmbffaaGreat
open Go.ChangeShapes Go.WideShapes Go.ChangeAt Go.RowKit
set_option linter.unusedVariables false
structure BfsOk(E:Nat->List Nat)(ok:Nat->Prop)(f n:Nat)(L:List Nat):Prop where
  nodup:L.Nodup
  lt:∀x∈L,x<n
  reach:∀x∈L,Rch E ok f x
  start:f∈L
theorem BfsOk.len{E:Nat->List Nat}{ok:Nat->Prop}{f n:Nat}{L:List Nat}(h:BfsOk E ok f n L):L.length<=n:=by
  have:=nodup_le L n h.lt h.nodup
  omega
theorem BfsOk.add{E:Nat->List Nat}{ok:Nat->Prop}{f n:Nat}{L:List Nat}(h:BfsOk E ok f n L){b y:Nat}(hb:b∈L)(hy:y∈E b)(ho:ok y)(hn:y<n)(hL:y∉L):BfsOk E ok f n (L++[y]):=by
  refine⟨List.nodup_append.2 ⟨h.nodup,by simp,fun a ha c hc e=> ?_⟩,fun x hx=> ?_,fun x hx=> ?_,List.mem_append.2 (.inl h.start)⟩
  . simp only[List.mem_cons,List.not_mem_nil,or_false]at hc
    subst hc e
    exact hL ha
  . rcases List.mem_append.1 hx with hx|hx
    . exact h.lt x hx
    . simp only[List.mem_cons,List.not_mem_nil,or_false]at hx
      subst hx
      exact hn
  . rcases List.mem_append.1 hx with hx|hx
    . exact h.reach x hx
    . simp only[List.mem_cons,List.not_mem_nil,or_false]at hx
      subst hx
      exact .step (h.reach b hb) hy ho
def ClosedTo(E:Nat->List Nat)(ok:Nat->Prop)(L:List Nat)(i:Nat):Prop:=∀j x,L[j]?=some x->j<i->∀y∈E x,ok y->y∈L
def TakenTo(E:Nat->List Nat)(ok:Nat->Prop)(L:List Nat)(b k:Nat):Prop:=∀y∈(E b).take k,ok y->y∈L
theorem ClosedTo.app{E:Nat->List Nat}{ok:Nat->Prop}{L:List Nat}{i:Nat}(h:ClosedTo E ok L i)(hi:i<=L.length)(y:Nat):ClosedTo E ok (L++[y]) i:=fun j x hj hl z hz ho=>by
  rw[List.getElem?_append_left (by omega)]at hj
  exact List.mem_append.2 (.inl (h j x hj hl z hz ho))
theorem TakenTo.next{E:Nat->List Nat}{ok:Nat->Prop}{L L':List Nat}{b k y:Nat}(h:TakenTo E ok L b k)(hs:∀x∈L,x∈L')(hy:(E b)[k]?=some y)(hL:ok y->y∈L'):TakenTo E ok L' b (k+1):=fun z hz ho=>by
  obtain⟨hlt,rfl⟩:=List.getElem?_eq_some_iff.1 hy
  rw[List.take_succ_eq_append_getElem hlt]at hz
  rcases List.mem_append.1 hz with hz|hz
  . exact hs z (h z hz ho)
  . simp only[List.mem_cons,List.not_mem_nil,or_false]at hz
    subst hz
    exact hL ho
theorem ClosedTo.next{E:Nat->List Nat}{ok:Nat->Prop}{L:List Nat}{i b:Nat}(h:ClosedTo E ok L i)(hb:L[i]?=some b)(ht:TakenTo E ok L b (E b).length):ClosedTo E ok L (i+1):=fun j x hj hl y hy ho=>by
  by_cases e:j=i
  . subst e
    rw[hb]at hj
    cases hj
    exact ht y (by rw[List.take_of_length_le (Nat.le_refl _)];exact hy) ho
  . exact h j x hj (by omega) y hy ho
theorem BfsOk.iff{E:Nat->List Nat}{ok:Nat->Prop}{f n:Nat}{L:List Nat}(h:BfsOk E ok f n L)(hc:ClosedTo E ok L L.length)(x:Nat):x∈L↔Rch E ok f x:=by
  refine⟨h.reach x,fun hr=> ?_⟩
  induction hr with
  |here _=>exact h.start
  | step _ h2 h3 ih=>
    obtain⟨j,hj⟩:=List.getElem?_of_mem ih
    exact hc j _ hj (List.getElem?_eq_some_iff.1 hj).1 _ h2 h3
structure SN(w u:World)(n gs:Nat)(V:Value)(P:Nat->Bool)(L:List Nat):Prop where
  seen:OwB u w.heap.size gs n P
  list:OwN u w.heap.size V L
  bel:Below w.heap.size w u
theorem SN.mark{w u:World}{n gs:Nat}{V:Value}{P Q:Nat->Bool}{L:List Nat}(h:SN w u n gs V P L)(i:Nat)(b:Bool)(hQ:∀j,j<n->Q j=if j=i then b else P j):SN w (u.setCell ⟨gs,i,none⟩ (.bool b)) n gs V Q L:=⟨h.seen.set i b hQ,own_set_ne h.list h.seen (by decide) i _,h.bel.setCell (own_blk h.seen).1 _⟩
theorem SN.al{w u:World}{n gs:Nat}{V:Value}{P:Nat->Bool}{L:List Nat}(h:SN w u n gs V P L)(o:Obj):(u.alloc o).ownsRow w.heap.size 2 1 V L.length (nv L)/\w.heap.size<=(u.alloc o).heap.size:=⟨h.list.keep (below_alloc _ _),Nat.le_trans h.bel.size (below_alloc _ _).size⟩
theorem SN.app{w u u':World}{n gs:Nat}{V V':Value}{P:Nat->Bool}{L:List Nat}{y:Nat}(h:SN w u n gs V P L)(hown:u'.ownsRow w.heap.size 2 1 V' (L.length+1) (nv L++[.int .i64 (y:Int)]))(hg:(u.alloc (.cells #[.int .i64 (y:Int)] 2)).grownBy u' V.ownBlock):SN w u' n gs V' P (L++[y]):=by
  have bA:=below_alloc u (.cells #[.int .i64 (y:Int)] 2)
  have o1:=h.list.keep bA
  refine⟨own_grown (h.seen.keep bA) hg o1 (by decide),?_,(below_on h.bel (Nat.le_refl _) bA).grown hg (Nat.le_trans h.bel.size bA.size) (fun i hi=>(h.list.lt i hi).1)⟩
  unfold OwN
  rw[List.length_append,List.length_singleton,nv_app]
  exact hown
theorem cont_set(L:List Nat)(y:Nat)(n:Nat):∀j,j<n->(L++[y]).contains j=if j=y then true else L.contains j:=fun j _=>by
  by_cases e:j=y
  . subst e;simp
  . simp[e]
set_option maxHeartbeats 4000000 in
set_option maxRecDepth 100000 in
theorem l5Seen_any(g o c n f:Nat)(z:Int)(E:Nat->List Nat)(w:World)(hn:n<=1048576)(hE:∀b,b<n->∀x∈E b,x<n)(hsz:∀b,(E b).length<=2)(hf:f<n)(h:GrAt w g o n E):
    Calls Tryz.prog 103 #[.slice (some ⟨g,o,none⟩) n c,.int .i64 (f:Int),.int .i64 z] w fun e w'=>∃gs P,e=.returned (.slice (some ⟨gs,0,none⟩) n n)/\OwB w' w.heap.size gs n P/\(∀x,x<n->(P x=true↔Rch E (fun y=>(y:Int)≠z) f x))/\Below w.heap.size w w':=by
  obtain⟨j0,hj,hy0,hy1,hy2⟩:=info_parts infoBool
  obtain⟨k0,hk,hx0,hx1,hx2⟩:=info_parts info64
  have H:Hid (GrAt w g o n E/\(∀b,b<n->∀x∈E b,x<n)/\(∀b,(E b).length<=2)):=⟨h,hE,hsz⟩
  clear h hE hsz
  go_enter Tryz.func103,Tryz.ntmps103
  by_cases q:(f:Int)=z
  . subst q
    go_wp2_with (at_make;refine wpList_make_full _ rfl _ _ 69 rfl w.heap.size 4 j0 (.bool false) 1 Tryz.underlying69 hj hy0 hy1 .i64 .i64 _ _ n rfl rfl rfl rfl (by rw[hy2];omega) (by unfold maxLen;omega) (Nat.le_refl _) ?_;intro w3 hown hgrow;rw[made_bool,bv_zero]at hown)
    go_ret
    refine⟨_,_,rfl,hown,fun x hx=>⟨fun q=>by simp at q,fun q=>absurd rfl q.ok0⟩,(Below.refl _ _).grown hgrow (Nat.le_refl _) (fun k hk=>by cases hk)⟩
  . have q' : ((f:Int)==z)=false:=by simpa using q
    have hfz:(f:Int)<(n:Int):=by omega
    go_wp2_with (at_make;refine wpList_make_full _ rfl _ _ 69 rfl w.heap.size 4 j0 (.bool false) 1 Tryz.underlying69 hj hy0 hy1 .i64 .i64 _ _ n rfl rfl rfl rfl (by rw[hy2];omega) (by unfold maxLen;omega) (Nat.le_refl _) ?_;intro w3 hown hgrow;rw[made_bool,bv_zero]at hown;have z0:=World.ownsRow.frozenAt hown f;have d0:w3.cell? ⟨w.heap.size,f,none⟩=some (.bool false):=OwB.cell hown (by omega))
    have HS:Hid (SN w ((w3.setCell ⟨w.heap.size,f,none⟩ (.bool true)).alloc (.cells #[.int .i64 (f:Int)] 2)) n w.heap.size (.slice (some ⟨w3.heap.size,0,none⟩) 1 1) (fun x=>[f].contains x) [f]):=by
      have hb3:Below w.heap.size w w3:=(Below.refl _ _).grown hgrow (Nat.le_refl _) (fun k hk=>by cases hk)
      have k1:OwB (w3.setCell ⟨w.heap.size,f,none⟩ (.bool true)) w.heap.size w.heap.size n (fun x=>[f].contains x):=OwB.set (P:=fun _=>false) hown f true fun j hj=>by
        by_cases e:j=f
        . subst e;simp
        . simp[e]
      have b1:Below w.heap.size w (w3.setCell ⟨w.heap.size,f,none⟩ (.bool true)):=hb3.setCell (Nat.le_refl _) _
      have hz4:(w3.setCell ⟨w.heap.size,f,none⟩ (.bool true)).heap.size=w3.heap.size:=World.size_setCell ..
      rw[<-hz4]
      generalize w3.setCell ⟨w.heap.size,f,none⟩ (.bool true)=W4 at k1 b1⊢
      exact⟨k1.keep (below_alloc _ _),own_lower (World.ownsRow_lit W4 #[.int .i64 (f:Int)] 1 (Nat.le_refl _) (by unfold maxLen;omega) (by simp)) b1.size,below_on b1 (Nat.le_refl _) (below_alloc _ _)⟩
    clear hown hgrow z0 d0
    have HB0:Hid (BfsOk E (fun y=>(y:Int)≠z) f n [f]):=⟨by simp,fun x hx=>by simp at hx;omega,fun x hx=>by simp at hx;subst hx;exact .here q,by simp⟩
    go_loopw [8,9] (fun V i wr=>∃(L:List Nat) (k gl cl:Nat),V=.slice (some ⟨gl,0,none⟩) L.length cl/\i=.int .i64 k/\k<=L.length/\L.length<=n/\Hid (SN w wr n w.heap.size V (fun x=>L.contains x) L/\BfsOk E (fun y=>(y:Int)≠z) f n L/\ClosedTo E (fun y=>(y:Int)≠z) L k)) (fun _ i _=>n-(intOf i).toNat)
    case atStart=>exact⟨[f],0,_,_,rfl,rfl,by simp,HB0.out.len,HS.out,HB0.out,fun j x hj hl=>by omega⟩
    case round=>
      clear HS HB0
      obtain⟨L,k,gl,cl,rfl,rfl,hkL,hLn,HL⟩:=hrel
      by_cases hlt:k<L.length
      . have hltI:(k:Int)<(L.length:Int):=by omega
        obtain⟨b,hb⟩:∃b,L[k]?=some b:=⟨_,List.getElem?_eq_getElem hlt⟩
        have hbn:b<n:=HL.out.2.1.lt b (List.mem_of_getElem? hb)
        have hbnI:(b:Int)<(n:Int):=by omega
        have HBB:Hid (L[k]?=some b):=hb
        obtain⟨_,_,ee,_,l0⟩:=HL.out.1.list.rd.at_ hb
        simp only[Option.some.injEq,Addr.mk.injEq,and_true]at ee
        obtain⟨rfl,rfl⟩:=ee
        rw[Nat.zero_add]at l0
        obtain⟨a,ca,g0,g1⟩:=H.out.1 b hbn
        have HR:Hid (RdN w (.slice a (E b).length ca) (E b)):=g1
        replace g0:=bcell_keep HL.out.1.bel g0
        have hE2:=H.out.2.2 b
        clear g1 hb
        go_wp2
        go_loopw [8,11] (fun V i wr=>∃(L:List Nat) (m gl cl:Nat),V=.slice (some ⟨gl,0,none⟩) L.length cl/\i=.int .i64 m/\m<=(E b).length/\k<L.length/\L.length<=n/\Hid (SN w wr n w.heap.size V (fun x=>L.contains x) L/\BfsOk E (fun y=>(y:Int)≠z) f n L/\ClosedTo E (fun y=>(y:Int)≠z) L k/\L[k]?=some b/\TakenTo E (fun y=>(y:Int)≠z) L b m)) (fun _ i _=>2-(intOf i).toNat)
        case atStart=>exact⟨L,0,gl,cl,rfl,rfl,by omega,hlt,hLn,HL.out.1,HL.out.2.1,HL.out.2.2,HBB.out,fun y hy=>by simp at hy⟩
        case round=>
          clear l0 g0 HL HBB hlt hltI hkL hLn
          obtain⟨L,m,gl,cl,rfl,rfl,hm,hkl,hLn,HL⟩:=hrel
          by_cases hlt:m<(E b).length
          . have hltI:(m:Int)<((E b).length:Int):=by omega
            obtain⟨y,hy⟩:∃y,(E b)[m]?=some y:=⟨_,List.getElem?_eq_getElem hlt⟩
            have hyn:y<n:=H.out.2.1 b hbn y (List.mem_of_getElem? hy)
            have hynI:(y:Int)<(n:Int):=by omega
            have HY:Hid ((E b)[m]?=some y):=hy
            obtain⟨ga,oa,rfl,_,y0⟩:=HR.out.at_ hy
            have HY0:Hid (w.cell? ⟨ga,oa+m,none⟩=some (.int .i64 (y:Int))):=y0
            replace y0:=bcell_keep HL.out.1.bel y0
            have s0:=HL.out.1.seen.cell hyn
            clear hy
            by_cases qz:(y:Int)=z
            . subst qz
              have HN:Hid (TakenTo E (fun x=>(x:Int)≠(y:Int)) L b (m+1)):=HL.out.2.2.2.2.next (fun x hx=>hx) HY.out (fun q=>absurd rfl q)
              go_wp2
              go_roundw
              case rel=>exact⟨L,m+1,gl,cl,rfl,by go_num,by omega,hkl,hLn,HL.out.1,HL.out.2.1,HL.out.2.2.1,HL.out.2.2.2.1,HN.out⟩
              case measure=>simp[intOf];omega
            . have qz':((y:Int)==z)=false:=by simpa using qz
              have qz2:((y:Int) != z)=true:=by simpa using qz
              cases hc:L.contains y
              . simp only[hc]at s0
                have z0:=HL.out.1.seen.frozen y
                have hyL:y∉L:=by simpa using hc
                have HSM:Hid (SN w (wr.setCell ⟨w.heap.size,y,none⟩ (.bool true)) n w.heap.size (.slice (some ⟨gl,0,none⟩) L.length cl) (fun x=>(L++[y]).contains x) L):=HL.out.1.mark y true (cont_set L y n)
                have HBN:Hid (BfsOk E (fun y=>(y:Int)≠z) f n (L++[y])):=HL.out.2.1.add (List.mem_of_getElem? HL.out.2.2.2.1) (List.mem_of_getElem? HY.out) qz hyn hyL
                have hLn2:=HBN.out.len
                rw[List.length_append,List.length_singleton]at hLn2
                have HN:Hid (TakenTo E (fun x=>(x:Int)≠z) (L++[y]) b (m+1)):=HL.out.2.2.2.2.next (fun x hx=>List.mem_append.2 (.inl hx)) HY.out (fun _=>by simp)
                go_upto_region 15 with fail
                refine wp_world (fun u=>Hid (SN w u n w.heap.size (.slice (some ⟨gl,0,none⟩) L.length cl) (fun x=>(L++[y]).contains x) L)) HSM ?_
                intro U HU
                clear HSM s0 z0 y0
                have y1:=bcell_keep HU.out.bel HY0.out
                go_wp2_with (at_builtin;refine wpList_append_lies _ rfl _ _ 48 rfl w.heap.size 2 k0 (.int .i64 0) 1 8 Tryz.underlying48 hk hx0 hx1 hx2 rfl (by decide) _ L.length (nv L) rfl (HU.out.al (.cells #[.int .i64 (y:Int)] 2)).1 ⟨U.heap.size,0,none⟩ 1 1 [.int .i64 (y:Int)] rfl rfl (one_cell U (y:Int)) (fun u hu=>by simp at hu;subst hu;rfl) (by omega) (by simp[maxLen];omega) (by omega) (HU.out.al (.cells #[.int .i64 (y:Int)] 2)).2 _ rfl ?_;intro g5 cap5 w5 hown hgrow hat hlt3;have HU5:Hid (SN w w5 n w.heap.size (.slice (some ⟨g5,0,none⟩) (L.length+1) cap5) (fun x=>(L++[y]).contains x) (L++[y])):=HU.out.app hown hgrow;clear hown hgrow hat hlt3)
                go_roundw
                case rel=>exact⟨L++[y],m+1,g5,cap5,by rw[List.length_append,List.length_singleton],by go_num,by omega,by rw[List.length_append];omega,by rw[List.length_append,List.length_singleton];exact hLn2,HU5.out,HBN.out,HL.out.2.2.1.app (by omega) y,by rw[List.getElem?_append_left hkl];exact HL.out.2.2.2.1,HN.out⟩
                case measure=>simp[intOf];omega
              . simp only[hc]at s0
                have HN:Hid (TakenTo E (fun x=>(x:Int)≠z) L b (m+1)):=HL.out.2.2.2.2.next (fun x hx=>hx) HY.out (fun q=>by simpa using hc)
                go_wp2
                go_roundw
                case rel=>exact⟨L,m+1,gl,cl,rfl,by go_num,by omega,hkl,hLn,HL.out.1,HL.out.2.1,HL.out.2.2.1,HL.out.2.2.2.1,HN.out⟩
                case measure=>simp[intOf];omega
          . obtain rfl:m=(E b).length:=by omega
            have HN:Hid (ClosedTo E (fun y=>(y:Int)≠z) L (k+1)):=HL.out.2.2.1.next HL.out.2.2.2.1 HL.out.2.2.2.2
            go_wp2
            go_roundw
            case rel=>exact⟨L,k+1,gl,cl,rfl,by go_num,by omega,hLn,HL.out.1,HL.out.2.1,HN.out⟩
            case measure=>simp[intOf];omega
      . obtain rfl:k=L.length:=by omega
        have HE:Hid (∀x,x<n->(L.contains x=true↔Rch E (fun y=>(y:Int)≠z) f x)):=fun x hx=>by
          rw[<-HL.out.2.1.iff HL.out.2.2 x]
          simp
        go_wp2
        go_ret
        exact⟨_,_,rfl,HL.out.1.seen,HE.out,HL.out.1.bel⟩
end Go.Proofs.YtdfmdgbolmbffaaGreat
namespace Go.Proofs.YtdfmdgbolmbffaaGreat
open Go.ChangeShapes Go.WideShapes Go.ChangeAt Go.RowKit
set_option linter.unusedVariables false
theorem unseen_mono{S S':List Nat}(n:Nat)(h:∀x∈S,x∈S'):unseen S' n<=unseen S n:=by
  unfold unseen
  rw[<-List.countP_eq_length_filter,<-List.countP_eq_length_filter]
  apply List.countP_mono_left
  intro x _ hx
  simp only[Bool.not_eq_true',List.contains_eq_mem,decide_eq_false_iff_not]at hx⊢
  exact fun q=>hx (h x q)
theorem Vs.more{E:Nat->List Nat}{S O r S' O':List Nat}(h:Vs E S O r S' O'):∀x∈S,x∈S':=by
  obtain⟨N,t⟩:=h.told
  exact fun x hx=>(t.seen x).2 (.inl hx)
set_option maxHeartbeats 4000000 in
set_option maxRecDepth 100000 in
theorem l5Post_any(g o c n gs:Nat)(E:Nat->List Nat)(w:World)(hn:n<=1048576)(hE:∀b,b<n->∀x∈E b,x<n)(hsz:∀b,(E b).length<=2)(h:GrAt w g o n E):
    ∀(m:Nat) (S O:List Nat) (b:Nat) (V:Value) (u:World),unseen S n=m->b<n->b∉S->O.length+unseen S n<=n->SN w u n gs V (fun x=>S.contains x) O->
    Calls Tryz.prog 67 #[.slice (some ⟨g,o,none⟩) n c,.int .i64 (b:Int),.slice (some ⟨gs,0,none⟩) n n,V] u fun e u'=>∃V' S' O',e=.returned V'/\Vs E (b::S) O (E b) S' O'/\SN w u' n gs V' (fun x=>S'.contains x) (O'++[b])/\(O'++[b]).length+unseen S' n<=O.length+unseen S n:=by
  obtain⟨k0,hk,hx0,hx1,hx2⟩:=info_parts info64
  have H:Hid (GrAt w g o n E/\(∀b,b<n->∀x∈E b,x<n)/\(∀b,(E b).length<=2)):=⟨h,hE,hsz⟩
  clear h hE hsz
  intro m
  induction m using Nat.strongRecOn with
  | ind m ih=>
    intro S O b V u hm hb hbS hlen hsn
    have IH:Hid (∀m',m'<m->∀(S O:List Nat) (b:Nat) (V:Value) (u:World),unseen S n=m'->b<n->b∉S->O.length+unseen S n<=n->SN w u n gs V (fun x=>S.contains x) O->
      Calls Tryz.prog 67 #[.slice (some ⟨g,o,none⟩) n c,.int .i64 (b:Int),.slice (some ⟨gs,0,none⟩) n n,V] u fun e u'=>∃V' S' O',e=.returned V'/\Vs E (b::S) O (E b) S' O'/\SN w u' n gs V' (fun x=>S'.contains x) (O'++[b])/\(O'++[b]).length+unseen S' n<=O.length+unseen S n):=ih
    have hu1:=unseen_cons S n b hb hbS
    have HU1:Hid (unseen (b::S) n+1=unseen S n/\unseen S n=m/\O.length+unseen S n<=n):=⟨hu1,hm,hlen⟩
    obtain⟨aV,cV,rfl⟩:=own_slice hsn.list
    have hbI:(b:Int)<(n:Int):=by omega
    have d0:=hsn.seen.cell hb
    have z0:=hsn.seen.frozen b
    have HS0:Hid (SN w (u.setCell ⟨gs,b,none⟩ (.bool true)) n gs (.slice aV O.length cV) (fun x=>(b::S).contains x) O):=hsn.mark b true fun j hj=>by
      by_cases e:j=b
      . subst e;simp
      . simp[e]
    obtain⟨a,ca,g0,g1⟩:=H.out.1 b hb
    have HG:Hid (w.cell? ⟨g,o+b*3+2,none⟩=some (.slice a (E b).length ca)/\RdN w (.slice a (E b).length ca) (E b)):=⟨g0,g1⟩
    have hE2:=H.out.2.2 b
    clear ih hsn g0 g1 hu1 hm hlen
    go_enter Tryz.func67,Tryz.ntmps67
    go_wp2
    go_loopw [3,9] (fun V i wr=>∃(S' O':List Nat) (k:Nat) (aV:Option Addr) (cV:Nat),V=.slice aV O'.length cV/\i=.int .i64 k/\k<=(E b).length/\O'.length+1<=n/\Hid (Vs E (b::S) O ((E b).take k) S' O'/\SN w wr n gs V (fun x=>S'.contains x) O'/\O'.length+unseen S' n+1<=O.length+unseen S n)) (fun _ i _=>2-(intOf i).toNat)
    case atStart=>exact⟨b::S,O,0,aV,cV,rfl,rfl,by omega,by have:=HU1.out;omega,by simpa using Vs.nil (b::S) O,HS0.out,by have:=HU1.out;omega⟩
    case round=>
      clear HS0 d0 z0
      obtain⟨S',O',k,aV,cV,rfl,rfl,hkE,hO,HL⟩:=hrel
      have g0:=bcell_keep HL.out.2.1.bel HG.out.1
      by_cases hlt:k<(E b).length
      . have hltI:(k:Int)<((E b).length:Int):=by omega
        obtain⟨y,hy⟩:∃y,(E b)[k]?=some y:=⟨_,List.getElem?_eq_getElem hlt⟩
        have hyn:y<n:=H.out.2.1 b hb y (List.mem_of_getElem? hy)
        have hynI:(y:Int)<(n:Int):=by omega
        have HY:Hid ((E b)[k]?=some y):=hy
        obtain⟨ga,oa,rfl,_,y0⟩:=HG.out.2.at_ hy
        replace y0:=bcell_keep HL.out.2.1.bel y0
        have s0:=HL.out.2.1.seen.cell hyn
        have HT:Hid ((E b).take (k+1)=(E b).take k++[y]):=by
          obtain⟨hl,rfl⟩:=List.getElem?_eq_some_iff.1 hy
          exact List.take_succ_eq_append_getElem hl
        clear hy
        cases hc:S'.contains y
        . simp only[hc]at s0
          have hyS:y∉S':=by simpa using hc
          have hmo:=HL.out.1.more
          have hun:=unseen_mono n hmo
          have HC:Hid (Calls Tryz.prog 67 #[.slice (some ⟨g,o,none⟩) n c,.int .i64 (y:Int),.slice (some ⟨gs,0,none⟩) n n,.slice aV O'.length cV] wr fun e u'=>∃V' S'' O'',e=.returned V'/\Vs E (y::S') O' (E y) S'' O''/\SN w u' n gs V' (fun x=>S''.contains x) (O''++[y])/\(O''++[y]).length+unseen S'' n<=O'.length+unseen S' n):=IH.out (unseen S' n) (by have:=HU1.out;omega) S' O' y _ wr rfl hyn hyS (by have:=HL.out.2.2;have:=HU1.out;omega) HL.out.2.1
          clear hmo hun
          go_wp2_with fail
          refine HC.out.mono ?_
          rintro e u2 ⟨V2,S2,O2,rfl,hv2,hs2,hl2⟩
          obtain⟨a2,c2,rfl⟩:=own_slice hs2.list
          have HN:Hid (Vs E (b::S) O ((E b).take (k+1)) S2 (O2++[y])/\SN w u2 n gs (.slice a2 (O2++[y]).length c2) (fun x=>S2.contains x) (O2++[y])/\(O2++[y]).length+unseen S2 n+1<=O.length+unseen S n):=by
            refine⟨?_,hs2,by have:=HL.out.2.2;omega⟩
            rw[HT.out]
            exact HL.out.1.app (.new hyS hv2 (.nil _ _))
          have hO2:(O2++[y]).length+1<=n:=by have:=HN.out.2.2;have:=HU1.out;omega
          clear hv2 hs2 hl2 s0 y0 g0
          go_wp2
          go_roundw
          case rel=>exact⟨S2,O2++[y],k+1,a2,c2,by rw[List.length_append,List.length_singleton],by go_num,by omega,hO2,HN.out.1,by have:=HN.out.2.1;rw[List.length_append,List.length_singleton]at this;exact this,HN.out.2.2⟩
          case measure=>simp[intOf];omega
        . simp only[hc]at s0
          have HN:Hid (Vs E (b::S) O ((E b).take (k+1)) S' O'):=by
            show Vs E (b::S) O ((E b).take (k+1)) S' O'
            rw[HT.out]
            exact HL.out.1.app (.old (by simpa using hc) (.nil _ _))
          go_wp2
          go_roundw
          case rel=>exact⟨S',O',k+1,aV,cV,rfl,by go_num,by omega,hO,HN.out,HL.out.2.1,HL.out.2.2⟩
          case measure=>simp[intOf];omega
      . obtain rfl:k=(E b).length:=by omega
        have hO3:=HU1.out
        have hO4:=HL.out.2.2
        go_upto_region 7 with fail
        refine wp_world (fun u=>Hid (SN w u n gs (.slice aV O'.length cV) (fun x=>S'.contains x) O')) HL.out.2.1 ?_
        intro U HU
        clear g0
        go_wp2_with (at_builtin;refine wpList_append_lies _ rfl _ _ 48 rfl w.heap.size 2 k0 (.int .i64 0) 1 8 Tryz.underlying48 hk hx0 hx1 hx2 rfl (by decide) _ O'.length (nv O') rfl (HU.out.al (.cells #[.int .i64 (b:Int)] 2)).1 ⟨U.heap.size,0,none⟩ 1 1 [.int .i64 (b:Int)] rfl rfl (one_cell U (b:Int)) (fun u hu=>by simp at hu;subst hu;rfl) (by omega) (by simp[maxLen];omega) (by omega) (HU.out.al (.cells #[.int .i64 (b:Int)] 2)).2 _ rfl ?_;intro g5 cap5 w5 hown hgrow hat hlt3;have HU5:Hid (SN w w5 n gs (.slice (some ⟨g5,0,none⟩) (O'.length+1) cap5) (fun x=>S'.contains x) (O'++[b])):=HU.out.app hown hgrow;clear hown hgrow hat hlt3)
        go_ret
        refine⟨_,S',O',rfl,?_,HU5.out,by rw[List.length_append,List.length_singleton];omega⟩
        have:=HL.out.1
        rw[List.take_of_length_le (Nat.le_refl _)]at this
        exact this
end Go.Proofs.YtdfmdgbolmbffaaGreat
namespace Go.Proofs.YtdfmdgbolmbffaaGreat
open Go.ChangeShapes Go.WideShapes Go.ChangeAt Go.RowKit
set_option linter.unusedVariables false
def rowV(n g:Nat):Value:=.slice (some ⟨g,0,none⟩) n n
theorem infoSB:(Tryz.prog.info? 69).map (fun i=>(i.zero,i.size,i.bytes))=some (some (.slice none 0 0),1,24):=by kernel_rfl
structure DM(w u:World)(n:Nat)(V:Value)(R:List Nat)(P:Nat->Nat->Bool):Prop where
  out:u.ownsRow w.heap.size 69 1 V R.length (R.map (rowV n))
  rows:∀i g,R[i]?=some g->OwB u w.heap.size g n (P i)
  nodup:R.Nodup
  bel:Below w.heap.size w u
theorem DM.keep{w u u':World}{n:Nat}{V:Value}{R:List Nat}{P:Nat->Nat->Bool}(h:DM w u n V R P)(hb:Below u.heap.size u u'):DM w u' n V R P:=⟨own_keep h.out hb (Nat.le_refl _),fun i g hi=>(h.rows i g hi).keep hb,h.nodup,below_on h.bel (Nat.le_refl _) hb⟩
theorem OwB.lt{w:World}{base g n:Nat}{P:Nat->Bool}(h:OwB w base g n P):g<w.heap.size:=by
  obtain⟨_,cur,h1⟩:=own_blk h
  exact(Array.getElem?_eq_some_iff.1 h1).1
theorem OwB.other{w:World}{base g g' n i:Nat}{P:Nat->Bool}{x:Value}(h:OwB w base g n P)(hne:g≠g'):OwB (w.setCell ⟨g',i,none⟩ x) base g n P:=ownsRow_setCell_other h (a:=⟨g',i,none⟩) (fun e=>hne (by simpa[Value.ownBlock]using e)) x
theorem DM.set{w u:World}{n:Nat}{V:Value}{R:List Nat}{P Q:Nat->Nat->Bool}(h:DM w u n V R P){b g d:Nat}{x:Bool}(hb:R[b]?=some g)(hQb:∀j,j<n->Q b j=if j=d then x else P b j)(hQ:∀i,i≠b->Q i=P i):DM w (u.setCell ⟨g,d,none⟩ (.bool x)) n V R Q:=by
  have hg:=h.rows b g hb
  refine⟨own_set_ne h.out hg (by decide) d _,fun i g' hi=> ?_,h.nodup,h.bel.setCell (own_blk hg).1 _⟩
  by_cases e:i=b
  . subst e
    rw[hb]at hi
    cases hi
    exact hg.set d x hQb
  . rw[hQ i e]
    refine(h.rows i g' hi).other fun q=>e ?_
    subst q
    obtain⟨i1,e1⟩:=List.getElem?_eq_some_iff.1 hi
    obtain⟨i2,e2⟩:=List.getElem?_eq_some_iff.1 hb
    exact(List.getElem_inj h.nodup).1 (e1.trans e2.symm)
theorem DM.add{w u u3 u':World}{n:Nat}{V V':Value}{R:List Nat}{P:Nat->Nat->Bool}(h:DM w u n V R P)(hP:∀i,i=R.length->P i=fun _=>false)(h3:u3.ownsRow u.heap.size 4 1 (.slice (some ⟨u.heap.size,0,none⟩) n n) n (bv (fun _=>false) n))(hb3:Below u.heap.size u u3)(hown:u'.ownsRow w.heap.size 69 1 V' (R.length+1) (R.map (rowV n)++[rowV n u.heap.size]))(hg:(u3.alloc (.cells #[rowV n u.heap.size] 69)).grownBy u' V.ownBlock):DM w u' n V' (R++[u.heap.size]) P:=by
  have bA:=below_alloc u3 (.cells #[rowV n u.heap.size] 69)
  have hbb:Below u.heap.size u (u3.alloc (.cells #[rowV n u.heap.size] 69)):=below_on hb3 (Nat.le_refl _) bA
  have o1:=own_keep h.out hbb (Nat.le_refl _)
  have k3:OwB (u3.alloc (.cells #[rowV n u.heap.size] 69)) w.heap.size u.heap.size n (fun _=>false):=own_lower (own_keep h3 bA (Nat.le_refl _)) h.bel.size
  refine⟨by rw[List.length_append,List.length_singleton,List.map_append];exact hown,fun i g hi=> ?_,?_,(below_on h.bel (Nat.le_refl _) hbb).grown hg (Nat.le_trans h.bel.size hbb.size) (fun i hi=>(h.out.lt i hi).1)⟩
  . by_cases e:i<R.length
    . rw[List.getElem?_append_left e]at hi
      exact own_grown ((h.rows i g hi).keep hbb) hg o1 (by decide)
    . have hl:=(List.getElem?_eq_some_iff.1 hi).1
      simp only[List.length_append,List.length_singleton]at hl
      have hiR:i=R.length:=by omega
      rw[List.getElem?_append_right (by omega)]at hi
      subst hiR
      simp only[Nat.sub_self,List.getElem?_cons_zero,Option.some.injEq]at hi
      subst hi
      rw[hP _ rfl]
      exact own_grown k3 hg o1 (by decide)
  . refine List.nodup_append.2 ⟨h.nodup,by simp,fun a ha c hc e=> ?_⟩
    simp only[List.mem_cons,List.not_mem_nil,or_false]at hc
    subst hc
    obtain⟨i,hi⟩:=List.getElem?_of_mem ha
    have:=(h.rows i a hi).lt
    omega
theorem one_cellV(U:World)(x:Value)(t:TypeId):∀j u,[x][j]?=some u->(U.alloc (.cells #[x] t)).cell? ((⟨U.heap.size,0,none⟩:Addr).add j)=some u:=fun j u hj=>by
  rw[add_at,Nat.zero_add,(Blk.new U #[x] t).cell j]
  simpa using hj
def MatAt(w:World)(g n:Nat)(D:Nat->Nat->Bool):Prop:=∀b,b<n->∃r,w.cell? ⟨g,b,none⟩=some (.slice (some ⟨r,0,none⟩) n n)/\∀d,d<n->w.cell? ⟨r,d,none⟩=some (.bool (D b d))
theorem MatAt.keep{w w':World}{g n:Nat}{D:Nat->Nat->Bool}(h:MatAt w g n D)(hb:Below w.heap.size w w'):MatAt w' g n D:=fun b hb'=>by
  obtain⟨r,h1,h2⟩:=h b hb'
  exact⟨r,bcell_keep hb h1,fun d hd=>bcell_keep hb (h2 d hd)⟩
theorem DM.cell{w u:World}{n g c m:Nat}{R:List Nat}{P:Nat->Nat->Bool}(h:DM w u n (.slice (some ⟨g,0,none⟩) m c) R P)(hm:R.length=m){b:Nat}(hb:b<m):∃r,R[b]?=some r/\u.cell? ⟨g,b,none⟩=some (.slice (some ⟨r,0,none⟩) n n):=by
  subst hm
  have:=h.out.cellAt b (by omega)
  rw[List.getElem?_map,List.getElem?_eq_getElem hb]at this
  exact⟨_,List.getElem?_eq_getElem hb,this⟩
theorem DM.mat{w u:World}{n g c:Nat}{R:List Nat}{P:Nat->Nat->Bool}(h:DM w u n (.slice (some ⟨g,0,none⟩) n c) R P)(hl:R.length=n):MatAt u g n P:=fun b hb=>by
  obtain⟨r,h1,h2⟩:=h.cell hl (b:=b) (by omega)
  exact⟨r,h2,fun d hd=>(h.rows b r h1).cell hd⟩
set_option maxHeartbeats 4000000 in
set_option maxRecDepth 100000 in
theorem l5Doms_any (g o c n:Nat)(E:Nat->List Nat)(D:Nat->Nat->Bool)(w:World)(hn:n<=1048576)(h0:0<n)(hD:∀d b,D d b=true↔Dom E d b)(hE:∀b,b<n->∀x∈E b,x<n)(hsz:∀b,(E b).length<=2)(h:GrAt w g o n E):
    Calls Tryz.prog 68 #[.slice (some ⟨g,o,none⟩) n c] w fun e w'=>∃gm cm,e=.returned (.slice (some ⟨gm,0,none⟩) n cm)/\MatAt w' gm n (fun b d=>D d b)/\Below w.heap.size w w'/\w.heap.size<=gm/\(∀b r,b<n->w'.cell? ⟨gm,b,none⟩=some (.slice (some ⟨r,0,none⟩) n n)->w.heap.size<=r):=by
  obtain⟨j0,hj,hy0,hy1,hy2⟩:=info_parts infoBool
  obtain⟨k0,hk,hx0,hx1,hx2⟩:=info_parts infoSB
  have H:Hid (GrAt w g o n E/\(∀b,b<n->∀x∈E b,x<n)/\(∀b,(E b).length<=2)/\(∀d b,D d b=true↔Dom E d b)):=⟨h,hE,hsz,hD⟩
  clear h hE hsz hD
  have HS:Hid (DM w (w.alloc (.cells #[] 69)) n (.slice (some ⟨w.heap.size,0,none⟩) 0 0) [] (fun _ _=>false)):=by
    refine⟨?_,fun i g hi=>by simp at hi,List.nodup_nil,below_alloc _ _⟩
    exact⟨rfl,.inr ⟨w.heap.size,0,#[],rfl,Nat.le_refl _,Blk.new w #[] 69,Nat.le_refl _,Nat.zero_le _,rfl,rfl⟩⟩
  go_enter Tryz.func68,Tryz.ntmps68
  go_wp2
  go_loopw [4,5] (fun V i wr=>∃(R:List Nat) (gm cm:Nat),V=.slice (some ⟨gm,0,none⟩) R.length cm/\i=.int .i64 (R.length:Int)/\R.length<=n/\Hid (DM w wr n V R (fun _ _=>false))) (fun _ i _=>n-(intOf i).toNat)
  case atStart=>exact⟨[],_,_,rfl,rfl,by simp,HS⟩
  case round=>
    clear HS
    obtain⟨R,gm,cm,rfl,rfl,hR,HM⟩:=hrel
    by_cases hlt:R.length<n
    . have hltI:(R.length:Int)<(n:Int):=by omega
      have hsz1:=HM.out.bel.size
      go_wp2_with (first
        |(at_make;refine wpList_make_full _ rfl _ _ 69 rfl wr.heap.size 4 j0 (.bool false) 1 Tryz.underlying69 hj hy0 hy1 .i64 .i64 _ _ n rfl rfl rfl rfl (by rw[hy2];omega) (by unfold maxLen;omega) (Nat.le_refl _) ?_;intro w3 hown hgrow;rw[made_bool,bv_zero]at hown;have hb3:Below wr.heap.size wr w3:=(Below.refl _ _).grown hgrow (Nat.le_refl _) (fun k hk=>by cases hk);have hoA:(w3.alloc (.cells #[rowV n wr.heap.size] 69)).ownsRow w.heap.size 69 1 (.slice (some ⟨gm,0,none⟩) R.length cm) R.length (R.map (rowV n)):=own_keep HM.out.out (below_on hb3 (Nat.le_refl _) (below_alloc _ _)) (Nat.le_refl _);have hsA:w.heap.size<=(w3.alloc (.cells #[rowV n wr.heap.size] 69)).heap.size:=by have h1:=hb3.size;have h2:=(below_alloc w3 (.cells #[rowV n wr.heap.size] 69)).size;omega)
        |(at_builtin;refine wpList_append_lies _ rfl _ _ 119 rfl w.heap.size 69 k0 (.slice none 0 0) 1 24 Tryz.underlying119 hk hx0 hx1 hx2 rfl (by decide) _ R.length (R.map (rowV n)) rfl hoA ⟨w3.heap.size,0,none⟩ 1 1 [rowV n wr.heap.size] rfl rfl (one_cellV w3 _ _) (fun u hu=>by simp at hu;subst hu;rfl) (by omega) (by simp[maxLen];omega) (by omega) hsA _ rfl ?_;intro g5 cap5 w5 hown5 hgrow5 hat hlt3;have HM5:Hid (DM w w5 n (.slice (some ⟨g5,0,none⟩) (R.length+1) cap5) (R++[wr.heap.size]) (fun _ _=>false)):=HM.out.add (fun _ _=>rfl) hown hb3 hown5 hgrow5;clear hown hgrow hown5 hgrow5 hat hlt3 hb3 hoA hsA)
        |go_in)
      go_roundw
      case rel=>exact⟨R++[wr.heap.size],g5,cap5,by rw[List.length_append,List.length_singleton],by rw[List.length_append,List.length_singleton];go_num,by rw[List.length_append,List.length_singleton];omega,HM5⟩
      case measure=>simp[intOf];omega
    . have hRn:R.length=n:=by omega
      have HRN:Hid (R.length=n):=hRn
      rw[hRn]at HM
      rw[hRn]
      clear hlt hR hRn
      have HM0:Hid (DM w wr n (.slice (some ⟨gm,0,none⟩) n cm) R (fun i k=>decide (k<0)&&D k i)):=by
        have:(fun i k=>decide (k<0)&&D k i)=(fun(_ _:Nat)=>false):=by funext i k;simp
        show DM w wr n _ R _
        rw[this]
        exact HM.out
      clear HM
      go_wp2
      go_loopw [6] (fun i wr=>∃d:Nat,d<=n/\i=.int .i64 d/\Hid (DM w wr n (.slice (some ⟨gm,0,none⟩) n cm) R (fun i k=>decide (k<d)&&D k i))) (fun i _=>n-(intOf i).toNat)
      case atStart=>exact⟨0,by omega,rfl,HM0⟩
      case round=>
        clear HM0
        obtain⟨d,hd,rfl,HM⟩:=hrel
        by_cases hlt:d<n
        . have hltI :(d:Int)<(n:Int):=by omega
          go_wp2_with fail
          refine(l5Seen_any g o c n 0 (d:Int) E _ hn H.out.2.1 H.out.2.2.1 h0 (H.out.1.keep HM.out.bel)).mono ?_
          rintro e u2 ⟨gs,P,rfl,hP,hPi,b2⟩
          have HP:Hid (OwB u2 wr.heap.size gs n P/\(∀x,x<n->(!P x)=D d x)/\wr.heap.size<=gs):=by
            refine⟨hP,fun x hx=> ?_,(own_blk hP).1⟩
            rw[Bool.eq_iff_iff,H.out.2.2.2 d x]
            unfold Dom
            have e1:Rch E (fun y=>(y:Int)≠(d:Int)) 0 x↔Rch E (· ≠d) 0 x:=⟨fun q=>q.mono fun y hy e=>hy (by rw[e]),fun q=>q.mono fun y hy e=>hy (by omega)⟩
            rw[<-e1,<-hPi x hx]
            simp
          have HM2:Hid (DM w u2 n (.slice (some ⟨gm,0,none⟩) n cm) R (fun i k=>(decide (k<d)||(decide (k=d)&&decide (i<0)))&&D k i)):=by
            have e1:(fun i k=>(decide (k<d)||(decide (k=d)&&decide (i<0)))&&D k i)=(fun i k=>decide (k<d)&&D k i):=by funext i k;simp
            show DM w u2 n _ R _
            rw[e1]
            exact HM.out.keep b2
          have HR:Hid ((∀i r,R[i]?=some r->r<wr.heap.size)/\w.heap.size<=wr.heap.size):=⟨fun i r hi=>(HM.out.rows i r hi).lt,HM.out.bel.size⟩
          clear hP hPi b2 HM
          go_wp2
          go_loopw [8] (fun i wr=>∃b:Nat,b<=n/\i=.int .i64 b/\Hid (DM w wr n (.slice (some ⟨gm,0,none⟩) n cm) R (fun i k=>(decide (k<d)||(decide (k=d)&&decide (i<b)))&&D k i)/\OwB wr w.heap.size gs n P)) (fun i _=>n-(intOf i).toNat)
          case atStart=>exact⟨0,by omega,rfl,HM2.out,own_lower HP.out.1 HR.out.2⟩
          case round=>
            clear HM2
            obtain⟨b,hb,rfl,HM⟩:=hrel
            by_cases hlt2:b<n
            . have hlt2I:(b:Int)<(n:Int):=by omega
              obtain⟨r,hr,c0⟩:=HM.out.1.cell HRN.out hlt2
              have c1:=HM.out.2.cell hlt2
              have hrow:=HM.out.1.rows b r hr
              have c2:=hrow.cell hlt
              have z2:=hrow.frozen d
              have hne:gs≠r:=by have:=HR.out.1 b r hr;have:=HP.out.2.2;omega
              have HN:Hid (DM w (wr.setCell ⟨r,d,none⟩ (.bool (!P b))) n (.slice (some ⟨gm,0,none⟩) n cm) R (fun i k=>(decide (k<d)||(decide (k=d)&&decide (i<b+1)))&&D k i)/\OwB (wr.setCell ⟨r,d,none⟩ (.bool (!P b))) w.heap.size gs n P):=by
                refine⟨HM.out.1.set hr (fun j hj=> ?_) (fun i hi=> ?_),HM.out.2.other hne⟩
                . by_cases e:j=d
                  . subst e
                    simp[HP.out.2.1 b hlt2]
                  . simp[e]
                . funext k
                  have:decide (i<b+1)=decide (i<b):=by simp;omega
                  simp[this]
              clear hr hrow
              go_wp2
              go_region
              refine with_world (fun u=>Hid (DM w u n (.slice (some ⟨gm,0,none⟩) n cm) R (fun i k=>(decide (k<d)||(decide (k=d)&&decide (i<b+1)))&&D k i)/\OwB u w.heap.size gs n P)) ?_ ?_
              . exact⟨HN.out.1.keep (below_drew1 _),HN.out.2.keep (below_drew1 _)⟩
              intro U HU
              go_wp2
              go_roundw
              case rel=>exact⟨b+1,by omega,by go_num,HU⟩
              case measure=>simp[intOf];omega
            . obtain rfl:b=n:=by omega
              have HN:Hid (DM w wr b (.slice (some ⟨gm,0,none⟩) b cm) R (fun i k=>decide (k<d+1)&&D k i)):=by
                refine⟨HM.out.1.out,fun i r hi=> ?_,HM.out.1.nodup,HM.out.1.bel⟩
                have h1:=HM.out.1.rows i r hi
                unfold OwB at h1⊢
                rw[bv_congr (Q:=fun k=>decide (k<d+1)&&D k i)]at h1
                . exact h1
                . intro k hk
                  have hib:i<b:=by have:=(List.getElem?_eq_some_iff.1 hi).1;rw[HRN.out]at this;exact this
                  have e1:(decide (k<d)||(decide (k=d)&&decide (i<b)))=decide (k<d+1):=by
                    rw[Bool.eq_iff_iff]
                    simp
                    omega
                  simp only[e1]
              go_wp2
              go_roundw
              case rel=>exact⟨d+1,by omega,by go_num,HN⟩
              case measure=>simp[intOf];omega
        . obtain rfl:d=n:=by omega
          have HN:Hid (MatAt wr gm d (fun b k=>D k b)):=fun b hb=>by
            obtain⟨r,h1,h2⟩:=HM.out.mat HRN.out b hb
            refine⟨r,h1,fun k hk=> ?_⟩
            have:=h2 k hk
            simpa[hk]using this
          have HMO:Hid (wr.ownsRow w.heap.size 69 1 (.slice (some ⟨gm,0,none⟩) d cm) d (R.map (rowV d))):=by
            have:=HM.out.out
            rw[HRN.out]at this
            exact this
          go_wp2
          go_ret
          refine⟨gm,cm,rfl,HN.out,HM.out.bel,(own_blk HMO.out).1,fun b r hb hr=> ?_⟩
          obtain⟨r',h1,h2⟩:=HM.out.cell HRN.out (b:=b) hb
          rw[hr]at h2
          simp only[Option.some.injEq,Value.slice.injEq,Addr.mk.injEq,and_true]at h2
          rw[h2]
          exact(own_blk (HM.out.rows b r' h1)).1
end Go.Proofs.YtdfmdgbolmbffaaGreat
namespace Go.Proofs.YtdfmdgbolmbffaaGreat
open Go.ChangeShapes Go.WideShapes Go.ChangeAt Go.RowKit
set_option linter.unusedVariables false
def cntTo(D:Nat->Nat->Bool)(d j:Nat):Nat:=((List.range j).filter fun k=>D k d).length
theorem cntTo_succ(D:Nat->Nat->Bool)(d j:Nat):cntTo D d (j+1)=cntTo D d j+if D j d=true then 1 else 0:=by
  unfold cntTo
  rw[List.range_succ,List.filter_append,List.length_append]
  cases h:D j d<;>simp[h]
theorem cntTo_le(D:Nat->Nat->Bool)(d j:Nat):cntTo D d j<=j:=by
  have:=List.length_filter_le (fun k=>D k d) (List.range j)
  simpa[cntTo]using this
set_option maxHeartbeats 4000000 in
set_option maxRecDepth 100000 in
theorem l5Idom_any(gm cm n b:Nat)(D:Nat->Nat->Bool)(w:World)(hn:n<=1048576)(hb:b<n)(h:MatAt w gm n (fun b d=>D d b)):
    Calls Tryz.prog 69 #[.slice (some ⟨gm,0,none⟩) n cm,.int .i64 (b:Int)] w fun e w'=>∃best most,e=.returned (.int .i64 best)/\BestTo D n b n best most/\w'=w:=by
  have H:Hid (MatAt w gm n (fun b d=>D d b)):=h
  obtain⟨rb,r0,r1⟩:=h b hb
  have HR:Hid (∀d,d<n->w.cell? ⟨rb,d,none⟩=some (.bool (D d b))):=r1
  have hbI:(b:Int)<(n:Int):=by omega
  clear h r1
  go_enter Tryz.func69,Tryz.ntmps69
  go_wp2
  go_loopw [5,6,7] (fun x y i wr=>∃(d:Nat) (best most:Int),d<=n/\x=.int .i64 best/\y=.int .i64 most/\i=.int .i64 d∧-1<=most/\most<=1048576/\Hid (BestTo D n b d best most)/\wr=w) (fun _ _ i _=>n-(intOf i).toNat)
  case atStart=>exact⟨0,-1,-1,by omega,rfl,rfl,rfl,by omega,by omega,BestTo.start D n b,rfl⟩
  case round=>
    obtain⟨d,best,most,hd,rfl,rfl,rfl,hm1,hm2,HB,rfl⟩:=hrel
    by_cases hlt:d<n
    . have hltI :(d:Int)<(n:Int):=by omega
      by_cases e:d=b
      . subst e
        have HN:Hid (BestTo D n d (d+1) best most):=HB.out.skip (fun q=>q.1 rfl)
        go_wp2
        go_roundw
        case rel=>exact⟨d+1,best,most,by omega,by trivial,by trivial,by go_num,hm1,hm2,HN,by trivial⟩
        case measure=>simp[intOf];omega
      . have e' :((d:Int)==(b:Int))=false:=by simp;omega
        have eI:¬(d:Int)=(b:Int):=by omega
        have c0:=HR.out d hlt
        cases hD:D d b
        . rw[hD]at c0
          have HN:Hid (BestTo D n b (d+1) best most):=HB.out.skip (fun q=>by rw[hD]at q;cases q.2)
          go_wp2
          go_roundw
          case rel=>exact⟨d+1,best,most,by omega,by trivial,by trivial,by go_num,hm1,hm2,HN,by trivial⟩
          case measure=>simp[intOf];omega
        . rw [hD]at c0
          obtain⟨rd,d0,d1⟩:=H.out d hlt
          have HD1:Hid (∀k,k<n->wr.cell? ⟨rd,k,none⟩=some (.bool (D k d))):=d1
          clear d1
          go_wp2
          go_loopw [8,9] (fun x i wr'=>∃k:Nat,k<=n/\x=.int .i64 (cntTo D d k:Int)/\i=.int .i64 k/\wr'=wr) (fun _ i _=>n-(intOf i).toNat)
          case atStart=>exact⟨0,by omega,rfl,rfl,rfl⟩
          case round=>
            obtain⟨k,hk,rfl,rfl,rfl⟩:=hrel
            have hle:=cntTo_le D d k
            by_cases hlt2:k<n
            . have hlt2I:(k:Int)<(n:Int):=by omega
              have c1:=HD1.out k hlt2
              have hs:=cntTo_succ D d k
              cases hDk:D k d
              . rw[hDk]at c1 hs
                simp only[Bool.false_eq_true,if_false,Nat.add_zero]at hs
                go_wp2
                go_roundw
                case rel=>exact⟨k+1,by omega,by rw[hs],by go_num,by trivial⟩
                case measure=>simp[intOf];omega
              . rw[hDk]at c1 hs
                simp only[if_true]at hs
                go_wp2
                go_roundw
                case rel=>exact⟨k+1,by omega,by rw[hs];go_num,by go_num,by trivial⟩
                case measure=>simp[intOf];omega
            . obtain rfl:k=n:=by omega
              have hc:cntD D k d=cntTo D d k:=rfl
              by_cases hg:most<(cntTo D d k:Int)
              . have HN:Hid (BestTo D k b (d+1) (d:Int) (cntTo D d k:Int)):=HB.out.more e hD hg
                go_wp2
                go_roundw
                case rel=>exact⟨d+1,_,_,by omega,rfl,rfl,by go_num,by omega,by omega,HN,by trivial⟩
                case measure=>simp[intOf];omega
              . have HN:Hid (BestTo D k b (d+1) best most):=HB.out.less (by rw[hc];omega)
                go_wp2
                go_roundw
                case rel=>exact⟨d+1,best,most,by omega,by trivial,by trivial,by go_num,hm1,hm2,HN,by trivial⟩
                case measure=>simp[intOf];omega
    . obtain rfl:d=n:=by omega
      go_wp2
      go_ret
      exact⟨best,most,rfl,HB.out,rfl⟩
end Go.Proofs.YtdfmdgbolmbffaaGreat
namespace Go.Proofs.YtdfmdgbolmbffaaGreat
open Go.ChangeShapes Go.WideShapes Go.ChangeAt Go.RowKit
set_option linter.unusedVariables false
section
variable {E:Nat->List Nat} {D:Nat->Nat->Bool} {n h b k y:Nat}
def backP(E:Nat->List Nat)(D:Nat->Nat->Bool)(h b k:Nat):List Nat:=(((E b).take k).filter fun x=>decide (x=h)&&D h b).map fun _=>b
theorem backL_succ(E:Nat->List Nat)(D:Nat->Nat->Bool)(b h:Nat):backL E D (b+1) h=backL E D b h++backP E D h b (E b).length:=by
  unfold backL backP
  rw[List.range_succ,List.flatMap_append]
  simp
theorem backP_zero(E:Nat->List Nat)(D:Nat->Nat->Bool)(h b:Nat):backP E D h b 0=[]:=by simp[backP]
theorem backP_yes(hy:(E b)[k]?=some h)(hD:D h b=true):backP E D h b (k+1)=backP E D h b k++[b]:=by
  obtain⟨hl,e⟩:=List.getElem?_eq_some_iff.1 hy
  unfold backP
  rw[List.take_succ_eq_append_getElem hl,List.filter_append,List.map_append,e]
  simp[hD]
theorem backP_no(hy:(E b)[k]?=some y)(hn:¬(y=h/\D h b=true)):backP E D h b (k+1)=backP E D h b k:=by
  obtain⟨hl,e⟩:=List.getElem?_eq_some_iff.1 hy
  unfold backP
  rw[List.take_succ_eq_append_getElem hl,List.filter_append,List.map_append,e]
  have:(decide (y=h)&&D h b)=false:=by
    cases q:D h b with
    |false=>simp
    |true=>simp;exact fun e=>hn ⟨e,q⟩
  simp[this]
theorem backP_len(E:Nat->List Nat)(D:Nat->Nat->Bool)(h b k:Nat):(backP E D h b k).length<=(E b).length:=by
  unfold backP
  rw[List.length_map]
  refine Nat.le_trans (List.length_filter_le _ _) ?_
  rw[List.length_take]
  omega
theorem backL_len(hsz:∀b,(E b).length<=2)(D:Nat->Nat->Bool)(h b:Nat):(backL E D b h).length<=2*b:=by
  induction b with
  |zero=>simp[backL]
  | succ b ih=>
    have h1:=backP_len E D h b (E b).length
    have h2:=hsz b
    rw[backL_succ,List.length_append]
    omega
def Src(E:Nat->List Nat)(D:Nat->Nat->Bool)(n h x:Nat):Prop:=∃t∈backL E D n h,Rch (fromL E n) (· ≠h) t x
structure Col(E:Nat->List Nat)(D:Nat->Nat->Bool)(n h:Nat)(L:List Nat):Prop where
  nodup:L.Nodup
  ne:∀x∈L,x≠h
  lt:∀x∈L,x<n
  src:∀x∈L,Src E D n h x
theorem Col.len{L:List Nat}(h':Col E D n h L):L.length<=n:=by
  have:=nodup_le L n h'.lt h'.nodup
  omega
theorem Col.nil:Col E D n h []:=⟨List.nodup_nil,fun _ q=>(by cases q),fun _ q=>(by cases q),fun _ q=>(by cases q)⟩
theorem Col.add{L:List Nat}(h':Col E D n h L)(hne:y≠h)(hlt:y<n)(hs:Src E D n h y)(hL:y∉L):Col E D n h (L++[y]):=by
  have hm:∀x,x∈L++[y]->x∈L\/x=y:=fun x hx=>by simpa using hx
  refine⟨List.nodup_append.2 ⟨h'.nodup,by simp,fun a ha c hc e=> ?_⟩,fun x hx=> ?_,fun x hx=> ?_,fun x hx=> ?_⟩
  . simp only[List.mem_cons,List.not_mem_nil,or_false]at hc
    subst hc e
    exact hL ha
  . rcases hm x hx with q|rfl
    . exact h'.ne x q
    . exact hne
  . rcases hm x hx with q|rfl
    . exact h'.lt x q
    . exact hlt
  . rcases hm x hx with q|rfl
    . exact h'.src x q
    . exact hs
def Has(h:Nat)(L B:List Nat):Prop:=∀x∈B,x=h\/x∈L
theorem Has.app{L B:List Nat}(h':Has h L B)(z:Nat):Has h (L++[z]) B:=fun x hx=>(h' x hx).imp id fun q=>List.mem_append.2 (.inl q)
theorem Has.next{L L' B:List Nat}(h':Has h L (B.take k))(hs:∀x∈L,x∈L')(hy:B[k]?=some y)(hL:y=h\/y∈L'):Has h L' (B.take (k+1)):=fun z hz=>by
  obtain⟨hlt,rfl⟩:=List.getElem?_eq_some_iff.1 hy
  rw[List.take_succ_eq_append_getElem hlt]at hz
  rcases List.mem_append.1 hz with hz|hz
  . exact(h' z hz).imp id (hs z)
  . simp only[List.mem_cons,List.not_mem_nil,or_false]at hz
    subst hz
    exact hL
def Bwd(E:Nat->List Nat)(n h:Nat)(L:List Nat)(i:Nat):Prop:=∀j x,L[j]?=some x->j<i->∀y,y<n->x∈E y->y=h\/y∈L
def BwdB(E:Nat->List Nat)(h:Nat)(L:List Nat)(x b:Nat):Prop:=∀y,y<b->x∈E y->y=h\/y∈L
theorem Bwd.app{L:List Nat}{i:Nat}(h':Bwd E n h L i)(hi:i<=L.length)(z:Nat):Bwd E n h (L++[z]) i:=fun j x hj hl y hy hx=>by
  rw[List.getElem?_append_left (by omega)]at hj
  exact(h' j x hj hl y hy hx).imp id fun q=>List.mem_append.2 (.inl q)
theorem BwdB.app{L:List Nat}{x:Nat}(h':BwdB E h L x b)(z:Nat):BwdB E h (L++[z]) x b:=fun y hy hx=>(h' y hy hx).imp id fun q=>List.mem_append.2 (.inl q)
theorem BwdB.next{L:List Nat}{x:Nat}(h':BwdB E h L x b)(hb:x∈E b->b=h\/b∈L):BwdB E h L x (b+1):=fun y hy hx=>by
  by_cases e:y=b
  . subst e;exact hb hx
  . exact h' y (by omega) hx
theorem Bwd.next{L:List Nat}{i x:Nat}(h':Bwd E n h L i)(hx:L[i]?=some x)(hb:BwdB E h L x n):Bwd E n h L (i+1):=fun j z hj hl y hy hz=>by
  by_cases e:j=i
  . subst e
    rw[hx]at hj
    cases hj
    exact hb y hy hz
  . exact h' j z hj (by omega) y hy hz
theorem Col.step{L:List Nat}(h':Col E D n h L){x:Nat}(hx:x∈L)(hb:b<n)(he:x∈E b)(hne:b≠h):Src E D n h b:=by
  obtain⟨t,h1,h2⟩:=h'.src x hx
  exact⟨t,h1,.step h2 ((fromL_mem E n x b).2 ⟨hb,he⟩) hne⟩
theorem Col.iff{L:List Nat}(h':Col E D n h L)(hB:Has h L (backL E D n h))(hc:Bwd E n h L L.length)(x:Nat):(h::L).contains x=true↔InLoop E D n h x:=by
  simp only[List.contains_eq_mem,decide_eq_true_eq,List.mem_cons]
  unfold InLoop
  refine or_congr_right ⟨h'.src x,?_⟩
  rintro⟨t,h1,h2⟩
  induction h2 with
  |here q=>exact(hB t h1).resolve_left q
  | step _ q2 q3 ih=>
    obtain⟨j,hj⟩:=List.getElem?_of_mem ih
    obtain⟨q4,q5⟩:=(fromL_mem E n _ _).1 q2
    exact(hc j _ hj (List.getElem?_eq_some_iff.1 hj).1 _ q4 q5).resolve_left q3
end
theorem cons_set(h:Nat)(L:List Nat)(y n:Nat):∀j,j<n->(h::(L++[y])).contains j=if j=y then true else(h::L).contains j:=fun j _=>by
  by_cases e:j=y
  . subst e;simp
  . simp[e]
theorem infoLp:(Tryz.prog.info? 53).map (fun i=>(i.zero,i.size,i.bytes))=some (some (.agg #[.int .i64 0,.slice none 0 0,.slice none 0 0]),3,56):=by kernel_rfl
structure L1(w u:World)(n h bl gi:Nat)(BV:Value)(B:List Nat):Prop where
  res:Blk u w.heap.size #[.int .i64 0,.slice none 0 0,.slice none 0 0] 53
  blk:Blk u bl #[.int .i64 (h:Int),BV,.slice none 0 0] 53
  inn:OwB u w.heap.size gi n (fun x=>[h].contains x)
  back:OwN u w.heap.size BV B
  bel:Below w.heap.size w u
  lt:w.heap.size<bl
theorem L1.al{w u:World}{n h bl gi:Nat}{BV:Value}{B:List Nat}(l:L1 w u n h bl gi BV B)(o:Obj):(u.alloc o).ownsRow w.heap.size 2 1 BV B.length (nv B)/\w.heap.size<=(u.alloc o).heap.size:=⟨l.back.keep (below_alloc _ _),Nat.le_trans l.bel.size (below_alloc _ _).size⟩
theorem L1.app{w u u':World}{n h bl gi:Nat}{BV V':Value}{B:List Nat}{y:Nat}(l:L1 w u n h bl gi BV B)(hown:u'.ownsRow w.heap.size 2 1 V' (B.length+1) (nv B++[.int .i64 (y:Int)]))(hg:(u.alloc (.cells #[.int .i64 (y:Int)] 2)).grownBy u' BV.ownBlock):Blk u' bl #[.int .i64 (h:Int),BV,.slice none 0 0] 53/\L1 w (u'.setCell ⟨bl,1,none⟩ V') n h bl gi V' (B++[y]):=by
  have bA:=below_alloc u (.cells #[.int .i64 (y:Int)] 2)
  have o1:=l.back.keep bA
  have kb:Blk u' bl #[.int .i64 (h:Int),BV,.slice none 0 0] 53:=(l.blk.keep bA).grown hg o1 (by decide)
  have kr:=(l.res.keep bA).grown hg o1 (by decide)
  have ki:OwB u' w.heap.size gi n (fun x=>[h].contains x):=own_grown (l.inn.keep bA) hg o1 (by decide)
  have hbel:Below w.heap.size w u':=(below_on l.bel (Nat.le_refl _) bA).grown hg (Nat.le_trans l.bel.size bA.size) (fun i hi=>(l.back.lt i hi).1)
  refine⟨kb,kr.other (by have:=l.lt;simp only[];omega) _,?_,?_,?_,hbel.setCell (Nat.le_of_lt l.lt) _,l.lt⟩
  . have:=kb.set 1 V'
    simpa using this
  . refine ki.other fun e=> ?_
    obtain⟨_,cur,h1⟩:=own_blk ki
    subst e
    unfold Blk at kb
    rw[kb]at h1
    simp only[Option.some.injEq,Obj.cells.injEq]at h1
    exact absurd h1.2.1 (by decide)
  . unfold OwN
    rw[List.length_append,List.length_singleton,nv_app]
    refine ownsRow_setCell_other hown (a:=⟨bl,1,none⟩) (fun q=> ?_) _
    rcases hown.2 with⟨rfl,_⟩|⟨g',cap',cur',rfl,_,hg',_⟩
    . cases q
    . simp only[Value.ownBlock,Option.some.injEq]at q
      subst q
      unfold Blk at kb
      rw[kb]at hg'
      simp only[Option.some.injEq,Obj.cells.injEq]at hg'
      exact absurd hg'.2.1 (by decide)
structure L2(w w1 u:World)(n gi:Nat)(P:Nat->Bool)(LV:Value)(L:List Nat):Prop where
  inn:OwB u w.heap.size gi n P
  list:OwN u w1.heap.size LV L
  fx:∀k,k<w1.heap.size->k≠gi->u.heap[k]?=w1.heap[k]?
  bel:Below w.heap.size w u
  size:w1.heap.size<=u.heap.size
  glt:gi<w1.heap.size
theorem L2.mark{w w1 u:World}{n gi:Nat}{P Q:Nat->Bool}{LV:Value}{L:List Nat}(l:L2 w w1 u n gi P LV L)(i:Nat)(b:Bool)(hQ:∀j,j<n->Q j=if j=i then b else P j):L2 w w1 (u.setCell ⟨gi,i,none⟩ (.bool b)) n gi Q LV L:=⟨l.inn.set i b hQ,own_set_ne l.list l.inn (by decide) i _,fun k hk hne=>by rw[heap_setCell_other u _ k _ hne];exact l.fx k hk hne,l.bel.setCell (own_blk l.inn).1 _,by rw[World.size_setCell];exact l.size,l.glt⟩
theorem L2.al{w w1 u:World}{n gi:Nat}{P:Nat->Bool}{LV:Value}{L:List Nat}(l:L2 w w1 u n gi P LV L)(o:Obj):(u.alloc o).ownsRow w1.heap.size 2 1 LV L.length (nv L)/\w1.heap.size<=(u.alloc o).heap.size:=⟨l.list.keep (below_alloc _ _),Nat.le_trans l.size (below_alloc _ _).size⟩
theorem L2.keep{w w1 u u':World}{n gi:Nat}{P:Nat->Bool}{LV:Value}{L:List Nat}(l:L2 w w1 u n gi P LV L)(hb:Below u.heap.size u u'):L2 w w1 u' n gi P LV L:=⟨l.inn.keep hb,l.list.keep hb,fun k hk hne=>by rw[hb.block k (Nat.lt_of_lt_of_le hk l.size)];exact l.fx k hk hne,below_on l.bel (Nat.le_refl _) hb,Nat.le_trans l.size hb.size,l.glt⟩
theorem L2.app{w w1 u u':World}{n gi:Nat}{P:Nat->Bool}{LV V':Value}{L:List Nat}{y:Nat}(l:L2 w w1 u n gi P LV L)(hw:w.heap.size<=w1.heap.size)(hown:u'.ownsRow w1.heap.size 2 1 V' (L.length+1) (nv L++[.int .i64 (y:Int)]))(hg:(u.alloc (.cells #[.int .i64 (y:Int)] 2)).grownBy u' LV.ownBlock):L2 w w1 u' n gi P V' (L++[y]):=by
  have bA:=below_alloc u (.cells #[.int .i64 (y:Int)] 2)
  have o1:=l.list.keep bA
  refine⟨own_grown (l.inn.keep bA) hg o1 (by decide),?_,fun k hk hne=> ?_,(below_on l.bel (Nat.le_refl _) bA).grown hg (Nat.le_trans l.bel.size bA.size) (fun i hi=>Nat.le_trans hw (l.list.lt i hi).1),Nat.le_trans l.size (Nat.le_trans bA.size hg.size),l.glt⟩
  . unfold OwN
    rw[List.length_append,List.length_singleton,nv_app]
    exact hown
  . rw[hg.block k (Nat.lt_of_lt_of_le hk (Nat.le_trans l.size bA.size)) (fun e=>by have:=(l.list.lt k e.symm).1;omega),bA.block k (Nat.lt_of_lt_of_le hk l.size)]
    exact l.fx k hk hne
theorem L2.blk{w w1 u:World}{n gi:Nat}{P:Nat->Bool}{LV:Value}{L:List Nat}(l:L2 w w1 u n gi P LV L){b:Nat}{cur:Array Value}{t:TypeId}(hb:Blk w1 b cur t)(hne:b≠gi):Blk u b cur t:=by
  unfold Blk at*
  rw[l.fx b (Array.getElem?_eq_some_iff.1 hb).1 hne]
  exact hb
theorem L2.cell{w w1 u:World}{n gi:Nat}{P:Nat->Bool}{LV:Value}{L:List Nat}(l:L2 w w1 u n gi P LV L){a:Addr}{x:Value}(hb:w1.cell? a=some x)(hne:a.block≠gi):u.cell? a=some x:=by
  have:=l.fx a.block (block_lt_of_cell hb) hne
  unfold World.cell? at*
  rw[this]
  exact hb
theorem OwN.fx{w1 u:World}{base x:Nat}{s:Value}{l:List Nat}(h:OwN w1 base s l)(hf:∀k,k<w1.heap.size->k≠x->u.heap[k]?=w1.heap[k]?)(hx:∀g,s.ownBlock=some g->g≠x):OwN u base s l:=by
  refine⟨h.1,?_⟩
  rcases h.2 with h|⟨g,cap,cur,rfl,hb1,hgg,hr⟩
  . exact .inl h
  . refine .inr ⟨g,cap,cur,rfl,hb1,?_,hr⟩
    rw[hf g (Array.getElem?_eq_some_iff.1 hgg).1 (hx g rfl)]
    exact hgg
theorem OwN.ne_blk{w:World}{base b:Nat}{s:Value}{l:List Nat}{cur:Array Value}{t:TypeId}(h:OwN w base s l)(hb:Blk w b cur t)(hne:2≠t):∀g,s.ownBlock=some g->g≠b:=type_apart h hb hne
theorem OwB.congr{w:World}{base g n:Nat}{P Q:Nat->Bool}(h:OwB w base g n P)(hQ:∀i,i<n->P i=Q i):OwB w base g n Q:=by
  unfold OwB at*
  rw[bv_congr hQ]at h
  exact h
structure L4(w w2 u:World)(n h bl gi:Nat)(BV KV:Value)(K:List Nat)(P:Nat->Bool):Prop where
  res:Blk u w.heap.size #[.int .i64 0,.slice none 0 0,.slice none 0 0] 53
  blk:Blk u bl #[.int .i64 (h:Int),BV,KV] 53
  inn:OwB u w.heap.size gi n P
  row:OwN u w2.heap.size KV K
  fx:∀k,k<w2.heap.size->k≠bl->u.heap[k]?=w2.heap[k]?
  bel:Below w.heap.size w u
  size:w2.heap.size<=u.heap.size
  blt:bl<w2.heap.size
theorem L4.al{w w2 u:World}{n h bl gi:Nat}{BV KV:Value}{K:List Nat}{P:Nat->Bool}(l:L4 w w2 u n h bl gi BV KV K P)(o:Obj):(u.alloc o).ownsRow w2.heap.size 2 1 KV K.length (nv K)/\w2.heap.size<=(u.alloc o).heap.size:=⟨l.row.keep (below_alloc _ _),Nat.le_trans l.size (below_alloc _ _).size⟩
theorem L4.app{w w2 u u':World}{n h bl gi:Nat}{BV KV V':Value}{K:List Nat}{P:Nat->Bool}{y:Nat}(l:L4 w w2 u n h bl gi BV KV K P)(hw:w.heap.size<bl)(hown:u'.ownsRow w2.heap.size 2 1 V' (K.length+1) (nv K++[.int .i64 (y:Int)]))(hg:(u.alloc (.cells #[.int .i64 (y:Int)] 2)).grownBy u' KV.ownBlock):Blk u' bl #[.int .i64 (h:Int),BV,KV] 53/\L4 w w2 (u'.setCell ⟨bl,2,none⟩ V') n h bl gi BV V' (K++[y]) P:=by
  have bA:=below_alloc u (.cells #[.int .i64 (y:Int)] 2)
  have o1:=l.row.keep bA
  have kb:Blk u' bl #[.int .i64 (h:Int),BV,KV] 53:=(l.blk.keep bA).grown hg o1 (by decide)
  have kr:=(l.res.keep bA).grown hg o1 (by decide)
  have ki:OwB u' w.heap.size gi n P:=own_grown (l.inn.keep bA) hg o1 (by decide)
  have hlow:w.heap.size<=w2.heap.size:=by have:=l.blt;omega
  have hbel:Below w.heap.size w u':=(below_on l.bel (Nat.le_refl _) bA).grown hg (Nat.le_trans l.bel.size bA.size) (fun i hi=>Nat.le_trans hlow (l.row.lt i hi).1)
  refine⟨kb,kr.other (by simp only[];omega) _,?_,?_,?_,fun k hk hne=> ?_,hbel.setCell (Nat.le_of_lt hw) _,?_,l.blt⟩
  . have:=kb.set 2 V'
    simpa using this
  . refine ki.other fun e=> ?_
    obtain⟨_,cur,h1⟩:=own_blk ki
    subst e
    unfold Blk at kb
    rw[kb]at h1
    simp only[Option.some.injEq,Obj.cells.injEq]at h1
    exact absurd h1.2.1 (by decide)
  . unfold OwN
    rw[List.length_append,List.length_singleton,nv_app]
    refine ownsRow_setCell_other hown (a:=⟨bl,2,none⟩) (fun q=> ?_) _
    have:=(hown.lt bl q).1
    have:=l.blt
    omega
  . rw[heap_setCell_other u' _ k _ hne,hg.block k (Nat.lt_of_lt_of_le hk (Nat.le_trans l.size bA.size)) (fun e=>by have:=(l.row.lt k e.symm).1;omega),bA.block k (Nat.lt_of_lt_of_le hk l.size)]
    exact l.fx k hk hne
  . rw[World.size_setCell]
    exact Nat.le_trans l.size (Nat.le_trans bA.size hg.size)
end Go.Proofs.YtdfmdgbolmbffaaGreat
