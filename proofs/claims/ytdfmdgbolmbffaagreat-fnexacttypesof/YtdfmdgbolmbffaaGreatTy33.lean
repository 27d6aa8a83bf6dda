import Derived.Test.YtdfmdgbolmbffaaGreatTy27
import Derived.Test.YtdfmdgbolmbffaaGreatTy3
import Derived.Maps.OwnSet
import Derived.Shelf.SlGeneric
import Derived.Shelf.SortG.Plain
import Derived.Shelf.SortG.SortNone
import Derived.Shelf.SlicesG.SearchI
import Derived.Shelf.SlicesG.Turned
import Derived.Ground.SlgnProg
import Derived.Sort.OwnSortedInts
import Derived.Maps.RangeWalk
import Derived.Sort.KeysCollected
import Derived.Maps.AppendAt
namespace Go.Proofs.YtdfmdgbolmbffaaGreat
open Go.ChangeShapes Go.WideShapes Go.ChangeAt Go.RowKit
set_option linter.unusedVariables false
set_option maxHeartbeats 1000000 in
theorem namesPlace_any(x:MI)(w:World):Calls Tryz.prog 155 #[.agg #[.int .i64 x.op,.int .i64 x.a,.int .i64 x.b,.int .i64 x.c]] w fun e w'=>e=.returned (.bool (goesB x))/\Below w.heap.size w w':=by
  by_cases h1:x.op=25
  . have e:goesB x=true:=by simp[goesB,h1]
    rw[e,h1]
    go_enter Tryz.func155,Tryz.ntmps155
    go_wp2
    go_ret
    exact⟨rfl,(Below.refl _ _).alloc (Nat.le_refl _) _⟩
  . by_cases h2:x.op=26
    . have e:goesB x=true:=by simp[goesB,h2]
      rw[e,h2]
      go_enter Tryz.func155,Tryz.ntmps155
      go_wp2
      go_ret
      exact⟨rfl,(Below.refl _ _).alloc (Nat.le_refl _) _⟩
    . by_cases h3:x.op=27
      . have e:goesB x=true:=by simp[goesB,h3]
        rw[e,h3]
        go_enter Tryz.func155,Tryz.ntmps155
        go_wp2
        go_ret
        exact⟨rfl,(Below.refl _ _).alloc (Nat.le_refl _) _⟩
      . have e:goesB x=false:=by simp[goesB,h1,h2,h3]
        have q1:(x.op==25)=false:=by simpa using h1
        have q2:(x.op==26)=false:=by simpa using h2
        have q3:(x.op==27)=false:=by simpa using h3
        rw[e]
        generalize x.op=op at h1 h2 h3 q1 q2 q3
        go_enter Tryz.func155,Tryz.ntmps155
        go_wp2
        go_ret
        exact⟨rfl,(Below.refl _ _).alloc (Nat.le_refl _) _⟩
set_option maxHeartbeats 1000000 in
theorem goesOn_any(x:MI)(w:World):Calls Tryz.prog 111 #[.agg #[.int .i64 x.op,.int .i64 x.a,.int .i64 x.b,.int .i64 x.c]] w fun e w'=>e=.returned (.bool (onB x))/\Below w.heap.size w w':=by
  by_cases h1:x.op=25
  . have e:onB x=false:=by simp[onB,h1]
    rw[e,h1]
    go_enter Tryz.func111,Tryz.ntmps111
    go_wp2
    go_ret
    exact⟨rfl,(Below.refl _ _).alloc (Nat.le_refl _) _⟩
  . by_cases h2:x.op=29
    . have e:onB x=false:=by simp[onB,h2]
      rw[e,h2]
      go_enter Tryz.func111,Tryz.ntmps111
      go_wp2
      go_ret
      exact⟨rfl,(Below.refl _ _).alloc (Nat.le_refl _) _⟩
    . have e:onB x=true:=by simp[onB,h1,h2]
      have q1:(x.op != 25)=true:=by simpa using h1
      have q2:(x.op != 29)=true:=by simpa using h2
      rw[e]
      generalize x.op=op at h1 h2 q1 q2
      go_enter Tryz.func111,Tryz.ntmps111
      go_wp2
      go_ret
      exact⟨rfl,(Below.refl _ _).alloc (Nat.le_refl _) _⟩
set_option maxHeartbeats 1000000 in
theorem isOneOf_f(z:Int)(c:Nat)(w:World)(hc:(c:Int)<=1048576):Calls Tryz.prog 77 #[.int .i64 z,.int .i64 (c:Int)] w fun e w'=>e=.returned (.bool (decide (0<=z/\z<(c:Int))))/\w'=w:=by
  by_cases h1:0<=z
  . by_cases h2:z<(c:Int)
    . have e:decide (0<=z/\z<(c:Int))=true:=by simp[h1,h2]
      rw[e]
      go_enter Tryz.func77,Tryz.ntmps77
      go_wp2
      go_ret
      exact⟨rfl,rfl⟩
    . have e:decide (0<=z/\z<(c:Int))=false:=by simp[h1,h2]
      rw[e]
      go_enter Tryz.func77,Tryz.ntmps77
      go_wp2
      go_ret
      exact⟨rfl,rfl⟩
  . have e:decide (0<=z/\z<(c:Int))=false:=by simp[h1]
    rw[e]
    go_enter Tryz.func77,Tryz.ntmps77
    go_wp2
    go_ret
    exact⟨rfl,rfl⟩
theorem law64:Go.Maps.Keyed Tryz.prog 2:=Go.Maps.int_keyed Tryz.underlying2
def SetAt(w:World)(b cnt:Nat)(D:DataW Unit):Prop:=w.ownsMap Tryz.prog 2 (unitElem (H:=Unit)) b cnt D
set_option maxHeartbeats 2000000 in
set_option maxRecDepth 100000 in
theorem add_one(b cnt g c:Nat)(D:DataW Unit)(z:Int)(w:World)(hz:W64 z)(hcnt:cnt<=1048576)(hc:w.cell? ⟨g,0,none⟩=some (.int .i64 z))(hgb:¬g=b)(h:SetAt w b cnt D):
    Calls Tryz.prog 117 #[.map (some b),.slice (some ⟨g,0,none⟩) 1 c] w fun e w'=>e=.returned (.tuple #[])/\SetAt w' b (cnt+1) (D.put (.int .i64 z) (.agg []))/\w.grownBy w' (some b):=by
  have H:Hid (SetAt w b cnt D):=h
  clear h
  go_enter Tryz.func117,Tryz.ntmps117
  go_wp2
  go_loopw [8] (fun i wr=>∃k:Nat,k<=1/\i=.int .i64 k/\((k=0/\wr=w)\/(k=1/\Hid (SetAt wr b (cnt+1) (D.put (.int .i64 z) (.agg []))/\w.grownBy wr (some b))))) (fun i _=>1-(intOf i).toNat)
  case atStart=>exact⟨0,by omega,rfl,.inl ⟨rfl,rfl⟩⟩
  case round=>
    obtain⟨k,hk,rfl,hh⟩:=hrel
    rcases hh with⟨rfl,rfl⟩|⟨rfl,HE⟩
    . rw[show((0:Nat):Int)=0 from rfl]
      go_wp2_with (at_mapUpdate;refine wpList_mapUpdate_own _ rfl _ _ _ 142 rfl 2 205 law64 Tryz.underlying142 (unitElem (H:=Unit)) b cnt D rfl H.out (by unfold maxLen;omega) _ _ _ rfl rfl (Go.Maps.keyOf_int_mk Tryz.underlying2 hz) _ [] unitElem_mk ?_;intro w1 hown1 hgrow1)
      have HN:Hid (SetAt w1 b (cnt+1) (D.put (.int .i64 z) (.agg []))/\_):=⟨hown1,hgrow1⟩
      clear hown1 hgrow1
      go_wp2
      go_roundw
      case rel=>exact⟨1,by omega,by go_num,.inr ⟨rfl,HN⟩⟩
      case measure=>simp[intOf]
    . rw[show((1:Nat):Int)=1 from rfl]
      go_wp2
      go_end0
      exact⟨rfl,HE.out.1,HE.out.2⟩
end Go.Proofs.YtdfmdgbolmbffaaGreat
namespace Go.Proofs
open Go.Shelf
def Tryz.lSort_ren:Go.Shelf.Ren:=⟨fun|53=>145|64=>167|63=>166|78=>186|79=>187|70=>178|71=>179|72=>180|73=>181|74=>182|75=>183|59=>162|76=>184|77=>185|88=>189|89=>190|90=>191|91=>192|92=>193|68=>175|96=>208|n=>n,fun|22=>48|23=>2|3=>3|51=>213|0=>0|67=>98|69=>228|4=>4|61=>233|60=>232|44=>198|5=>5|9=>9|75=>242|79=>246|83=>248|84=>249|n=>n,fun|n=>n⟩
theorem Tryz.lSort:Go.Proofs.SlLaysN.n53 Tryz.prog Tryz.lSort_ren:={
  mixed:=by kernel_rfl
  f53:=⟨Tryz.f145.name,by decide,Tryz.func145.trans (congrArg some (by kernel_rfl))⟩
  f59:=⟨Tryz.f162.name,by decide,Tryz.func162.trans (congrArg some (by kernel_rfl))⟩
  f63:=⟨Tryz.f166.name,by decide,Tryz.func166.trans (congrArg some (by kernel_rfl))⟩
  f64:=Tryz.func167.trans (congrArg some (by kernel_rfl))
  f68:=⟨Tryz.f175.name,by decide,Tryz.func175.trans (congrArg some (by kernel_rfl))⟩
  f70:=⟨Tryz.f178.name,by decide,Tryz.func178.trans (congrArg some (by kernel_rfl))⟩
  f71:=⟨Tryz.f179.name,by decide,Tryz.func179.trans (congrArg some (by kernel_rfl))⟩
  f72:=⟨Tryz.f180.name,by decide,Tryz.func180.trans (congrArg some (by kernel_rfl))⟩
  f73:=⟨Tryz.f181.name,by decide,Tryz.func181.trans (congrArg some (by kernel_rfl))⟩
  f74:=⟨Tryz.f182.name,by decide,Tryz.func182.trans (congrArg some (by kernel_rfl))⟩
  f75:=⟨Tryz.f183.name,by decide,Tryz.func183.trans (congrArg some (by kernel_rfl))⟩
  f76:=⟨Tryz.f184.name,by decide,Tryz.func184.trans (congrArg some (by kernel_rfl))⟩
  f77:=⟨Tryz.f185.name,by decide,Tryz.func185.trans (congrArg some (by kernel_rfl))⟩
  f78:=Tryz.func186.trans (congrArg some (by kernel_rfl))
  f79:=Tryz.func187.trans (congrArg some (by kernel_rfl))
  f88:=⟨Tryz.f189.name,by decide,Tryz.func189.trans (congrArg some (by kernel_rfl))⟩
  f89:=Tryz.func190.trans (congrArg some (by kernel_rfl))
  f90:=Tryz.func191.trans (congrArg some (by kernel_rfl))
  f91:=⟨Tryz.f192.name,by decide,Tryz.func192.trans (congrArg some (by kernel_rfl))⟩
  f92:=⟨Tryz.f193.name,by decide,Tryz.func193.trans (congrArg some (by kernel_rfl))⟩
  f96:=⟨Tryz.f208.name,by decide,Tryz.func208.trans (congrArg some (by kernel_rfl))⟩
  t0:=Tryz.underlying0
  a0:=Tryz.isAgg0
  z0:=Tryz.sizeOf0
  v0:=Tryz.zeroValue0
  t3:=Tryz.underlying3
  a3:=Tryz.isAgg3
  z3:=Tryz.sizeOf3
  v3:=Tryz.zeroValue3
  t4:=Tryz.underlying4
  a4:=Tryz.isAgg4
  z4:=Tryz.sizeOf4
  v4:=Tryz.zeroValue4
  t5:=Tryz.underlying5
  a5:=Tryz.isAgg5
  z5:=Tryz.sizeOf5
  v5:=Tryz.zeroValue5
  t9:=Tryz.underlying9
  a9:=Tryz.isAgg9
  z9:=Tryz.sizeOf9
  v9:=Tryz.zeroValue9
  t22:=Tryz.underlying48
  a22:=Tryz.isAgg48
  z22:=Tryz.sizeOf48
  v22:=Tryz.zeroValue48
  t23:=Tryz.underlying2
  a23:=Tryz.isAgg2
  z23:=Tryz.sizeOf2
  v23:=Tryz.zeroValue2
  t44:=Tryz.underlying198
  a44:=Tryz.isAgg198
  z44:=Tryz.sizeOf198
  v44:=Tryz.zeroValue198
  t51:=Tryz.underlying213
  a51:=Tryz.isAgg213
  z51:=Tryz.sizeOf213
  v51:=Tryz.zeroValue213
  t60:=Tryz.underlying232
  a60:=Tryz.isAgg232
  z60:=Tryz.sizeOf232
  v60:=Tryz.zeroValue232
  t61:=Tryz.underlying233
  a61:=Tryz.isAgg233
  z61:=Tryz.sizeOf233
  v61:=Tryz.zeroValue233
  t67:=Tryz.underlying98
  a67:=Tryz.isAgg98
  z67:=Tryz.sizeOf98
  v67:=Tryz.zeroValue98
  t69:=Tryz.underlying228
  a69:=Tryz.isAgg228
  z69:=Tryz.sizeOf228
  v69:=Tryz.zeroValue228
  t75:=Tryz.underlying242
  a75:=Tryz.isAgg242
  z75:=Tryz.sizeOf242
  v75:=Tryz.zeroValue242
  t79:=Tryz.underlying246
  a79:=Tryz.isAgg246
  z79:=Tryz.sizeOf246
  v79:=Tryz.zeroValue246
  t83:=Tryz.underlying248
  a83:=Tryz.isAgg248
  z83:=Tryz.sizeOf248
  v83:=Tryz.zeroValue248
  t84:=Tryz.underlying249
  a84:=Tryz.isAgg249
  z84:=Tryz.sizeOf249
  v84:=Tryz.zeroValue249}
def Tryz.lSearch_ren:Go.Shelf.Ren:=⟨fun|49=>138|59=>162|60=>163|68=>175|n=>n,fun|22=>48|23=>2|3=>3|4=>4|51=>213|0=>0|n=>n,fun|n=>n⟩
theorem Tryz.lSearch:Go.Proofs.SlLaysN.n49 Tryz.prog Tryz.lSearch_ren:={
  mixed:=by kernel_rfl
  f49:=⟨Tryz.f138.name,by decide,Tryz.func138.trans (congrArg some (by kernel_rfl))⟩
  f59:=⟨Tryz.f162.name,by decide,Tryz.func162.trans (congrArg some (by kernel_rfl))⟩
  f60:=⟨Tryz.f163.name,by decide,Tryz.func163.trans (congrArg some (by kernel_rfl))⟩
  f68:=⟨Tryz.f175.name,by decide,Tryz.func175.trans (congrArg some (by kernel_rfl))⟩
  t0:=Tryz.underlying0
  a0:=Tryz.isAgg0
  z0:=Tryz.sizeOf0
  v0:=Tryz.zeroValue0
  t3:=Tryz.underlying3
  a3:=Tryz.isAgg3
  z3:=Tryz.sizeOf3
  v3:=Tryz.zeroValue3
  t4:=Tryz.underlying4
  a4:=Tryz.isAgg4
  z4:=Tryz.sizeOf4
  v4:=Tryz.zeroValue4
  t22:=Tryz.underlying48
  a22:=Tryz.isAgg48
  z22:=Tryz.sizeOf48
  v22:=Tryz.zeroValue48
  t23:=Tryz.underlying2
  a23:=Tryz.isAgg2
  z23:=Tryz.sizeOf2
  v23:=Tryz.zeroValue2
  t51:=Tryz.underlying213
  a51:=Tryz.isAgg213
  z51:=Tryz.sizeOf213
  v51:=Tryz.zeroValue213}
def Tryz.lContains_ren:Go.Shelf.Ren:=⟨fun|31=>93|29=>127|n=>n,fun|22=>48|23=>2|4=>4|3=>3|0=>0|n=>n,fun|n=>n⟩
theorem Tryz.lContains:Go.Proofs.SlLaysN.n31 Tryz.prog Tryz.lContains_ren:={
  mixed:=by kernel_rfl
  f29:=⟨Tryz.f127.name,by decide,Tryz.func127.trans (congrArg some (by kernel_rfl))⟩
  f31:=⟨Tryz.f93.name,by decide,Tryz.func93.trans (congrArg some (by kernel_rfl))⟩
  t0:=Tryz.underlying0
  a0:=Tryz.isAgg0
  z0:=Tryz.sizeOf0
  v0:=Tryz.zeroValue0
  t3:=Tryz.underlying3
  a3:=Tryz.isAgg3
  z3:=Tryz.sizeOf3
  v3:=Tryz.zeroValue3
  t4:=Tryz.underlying4
  a4:=Tryz.isAgg4
  z4:=Tryz.sizeOf4
  v4:=Tryz.zeroValue4
  t22:=Tryz.underlying48
  a22:=Tryz.isAgg48
  z22:=Tryz.sizeOf48
  v22:=Tryz.zeroValue48
  t23:=Tryz.underlying2
  a23:=Tryz.isAgg2
  z23:=Tryz.sizeOf2
  v23:=Tryz.zeroValue2}
end Go.Proofs
namespace Go.Proofs.YtdfmdgbolmbffaaGreat
open Go.ChangeShapes Go.WideShapes Go.ChangeAt Go.RowKit
set_option linter.unusedVariables false
theorem sort_any(g cap:Nat)(zs:List Int)(w:World)(hH:Go.Sort.Holds (Value.int .i64) w g 0 zs.toArray)(hb:g<w.heap.size)(hl:zs.length<4611686018427387904):
    Calls Tryz.prog 145 #[.slice (some ⟨g,0,none⟩) zs.length cap] w fun e w'=>e=.returned (.tuple #[])/\∃n os,w'=Go.Sort.grow (Go.Sort.putRow (Value.int .i64) (Go.Sort.ahead w n) g 0 (zs.mergeSort fun x y=>decide (x<=y)).toArray) os:=by
  have h:=AnyG.slices_Sort_int Tryz.lSort g 0 cap zs w hH hb hl
  exact h
end Go.Proofs.YtdfmdgbolmbffaaGreat
namespace Go.Proofs.YtdfmdgbolmbffaaGreat
open Go.ChangeShapes Go.WideShapes Go.ChangeAt Go.RowKit
set_option linter.unusedVariables false
structure CollI(D:DataW Unit)(left:Lit->Bool)(zs:List Int):Prop where
  nodup:zs.Nodup
  mem:∀z,z∈zs↔W64 z/\Go.Maps.has D (.int .i64 z)=true/\left (.int .i64 z)=false
theorem CollI.start(D:DataW Unit):CollI D (Go.Maps.has D) []:=⟨List.nodup_nil,fun z=>⟨fun h=>(by cases h),fun h=>by rw[h.2.1]at h;exact absurd h.2.2 (by simp)⟩⟩
theorem sameKey_int(z x:Int):(Lit.int .i64 z).sameKey (.int .i64 x)=decide (z=x):=by
  by_cases h:z=x
  . subst h
    simp[Lit.sameKey]
  . rw[Go.Maps.sameKey_ne (fun e=>h (by cases e;rfl))]
    simp[h]
theorem CollI.step{D:DataW Unit}{left:Lit->Bool}{zs:List Int}{x:Int}{y:DataW Unit}(h:CollI D left zs)(hw:W64 x)(hl:left (.int .i64 x)=true)(hat:∀zd,D.atKey (.int .i64 x) zd=y):CollI D (fun z=>left z&& !z.sameKey (.int .i64 x)) (zs++[x]):=by
  have hx:x∉zs:=fun e=>by
    have:=((h.mem x).1 e).2.2
    rw[hl]at this
    cases this
  refine⟨?_,fun z=> ?_⟩
  . rw[List.nodup_append]
    refine⟨h.nodup,by simp,?_⟩
    intro a ha b hb
    simp only[List.mem_cons,List.not_mem_nil,or_false]at hb
    subst hb
    exact fun e=>hx (e▸ha)
  . rw [List.mem_append,h.mem]
    simp only[List.mem_cons,List.not_mem_nil,or_false,sameKey_int]
    constructor
    . rintro(⟨h1,h2,h3⟩|rfl)
      . exact⟨h1,h2,by simp[h3]⟩
      . exact⟨hw,Go.Maps.has_true_of_atKey hat,by simp⟩
    . rintro⟨h1,h2,h3⟩
      by_cases e:z=x
      . exact .inr e
      . refine .inl ⟨h1,h2,?_⟩
        simpa[e]using h3
theorem ints_flat(zs:List Int):zs.flatMap intCell=zs.map (Value.int .i64):=by
  induction zs with
  |nil=>rfl
  |cons z r ih=>simp[intCell,ih]
theorem sorted_lt(zs:List Int)(h:zs.Nodup):(zs.mergeSort fun x y=>decide (x<=y)).Pairwise (· < ·):=by
  have h1:(zs.mergeSort fun x y=>decide (x<=y)).Pairwise (fun a b=>decide (a<=b)=true):=List.pairwise_mergeSort (fun a b c h1 h2=>by simp at*;omega) (fun a b=>by simp;omega) zs
  have h2:(zs.mergeSort fun x y=>decide (x<=y)).Nodup:=(List.mergeSort_perm zs _).nodup_iff.2 h
  refine(h1.and h2).imp ?_
  rintro a b ⟨h3,h4⟩
  simp at h3
  omega
set_option maxHeartbeats 4000000 in
set_option maxRecDepth 100000 in
theorem rising_any(b cnt:Nat)(D:DataW Unit)(w:World)(hcnt:cnt<=1048576)(h:SetAt w b cnt D):
    Calls Tryz.prog 141 #[.map (some b)] w fun e w'=>∃(g cap:Nat) (zs:List Int),e=.returned (.slice (some ⟨g,0,none⟩) zs.length cap)/\w'.ownsRow w.heap.size 2 1 (.slice (some ⟨g,0,none⟩) zs.length cap) zs.length (zs.flatMap intCell)/\zs.Pairwise (· < ·)/\(∀z,z∈zs↔W64 z/\Go.Maps.has D (.int .i64 z)=true)/\Below w.heap.size w w':=by
  obtain⟨i0,hi,hz0,hz1,hz2⟩:=info_parts info64
  have hown:w.ownsMap Tryz.prog 2 (unitElem (H:=Unit)) b cnt D:=h
  have hbl:=hown.lt
  have hsz:=hown.size_le
  clear h
  go_enter Tryz.func141,Tryz.ntmps141
  go_wp2_with (first
    |(at_len;refine wpList_len_own _ rfl _ 142 rfl 2 205 Tryz.underlying142 _ b cnt _ rfl hown ?_)
    |(at_make;refine wpList_make_own _ rfl _ _ 48 rfl w.heap.size 2 i0 (.int .i64 0) 1 Tryz.underlying48 hi hz0 hz1 _ _ _ (Go.Maps.size D) rfl rfl rfl (by rw[hz2];omega) (by unfold maxLen;omega) (Nat.le_refl _) ?_;intro w1 hrow1 hg1)
    |(at_range;refine wpList_range_own _ rfl _ 142 rfl 2 205 law64 Tryz.underlying142 _ b cnt _ rfl (hown.kept hg1 (by simp)) ?_;intro w0 hrg0 hg0 hs0)
    |go_in)
  go_frame
  go_loopw [3] (fun v wr=>∃(left:Lit->Bool) (cn:Nat) (zs:List Int),wr.ranges Tryz.prog 2 (unitElem (H:=Unit)) b w1.heap.size cnt D left cn/\zs.length+cn<=Go.Maps.size D/\wr.ownsRow w.heap.size 2 1 v zs.length (zs.map (Value.int .i64))/\v≠ .slice none 0 0/\CollI D left zs/\Below w.heap.size w wr) (fun _ wr=>wr.rangeLeft b w1.heap.size)
  case atStart=>
    exact⟨_,_,[],hrg0,by simp,hrow1.kept hg0 (Or.inr (by simp[Value.ownBlock])),by simp,CollI.start D,((Below.refl _ _).grown hg1 (Nat.le_refl _) (fun j hj=>by cases hj)).grown hg0 hg1.size (fun j hj=>by cases hj)⟩
  case round=>
    obtain⟨left,cn,zs,hrg,hcs,hrow,hnn,hC,hnx⟩:=hrel
    go_wp2_with (first
      |(at_next;refine wpList_next_ranges _ rfl _ rfl 2 law64 (unitElem (H:=Unit)) (Value.int .i64) (fun(_:Unit)=>Value.agg #[]) (fun key kl hk=>by obtain⟨x,hx,_⟩:=Go.Maps.keyOf_int_inv Tryz.underlying2 hk;exact⟨x,hx⟩) (fun v y hv=>by obtain⟨rfl,_⟩:=unitElem_inv hv;exact⟨(),rfl⟩) b w1.heap.size cnt _ _ _ rfl hrg ?_ ?_)
      |go_in)
    . intro hc0 hl0
      rcases hrow.2 with⟨hnil,_⟩|⟨g,cap,cur,rfl,hbase,hb,h1,h2,h3,h4⟩
      . exact absurd hnil hnn
      have hH:Go.Sort.Holds (Value.int .i64) wr g 0 zs.toArray:=holds_of_blockI hb (by simpa using h4)
      have hgl:g<wr.heap.size:=(Array.getElem?_eq_some_iff.1 hb).1
      have hc:=sort_any g cap zs wr hH hgl (by omega)
      have HP:Hid ((zs.mergeSort fun x y=>decide (x<=y)).Pairwise (· < ·)/\(∀z,z∈(zs.mergeSort fun x y=>decide (x<=y))↔W64 z/\Go.Maps.has D (.int .i64 z)=true)/\(zs.mergeSort fun x y=>decide (x<=y)).length=zs.length):=by
        refine⟨sorted_lt zs hC.nodup,fun z=> ?_,(List.mergeSort_perm zs _).length_eq⟩
        rw[(List.mergeSort_perm zs _).mem_iff,hC.mem]
        exact⟨fun q=>⟨q.1,q.2.1⟩,fun q=>⟨q.1,q.2,hl0 _⟩⟩
      go_wp2_with (go_at_call 145;refine hc.mono ?_;rintro e w' ⟨rfl,nn,os,rfl⟩)
      go_ret
      refine⟨g,cap,zs.mergeSort fun x y=>decide (x<=y),?_,?_,HP.out.1,HP.out.2.1,hnx.grown (grownBy_sortedI _) hnx.size (fun j hj=>by cases hj;exact hbase)⟩
      . rw[HP.out.2.2]
        rfl
      . rw[HP.out.2.2,ints_flat]
        exact ownsRow_sortedI HP.out.2.2 hbase hb h1 h2 h3
    . intro x c kl y w2 cnt2 hkey hlk hv hat hrg2 hlt hg2 hs2 hen
      obtain⟨x',ex,rfl,hwx⟩:=Go.Maps.keyOf_int_inv Tryz.underlying2 hkey
      obtain rfl:x=x':=by cases ex;rfl
      have hrow2:=hrow.kept hg2 (Or.inr (Go.row_ne_iter hrow hrg).symm)
      clear hs2
      go_wp2_with (first
        |(at_builtin;refine wpList_append_own _ rfl _ _ 48 rfl w.heap.size 2 i0 (.int .i64 0) 1 8 Tryz.underlying48 hi hz0 hz1 hz2 rfl (by decide) _ _ _ rfl (hrow2.alloc _) ⟨w2.heap.size,0,none⟩ 1 1 [.int .i64 x] rfl rfl (Go.cell_one_new _ _ _) (fun u hu=>by simp at hu;subst hu;rfl) (by unfold maxLen;omega) (by omega) (by have:=hnx.size;have:=hg2.size;simp;omega) ?_;intro v' w3 hown' hg3 hnil3;go_frame)
        |go_in)
      have hrg3:=(hrg2.alloc (.cells #[.int .i64 x] 2)).kept hg3 (Go.row_ne_low hrow2 hbl) (Go.row_ne_iter hrow2 hrg2)
      go_roundw
      case rel=>
        refine⟨_,cnt2,zs++[x],hrg3,by simp;omega,by simpa using hown',fun hv'=>by have:=(hnil3.1 hv').2;omega,hC.step hwx hlk hat,?_⟩
        exact((hnx.grown hg2 hnx.size (fun j hj=>by cases hj;exact hg1.size)).alloc (by have:=hnx.size;have:=hg2.size;omega) _).grown hg3 (by have:=hnx.size;have:=hg2.size;simp;omega) (fun j hj=>(hrow2.lt j hj).1)
      case measure=>rw[hrg3.left_eq,hrg.left_eq];exact hlt
end Go.Proofs.YtdfmdgbolmbffaaGreat
namespace Go.Proofs.YtdfmdgbolmbffaaGreat
open Go.ChangeShapes Go.WideShapes Go.ChangeAt Go.RowKit
set_option linter.unusedVariables false
theorem sorted_ext:∀(a b:List Int),a.Pairwise (· < ·)->b.Pairwise (· < ·)->(∀z,z∈a↔z∈b)->a=b
  |[],[],_,_,_=>rfl
  |[],y::b,_,_,h=>by have:=(h y).2 (by simp);cases this
  |x::a,[],_,_,h=>by have:=(h x).1 (by simp);cases this
  | x ::a,y::b,ha,hb,h=>by
    obtain⟨a1,a2⟩:=List.pairwise_cons.1 ha
    obtain⟨b1,b2⟩:=List.pairwise_cons.1 hb
    have e:x=y:=by
      rcases List.mem_cons.1 ((h x).1 (by simp))with e|e
      . exact e
      . rcases List.mem_cons.1 ((h y).2 (by simp))with e'|e'
        . exact e'.symm
        . have:=b1 x e
          have:=a1 y e'
          omega
    subst e
    congr 1
    refine sorted_ext a b a2 b2 fun z=>⟨fun hz=> ?_,fun hz=> ?_⟩
    . rcases List.mem_cons.1 ((h z).1 (List.mem_cons_of_mem _ hz))with e|e
      . have:=a1 z hz
        omega
      . exact e
    . rcases List.mem_cons.1 ((h z).2 (List.mem_cons_of_mem _ hz))with e|e
      . have:=b1 z hz
        omega
      . exact e
theorem lead_le(xs:List MI)(j:Nat)(hg:CodeGood xs)(h:leadB xs xs.length j=true):j<=xs.length:=by
  simp only[leadB,Bool.or_eq_true,List.any_eq_true,List.mem_range,decide_eq_true_eq]at h
  rcases h with h|⟨i,hi,h⟩
  . omega
  . cases hx:xs[i]? with
    |none=>rw[hx]at h;cases h
    | some x=>
      rw[hx]at h
      simp only[leads,Bool.or_eq_true,Bool.and_eq_true,decide_eq_true_eq]at h
      rcases h with⟨h1,h2⟩|⟨_,h2⟩
      . have:=hg.2.2 i x hx h1
        omega
      . omega
def HasIs(D:DataW Unit)(xs:List MI)(k:Nat):Prop:=∀z:Int,Go.Maps.has D (.int .i64 z)=(decide (0<=z)&&leadB xs k z.toNat)
theorem has_put(D:DataW Unit)(hD:Go.Maps.IsMap D)(z y:Int)(u:DataW Unit):Go.Maps.has (D.put (.int .i64 z) u) (.int .i64 y)=(Go.Maps.has D (.int .i64 y)||decide (y=z)):=by
  by_cases h:y=z
  . subst h
    rw[Go.Maps.has_put_same hD (show WideAt.IsKeyLit (Lit.int .i64 y)from trivial)]
    simp
  . rw[Go.Maps.has_put_other (fun e=>h (by cases e;rfl))]
    simp[h]
theorem HasIs.start(xs:List MI)(u:DataW Unit):HasIs ((DataW.map []:DataW Unit).put (.int .i64 0) u) xs 0:=fun z=>by
  rw[has_put _ Go.Maps.isMap_empty,leadB_start]
  have e:Go.Maps.has (DataW.map []:DataW Unit) (.int .i64 z)=false:=rfl
  rw[e]
  by_cases h:z=0
  . subst h
    rfl
  . by_cases h0:0<=z
    . have:¬z.toNat=0:=by omega
      simp[h,this]
    . simp[h,h0]
theorem HasIs.none{D:DataW Unit}{xs:List MI}{k:Nat}{x:MI}(h:HasIs D xs k)(hx:xs[k]?=some x)(hg:goesB x=false)(hr:¬x.op=29):HasIs D xs (k+1):=fun z=>by
  rw[h z,leadB_succ xs k _ x hx]
  simp[leads,hg,hr]
theorem HasIs.ret{D:DataW Unit}{xs:List MI}{k:Nat}{x:MI}{u:DataW Unit}(h:HasIs D xs k)(hD:Go.Maps.IsMap D)(hx:xs[k]?=some x)(hg:goesB x=false)(hr:x.op=29):HasIs (D.put (.int .i64 ((k:Int)+1)) u) xs (k+1):=fun z=>by
  rw[has_put D hD,h z,leadB_succ xs k _ x hx]
  by_cases h0:0<=z
  . have e:decide (z=(k:Int)+1)=decide (z.toNat=k+1):=decide_eq_decide.2 ⟨fun _=>by omega,fun _=>by omega⟩
    rw[e]
    simp[leads,hg,hr,h0]
  . have e:decide (z=(k:Int)+1)=false:=by simp;omega
    simp[e,h0]
theorem HasIs.goes{D:DataW Unit}{xs:List MI}{k:Nat}{x:MI}{u u':DataW Unit}(h:HasIs D xs k)(hD:Go.Maps.IsMap D)(hx:xs[k]?=some x)(hg:goesB x=true)(hc:0<=x.c):HasIs ((D.put (.int .i64 x.c) u).put (.int .i64 ((k:Int)+1)) u') xs (k+1):=fun z=>by
  rw[has_put _ (hD.put _ _),has_put D hD,h z,leadB_succ xs k _ x hx]
  by_cases h0:0<=z
  . have e:decide (z=(k:Int)+1)=decide (z.toNat=k+1):=decide_eq_decide.2 ⟨fun _=>by omega,fun _=>by omega⟩
    have e2:decide (z=x.c)=decide (x.c=(z.toNat:Int)):=decide_eq_decide.2 ⟨fun _=>by omega,fun _=>by omega⟩
    rw[e,e2]
    simp[leads,hg,h0,Bool.or_assoc]
  . have e:decide (z=(k:Int)+1)=false:=by simp;omega
    have e2:decide (z=x.c)=false:=by simp;omega
    simp[e,e2,h0]
theorem grown_of_below{w w':World}(h:Below w.heap.size w w'):w.grownBy w' none:=⟨h.os,h.tape,h.output,h.size,fun k hk _=>h.block k hk⟩
theorem SetAt.keep{w w':World}{b cnt:Nat}{D:DataW Unit}(h:SetAt w b cnt D)(hb:Below w.heap.size w w'):SetAt w' b cnt D:=World.ownsMap.kept h (grown_of_below hb) (by simp)
structure LX(w wr U:World)(x:MI)(cnt:Nat)(D:DataW Unit):Prop where
  set:SetAt U w.heap.size cnt D
  xb:Blk U wr.heap.size #[.int .i64 x.op,.int .i64 x.a,.int .i64 x.b,.int .i64 x.c] 73
  bel:Below w.heap.size w U
  lt:w.heap.size<wr.heap.size
theorem LX.keep{w wr U U':World}{x:MI}{cnt:Nat}{D:DataW Unit}(h:LX w wr U x cnt D)(hb:Below U.heap.size U U'):LX w wr U' x cnt D:=⟨h.set.keep hb,h.xb.keep hb,below_on h.bel (Nat.le_refl _) hb,h.lt⟩
theorem LX.grown{w wr U U':World}{x:MI}{cnt cnt':Nat}{D D':DataW Unit}(h:LX w wr U x cnt D)(hs:SetAt U' w.heap.size cnt' D')(hg:U.grownBy U' (some w.heap.size)):LX w wr U' x cnt' D':=by
  refine⟨hs,?_,h.bel.grown hg h.bel.size (fun j hj=>by cases hj;exact Nat.le_refl _),h.lt⟩
  have:=h.xb
  have hl:=h.lt
  unfold Blk at*
  rw[hg.block _ h.xb.lt (fun e=>by have:=Option.some.inj e;omega)]
  exact this
end Go.Proofs.YtdfmdgbolmbffaaGreat
namespace Go.Proofs.YtdfmdgbolmbffaaGreat
open Go.ChangeShapes Go.WideShapes Go.ChangeAt Go.RowKit
set_option linter.unusedVariables false
theorem blk4{u:World}{X:Nat}{x0 x1 x2 x3:Value}{t:TypeId}(h:Blk u X #[x0,x1,x2,x3] t):u.cell? ⟨X,0,none⟩=some x0/\u.cell? ⟨X,1,none⟩=some x1/\u.cell? ⟨X,2,none⟩=some x2/\u.cell? ⟨X,3,none⟩=some x3:=
  ⟨h.cell 0,h.cell 1,h.cell 2,h.cell 3⟩
theorem w64_small{z:Int}(h0:0<=z)(h1:z<=1048576):W64 z:=WalkArith.wf_i64 (by omega)
set_option maxHeartbeats 4000000 in
set_option maxRecDepth 100000 in
theorem leadersOf_any(s:Value)(xs:List MI)(w:World)(hg:CodeGood xs)(h:Rd w 4 s xs.length (xs.flatMap MI.cells)):
    Calls Tryz.prog 137 #[s] w fun e w'=>∃g cap,e=.returned (.slice (some ⟨g,0,none⟩) (lds xs xs.length).length cap)/\w'.ownsRow w.heap.size 2 1 (.slice (some ⟨g,0,none⟩) (lds xs xs.length).length cap) (lds xs xs.length).length (((lds xs xs.length).map Int.ofNat).flatMap intCell)/\Below w.heap.size w w':=by
  have H:Hid (Rd w 4 s xs.length (xs.flatMap MI.cells)):=h
  have HG:Hid (CodeGood xs):=hg
  have hg1:=hg.1
  have hg2:=hg.2.1
  obtain⟨a1,c1,rfl⟩:=h.is_slice
  clear h hg
  generalize hLL:xs.length=n at H hg1 hg2
  have HL:Hid (xs.length=n):=hLL
  clear hLL
  have hmm:= @run_makeMap Tryz.prog
  have S0:SetAt (w.alloc (.map #[] 0)) w.heap.size 0 (.map []):=World.ownsMap_made _ _ _ _
  have B0:Below w.heap.size w (w.alloc (.map #[] 0)):=below_alloc _ _
  have z0:(w.alloc (.map #[] 0)).heap.size=w.heap.size+1:=by simp
  have hce:((w.alloc (.map #[] 0)).alloc (.cells #[.int .i64 0] 2)).cell? ⟨w.heap.size+1,0,none⟩=some (.int .i64 0):=by
    have:=(Blk.new (w.alloc (.map #[] 0)) #[.int .i64 0] 2).cell 0
    rw[z0]at this
    exact this
  have S1:Hid (SetAt ((w.alloc (.map #[] 0)).alloc (.cells #[.int .i64 0] 2)) w.heap.size 0 (.map [])/\Below w.heap.size w ((w.alloc (.map #[] 0)).alloc (.cells #[.int .i64 0] 2))):=⟨S0.keep (below_alloc _ _),below_on B0 (Nat.le_refl _) (below_alloc _ _)⟩
  have HCE:Hid _:=hce
  clear S0 B0 z0 hce
  go_enter Tryz.func137,Tryz.ntmps137
  go_wp2_with fail
  refine(add_one w.heap.size 0 (w.heap.size+1) 1 (.map []) 0 _ (w64_small (by omega) (by omega)) (by omega) HCE.out (by omega) S1.out.1).mono ?_
  rintro e u1 ⟨rfl,s1,g1⟩
  have HS:Hid (∃cnt D,cnt<=1/\SetAt u1 w.heap.size cnt D/\HasIs D xs 0/\Below w.heap.size w u1):=⟨_,_,Nat.le_refl _,s1,HasIs.start xs _,S1.out.2.grown g1 S1.out.2.size (fun j hj=>by cases hj;exact Nat.le_refl _)⟩
  clear s1 g1 S1 HCE
  go_wp2
  go_loopw [12] (fun i wr=>∃k:Nat,k<=n/\i=.int .i64 k/\Hid (∃cnt D,cnt<=2*k+1/\SetAt wr w.heap.size cnt D/\HasIs D xs k/\Below w.heap.size w wr)) (fun i _=>n-(intOf i).toNat)
  case atStart=>exact⟨0,by omega,rfl,HS⟩
  case round=>
    clear HS
    obtain⟨k,hk,rfl,HS⟩:=hrel
    obtain⟨cnt,D,hcn,hset,hhas,hbel⟩:=HS.out
    have HB:Hid (HasIs D xs k/\Below w.heap.size w wr/\SetAt wr w.heap.size cnt D/\Go.Maps.IsMap D):=⟨hhas,hbel,hset,World.ownsMap.isMap hset⟩
    clear hset hhas hbel HS
    by_cases hlt:k<n
    . obtain⟨x,hx⟩:∃x,xs[k]?=some x:=⟨_,List.getElem?_eq_getElem (by rw[HL.out];exact hlt)⟩
      have HX:Hid (xs[k]?=some x):=hx
      rcases H.out.2 with⟨e0,_⟩|⟨g,o,c,e1,hc1⟩
      . omega
      simp only[Value.slice.injEq,true_and]at e1
      obtain⟨rfl,rfl⟩:=e1
      have x0:=Rd.elem MI.cells_length hc1 k _ hx 0 _ rfl
      have x1:=Rd.elem MI.cells_length hc1 k _ hx 1 _ rfl
      have x2:=Rd.elem MI.cells_length hc1 k _ hx 2 _ rfl
      have x3:=Rd.elem MI.cells_length hc1 k _ hx 3 _ rfl
      rw[<-HB.out.2.1.cell (block_lt_of_cell x0),Nat.add_zero]at x0
      rw[<-HB.out.2.1.cell (block_lt_of_cell x1)]at x1
      rw[<-HB.out.2.1.cell (block_lt_of_cell x2)]at x2
      rw[<-HB.out.2.1.cell (block_lt_of_cell x3)]at x3
      clear hc1 hx
      have hkL:(k:Int)<(n:Int):=by omega
      have HLX:Hid (LX w wr (wr.alloc (.cells #[.int .i64 x.op,.int .i64 x.a,.int .i64 x.b,.int .i64 x.c] 73)) x cnt D):=⟨HB.out.2.2.1.keep (below_alloc _ _),Blk.new _ _ _,below_on HB.out.2.1 (Nat.le_refl _) (below_alloc _ _),World.ownsMap.lt HB.out.2.2.1⟩
      go_upto_region 6 with fail
      refine wp_world (fun u=>Hid (LX w wr u x cnt D)) HLX ?_
      intro U1 HU1
      clear HLX x0 x1 x2 x3
      obtain⟨a0,a1',a2,a3⟩:=blk4 HU1.out.xb
      go_wp2_with fail
      refine(namesPlace_any x _).mono ?_
      rintro e u2 ⟨rfl,b2⟩
      have HU2:Hid (LX w wr u2 x cnt D):=HU1.out.keep b2
      clear b2 a0 a1' a2 a3 HU1
      cases hgo:goesB x
      . obtain⟨a0,a1',a2,a3⟩:=blk4 HU2.out.xb
        go_wp2_with fail
        refine(namesPlace_any x _).mono ?_
        rintro e u3 ⟨rfl,b3⟩
        have HU3:Hid (LX w wr u3 x cnt D):=HU2.out.keep b3
        clear b3 a0 a1' a2 a3 HU2
        rw[hgo]
        obtain⟨a0,a1',a2,a3⟩:=blk4 HU3.out.xb
        by_cases hr:x.op=29
        . rw[hr]at a0
          have HCE:Hid ((u3.alloc (.cells #[.int .i64 ((k:Int)+1)] 2)).cell? ⟨u3.heap.size,0,none⟩=some (.int .i64 ((k:Int)+1))/\LX w wr (u3.alloc (.cells #[.int .i64 ((k:Int)+1)] 2)) x cnt D/\¬u3.heap.size=w.heap.size):=⟨(Blk.new u3 #[.int .i64 ((k:Int)+1)] 2).cell 0,HU3.out.keep (below_alloc _ _),by have:=World.ownsMap.lt HU3.out.set;omega⟩
          go_wp2_with fail
          refine(add_one w.heap.size cnt u3.heap.size 1 D ((k:Int)+1) _ (w64_small (by omega) (by omega)) (by omega) HCE.out.1 HCE.out.2.2 HCE.out.2.1.set).mono ?_
          rintro e u4 ⟨rfl,s4,g4⟩
          have HN:Hid (∃cnt D,cnt<=2*(k+1)+1/\SetAt u4 w.heap.size cnt D/\HasIs D xs (k+1)/\Below w.heap.size w u4):=⟨_,_,by omega,s4,HB.out.1.ret HB.out.2.2.2 HX.out hgo hr,(HCE.out.2.1.grown s4 g4).bel⟩
          clear s4 g4 a0 a1' a2 a3
          go_wp2
          go_roundw
          case rel=>exact⟨k+1,by omega,by go_num,HN⟩
          case measure=>simp[intOf];omega
        . have hr':(x.op==29)=false:=by simpa using hr
          have HN:Hid (∃cnt D,cnt<=2*(k+1)+1/\SetAt u3 w.heap.size cnt D/\HasIs D xs (k+1)/\Below w.heap.size w u3):=⟨_,_,by omega,HU3.out.set,HB.out.1.none HX.out hgo hr,HU3.out.bel⟩
          go_wp2
          go_roundw
          case rel=>exact⟨k+1,by omega,by go_num,HN⟩
          case measure=>simp[intOf];omega
      . obtain⟨hc0,hc1⟩:=HG.out.2.2 k x HX.out hgo
        rw[HL.out]at hc1
        obtain⟨a0,a1',a2,a3⟩:=blk4 HU2.out.xb
        have HCE:Hid ((u2.alloc (.cells #[.int .i64 x.c] 2)).cell? ⟨u2.heap.size,0,none⟩=some (.int .i64 x.c)/\LX w wr (u2.alloc (.cells #[.int .i64 x.c] 2)) x cnt D/\¬u2.heap.size=w.heap.size):=⟨(Blk.new u2 #[.int .i64 x.c] 2).cell 0,HU2.out.keep (below_alloc _ _),by have:=World.ownsMap.lt HU2.out.set;omega⟩
        go_wp2_with fail
        refine(add_one w.heap.size cnt u2.heap.size 1 D x.c _ (w64_small (by omega) (by omega)) (by omega) HCE.out.1 HCE.out.2.2 HCE.out.2.1.set).mono ?_
        rintro e u4 ⟨rfl,s4,g4⟩
        have HU4:Hid (LX w wr u4 x (cnt+1) (D.put (.int .i64 x.c) (.agg []))):=HCE.out.2.1.grown s4 g4
        clear s4 g4 a0 a1' a2 a3 HCE HU2
        obtain⟨a0,a1',a2,a3⟩:=blk4 HU4.out.xb
        go_wp2_with fail
        refine(namesPlace_any x _).mono ?_
        rintro e u5 ⟨rfl,b5⟩
        have HU5:Hid (LX w wr u5 x (cnt+1) (D.put (.int .i64 x.c) (.agg []))):=HU4.out.keep b5
        clear b5 a0 a1' a2 a3 HU4
        rw[hgo]
        obtain⟨a0,a1',a2,a3⟩:=blk4 HU5.out.xb
        have HCE:Hid ((u5.alloc (.cells #[.int .i64 ((k:Int)+1)] 2)).cell? ⟨u5.heap.size,0,none⟩=some (.int .i64 ((k:Int)+1))/\LX w wr (u5.alloc (.cells #[.int .i64 ((k:Int)+1)] 2)) x (cnt+1) (D.put (.int .i64 x.c) (.agg []))/\¬u5.heap.size=w.heap.size):=⟨(Blk.new u5 #[.int .i64 ((k:Int)+1)] 2).cell 0,HU5.out.keep (below_alloc _ _),by have:=World.ownsMap.lt HU5.out.set;omega⟩
        go_wp2_with fail
        refine(add_one w.heap.size (cnt+1) u5.heap.size 1 (D.put (.int .i64 x.c) (.agg [])) ((k:Int)+1) _ (w64_small (by omega) (by omega)) (by omega) HCE.out.1 HCE.out.2.2 HCE.out.2.1.set).mono ?_
        rintro e u6 ⟨rfl,s6,g6⟩
        have HN:Hid (∃cnt D,cnt<=2*(k+1)+1/\SetAt u6 w.heap.size cnt D/\HasIs D xs (k+1)/\Below w.heap.size w u6):=⟨_,_,by omega,s6,HB.out.1.goes HB.out.2.2.2 HX.out hgo hc0,(HCE.out.2.1.grown s6 g6).bel⟩
        clear s6 g6 a0 a1' a2 a3
        go_wp2
        go_roundw
        case rel=>exact⟨k+1,by omega,by go_num,HN⟩
        case measure=>simp[intOf];omega
    . obtain rfl:k=n:=by omega
      go_wp2_with (at_delete;refine wpList_delete_own _ rfl _ _ 142 2 rfl 205 law64 Tryz.underlying142 _ w.heap.size cnt D rfl HB.out.2.2.1 _ _ rfl (Go.Maps.keyOf_int_mk Tryz.underlying2 (w64_small (z:=(k:Int)) (by omega) (by omega))) ?_;intro w1 hown1 hturn1)
      have HD:Hid (SetAt w1 w.heap.size cnt (D.del (.int .i64 k))/\Below w.heap.size w w1):=⟨hown1,HB.out.2.1.grown hturn1.grown HB.out.2.1.size (fun j hj=>by cases hj;exact Nat.le_refl _)⟩
      clear hown1 hturn1
      go_wp2_with fail
      refine(rising_any w.heap.size cnt _ _ (by omega) HD.out.1).mono ?_
      rintro e u9 ⟨g9,cap9,zs,rfl,own9,hsrt,hmem,b9⟩
      have ez:zs=(lds xs k).map Int.ofNat:=by
        refine sorted_ext _ _ hsrt (List.pairwise_map.2 ((lds_sorted xs k).imp (fun h=>by simpa using h))) fun z=> ?_
        rw[hmem,List.mem_map]
        constructor
        . rintro⟨h1,h2⟩
          by_cases e:z=(k:Int)
          . subst e
            rw[Go.Maps.has_del_same]at h2
            cases h2
          . rw[Go.Maps.has_del_other (fun q=>e (by cases q;rfl)),HB.out.1 z]at h2
            simp only[Bool.and_eq_true,decide_eq_true_eq]at h2
            have:=h2.2
            rw[<-HL.out]at this
            have hle:=lead_le xs _ HG.out this
            rw[HL.out]at hle
            exact⟨z.toNat,(lds_mem _ _ _).2 ⟨by omega,this⟩,by simp;omega⟩
        . rintro⟨j,hj,rfl⟩
          obtain⟨j1,j2⟩:=(lds_mem _ _ _).1 hj
          rw[HL.out]at j2
          refine⟨w64_small (by simp) (by simp;omega),?_⟩
          rw[Go.Maps.has_del_other (fun q=>by cases q;omega),HB.out.1]
          simp[j2]
      subst ez
      rw[List.length_map]at own9
      have HE:Hid (u9.ownsRow w.heap.size 2 1 (.slice (some ⟨g9,0,none⟩) (lds xs k).length cap9) (lds xs k).length (((lds xs k).map Int.ofNat).flatMap intCell)/\Below w.heap.size w u9):=⟨own_lower own9 HD.out.2.size,below_on HD.out.2 (Nat.le_refl _) b9⟩
      clear own9 hsrt hmem b9
      rw[List.length_map]
      go_wp2
      go_ret
      exact⟨g9,cap9,rfl,HE.out.1,HE.out.2⟩
end Go.Proofs.YtdfmdgbolmbffaaGreat
namespace Go.Proofs.YtdfmdgbolmbffaaGreat
open Go.ChangeShapes Go.WideShapes Go.ChangeAt Go.RowKit
set_option linter.unusedVariables false
def PlacesOk(xs:List MI):Prop:=∀(i:Nat) (x:MI),xs[i]?=some x->goesB x=true->0<=x.c/\x.c<(xs.length:Int)
theorem contains_none(a:Option Addr)(c:Nat)(z:Int)(w:World):Calls Tryz.prog 93 #[.slice a 0 c,.int .i64 z] w fun e w'=>e=.returned (.bool false)/\w'=w:=by
  have h:=AnyG.slices_Contains_int_empty Tryz.lContains a c z w
  exact h
theorem contains_one(g c:Nat)(y z:Int)(w:World)(hc:w.cell? ⟨g,0,none⟩=some (.int .i64 y)):Calls Tryz.prog 93 #[.slice (some ⟨g,0,none⟩) 1 c,.int .i64 z] w fun e w'=>e=.returned (.bool (decide (z=y)))/\w'=w:=by
  have h:=AnyG.slices_Contains_int Tryz.lContains g 0 1 c [y] z w (by simp) (by omega) (fun j hj=>by
    have:j=0:=by simpa using hj
    subst this
    simpa using hc)
  have e:([y].take 1).contains z=decide (z=y):=by
    by_cases q:z=y
    . simp[q]
    . simp[q]
  rw[e]at h
  exact h
theorem search_any(g c:Nat)(zs:List Int)(z:Int)(w:World)(hn:zs.length<=1048576)(hs:zs.Pairwise (· < ·))(h:Rd w 1 (.slice (some ⟨g,0,none⟩) zs.length c) zs.length (zs.flatMap intCell))(hz:z∈zs):
    Calls Tryz.prog 138 #[.slice (some ⟨g,0,none⟩) zs.length c,.int .i64 z] w fun e w'=>(∃b,e=.returned (.tuple #[.int .i64 (zs.idxOf z:Nat),.bool b]))/\∃q,w'=w.drewN q:=by
  have hcell:∀j,j<zs.length->w.cell? ⟨g,0+j,none⟩=some (.int .i64 (zs.getD j 0)):=fun j hj=>by
    rcases h.2 with⟨e0,_⟩|⟨g',o',c',e1,hc⟩
    . omega
    . simp only[Value.slice.injEq,Option.some.injEq,Addr.mk.injEq,and_true,true_and]at e1
      obtain⟨⟨rfl,rfl⟩,rfl⟩:=e1
      have:=hc j (.int .i64 (zs.getD j 0)) (by rw[ints_flat];simp[List.getD_eq_getElem?_getD,List.getElem?_eq_getElem hj])
      exact this
  have hc:=AnyG.slices_BinarySearch_int Tryz.lSearch g 0 zs.length c zs z w (Nat.le_refl _) (by omega) hcell (by rw[List.take_of_length_le (Nat.le_refl _)];exact hs.imp (fun h=>by omega))
  rw[List.take_of_length_le (Nat.le_refl _)]at hc
  have e:∀(l:List Int),l.Pairwise (· < ·)->z∈l->l.countP (fun x=>decide (x<z))=l.idxOf z:=by
    intro l
    induction l with
    |nil=>intro _ h;cases h
    | cons y r ih=>
      intro hp hm
      obtain⟨p1,p2⟩:=List.pairwise_cons.1 hp
      by_cases q:y=z
      . subst q
        rw[List.countP_cons_of_neg (by simp),List.idxOf_cons_self]
        exact List.countP_eq_zero.2 (fun a ha=>by have:=p1 a ha;simp;omega)
      . rcases List.mem_cons.1 hm with e|e
        . exact absurd e.symm q
        . have:=p1 z e
          rw[List.countP_cons_of_pos (by simpa using this),ih p2 e,List.idxOf_cons]
          rw[show(y==z)=false from by simpa using q]
          rfl
  refine hc.mono ?_
  rintro e1 w' ⟨rfl,hq⟩
  rw[e zs hs hz]
  exact⟨⟨_,rfl⟩,hq⟩
theorem MI.at4{w u:World}{xs:List MI}{g o n e:Nat}{x:MI}(hc:∀j v,(xs.flatMap MI.cells)[j]?=some v->w.cell? ⟨g,o+j,none⟩=some v)(hx:xs[e]?=some x)(hb:Below w.heap.size w u):u.cell? ⟨g,o+e*4,none⟩=some (.int .i64 x.op)/\u.cell? ⟨g,o+e*4+1,none⟩=some (.int .i64 x.a)/\u.cell? ⟨g,o+e*4+2,none⟩=some (.int .i64 x.b)/\u.cell? ⟨g,o+e*4+3,none⟩=some (.int .i64 x.c):=by
  have x0:=Rd.elem MI.cells_length hc e _ hx 0 _ rfl
  have x1:=Rd.elem MI.cells_length hc e _ hx 1 _ rfl
  have x2:=Rd.elem MI.cells_length hc e _ hx 2 _ rfl
  have x3:=Rd.elem MI.cells_length hc e _ hx 3 _ rfl
  rw[<-hb.cell (block_lt_of_cell x0),Nat.add_zero]at x0
  rw[<-hb.cell (block_lt_of_cell x1)]at x1
  rw[<-hb.cell (block_lt_of_cell x2)]at x2
  rw[<-hb.cell (block_lt_of_cell x3)]at x3
  exact⟨x0,x1,x2,x3⟩
set_option maxHeartbeats 4000000 in
set_option maxRecDepth 100000 in
theorem placesHold_any(s:Value)(xs:List MI)(w:World)(hn:xs.length<=1048576)(h:Rd w 4 s xs.length (xs.flatMap MI.cells)):
    Calls Tryz.prog 136 #[s] w fun e w'=>SaysIff e (PlacesOk xs)/\Below w.heap.size w w':=by
  have H:Hid (Rd w 4 s xs.length (xs.flatMap MI.cells)):=h
  obtain⟨a1,c1,rfl⟩:=h.is_slice
  clear h
  generalize hLL:xs.length=n at hn H
  have HL:Hid (xs.length=n):=hLL
  clear hLL
  go_enter Tryz.func136,Tryz.ntmps136
  go_wp2
  go_loopw [7] (fun i wr=>∃k:Nat,k<=n/\i=.int .i64 k/\Hid ((∀j,j<k->∀x,xs[j]?=some x->goesB x=true->0<=x.c/\x.c<(n:Int))/\Below w.heap.size w wr)) (fun i _=>n-(intOf i).toNat)
  case atStart=>exact⟨0,by omega,rfl,⟨fun j hj=>by omega,Below.refl _ _⟩⟩
  case round=>
    obtain⟨k,hk,rfl,HT⟩:=hrel
    by_cases hlt:k<n
    . obtain ⟨x,hx⟩:∃x,xs[k]?=some x:=⟨_,List.getElem?_eq_getElem (by rw[HL.out];exact hlt)⟩
      have HX:Hid (xs[k]?=some x):=hx
      rcases H.out.2 with⟨e0,_⟩|⟨g,o,c,e1,hc1⟩
      . omega
      simp only[Value.slice.injEq,true_and]at e1
      obtain⟨rfl,rfl⟩:=e1
      obtain⟨x0,x1,x2,x3⟩:=MI.at4 (n:=0) hc1 hx HT.out.2
      clear hc1 hx
      have hkL:(k:Int)<(n:Int):=by omega
      go_upto_region 4 with fail
      refine wp_world (fun u=>Hid (Blk u wr.heap.size #[.int .i64 x.op,.int .i64 x.a,.int .i64 x.b,.int .i64 x.c] 73/\Below w.heap.size w u)) ⟨Blk.new _ _ _,below_on HT.out.2 (Nat.le_refl _) (below_alloc _ _)⟩ ?_
      intro U1 HU1
      clear x0 x1 x2 x3
      obtain⟨a0,a1',a2,a3⟩:=blk4 HU1.out.1
      go_wp2_with fail
      refine(namesPlace_any x _).mono ?_
      rintro e u2 ⟨rfl,b2⟩
      have HU2:Hid (Blk u2 wr.heap.size #[.int .i64 x.op,.int .i64 x.a,.int .i64 x.b,.int .i64 x.c] 73/\Below w.heap.size w u2):=⟨HU1.out.1.keep b2,below_on HU1.out.2 (Nat.le_refl _) b2⟩
      clear b2 a0 a1' a2 a3 HU1
      obtain⟨a0,a1',a2,a3⟩:=blk4 HU2.out.1
      cases hgo:goesB x
      . have HN:Hid ((∀j,j<k+1->∀x,xs[j]?=some x->goesB x=true->0<=x.c/\x.c<(n:Int))/\Below w.heap.size w u2):=⟨fun j hj y hy hg=>by
          by_cases e:j=k
          . subst e
            rw[HX.out]at hy
            cases hy
            rw[hgo]at hg
            cases hg
          . exact HT.out.1 j (by omega) y hy hg,HU2.out.2⟩
        go_wp2
        go_roundw
        case rel=>exact⟨k+1,by omega,by go_num,HN⟩
        case measure=>simp[intOf];omega
      . go_wp2_with fail
        refine(isOneOf_f x.c n _ (by omega)).mono ?_
        rintro e u3 ⟨rfl,hu⟩
        have hu2:=hu.symm
        clear hu
        subst hu2
        by_cases r:0<=x.c/\x.c<(n:Int)
        . rw [show decide (0<=x.c/\x.c<(n:Int))=true from by simpa using r]
          have HN:Hid ((∀j,j<k+1->∀x,xs[j]?=some x->goesB x=true->0<=x.c/\x.c<(n:Int))/\Below w.heap.size w u2):=⟨fun j hj y hy hg=>by
            by_cases e:j=k
            . subst e
              rw[HX.out]at hy
              cases hy
              exact r
            . exact HT.out.1 j (by omega) y hy hg,HU2.out.2⟩
          go_wp2
          go_roundw
          case rel=>exact⟨k+1,by omega,by go_num,HN⟩
          case measure=>simp[intOf];omega
        . rw[show decide (0<=x.c/\x.c<(n:Int))=false from by simpa using r]
          have HN:Hid (¬PlacesOk xs):=fun e=>r (by have:=e k x HX.out hgo;rw[HL.out]at this;exact this)
          go_wp2
          go_ret
          exact⟨.no HN.out,HU2.out.2⟩
    . have HY:Hid (PlacesOk xs):=fun i x hi hg=>by
        have hlt:=(List.getElem?_eq_some_iff.1 hi).1
        rw[HL.out]at hlt⊢
        exact HT.out.1 i (by omega) x hi hg
      go_wp2
      go_ret
      exact⟨.yes HY.out,HT.out.2⟩
structure NP(w U:World)(V:Value)(ns:List Int):Prop where
  bel:Below w.heap.size w U
  row:U.ownsRow w.heap.size 2 1 V ns.length (ns.flatMap intCell)
theorem NP.keep{w U U':World}{V:Value}{ns:List Int}(h:NP w U V ns)(hb:Below U.heap.size U U'):NP w U' V ns:=⟨below_on h.bel (Nat.le_refl _) hb,own_keep h.row hb (Nat.le_refl _)⟩
theorem NP.app{w U u':World}{V V':Value}{ns:List Int}{z:Int}{m:Nat}(h:NP w U V ns)(hown:u'.ownsRow w.heap.size 2 1 V' m (ns.flatMap intCell++[.int .i64 z]))(hm:m=ns.length+1)(hg:(U.alloc (.cells #[.int .i64 z] 2)).grownBy u' V.ownBlock):NP w u' V' (ns++[z]):=by
  have bA:=below_alloc U (.cells #[.int .i64 z] 2)
  refine⟨(below_on h.bel (Nat.le_refl _) bA).grown hg (Nat.le_trans h.bel.size bA.size) (fun i hi=>(h.row.lt i hi).1),?_⟩
  rw[List.length_append,List.length_singleton,<-hm,List.flatMap_append]
  exact hown
end Go.Proofs.YtdfmdgbolmbffaaGreat
