import Derived.Test.YtlejplpkomddeaaGreatR0
import Derived.Test.YtlejplpkomddeaaGreatR16
import Derived.Test.YtlejplpkomddeaaGreatR6
import Derived.Test.YtlejplpkomddeaaGreatR24
import Derived.Test.YtlejplpkomddeaaGreatR4
import Derived.Deep.RegionLaw
namespace Go.Proofs.YtlejplpkomddeaaGreat
open Go.ChangeShapes Go.WideShapes Go.ChangeAt Go.RowKit
set_option linter.unusedVariables false
theorem Ow{w:World}{s:Value}{n q:Nat}{xs:List Int}{t:Int}(h:Rd w 1 s n (xs.flatMap Ae))(hn:xs.length=n)(hq:xs[q]?=some t):∃gk ok ck,s=.slice (some ⟨gk,ok,none⟩) n ck/\w.cell? ⟨gk,ok+q,none⟩=some (.int .i64 t):=by
 have hlt:=(gI.1 hq).1;rcases h.2 with⟨e,_⟩|⟨gk,ok,ck,e,hc⟩
 ·omega
 ·have:=Rd.elem An hc q t hq 0 _ rfl
  rw[Nat.mul_one,Nat.add_zero]at this;exact⟨gk,ok,ck,e,this⟩
theorem Ei(v:VP)(g:VF)(f:MF)(q:Nat)(tt:Int)(w:World)(hs:f.small)(hr:CP w g f)(hq:(f.params++f.locals)[q]?=some tt):
 Calls Tryz.prog 200 #[.agg #[v.r,v.k,v.f,v.t,g.p,.int .i64 f.result,g.l,g.c],.int .i64 q] w fun e w'=>e=.returned (.int .i64 tt)/\Below w.heap.size w w':=FY v.r v.k v.f v.t g f q tt w hs hr hq
end Go.Proofs.YtlejplpkomddeaaGreat
