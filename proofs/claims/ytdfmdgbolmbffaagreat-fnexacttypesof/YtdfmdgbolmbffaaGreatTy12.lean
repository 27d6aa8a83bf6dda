import Derived.Test.YtdfmdgbolmbffaaGreatTy3
import Derived.Test.YtdfmdgbolmbffaaGreatTy7
namespace Go.Proofs.YtdfmdgbolmbffaaGreat
open Go.ChangeShapes Go.WideShapes Go.ChangeAt Go.RowKit
set_option linter.unusedVariables false
theorem block_new(w:World)(cs:Array Value)(t:TypeId):(w.alloc (.cells cs t)).heap[w.heap.size]?=some (.cells cs t (0,0)):=Array.getElem?_push_size
theorem field_form(s:ByteArray)(c f:Int)(w:World):(Instr.field 158 (.agg #[.string s,.int .i64 c,.int .i64 f]) 2).run Tryz.prog w=.ok (.int .i64 f) w:=by kernel_rfl
theorem fn_at{w:World}{s:Value}{fs:List MF}{q:Nat}{f:MF}(h:RdFs w s fs)(hq:fs[q]?=some f):∃gk ok ck,s=.slice (some ⟨gk,ok,none⟩) fs.length ck/\∃g:VF,RdF w g f/\w.cell? ⟨gk,ok+q*4,none⟩=some g.p/\w.cell? ⟨gk,ok+q*4+1,none⟩=some (.int .i64 f.result)/\w.cell? ⟨gk,ok+q*4+2,none⟩=some g.l/\w.cell? ⟨gk,ok+q*4+3,none⟩=some g.c:=by
  obtain⟨xs,h1,h2,h3⟩:=h
  have hlt:=(List.getElem?_eq_some_iff.1 hq).1
  rcases h2.2 with⟨e,_⟩|⟨gk,ok,ck,e,hc⟩
  . omega
  . obtain⟨x,hx,hx1⟩:∃x,xs[q]?=some x/\x.1=f:=by
      rw[<-h1,List.getElem?_map]at hq
      cases hx:xs[q]? with
      |none=>rw[hx]at hq;cases hq
      |some x=>rw[hx]at hq;exact⟨x,rfl,Option.some.inj hq⟩
    subst hx1
    exact⟨gk,ok,ck,e,x.2,h3 x (List.mem_of_getElem? hx),Rd.elem fCells_length hc q x hx 0 _ rfl,Rd.elem fCells_length hc q x hx 1 _ rfl,Rd.elem fCells_length hc q x hx 2 _ rfl,Rd.elem fCells_length hc q x hx 3 _ rfl⟩
theorem in_at{w:World}{s:Value}{is:List MI}{q:Nat}{x:MI}(h:Rd w 4 s is.length (is.flatMap MI.cells))(hq:is[q]?=some x):∃gk ok ck,s=.slice (some ⟨gk,ok,none⟩) is.length ck/\w.cell? ⟨gk,ok+q*4,none⟩=some (.int .i64 x.op)/\w.cell? ⟨gk,ok+q*4+1,none⟩=some (.int .i64 x.a)/\w.cell? ⟨gk,ok+q*4+2,none⟩=some (.int .i64 x.b)/\w.cell? ⟨gk,ok+q*4+3,none⟩=some (.int .i64 x.c):=by
  have hlt:=(List.getElem?_eq_some_iff.1 hq).1
  rcases h.2 with⟨e,_⟩|⟨gk,ok,ck,e,hc⟩
  . omega
  . exact⟨gk,ok,ck,e,Rd.elem MI.cells_length hc q x hq 0 _ rfl,Rd.elem MI.cells_length hc q x hq 1 _ rfl,Rd.elem MI.cells_length hc q x hq 2 _ rfl,Rd.elem MI.cells_length hc q x hq 3 _ rfl⟩
end Go.Proofs.YtdfmdgbolmbffaaGreat
