import Derived.Test.YtjcamlobelcepaaGreatDoorCt19
namespace Go.Proofs.YtjcamlobelcepaaGreatDoor
open Go.ChangeShapes Go.WideShapes Go.ChangeAt Go.RowKit
set_option linter.unusedVariables false
set_option maxHeartbeats 1000000
set_option maxRecDepth 100000
theorem OG(zs:List Int)(hz:DC zs)(p:Nat):∀n,n<=7->∃x:Nat,Cd zs p n=(x:Int)/\x<2 ^ (8*n)/\∀i,i<n->((x / 2 ^ (8*i) % 256:Nat):Int)=zs.getD (p+i) 0
 |0,_=>⟨0,rfl,by decide,fun i hi=>absurd hi (by omega)⟩
 | n + 1,hn=>by
   obtain⟨x,hx,hlt,hd⟩:=OG zs hz p n (by omega);have hb:=hz (p+n);obtain⟨c,hc⟩:=aS hb.1;have hc0:=hc;rw[aU]at hc;have hP56:(2:Nat) ^ (8*n)<=2 ^ 48:=Nat.pow_le_pow_right (by decide) (by omega);have hP0:0<(2:Nat) ^ (8*n):=Nat.pow_pos (by decide);have hcast:((2 ^ (8*n):Nat):Int)=2 ^ (8*n):=by simp
   have hc':c<=255:=by omega
   have hcP:c*2 ^ (8*n)<=255*2 ^ (8*n):=Nat.mul_le_mul_right _ hc';have hpow:(2:Nat) ^ (8*(n+1))=256*2 ^ (8*n):=by rw[show 8*(n+1)=8*n+8 by omega,Nat.pow_add,Nat.mul_comm]
   have w1:IntKind.u64.wrap (c:Int)=(c:Int):=by
    show(c:Int) % 2 ^ 64=c;omega
   have w2:IntKind.u64.wrap ((c:Int)*2 ^ (8*n))=((c*2 ^ (8*n):Nat):Int):=by
    show(c:Int)*2 ^ (8*n) % 2 ^ 64=_;rw[<-hcast,<-Int.natCast_mul];generalize c*2 ^ (8*n)=q at*;omega
   have hor:x ||| (c*2 ^ (8*n))=c*2 ^ (8*n)+x:=by
    rw[Nat.or_comm,<-Nat.shiftLeft_eq,Nat.shiftLeft_add_eq_or_of_lt hlt]
   refine⟨c*2 ^ (8*n)+x,?_,by rw[hpow];omega,fun i hi=> ?_⟩
   . show bits .or .u64 (Cd zs p n) _=_
     rw[hx,hc,w1,w2,Ub _ _ (by omega) (by omega),hor]
   . by_cases e:i=n
     . subst e
       rw[Nat.add_comm,Nat.add_mul_div_right _ _ hP0,Nat.div_eq_of_lt hlt,bV,hc0];congr 1
       omega
     . rw[<-hd i (by omega)]
       have e1:(2:Nat) ^ (8*n)=2 ^ (8*i)*(256*2 ^ (8*(n-i-1))):=by
        rw[show 8*n=8*i+(8+8*(n-i-1))by omega,Nat.pow_add,Nat.pow_add]
       have e2:c*2 ^ (8*n)+x=x+2 ^ (8*i)*(256*(c*2 ^ (8*(n-i-1)))):=by
        rw[e1,Nat.add_comm];congr 1
        rw[Nat.mul_left_comm,Nat.mul_left_comm c]
       rw[e2,Nat.add_mul_div_left _ _ (Nat.pow_pos (by decide))];congr 1
       omega
theorem OJ(x y:Nat):∀n,(∀i,i<n->x / 2 ^ (8*i) % 256=y / 2 ^ (8*i) % 256)->x % 2 ^ (8*n)=y % 2 ^ (8*n)
 |0,_=>by simp[Nat.mod_one]
 | n+1,h=>by
   rw[show(2:Nat) ^ (8*(n+1))=2 ^ (8*n)*256 by rw[show 8*(n+1)=8*n+8 by omega,Nat.pow_add],Nat.mod_mul,Nat.mod_mul,OJ x y n fun i hi=>h i (by omega),h n (by omega)]
theorem Se(x n i:Nat)(hi:i<n):(At (x:Int) n)[i]?=some (.int .u8 ((x / 2 ^ (8*i) % 256:Nat):Int)):=by
 unfold At;rw[bQ,eO hi];simp
def Bk{α:Type}(zs:List Int)(r:EQ α)(x:α)(l:List Value):Prop:=∀k rest,(zs.drop k).map (Value.int .u8)=l++rest->r k=some (x,k+l.length)/\(zs.drop (k+l.length)).map (Value.int .u8)=rest
section
variable {zs:List Int} {α β:Type}
theorem RK{l rest:List Value}{k:Nat}(h:(zs.drop k).map (Value.int .u8)=l++rest):(zs.drop (k+l.length)).map (Value.int .u8)=rest:=by
 have:=congrArg (List.drop l.length) h;rw[<-List.map_drop,List.drop_drop,List.drop_left]at this;exact this
theorem Bk.num(hz:DC zs)(x n:Nat)(hn:0<n/\n<=7)(hx:x<2 ^ (8*n)):Bk zs (Cb zs n) (x:Int) (At x n):=fun k rest h=>by
 refine⟨?_,RK h⟩;have hl:(At (x:Int) n).length=n:=by simp[At]
 have hle:k+n<=zs.length:=by
  have:=congrArg List.length h;simp only[bB,cH,aH,hl]at this;omega
 obtain⟨y,hy,hlt,hd⟩:=OG zs hz k n hn.2
 have hxy:x=y:=by
  have:=OJ x y n fun i hi=>by
   have h1:=congrArg (fun l=>l[i]?) h;simp only[bQ,eE]at h1;rw[bS (by omega),Se x n i hi,aA (by omega)]at h1;have h2:=hd i hi;rw[aU,aA (by omega)]at h2;simp only[eM,aM,Value.int.injEq,ao,eH]at h1 h2;omega
  rwa [Nat.mod_eq_of_lt hx,Nat.mod_eq_of_lt hlt]at this
 have h56:(2:Nat) ^ (8*n)<=2 ^ 56:=Nat.pow_le_pow_right (by decide) (by omega);unfold Cb;rw[hl];rw[bj hle,hy,hxy];congr 2
 unfold wrap64;omega
theorem Bk.int(hz:DC zs){x:Int}{n:Nat}(h:0<=x/\x<2 ^ (8*n))(hn:0<n/\n<=7:=by omega):Bk zs (Cb zs n) x (At x n):=by
 obtain⟨y,rfl⟩:=aS h.1;have e:((2 ^ (8*n):Nat):Int)=2 ^ (8*n):=by simp
 exact Bk.num hz y n hn (by omega)
theorem Bk.to{r:EQ α}{x:α}{l l':List Value}(h:Bk zs r x l)(e:l=l'):Bk zs r x l':=e▸h
theorem Bk.give(x:α):Bk zs (B5 x) x []:=fun k rest h=>⟨rfl,by simpa using h⟩
theorem Bk.then{r:EQ α}{g:α->EQ β}{x:α}{z:β}{l l':List Value}(h:Bk zs r x l)(h':Bk zs (g x) z l'):Bk zs (AU r g) z (l++l'):=fun k rest e=>by
 rw[a6]at e;obtain⟨h1,h2⟩:=h k _ e;obtain⟨h3,h4⟩:=h' _ _ h2;rw[CQ h1,h3,aH,<-Nat.add_assoc];exact⟨rfl,h4⟩
theorem Bk.many{r:EQ α}{f:α->List Value}{xs:List α}(h:∀x∈xs,Bk zs r x (f x)):∀c,c<=xs.length->Bk zs (Bu r c) (xs.take c) ((xs.take c).flatMap f)
 |0,_=>Bk.give []
 | c+1,hc=>by
   have h1:=(Bk.many h c (by omega)).then (g:=fun ys=>AU r fun x=>B5 (ys++[x])) ((h xs[c] (be _)).then (g:=fun x=>B5 (xs.take c++[x])) (Bk.give _));rw[aj (by omega),a8];exact h1.to (by simp)
theorem Bk.all{r:EQ α}{f:α->List Value}{xs:List α}(h:∀x∈xs,Bk zs r x (f x)):Bk zs (Bu r xs.length) xs (xs.flatMap f):=by
 have:=Bk.many h xs.length lR;rwa [List.take_length]at this
theorem Bk.list(hz:DC zs){r:EQ α}{f:α->List Value}{xs:List α}(n:Nat)(h:∀x∈xs,Bk zs r x (f x))(hl:(xs.length:Int)<2 ^ (8*n))(hn:0<n/\n<=7:=by omega):Bk zs (Cu zs n r) xs (At xs.length n++xs.flatMap f):=
 (Bk.int hz ⟨by omega,hl⟩ hn).then (Bk.all h)
theorem Bk.types(hz:DC zs){xs:List Int}(n:Nat)(h:∀x∈xs,0<=x/\x<=255)(hl:(xs.length:Int)<2 ^ (8*n))(hn:0<n/\n<=7:=by omega):Bk zs (BF zs n) xs (At xs.length n++Eb 1 xs):=Bk.list hz n (fun x hx=>Bk.int hz (by have:=h x hx;omega)) hl hn
end
section
variable {zs:List Int}
theorem Bk.prog(hz:DC zs){p:MP}(h:Qk p):∃l,BP p=BL++At 1 2++l/\Bk zs (Im zs) p l:=by
 have h1:=Bk.all (zs:=zs) (r:=BF zs 2) (f:=BC) (xs:=p.regions) fun r hr=>Bk.types hz 2 (h.rg r hr).2 (by have:=(h.rg r hr).1;omega)
 have h2:=Bk.list hz (r:=D9 zs) (f:=AY) (xs:=p.consts) 2 (fun x hx=>by
  have:=h.cs x hx;have:=(Bk.int hz (x:=x.type) (n:=1) (by omega)).then (g:=fun t=>AU (Cb zs 4) fun y=>B5 (⟨t,y⟩:MC)) ((Bk.int hz (x:=x.word) (n:=4) (by omega)).then (g:=fun y=>B5 (⟨x.type,y⟩:MC)) (Bk.give _));exact Bk.to this (by simp[AY])) (by have:=h.cl;omega)
 have h3:=Bk.list hz (r:=Fi zs) (f:=A7) (xs:=p.funcs) 2 (fun f hf=>by
  obtain⟨a1,a2,a3,a4,a5⟩:=h.fn f hf
  have hi:=Bk.list hz (r:=EV zs) (f:=Bf) (xs:=f.code) 2 (fun x hx=>by
   have:=a5 x hx;have:=(Bk.int hz (x:=x.op) (n:=1) (by omega)).then (g:=fun o=>AU (Cb zs 1) fun a=>AU (Cb zs 2) fun b=>AU (Cb zs 4) fun c=>B5 (⟨o,a,b,c⟩:MI)) ((Bk.int hz (x:=x.a) (n:=1) (by omega)).then (g:=fun a=>AU (Cb zs 2) fun b=>AU (Cb zs 4) fun c=>B5 (⟨x.op,a,b,c⟩:MI)) ((Bk.int hz (x:=x.b) (n:=2) (by omega)).then (g:=fun b=>AU (Cb zs 4) fun c=>B5 (⟨x.op,x.a,b,c⟩:MI)) ((Bk.int hz (x:=x.c) (n:=4) (by omega)).then (g:=fun c=>B5 (⟨x.op,x.a,x.b,c⟩:MI)) (Bk.give _))));exact Bk.to this (by simp[Bf,Eb])) (by omega)
  have:=(Bk.types hz (xs:=f.params) 1 a1.2 (by omega)).then (g:=fun ps=>AU (Cb zs 1) fun r=>AU (BF zs 1) fun ls=>AU (Cu zs 2 (EV zs)) fun code=>B5 (⟨ps,r,ls,code⟩:MF)) ((Bk.int hz (x:=f.result) (n:=1) (by omega)).then (g:=fun r=>AU (BF zs 1) fun ls=>AU (Cu zs 2 (EV zs)) fun code=>B5 (⟨f.params,r,ls,code⟩:MF)) ((Bk.types hz (xs:=f.locals) 1 a3.2 (by omega)).then (g:=fun ls=>AU (Cu zs 2 (EV zs)) fun code=>B5 (⟨f.params,f.result,ls,code⟩:MF)) (hi.then (g:=fun code=>B5 (⟨f.params,f.result,f.locals,code⟩:MF)) (Bk.give _))));exact Bk.to this (by simp[A7,Eb])) (by have:=h.fl;omega)
 have h4:=Bk.list hz (r:=G9 zs) (f:=Bo) (xs:=p.certs) 2 (fun x hx=>by
  have:=h.ts x hx;have:=(Bk.int hz (x:=x.func) (n:=2) (by omega)).then (g:=fun o=>AU (Cb zs 2) fun a=>AU (Cb zs 1) fun b=>AU (Cb zs 4) fun c=>B5 (⟨o,a,b,c⟩:MT)) ((Bk.int hz (x:=x.head) (n:=2) (by omega)).then (g:=fun a=>AU (Cb zs 1) fun b=>AU (Cb zs 4) fun c=>B5 (⟨x.func,a,b,c⟩:MT)) ((Bk.int hz (x:=x.counter) (n:=1) (by omega)).then (g:=fun b=>AU (Cb zs 4) fun c=>B5 (⟨x.func,x.head,b,c⟩:MT)) ((Bk.int hz (x:=x.init) (n:=4) (by omega)).then (g:=fun c=>B5 (⟨x.func,x.head,x.counter,c⟩:MT)) (Bk.give _))));exact Bk.to this (by simp[Bo,Eb])) (by have:=h.tl;omega)
 rw[h.r3]at h1;refine⟨_,?_,h1.then (g:=fun rs=>AU (Cu zs 2 (D9 zs)) fun cs=>AU (Cu zs 2 (Fi zs)) fun fs=>AU (Cu zs 2 (G9 zs)) fun ts=>B5 (⟨rs,cs,fs,ts⟩:MP)) (h2.then (g:=fun cs=>AU (Cu zs 2 (Fi zs)) fun fs=>AU (Cu zs 2 (G9 zs)) fun ts=>B5 (⟨p.regions,cs,fs,ts⟩:MP)) (h3.then (g:=fun fs=>AU (Cu zs 2 (G9 zs)) fun ts=>B5 (⟨p.regions,p.consts,fs,ts⟩:MP)) (h4.then (g:=fun ts=>B5 (⟨p.regions,p.consts,p.funcs,ts⟩:MP)) (Bk.give _))))⟩;simp[BP]
theorem Ff.back(hz:DC zs){p:MP}(h:Qk p)(hF:AV p 0)(he:zs.map (Value.int .u8)=DN p):Ff zs 0 p:=by
 obtain⟨l,hl,hr⟩:=Bk.prog (zs:=AM zs) (hz.take _) h
 have hlen:zs.length=(BP p).length+4:=by
  have:=congrArg List.length he;simpa[DN,At]using this
 have hB:(AM zs).map (Value.int .u8)=BP p:=by
  unfold AM;rw[List.map_take,he,hlen,Nat.add_sub_cancel,DN,List.take_left]
 have hBl:(AM zs).length=(BP p).length:=by rw[<-hB,bB]
 have hl6:(BP p).length=6+l.length:=by rw[hl];simp[BL,At];omega
 have hby:CV (BP p)=AM zs:=by
  rw[<-hB];unfold CV;rw[eU];exact(dL fun x _=>rfl).trans (List.map_id _)
 have inj:∀{a b:List Int},a.map (Value.int .u8)=b.map (Value.int .u8)->a=b:=fun h=>(List.map_inj_right (fun x y e=>by injection e)).1 h
 have hd:∀k,(zs.drop k).map (Value.int .u8)=(DN p).drop k:=fun k=>by rw[List.map_drop,he]
 refine .inr (.inr (.inr (.inr (.inr (.inr ⟨⟨by omega,inj ?_⟩,?_,?_,?_,hF,rfl⟩)))))
 . rw[List.map_take,he,DN,hl]
   rfl
 . have h1:=(Bk.num hz (~~~(C6 (AM zs) (zs.length-4))).toNat 4 (by omega) (BitVec.isLt _) (zs.length-4) [] (by
    rw[hd,DN,hby,hlen,Nat.add_sub_cancel,List.drop_left,dV];rfl)).1
   exact(Jn h1).2.2.symm
 . have h1:=(Bk.num hz 1 2 (by omega) (by decide) 4 (l++At (FY (~~~(C6 (CV (BP p)) (BP p).length))) 4) (by
    rw[hd,DN,hl,a6,a6];rfl)).1
   exact(Jn h1).2.2.symm
 . have h1:=(hr 6 [] (by
    rw[List.map_drop,hB,hl,dV];rfl)).1
   rw[h1,hlen,hl6];congr 2
end
theorem TU{u:World}{g o L c:Nat}{zs:List Int}(h:Dp u (sO g o L c) L (zs.map (Value.int .u8)))(hz:DC zs)(h10:10<=L){str:ByteArray}(hstr:str=⟨((zs.take 4).map fun z=>UInt8.ofNat z.toNat).toArray⟩):(convert 22 9 (sO g o 4 c)).run Tryz.prog u=.ok (.string str) u:=by
 have hlen:zs.length=L:=by simpa using h.1
 have h4:((zs.take 4).map fun z=>UInt8.ofNat z.toNat).length=4:=by simp;omega
 have:=run_convert_bytes_back (P:=Tryz.prog) u 22 9 5 ⟨g,o,none⟩ c ((zs.take 4).map fun z=>UInt8.ofNat z.toNat) Tryz.underlying22 Tryz.underlying5 Tryz.underlying9 (fun j hj=>by
  have hj4:j<4:=by omega
  rcases h.2 with⟨e,_⟩|⟨g',o',c',e,hcell⟩
  . omega
  . cases e
    have hjl:j<zs.length:=by omega
    have hb:=hz j;rw[aU,aA hjl]at hb;simp only[eH]at hb;have:=hcell j (.int .u8 zs[j]) (by rw[bQ,aA hjl];rfl);rw[Ds,this];simp only[List.getElem_map,List.getElem_take,UInt8.toNat_ofNat'];congr 2;omega)
 rw[h4,<-hstr]at this;exact this
theorem Su{u:World}{M:Nat}(h:∀j,u.cell? ⟨M,j,none⟩=(#[.int .u8 80,.int .u8 76,.int .u8 67,.int .u8 49]:Array Value)[j]?):(convert 22 9 (sG M 4 4)).run Tryz.prog u=.ok (.string ⟨#[80,76,67,49]⟩) u:=
 run_convert_bytes_back (P:=Tryz.prog) u 22 9 5 ⟨M,0,none⟩ 4 [80,76,67,49] Tryz.underlying22 Tryz.underlying5 Tryz.underlying9 (fun j hj=>by
  rw[Ds,bV,h j];match j,hj with
  |0,_=>rfl
  |1,_=>rfl
  |2,_=>rfl
  |3,_=>rfl)
theorem NS(s1 s2:Value)(str:ByteArray)(u:World)(h1:(convert 22 9 s1).run Tryz.prog u=.ok (.string str) u)(h2:(convert 22 9 s2).run Tryz.prog u=.ok (.string ⟨#[80,76,67,49]⟩) u):
 Calls Tryz.prog 141 #[s1,s2] u fun e u'=>e=.returned (.bool (str.toList==[80,76,67,49]))/\u'=u:=by
 go_enter Tryz.func141,Tryz.ntmps141;go_wp2
 go_ret
 exact⟨rfl,rfl⟩
theorem I8(g o L c M:Nat)(str:ByteArray)(u:World)(h10:10<=L)(hc:L<=c)(h1:(convert 22 9 (sO g o 4 c)).run Tryz.prog u=.ok (.string str) u)(h2:(convert 22 9 (sG M 4 4)).run Tryz.prog u=.ok (.string ⟨#[80,76,67,49]⟩) u):
 Calls Tryz.prog 111 #[sO g o L c,sG M 4 4] u fun e u'=>e=.returned (.bool (str.toList==[80,76,67,49]))/\u'=u:=by
 have hge:(4:Int)<=(L:Int):=by omega
 have hc4:(4:Int)<=(c:Int):=by omega
 have H1:=Af h1;have H2:=Af h2;clear h1 h2;go_enter Tryz.func111,Tryz.ntmps111;go_wp2_with (go_at_call 141;refine(NS _ _ str u H1.o H2.o).mono ?_;rintro e u1 ⟨rfl,rfl⟩);go_ret;exact⟨rfl,rfl⟩
end Go.Proofs.YtjcamlobelcepaaGreatDoor
