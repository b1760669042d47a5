import PyProof.Rows.All
import Wide.All
import OpenK.AllK
import Wide.FinOn
import Lean
import PyProof.EqAt
import PyProof.EqKinds
import PyProof.TupleCall
import PyProof.ReprRoads
import PyProof.ReprBulk
import PyProof.Rows.RegStrFacts
import PyProof.StrBlockH
import PyProof.FitsBits
import KE.KTurns
import PyProof.NeKinds
import KE.KNest
import KE.KSortKey
import PyProof.ListRange
import PyProof.Rows.SortWalk
import KE.KListMore
import KE.KSortTup
import PyProof.Rows.SumAny
import PySem.Challenge.RW_bestheads_k28_other_books
set_option exponentiation.threshold 6000
set_option Elab.async false
set_option bootstrap.genMatcherCode false
set_option genSizeOf false
set_option compiler.extract_closed false
set_option linter.all false
set_option maxRecDepth 100000
set_option maxHeartbeats 4000000
set_option hygiene false in
local macro_rules | `(tactic| walk_at "O")=>`(tactic| with_reducible repeat((first|replace h:=Jr h|replace h:=Js h|replace h:=Jt h|replace h:=Ju h|replace h:=Jv h|replace h:=Jw h|replace h:=Jx h|replace h:=Jy h|replace h:=Jz h|replace h:=JB h|replace h:=JC h|replace h:=JD h|replace h:=vU h|replace h:=JF h|replace h:=JG h|replace h:=JH h|replace h:=JK h|replace h:=JL h|replace h:=JM h|replace h:=JN h|replace h:=JQ h|replace h:=JR h|replace h:=JT h|replace h:=JV h|replace h:=JW h|replace h:=JX h|replace h:=JZ h|replace h:=J0 h|replace h:=J1 h|replace h:=J2 h); (repeat obtain⟨_,h⟩:=h); rename_i ee; first|subst ee|cases ee))
set_option hygiene false in
local macro_rules | `(tactic| walk_at "o")=>`(tactic| with_reducible repeat first|refine XD h λ_ _ h=>?_|refine XF h λ_ _ _ _ h=>?_|refine XH h λ_ _ _ h=>?_|refine XJ h λ_ _ _ _ h=>?_|refine XM h λ_ _ _ h=>?_|refine XQ h λ_ _ _ _ h=>?_|refine XR h λ_ _ _ h=>?_|refine XS h λ_ _ _ h=>?_|refine X3 h λ_ _ h=>?_|refine X4 h λ_ _ _ _ h=>?_|refine X5 h λ_ _ _ _ h=>?_|refine X6 h λ_ _ _ h=>?_|refine X7 h λ_ _ _ _ h=>?_|refine X8 h λ_ _ _ _ h=>?_|refine Yb h λ_ _ _ h=>?_|refine Yc h λ_ _ h=>?_|refine Yd h λ_ _ h=>?_|refine Ye h λ_ _ _ _ h=>?_|refine Yg h λ_ _ _ h=>?_|refine Yh h λ_ _ _ _ h=>?_|refine Yi h λ_ _ _ _ _ h=>?_|refine Yj h λ_ _ _ _ h=>?_|refine Yk h λ_ _ _ h=>?_|refine Yl h λ_ _ _ h=>?_|refine Ym h λ_ _ _ _ _ _ _ h=>?_|refine Yn h λ_ _ h=>?_|refine Yo h λh=>?_|refine Yp h λ_ h=>?_|refine Yq h λh=>?_|refine Yr h λh=>?_)
set_option hygiene false in
local macro_rules | `(tactic| exists $t)=>`(tactic| (refine(?h:VB ?f->SF) ?g; (case g=>exact $t); (case h=>exact λ_=>?f)))
set_option hygiene false in
local macro_rules | `(tactic| walk_at "b")=>`(tactic| first|with_reducible assumption|exact decide_eq_true (by first|assumption|omega)|exact decide_eq_false (by first|assumption|omega)|((with_reducible apply L2.Ys); walk_at "b")|((with_reducible apply L2.Yt); walk_at "b")|exact rfl)
set_option hygiene false in
local macro_rules | `(tactic| walk_at "u")=>`(tactic| fail)
set_option hygiene false in
local macro_rules | `(tactic| walk_at "w")=>`(tactic| fail)
set_option hygiene false in
local macro_rules | `(tactic| walk_at "q")=>`(tactic| repeat' (first|with_reducible rfl|((with_reducible change _=List.getD _ _ _); exact rfl)|(with_reducible apply L2.Yu)|(with_reducible refine congrArg L2.Sl.ow ?_)|(with_reducible refine congrArg L2.Sl.sh ?_)|(with_reducible refine congrArg L2.Sl.dp ?_)))
set_option hygiene false in
local macro_rules | `(tactic| walk_at "1")=>`(tactic| first|(with_reducible first|assumption|apply L2.Yv|apply L2.Yw|apply L2.Yx|apply L2.vW|apply L2.rZ|apply L2.J3)|walk_at "u" |walk_at "w" | ((with_reducible first | change L2.iC _ _=_ | change L2.eC _ _=_ | change L2.kh _=_ | change L2.dr _ _=_ | change L2.drs _ _=_ | change L2.con _ _=_ | change L2.cls _=_ | change L2.Bq _ _=_ | change L2.Br _=_ | change L2.jc _=_ | change L2.Rs.ok _=_ | change L2.J4 _=_ | change L2.Bs _=_ | change L2.mH _=_ | change L2.qj _=_ | change _=some _ | change _=List.map _ _ | change L2.eE _ _=_ | change _=Tr.lst _ | change _=Tr.int _ | change _=Tr.tup _ | change L2.jy _ _ _=_ | change L2.J5 _ _=_ | change (_ && _)=_); exact rfl) | (with_reducible first | exact L2.st0 | exact L2.st1 | exact L2.st2 | exact L2.st3 | exact L2.vX | exact L2.mJ | exact L2.Yy | exact L2.oH | apply L2.Yz) | (with_reducible first | exact L2.YB | exact L2.YC | exact L2.YD | exact L2.YF | exact L2.YG | exact L2.YH | exact L2.YJ | exact L2.J6 | exact L2.Bt | exact L2.YK | exact L2.J7 | exact L2.YL | exact L2.YM | apply L2.YQ | apply L2.YS | apply L2.J8 | apply L2.YT | apply L2.J9) | (with_reducible first | apply L2.YW | apply L2.YX | apply L2.YZ | apply L2.Y0 | apply L2.Y4 | apply L2.Y5 | apply L2.Y6 | apply L2.xBA | apply L2.Y7 | apply L2.Y8 | apply L2.xC1 | apply L2.Y9 | apply L2.Za | apply L2.Zb | apply L2.Zc | apply L2.Zd | apply L2.Ze | apply L2.Zf | apply L2.Zg | apply L2.Zh | apply L2.Zi | apply L2.Zj | apply L2.Zk | apply L2.Zm | apply L2.xEA | apply L2.Zn | apply L2.Zo | apply L2.Zq | apply L2.xC2 | apply L2.Zr | apply L2.Zt | apply L2.Zu | apply L2.Zv | apply L2.Zw | apply L2.Zx | apply L2.Zy | apply L2.Zz | apply L2.ZC | apply L2.ZD | apply L2.ZF | apply L2.ZG | apply L2.ZJ | apply L2.ZK | apply L2.ZL | apply L2.ZM | apply L2.ZP | apply L2.ZQ | apply L2.ZR | apply L2.ZS | apply L2.ZV) | ((with_reducible first | apply L2.xT | apply L2.wT | apply L2.pT); (walk_at "b"))|((with_reducible first|apply L2.xF|apply L2.wF|apply L2.pF); (walk_at "b"))|(with_reducible first|apply L2.ZW|apply L2.ZX|apply L2.Z0|apply L2.Z1)|((with_reducible change L2.fZ _=_); exact rfl)|((with_reducible change L2.vw _=_); (dsimp only[L2.vw,L2.Ka,List.map] <;> exact rfl))|((with_reducible change L2.oJ _ _ _=_); exact rfl)|((with_reducible change L2.aY _ _=_); exact rfl)|((with_reducible change L2.sy _ _=_); exact rfl)|((with_reducible change L2.ql _=_); exact rfl)|((with_reducible change L2.vY _=_); exact rfl)|((with_reducible change L2.Z2 _ _=_); exact rfl)|((with_reducible change L2.Z4 _ _=_); exact rfl)|((with_reducible change L2.vZ _=_); exact rfl)|((with_reducible first|apply L2.jz|apply L2.Z5); decide +kernel)|exact λ_=>rfl|((with_reducible first|change ∀_ _,L2.eG _ _ _=_|change ∀_ _,L2.bJ _ _ _=_); exact λ_ _=>rfl)|(dsimp only; (with_reducible apply L2.exV); walk_at "q")|((change ∀_,_∈_->_=_); intro x hx; try rw[List.mem_range]at hx)|((with_reducible change L2.cM _ _=_); (first|(with_reducible first|exact c1 _|exact c2 _|exact c3 _)|exact L2.Z6 (by omega)|exact L2.Z7 (by omega)))|((with_reducible change L2.gO _ _=_); first|(with_reducible first|exact c1 _|exact c2 _|exact c3 _)|exact L2.Kc (by omega) (by omega))|omega|((with_reducible change _≠_); decide)|(rw[List.length_map]; exact List.length_filter_le ..)|((with_reducible first|change _<=_|change _<_); simp only[List.length_map,List.length_range,List.length_take,List.length_append,List.length_cons,List.length_nil]; omega))
set_option hygiene false in
local macro_rules | `(tactic| walk_at "p")=>`(tactic| (dsimp only[L2.pt,List.map,List.set]; (try with_reducible apply L2.wG); walk_at "r"))
set_option hygiene false in
local macro_rules | `(tactic| walk_at "r")=>`(tactic| (repeat(walk_at "1")))
set_option hygiene false in
local macro_rules | `(tactic| walk_at "e")=>`(tactic| (apply L2.Z8; (dsimp only[L2.gQ,List.map,List.length,List.replicate,List.append,HAppend.hAppend,Append.append,Nat.reduceSub,Nat.reduceAdd] <;> exact rfl); walk_at "r"))
set_option hygiene false in
local macro_rules | `(tactic| walk_at "d")=>`(tactic| (apply L2.Kd; (dsimp only[L2.gQ,List.map,List.length,List.replicate,List.append,HAppend.hAppend,Append.append,Nat.reduceSub,Nat.reduceAdd] <;> exact rfl); walk_at "r"))
set_option hygiene false in
local macro_rules | `(tactic| walk_at "u")=>`(tactic| with_reducible first|exact jR _|exact jd _|apply oK)
set_option hygiene false in
local macro_rules | `(tactic| walk_at "w")=>`(tactic| first|(with_reducible first|apply L2.Z9|apply L2.dSn|apply L2.dSr|apply L2.dRt|apply L2.xWE|apply L2.xYc|apply L2.xYt|apply L2.xYl|apply L2.xCD|apply L2.xYv|apply L2.xYm|apply L2.wYd|apply L2.wYa|apply L2.wYc)|((with_reducible change L2.oM _ _=_); first|(apply L2.xMd; exact rfl)|(apply L2.xMo; exact rfl))|((with_reducible change L2.mK _ _ _=_); first|(apply L2.dV1; exact rfl)|(apply L2.dV2; exact rfl; exact rfl))|((with_reducible first|change L2.Kf _=_|change L2.dW _ _=_|change L2.bK _=_|change L2.je _=_); exact rfl))
set_option hygiene false in
local macro_rules | `(tactic| walk_at "m")=>`(tactic| (apply L2.dFn; (dsimp only[L2.gQ,List.map,List.length,List.replicate,List.append,HAppend.hAppend,Append.append,Nat.reduceSub,Nat.reduceAdd] <;> exact rfl); walk_at "r"))
set_option hygiene false in
local macro_rules | `(tactic| walk_at "n")=>`(tactic| (apply L2.dFe; (dsimp only[L2.gQ,List.map,List.length,List.replicate,List.append,HAppend.hAppend,Append.append,Nat.reduceSub,Nat.reduceAdd] <;> exact rfl); walk_at "r"))
set_option hygiene false in
local macro_rules | `(tactic| walk_at "u")=>`(tactic| with_reducible first|exact jR _|exact jd _|apply oK|apply Kg)
set_option hygiene false in
local macro_rules | `(tactic| walk_at "u")=>`(tactic| with_reducible first|exact jR _|exact jd _|apply oK|apply Kg|apply v5|apply aac|apply v7|exact aad|exact aae|exact aaf)
set_option hygiene false in
local macro_rules | `(tactic| walk_at "u")=>`(tactic| with_reducible first|exact Kh|apply v8|exact Bu _ _ _)
set_option hygiene false in
local macro_rules | `(tactic| walk_at "u")=>`(tactic| with_reducible first|exact jR _|exact jd _|apply oK|apply kj|apply Km|exact half|exact Bu _ _ _|exact Ko|exact Kp|apply v5|apply v7|exact oO|exact Kq|exact pick|exact Kr|exact Ks|apply kE (0:Nat)|apply kE ((0,1):Int × Int)|apply Bk.lt (by assumption))
set_option hygiene false in
local macro_rules | `(tactic| walk_at "u")=>`(tactic| with_reducible first|exact aag _ _|exact aah _|exact Kh|apply v8|exact jR _|exact jd _|apply oK|apply kj|apply Km|exact half|exact Bu _ _ _|exact Ko|exact Kp|apply v5|apply v7|exact oO|exact Kq|exact pick|exact Kr|exact Ks|apply kE (0:Nat)|apply kE ((0,1):Int × Int)|apply Bk.lt (by assumption))
section
namespace L2
open PySem PySem.Spec PyProof.Rows
inductive V where
 |non|bl (b:Bool)|int (i:Int)|str (x:Str)|sE (b:Array UInt8)|flt (b:UInt64)|ref (a:Addr)|ty (n:String)
 deriving DecidableEq
noncomputable def RelV:V->Value->Prop
 |.non,u=>u=Value.none
 |.bl b,u=>u=Value.bool b
 |.int i,u=>∃t,u=Value.int i t
 |.str x,u=>∃t,u=Value.str x t
 |.sE b,u=>∃t,u=Value.bytes b t
 |.flt b,u=>∃t,u=Value.float b t
 |.ref a,u=>u=Value.ref a
 |.ty n,u=>u=Value.type n
noncomputable abbrev Vals:List V->List Value->Prop:=Paired RelV
theorem Vals.length{xs:List V}{us:List Value}(r:Vals xs us):xs.length=us.length:=Paired.length r
theorem Vals.get:∀{xs:List V} {us:List Value} {i:Nat} {x:V},Vals xs us->xs[i]?=some x->∃u,us[i]?=some u/\RelV x u
 |_,_,_,_,.nil,e=>by simp at e
 |_,_,0,_,.cons r _,e=>by simp at e; subst e; exact⟨_,rfl,r⟩
 |_,_,i+1,x,.cons _ t,e=>by
  obtain⟨u,h1,h2⟩:=Vals.get (i:=i) (x:=x) t (by simpa using e)
  exact⟨u,by simpa using h1,h2⟩
theorem Vals.set{x:V}{u:Value}(r:RelV x u):∀{xs:List V} {us:List Value} (i:Nat),Vals xs us->Vals (xs.set i x) (us.set i u)
 |_,_,_,.nil=>.nil
 |_,_,0,.cons _ t=>.cons r t
 |_,_,i+1,.cons q t=>.cons q (Vals.set r i t)
theorem Vals.append:∀{xs ys:List V} {us ws:List Value},Vals xs us->Vals ys ws->Vals (xs++ys) (us++ws)
 |_,_,_,_,.nil,s=>s
 |_,_,_,_,.cons r t,s=>.cons r (Vals.append t s)
theorem Vals.take:∀{xs:List V} {us:List Value} (n:Nat),Vals xs us->Vals (xs.take n) (us.take n)
 |_,_,0,_=>.nil
 |_,_,_+1,.nil=>.nil
 |_,_,n+1,.cons r t=>.cons r (Vals.take n t)
theorem Vals.drop:∀{xs:List V} {us:List Value} (n:Nat),Vals xs us->Vals (xs.drop n) (us.drop n)
 |_,_,0,r=>r
 |_,_,_+1,.nil=>.nil
 |_,_,n+1,.cons _ t=>Vals.drop n t
noncomputable def alj:Option V->Option Value->Prop
 |some v,some u=>RelV v u
 |none,none=>True
 |_,_=>False
inductive HO where
 |lst (xs:List V)
 |tup (xs:List V)
 |own (x:Addr)
 |rng (lo hi:Int)
 |cQ (o:Obj) (u:HO)
 |cu (ps:Array Value)
 |ext (φ : Heap->Prop)
noncomputable abbrev Hp:=Addr->Option HO
noncomputable def upd(H:Hp)(a:Addr)(o:HO):Hp:=λb=>if b=a then some o else H b
theorem bW{H:Hp}{a:Addr}{o:HO}:upd H a o a=some o:=by unfold upd; rw[if_pos rfl]
theorem aM{H:Hp}{a b:Addr}{o:HO}(h:b≠a):upd H a o b=H b:=by unfold upd; rw[if_neg h]
theorem iD{H:Hp}{a b:Addr}{o:HO}(h:H a=some o)(h':H b=none):a≠b:=by
 intro e; subst e; rw[h]at h'; cases h'
section
variable (P:Program)(w:World)
noncomputable def iG(P:Program)(w:World)(H:Hp)(h:Heap)(a:Addr):HO->Prop
 |.lst xs=>xs.length<=sizeLine/\∃(its:List Value) (n:Nat),Vals xs its/\h.get? a=some {cls:=.type "list",data:=.seq its.toArray n }
 |.tup xs=>xs.length<=sizeLine/\∃its:List Value,Vals xs its/\IsTup h a its.toArray
 |.own _=>∃o,h.get? a=some o
 |.rng lo hi=>∃t u v,h.get? a=some {cls:=.type "range",data:=.fields #[.int lo t,.int hi u,.int 1 v] }
 |.cQ o u=>h.get? a=some o/\iG P w H h a u
 |.cu ps=>h.get? a=some {cls:=.none,data:=.fields ps }
 |.ext φ=>φ h/\(∃o,h.get? a=some o)/\∀h1 h2:Heap,φ h1->(∀o,h1.get? a=some o->h2.get? a=some o) -> φ h2
noncomputable def cA(H:Hp)(h:Heap):Prop:=∀a o,H a=some o->iG P w H h a o
end
section
variable {P:Program}{w:World}{H H':Hp}{h h':Heap}{a:Addr}{o:HO}
theorem iG.lt(x:iG P w H h a o):a<h.objs.size:=by
 cases o with
 |lst xs=>obtain⟨_,_,_,_,e⟩:=x; exact Heap.lt_size e
 |tup xs=>obtain⟨_,_,_,p⟩:=x; exact p.lt
 |own y=>obtain⟨_,e⟩:=x; exact Heap.lt_size e
 |rng lo hi=>obtain⟨_,_,_,e⟩:=x; exact Heap.lt_size e
 |cQ ob u=>obtain⟨e,_⟩:=x; exact Heap.lt_size e
 |cu ps=>exact Heap.lt_size (show h.get? a=some _ from x)
 |ext φ=>obtain⟨_,⟨_,e⟩,_⟩:=x; exact Heap.lt_size e
theorem Paired.aai{α β : Type}{F G : α -> β -> Prop}:∀{l₁ : List α} {l₂ : List β},Paired F l₁ l₂ -> (∀a b,F a b->G a b)->Paired G l₁ l₂
 |_,_,.nil,_=>.nil
 |_,_,.cons r t,f=>.cons (f _ _ r) (Paired.aai t f)
theorem iG.stay(x:iG P w H h a o)(k:∀b u,(b=a\/H b=some (.own a))->h.get? b=some u->h'.get? b=some u)
  (ho:∀b,H b=some (.own a)->H' b=some (.own a)) (ht:∀b xs,H b=some (.tup xs)->H' b=some (.tup xs)):iG P w H' h' a o:=by
 induction o with
 |lst xs=>obtain⟨z,its,n,r,e⟩:=x; exact⟨z,its,n,r,k _ _ (.inl rfl) e⟩
 |tup xs=>obtain⟨z,its,r,ob,e,c⟩:=x; exact⟨z,its,r,ob,k _ _ (.inl rfl) e,c⟩
 |own y=>obtain⟨ob,e⟩:=x; exact⟨ob,k _ _ (.inl rfl) e⟩
 |rng lo hi=>obtain⟨t,u,v,e⟩:=x; exact⟨t,u,v,k _ _ (.inl rfl) e⟩
 |cQ ob u ih=>obtain⟨e,q⟩:=x; exact⟨k _ _ (.inl rfl) e,ih q⟩
 |cu ps =>
  have e:h.get? a=some {cls:=.none,data:=.fields ps }:=x
  show h'.get? a=some {cls:=.none,data:=.fields ps }
  exact k a _ (.inl rfl) e
 |ext φ=>obtain⟨p,⟨o,e⟩,st⟩:=x; exact⟨st _ _ p λo q=>k _ _ (.inl rfl) q,⟨o,k _ _ (.inl rfl) e⟩,st⟩
theorem cA.lt(x:cA P w H h)(e:H a=some o):a<h.objs.size:=(x a o e).lt
theorem cA.fresh(x:cA P w H h)(e:h.objs.size<=a):H a=none:=by
 cases q:H a with
 |none=>rfl
 |some u=>exact absurd (Nat.lt_of_lt_of_le (x.lt q) e) (Nat.lt_irrefl _)
theorem cA.kept(x:cA P w H h)(k:∀b u,h.get? b=some u->h'.get? b=some u):cA P w H h':=λa o e =>
 (x a o e).stay (λb u _ q=>k b u q) (λ_ q=>q) λ_ _ q=>q
theorem cA.laid(x:cA P w H h)(k:∀b u,h.get? b=some u->h'.get? b=some u)(hp:h.objs.size<=a)(new:iG P w (upd H a o) h' a o):cA P w (upd H a o) h':=λb u e=>by
 have hn:=x.fresh hp
 by_cases hb:b=a
 .subst hb; rw[bW]at e; cases e; exact new
 .rw[aM hb]at e
  exact(x b u e).stay (λc v _ q=>k c v q) (λc q=>by rw[aM (iD q hn)]; exact q) λc xs q=>by rw[aM (iD q hn)]; exact q
end
noncomputable def Rd(H:Hp)(a:Addr)(u:HO):Prop:=H a=some u\/∃o,H a=some (.cQ o u)
theorem Rd.of(h:H a=some u):Rd H a u:=.inl h
theorem Rd.ok{P:Program}{w:World}{H:Hp}{h:Heap}{a:Addr}{u:HO}(r:Rd H a u)(x:cA P w H h):iG P w H h a u:=by
 rcases r with r|⟨o,r⟩
 .exact x a u r
 .obtain⟨_,q⟩:=x a _ r
  exact q
noncomputable def v9:Option HO->Prop
 |some (.lst _)=>True
 |some (.ext _)=>True
 |_=>False
section
variable {P:Program}{w:World}{H:Hp}{h h':Heap}{x e:Addr}{o':HO}
theorem cA.write(ok:cA P w H h)(mu:v9 (H x))(he:e=x\/H e=some (.own x))(k:∀b u,b≠e->h.get? b=some u->h'.get? b=some u)(heo:∃u,h'.get? e=some u)
  (new:iG P w (upd H x o') h' x o'):cA P w (upd H x o') h':=λb u q=>by
 have Ku:∀c y,H c=some (.own y)->c≠x:=λc y r z=>by subst z; rw[r]at mu; exact mu
 have aaj:∀c xs,H c=some (.tup xs)->c≠x:=λc xs r z=>by subst z; rw[r]at mu; exact mu
 by_cases hb:b=x
 .subst hb; rw[bW]at q; cases q; exact new
 .rw[aM hb]at q
  by_cases hbe:b=e
  .have q':H b=some (.own x):=by
    rcases he with z|z
    .exact absurd (hbe.trans z) hb
    .rw[hbe]; exact z
   rw[q]at q'; cases q'
   obtain⟨v,hv⟩:=heo
   exact⟨v,by rw[hbe]; exact hv⟩
  .refine(ok b u q).stay (λc v hc r=>k c v ?_ r) (λc r=>by rw[aM (Ku c b r)]; exact r) λc xs r=>by rw[aM (aaj c xs r)]; exact r
   rcases hc with rfl|hc
   .exact hbe
   .rintro rfl
    rcases he with z|z
    .exact Ku c b hc z
    .rw[hc]at z; cases z; exact hb rfl
end
structure Un(fs ex:List Addr)(H H':Hp)(h h':Heap):Prop where
 keep:∀b o,h.get? b=some o->H b=none->b∉fs->b∉ex->h'.get? b=some o
 slot:∀b o,h.get? b=some o->H b=none->b∈fs->b∉ex->∃sl,h'.get? b=some {o with slots:=sl }
 free:∀b o,h.get? b=some o->H b=none->b∉ex->H' b=none
 there:∀b o,h.get? b=some o->b∉ex->∃o',h'.get? b=some o'
 tups:∀b xs,H b=some (.tup xs)->H' b=some (.tup xs)
 f9:∀b o u,H b=some (.cQ o u)->H' b=some (.cQ o u)
 gh:∀b ps,H b=some (.cu ps)->∃more,H' b=some (.cu (ps++more))
section
variable {fs fs' ex ex':List Addr}{H H1 H2:Hp}{h h1 h2 h':Heap}{a x e:Addr}{o:HO}
theorem Un.any(u:Un fs ex H H1 h h1)(q:h.get? b=some ob)(n:H b=none)(hx:b∉ex):∃sl,h1.get? b=some {ob with slots:=sl }:=by
 by_cases hb:b∈fs
 .exact u.slot b ob q n hb hx
 .exact⟨ob.slots,u.keep b ob q n hb hx⟩
theorem Un.trans(a:Un fs ex H H1 h h1)(b:Un fs ex H1 H2 h1 h2):Un fs ex H H2 h h2 where
 keep:=λc ob q n hc hx=>b.keep c ob (a.keep c ob q n hc hx) (a.free c ob q n hx) hc hx
 slot:=λc ob q n hc hx=>by
  obtain⟨sl,e1⟩:=a.slot c ob q n hc hx
  obtain⟨sl',e2⟩:=b.slot c _ e1 (a.free c ob q n hx) hc hx
  exact⟨sl',e2⟩
 free:=λc ob q n hx=>by
  obtain⟨o',e1⟩:=a.there c ob q hx
  exact b.free c o' e1 (a.free c ob q n hx) hx
 there:=λc ob q hx=>by
  obtain⟨o',e1⟩:=a.there c ob q hx
  exact b.there c o' e1 hx
 tups:=λc xs q=>b.tups c xs (a.tups c xs q)
 f9:=λc ob xs q=>b.f9 c ob xs (a.f9 c ob xs q)
 gh:=λc ps q=>by
  obtain⟨m1,e1⟩:=a.gh c ps q
  obtain⟨m2,e2⟩:=b.gh c _ e1
  exact⟨m1++m2,by rw[e2,Array.append_assoc]⟩
theorem Un.kept(k:∀b u,h.get? b=some u->h'.get? b=some u):Un fs ex H H h h' :=
 ⟨λb ob q _ _ _=>k b ob q,λb ob q _ _ _=>⟨ob.slots,k b ob q⟩,λ_ _ _ n _=>n,λb ob q _=>⟨ob,k b ob q⟩,λ_ _ q=>q,λ_ _ _ q=>q,λ_ ps q=>⟨#[],by rw[q]; simp⟩⟩
theorem Un.refl:Un fs ex H H h h:=Un.kept λ_ _ q=>q
theorem Un.laid(k:∀b u,h.get? b=some u->h'.get? b=some u)(hp:h.objs.size<=a)(hn:H a=none):Un fs ex H (upd H a o) h h' where
 keep:=λb u q _ _ _=>k b u q
 slot:=λb u q _ _ _=>⟨u.slots,k b u q⟩
 free:=λb u q n _=>by rw[aM (Nat.ne_of_lt (Nat.lt_of_lt_of_le (Heap.lt_size q) hp))]; exact n
 there:=λb u q _=>⟨u,k b u q⟩
 tups:=λb xs q=>by rw[aM (iD q hn)]; exact q
 f9:=λb u xs q=>by rw[aM (iD q hn)]; exact q
 gh:=λb ps q=>⟨#[],by rw[aM (iD q hn),q]; simp⟩
theorem Un.write(mu:v9 (H x))(he:e=x\/H e=some (.own x))(k:∀b u,b≠e->h.get? b=some u->h'.get? b=some u)(heo:∃u,h'.get? e=some u):Un fs ex H (upd H x o) h h':=by
 have hx:∀b,H b=none->b≠x:=λb n z=>by subst z; rw[n]at mu; exact mu
 have hb:∀b,H b=none->b≠e:=λb n z=>by
  subst z
  rcases he with r|r
  .exact hx b n r
  .rw[n]at r; cases r
 have hm:∀b u,H b=some u->¬v9 (some u)->b≠x:=λb u q nm z=>by subst z; rw[q]at mu; exact nm mu
 refine⟨λb u q n _ _=>k b u (hb b n) q,λb u q n _ _=>⟨u.slots,k b u (hb b n) q⟩,λb u q n _=>by rw[aM (hx b n)]; exact n,λb u q _=>?_,
  λb xs q=>by rw[aM (hm b _ q λz=>z)]; exact q,λb u xs q=>by rw[aM (hm b _ q λz=>z)]; exact q,λb ps q=>⟨#[],by rw[aM (hm b _ q λz=>z),q]; simp⟩⟩
 by_cases hbe:b=e
 .subst hbe; exact heo
 .exact⟨u,k b u hbe q⟩
theorem Un.mono(u:Un fs ex H H1 h h1)(hs:∀b∈fs,b∈fs')(hx:∀b∈ex,b∈ex'):Un fs' ex' H H1 h h1 :=
 ⟨λb ob q n hb he=>u.keep b ob q n (λz=>hb (hs b z)) λz=>he (hx b z),λ_ _ q n _ he=>u.any q n λz=>he (hx _ z),λb ob q n he=>u.free b ob q n λz=>he (hx b z),λb ob q he=>u.there b ob q λz=>he (hx b z),u.tups,u.f9,u.gh⟩
end
noncomputable def wg(h:Heap)(H:Hp):List Addr:=(List.range h.objs.size).filter λa=>(H a).isSome
noncomputable def kJ(h:Heap)(H:Hp):Heap:=PySem.W.hideAll h (wg h H)
theorem aak(h:Heap)(H:Hp):(kJ h H).objs.size=h.objs.size:=PySem.W.hideAll_size _ _
theorem aal(e:h.get? b=some o)(n:H b=none):(kJ h H).get? b=some o :=
 PySem.W.hideAll_get _ e λhm=>by
  have q:(H b).isSome=true:=(List.mem_filter.mp hm).2
  rw[n]at q; simp at q
theorem aam(e:(kJ h H).get? b=some o):h.get? b=some o/\H b=none:=by
 have e':h.get? b=some o:=PySem.W.of_hideAll (wg h H) e
 refine⟨e',?_⟩
 cases q:H b with
 |none=>rfl
 |some x =>
  have hm:b∈wg h H:=List.mem_filter.mpr ⟨List.mem_range.mpr (Heap.lt_size e'),by simp[q]⟩
  have z:(kJ h H).get? b=none:=PySem.W.hideAll_none (wg h H) hm
  rw[z]at e; cases e
noncomputable def aan(g h:Heap)(L:Addr):List (Addr × Obj):=(List.range h.objs.size).filterMap λa=>if a=L\/(g.get? a).isSome=true then none else(h.get? a).map λo=>(a,o)
noncomputable def rest(g h:Heap)(L d:Addr):List (Addr × Obj):=(aan g h L).filter λp=>decide (p.1≠d)
structure Mod(K:PySem.W.Frag)(mg:Str->Option Value)(base:Heap):Prop where
 Bv:K.In base
 glob:base.Ns mainGlobals mg
 blt:∃mb,base.Ns builtinsNs mb/\∀x:Str,x ≠ "__name__" -> mb x=bootBuiltins x
 nolimit:base.NoLimit
structure Cx where
 prog:Program
 w:World
 K:PySem.W.Frag
 mg:Str->Option Value
 base:Heap
 A:Around
 N:List Str
 s₀ : Shared
 H₀ : Hp
 env:Env
 outer:List Env
 stack:List Env
 ex:List Addr
 fn:Str->Bool
 calm:Bool
 pn:List (Addr × Obj)
 xe:Value->Shared->Prop
noncomputable def frs(l:List Env):List Addr:=l.filterMap (·.frame)
noncomputable abbrev Cx.fs(X:Cx):List Addr:=frs X.outer
noncomputable def wj(sc:Scope)(x:Str):Prop:=sc.names.lookup x=some .local\/sc.names.lookup x=some .cell\/sc.names.lookup x=some .free
noncomputable def Loc(sc:Scope)(x:Str):Prop:=sc.names.lookup x=some .local\/sc.names.lookup x=some .cell
noncomputable def Look(env:Env)(h:Heap)(m:Str->Option Value)(x:Str)(u:Value):Prop :=
 (env.kindOf x=some .local/\m x=some u)\/((env.kindOf x=some .cell\/env.kindOf x=some .free)/\∃c,env.cells.lookup x=some c/\h.IsCell c (some u))
structure Cx.Ok(X:Cx):Prop where
 mod:Mod X.K X.mg X.base
 kind:X.env.scope.kind=.function
 glob:X.env.globals=mainGlobals
 blt:X.env.builtins=builtinsNs
 above:X.s₀.heap.objs.size<=X.env.locals
 inj:∀x y c,X.env.cells.lookup x=some c->X.env.cells.lookup y=some c->x=y
 has:∀x,(X.env.kindOf x=some .cell\/X.env.kindOf x=some .free)->∃c,X.env.cells.lookup x=some c
 cab:∀x c,X.fn x=true->X.env.cells.lookup x=some c->X.s₀.heap.objs.size<=c
 hd:X.calm=true->X.A.handled=none
 frames:X.A.frames=some X.stack
 stk:X.stack=X.outer\/(X.stack=X.env::X.outer/\X.env.frame=some X.env.locals)
 Ky:∀b∈X.ex,b≠X.env.locals/\∀x c,X.env.cells.lookup x=some c->c≠b
 bs:∀b o,X.base.get? b=some o->X.s₀.heap.get? b=some o/\X.H₀ b=none
 jT:X.base.objs.size<=X.s₀.heap.objs.size
 sG:∀b o,X.base.get? b=some o->b∉X.ex
 wu:∀b∈X.ex,b∉X.fs
 iH:X.s₀.heap.FunFrames X.base X.outer
 mL:∀b∈X.fs,X.H₀ b=none
structure Inv(X:Cx)(pins:List (Addr × Obj))(σ : List (Option V))(H:Hp)(s:Shared):Prop where
 ok:X.Ok
 os:s.os=X.s₀.os
 bare:AllBare s.gens
 base:Un X.fs X.ex X.H₀ H X.s₀.heap s.heap
 loc:∃m,s.heap.Ns X.env.locals m/\∀(i:Nat) (x:Str) (v:V),X.N[i]?=some x -> σ[i]?=some (some v)->wj X.env.scope x->∃u,RelV v u/\Look X.env s.heap m x u
 cell:∀x c,X.env.cells.lookup x=some c->∃v,s.heap.IsCell c v
 free:H X.env.locals=none
 jA:∀x c,X.env.cells.lookup x=some c->H c=none
 pin:∀p∈X.pn++pins,s.heap.get? p.1=some p.2/\H p.1=none/\p.1≠X.env.locals/\p.1∉X.fs/\∀v,p.2.data ≠ .cell v
 hok:cA X.prog X.w H s.heap
 len : σ.length=X.N.length
section
variable {X:Cx}{pins:List (Addr × Obj)}{σ : List (Option V)}{H H':Hp}{s:Shared}{h':Heap}
theorem Cx.Ok.qm(ok:X.Ok)(e:X.base.get? b=some o):b∉X.fs:=λhb=>by
 have:=(ok.iH.mem hb).1
 rw[e]at this; cases this
theorem Inv.bs(I:Inv X pins σ H s):∀b o,X.base.get? b=some o->s.heap.get? b=some o/\H b=none:=λb o e =>
 ⟨I.base.keep b o (I.ok.bs b o e).1 (I.ok.bs b o e).2 (I.ok.qm e) (I.ok.sG b o e),I.base.free b o (I.ok.bs b o e).1 (I.ok.bs b o e).2 (I.ok.sG b o e)⟩
theorem Inv.bk(I:Inv X pins σ H s):∀b o,X.base.get? b=some o->s.heap.get? b=some o:=λb o e=>(I.bs b o e).1
theorem Inv.mod(I:Inv X pins σ H s):Mod X.K X.mg X.base:=I.ok.mod
theorem Inv.gU(I:Inv X pins σ H s):X.K.In s.heap:=I.ok.mod.Bv.keeps I.bk
theorem Inv.nolimit(I:Inv X pins σ H s):s.heap.NoLimit:=I.ok.mod.nolimit.keeps I.bk
theorem Inv.fr(I:Inv X pins σ H s):∃m,Fr X.base X.env.locals s.heap m :=
 let⟨m,hn,_⟩:=I.loc
 ⟨m,hn,I.bk,Nat.le_trans I.ok.jT I.ok.above⟩
theorem Inv.lt(I:Inv X pins σ H s):X.env.locals<s.heap.objs.size:=let⟨_,hn,_⟩:=I.loc; hn.lt
theorem Inv.sz(I:Inv X pins σ H s):X.s₀.heap.objs.size<=s.heap.objs.size:=Nat.le_trans I.ok.above (Nat.le_of_lt I.lt)
theorem Inv.aao(I:Inv X pins σ H s)(h:s.heap.objs.size<=a):a∉X.fs:=λhb=>by
 obtain⟨_,o,ho,_⟩:=I.ok.iH.mem hb
 exact absurd (Nat.lt_of_lt_of_le (Heap.lt_size ho) (Nat.le_trans I.sz h)) (Nat.lt_irrefl _)
theorem Inv.oR(I:Inv X pins σ H s):∀x c,X.env.cells.lookup x=some c->c≠X.env.locals:=λx c e z=>by
 obtain⟨v,o,ho,hd⟩:=I.cell x c e
 obtain⟨m,⟨o',es,ep,ho',hd',_⟩,_⟩:=I.loc
 rw[z,ho']at ho; cases ho; rw[hd']at hd; cases hd
theorem Inv.iH(I:Inv X pins σ H s):s.heap.FunFrames X.base X.outer:=by
 have all:∀(l:List Env),(∀b∈frs l,b∈X.fs)->X.s₀.heap.FunFrames X.base l->s.heap.FunFrames X.base l:=by
  intro l
  induction l with
  |nil=>intro _ _; trivial
  |cons env r ih =>
   intro hs hl
   obtain⟨hk,⟨L,o,hf,hn,ho,hd⟩,hr⟩:=hl
   have hL:L∈X.fs:=hs L (by unfold frs; rw[List.filterMap_cons,hf]; exact List.mem_cons_self)
   obtain⟨sl,e⟩:=I.base.slot L o ho (I.ok.mL L hL) hL λz=>I.ok.wu L z hL
   exact⟨hk,⟨L,_,hf,hn,e,hd⟩,ih (λb hb=>hs b (by unfold frs; rw[List.filterMap_cons,hf]; exact List.mem_cons_of_mem _ hb)) hr⟩
 exact all X.outer (λ_ hb=>hb) I.ok.iH
theorem Inv.stack(I:Inv X pins σ H s):s.heap.FunFrames X.base X.stack:=by
 rcases I.ok.stk with e|⟨e,hf⟩
 .rw[e]; exact I.iH
 .rw[e]
  obtain⟨m,hn,_⟩:=I.loc
  refine .cons (by rw[I.ok.kind]; decide) hf hn ?_ I.iH
  exact Heap.get?_none_of_le (Nat.le_trans I.ok.jT I.ok.above)
theorem Inv.wz(I:Inv X pins σ H s):∀b∈frs X.stack,b∈X.env.locals::X.fs:=λb hb=>by
 rcases I.ok.stk with e|⟨e,hf⟩
 .rw[e]at hb; exact List.mem_cons_of_mem _ hb
 .rw[e]at hb
  unfold frs at hb
  rw[List.filterMap_cons,hf]at hb
  exact hb
theorem Inv.wC(I:Inv X pins σ H s):∀b∈frs X.stack,H b=none:=λb hb=>by
 rcases List.mem_cons.mp (I.wz b hb)with e|hb
 .rw[e]; exact I.free
 .obtain⟨_,o,ho,_⟩:=I.ok.iH.mem hb
  exact I.base.free b o ho (I.ok.mL b hb) λz=>I.ok.wu b z hb
theorem Inv.step{g':Array GenState}{t':Nat}{d':Drawn}{ch:List Addr}(I:Inv X pins σ H s)
  (hch:∀b∈ch,(b∈X.ex\/X.s₀.heap.objs.size<=b)/\b≠X.env.locals/\(∀x c,X.env.cells.lookup x=some c->c≠b)/\∀p∈X.pn++pins,p.1≠b)
  (keep:∀b o,b≠X.env.locals->b∉X.fs->b∉ch->s.heap.get? b=some o->H b=none->h'.get? b=some o)
  (slot:∀b o,b≠X.env.locals->b∈X.fs->b∉ch->s.heap.get? b=some o->H b=none->∃sl,h'.get? b=some {o with slots:=sl }) (free:∀b o,b∉ch->s.heap.get? b=some o->H b=none->H' b=none)
  (there:∀b o,b∉ch->s.heap.get? b=some o->∃o',h'.get? b=some o')
  (tups:∀b xs,H b=some (.tup xs)->H' b=some (.tup xs)) (f9:∀b o u,H b=some (.cQ o u)->H' b=some (.cQ o u)) (gh:∀b ps,H b=some (.cu ps)->∃more,H' b=some (.cu (ps++more)))
  (ns:∀m,s.heap.Ns X.env.locals m->h'.Ns X.env.locals m) (hok:cA X.prog X.w H' h') (hg:AllBare g') :
  Inv X pins σ H' {s with heap:=h',gens:=g',drawn:=d',toks:=t' }:=by
 have Kz:∀b o,X.s₀.heap.get? b=some o->b≠X.env.locals:=λb o e=>Nat.ne_of_lt (Nat.lt_of_lt_of_le (Heap.lt_size e) I.ok.above)
 have wD:∀b o,X.s₀.heap.get? b=some o->b∉X.ex->b∉ch:=λb o e hx hb=>by
  rcases(hch b hb).1 with z|z
  .exact hx z
  .exact absurd (Nat.lt_of_lt_of_le (Heap.lt_size e) z) (Nat.lt_irrefl _)
 have cellK:∀x c,X.env.cells.lookup x=some c->∀v,s.heap.IsCell c v->h'.IsCell c v:=λx c e v ⟨o,ho,hd⟩=>by
  have sH:c∉ch:=λz=>(hch c z).2.2.1 x c e rfl
  by_cases hc:c∈X.fs
  .obtain⟨sl,q⟩:=slot c o (I.oR x c e) hc sH ho (I.jA x c e)
   exact⟨_,q,hd⟩
  .exact⟨o,keep c o (I.oR x c e) hc sH ho (I.jA x c e),hd⟩
 refine⟨I.ok,I.os,hg,⟨λb o e n hb hx=>?_,λb o e n hb hx=>?_,λb o e n hx=>?_,λb o e hx=>?_,λb xs e=>tups b xs (I.base.tups b xs e),λb o xs e=>f9 b o xs (I.base.f9 b o xs e),λb ps e=>?_⟩,?_,λx c e=>?_,?_,λx c e=>?_,λp hp=>?_,hok,I.len⟩
 .exact keep b o (Kz b o e) hb (wD b o e hx) (I.base.keep b o e n hb hx) (I.base.free b o e n hx)
 .obtain⟨sl,e1⟩:=I.base.slot b o e n hb hx
  obtain⟨sl',e2⟩:=slot b _ (Kz b o e) hb (wD b o e hx) e1 (I.base.free b o e n hx)
  exact⟨sl',e2⟩
 .obtain⟨o',e1⟩:=I.base.there b o e hx
  exact free b o' (wD b o e hx) e1 (I.base.free b o e n hx)
 .obtain⟨o',e1⟩:=I.base.there b o e hx
  exact there b o' (wD b o e hx) e1
 .obtain⟨m1,e1⟩:=I.base.gh b ps e
  obtain⟨m2,e2⟩:=gh b _ e1
  exact⟨m1++m2,by rw[e2,Array.append_assoc]⟩
 .obtain⟨m,hn,hl⟩:=I.loc
  refine⟨m,ns m hn,λi x v e1 e2 e3=>?_⟩
  obtain⟨u,r,l⟩:=hl i x v e1 e2 e3
  refine⟨u,r,?_⟩
  rcases l with l|⟨k,c,e,z⟩
  .exact .inl l
  .exact .inr ⟨k,c,e,cellK x c e _ z⟩
 .obtain⟨v,z⟩:=I.cell x c e
  exact⟨v,cellK x c e v z⟩
 .obtain⟨m,⟨o,_,_,ho,_⟩,_⟩:=I.loc
  exact free _ o (λz=>(hch _ z).2.1 rfl) ho I.free
 .obtain⟨v,o,ho,hd⟩:=I.cell x c e
  exact free c o (λz=>(hch c z).2.2.1 x c e rfl) ho (I.jA x c e)
 .obtain⟨e,n,ne,nf,d⟩:=I.pin p hp
  have sH:p.1∉ch:=λz=>(hch p.1 z).2.2.2 p hp rfl
  exact⟨keep p.1 p.2 ne nf sH e n,free p.1 p.2 sH e n,ne,nf,d⟩
theorem Inv.un{t':Nat}(I:Inv X pins σ H s)(u:Un X.fs [] H H' s.heap h')(hok:cA X.prog X.w H' h'):Inv X pins σ H' {s with heap:=h',toks:=t' }:=by
 obtain⟨m,⟨o,es,ep,ho,r⟩,_⟩:=id I.loc
 obtain⟨sl,hL⟩:=u.any ho I.free (by simp)
 exact I.step (g':=s.gens) (d':=s.drawn) (ch:=[]) (λ_ z=>nomatch z) (λb o _ hb _ e n=>u.keep b o e n hb (by simp)) (λb o _ hb _ e n=>u.slot b o e n hb (by simp)) (λb o _ e n=>u.free b o e n (by simp)) (λb o _ e=>u.there b o e (by simp)) u.tups u.f9 u.gh (λm' hm=>by
  obtain⟨o',es',ep',ho',r'⟩:=hm
  rw[ho]at ho'; cases ho'
  exact⟨_,es',ep',hL,r'⟩) hok I.bare
theorem Inv.call{g':Array GenState}{t':Nat}{d':Drawn}{ch:List Addr}(I:Inv X pins σ H s)(u:Un (frs X.stack) ch H H' s.heap h')(hok:cA X.prog X.w H' h')(hg:AllBare g')
  (hch:∀b∈ch,(b∈X.ex\/X.s₀.heap.objs.size<=b)/\b≠X.env.locals/\(∀x c,X.env.cells.lookup x=some c->c≠b)/\∀p∈X.pn++pins,p.1≠b) :
  Inv X pins σ H' {s with heap:=h',gens:=g',drawn:=d',toks:=t' }:=by
 obtain⟨m,⟨o,es,ep,ho,r⟩,_⟩:=id I.loc
 obtain⟨sl,hL⟩:=u.any ho I.free λz=>(hch _ z).2.1 rfl
 exact I.step (ch:=ch) hch (λb o hL hb hc e n=>u.keep b o e n (λz=>(List.mem_cons.mp (I.wz b z)).elim hL hb) hc) (λb o _ _ hc e n=>u.any e n hc) (λb o hc e n=>u.free b o e n hc) (λb o hc e=>u.there b o e hc) u.tups u.f9 u.gh (λm' hm=>by
  obtain⟨o',es',ep',ho',r'⟩:=hm
  rw[ho]at ho'; cases ho'
  exact⟨_,es',ep',hL,r'⟩) hok hg
theorem Inv.turned{t':Nat}{it:Addr}(I:Inv X pins σ H s)(k:∀b o,b≠it->s.heap.get? b=some o->h'.get? b=some o)(hn:H it=none)(hL:it≠X.env.locals)
  (h1:it∈X.ex\/X.s₀.heap.objs.size<=it) (h2:∀x c,X.env.cells.lookup x=some c->c≠it) (h3:∀p∈X.pn++pins,p.1≠it):Inv X pins σ H {s with heap:=h',toks:=t' }:=by
 have KC:∀b u,H b=some u->b≠it:=λb u e z=>by rw[z,hn]at e; cases e
 refine I.step (g':=s.gens) (d':=s.drawn) (ch:=[it]) (λb hb=>?_) (λb o _ _ hc e _=>k b o (λz=>hc (by simp[z])) e) (λb o _ _ hc e _=>⟨o.slots,k b o (λz=>hc (by simp[z])) e⟩) (λ_ _ _ _ n=>n)
  (λb o hc e=>⟨o,k b o (λz=>hc (by simp[z])) e⟩) (λ_ _ e=>e) (λ_ _ _ e=>e) (λb ps e=>⟨#[],by rw[e]; simp⟩) (λm hm=>?_) (λb u e=>?_) I.bare
 .have e:b=it:=by simpa using hb
  subst e
  exact⟨h1,hL,h2,h3⟩
 .obtain⟨o,es,ep,ho,r⟩:=hm
  exact⟨o,es,ep,k _ o (Ne.symm hL) ho,r⟩
 .refine(I.hok b u e).stay (λc v hc q=>k c v ?_ q) (λ_ q=>q) λ_ _ q=>q
  rcases hc with z|z
  .rw[z]; exact KC b u e
  .exact KC c _ z
theorem Inv.tok(I:Inv X pins σ H s)(t:Nat):Inv X pins σ H {s with toks:=t }:=I.un (h':=s.heap) (t':=t) Un.refl I.hok
theorem Inv.kept(I:Inv X pins σ H s)(k:∀b u,s.heap.get? b=some u->h'.get? b=some u):Inv X pins σ H {s with heap:=h',toks:=t' }:=I.un (Un.kept k) (I.hok.kept k)
theorem Inv.laid{a:Addr}{o:HO}{t':Nat}(I:Inv X pins σ H s)(k:∀b u,s.heap.get? b=some u->h'.get? b=some u)(hp:s.heap.objs.size<=a)(new:iG X.prog X.w (upd H a o) h' a o) :
  Inv X pins σ (upd H a o) {s with heap:=h',toks:=t' }:=I.un (Un.laid k hp (I.hok.fresh hp)) (I.hok.laid k hp new)
theorem Inv.write(I:Inv X pins σ H s)(mu:v9 (H x))(he:e=x\/H e=some (.own x))(k:∀b u,b≠e->s.heap.get? b=some u->h'.get? b=some u)(heo:∃u,h'.get? e=some u)
  (new:iG X.prog X.w (upd H x o) h' x o):Inv X pins σ (upd H x o) {s with heap:=h',toks:=t' }:=I.un (Un.write mu he k heo) (I.hok.write mu he k heo new)
theorem Inv.wH(I:Inv X pins σ H s)(h:∀p∈mO,s.heap.get? p.1=some p.2/\H p.1=none/\p.1≠X.env.locals/\p.1∉X.fs/\∀v,p.2.data ≠ .cell v):Inv X mO σ H s :=
 ⟨I.ok,I.os,I.bare,I.base,I.loc,I.cell,I.free,I.jA,λp hp=>(List.mem_append.mp hp).elim (λz=>I.pin p (List.mem_append_left _ z)) (h p),I.hok,I.len⟩
theorem KD{N:List Str}(hN:N.Nodup){i j:Nat}{x:Str}(a:N[i]?=some x)(b:N[j]?=some x):i=j:=by
 obtain⟨h1,e1⟩:=List.getElem?_eq_some_iff.mp a
 obtain⟨h2,e2⟩:=List.getElem?_eq_some_iff.mp b
 exact(List.getElem_inj hN).mp (e1.trans e2.symm)
theorem KH{M:Model}{A:Around}{E:Value->Shared->Prop}{i:Nat}{x:Str}{v:V}{u:Value}{Q:Unit->Shared->Prop}(I:Inv X pins σ H s)(hN:X.N.Nodup)(hi:X.N[i]?=some x)(hx:Loc X.env.scope x)(r:RelV v u)
  (h:∀s',Inv X pins (σ.set i (some v)) H s'->(∃a,Heap.SameBut a s.heap s'.heap/\(a=X.env.locals\/X.env.cells.lookup x=some a))->Q () s') (hf:X.fn x=true\/X.env.scope.names.lookup x=some .local:=by first|exact .inl rfl|exact .inr rfl|assumption):wpAny M A (storeName X.env x u) Q E s:=by
 obtain⟨m,hn,hl⟩:=id I.loc
 have hcls:(X.env.scope.kind == .class || (X.env.scope.kind == .module&&X.env.locals != X.env.globals))=false:=by rw[I.ok.kind]; rfl
 have KJ:i < σ.length:=by rw[I.len]; exact(List.getElem?_eq_some_iff.mp hi).1
 have oR:=I.oR
 have tracked:∀{a:Addr} {h':Heap},(∃o,s.heap.get? a=some o/\H a=none)->Heap.SameBut a s.heap h'->cA X.prog X.w H h':=λ{a h'} ha hs b ob e=>by
  obtain⟨_,_,hfree⟩:=ha
  refine(I.hok b ob e).stay (λc w' hc q=>(hs.2 c ?_).trans q) (λ_ q=>q) λ_ _ q=>q
  rintro rfl
  rcases hc with rfl|hc
  .rw[hfree]at e; cases e
  .rw[hfree]at hc; cases hc
 rcases hx with hk|hk
 .refine wpAny_storeName_local hk hn (λh' hn' hs=>?_) hcls
  obtain⟨oL,_,_,hoL,_⟩:=id hn
  refine h _ ⟨I.ok,I.os,I.bare,⟨λb o e n hb hx=>?_,λb o e n hb hx=>?_,I.base.free,λb o e hx=>?_,I.base.tups,I.base.f9,I.base.gh⟩,⟨_,hn',λj y v' e1 e2 e3=>?_⟩,λy c e=>?_,I.free,I.jA,λp hp=>?_,tracked ⟨oL,hoL,I.free⟩ hs,by simpa using I.len⟩ ⟨_,hs,.inl rfl⟩
  .exact(hs.2 b (Nat.ne_of_lt (Nat.lt_of_lt_of_le (Heap.lt_size e) I.ok.above))).trans (I.base.keep b o e n hb hx)
  .obtain⟨sl,e1⟩:=I.base.slot b o e n hb hx
   exact⟨sl,(hs.2 b (Nat.ne_of_lt (Nat.lt_of_lt_of_le (Heap.lt_size e) I.ok.above))).trans e1⟩
  .obtain⟨o',e1⟩:=I.base.there b o e hx
   exact⟨o',(hs.2 b (Nat.ne_of_lt (Nat.lt_of_lt_of_le (Heap.lt_size e) I.ok.above))).trans e1⟩
  .by_cases hj:j=i
   .subst hj
    rw[hi]at e1; cases e1
    rw[List.getElem?_set_self KJ]at e2
    cases e2
    exact⟨u,r,.inl ⟨hk,by simp⟩⟩
   .rw[List.getElem?_set_ne (Ne.symm hj)]at e2
    obtain⟨u',r',q⟩:=hl j y v' e1 e2 e3
    refine⟨u',r',?_⟩
    rcases q with⟨k,e⟩|⟨k,c,e,z⟩
    .refine .inl ⟨k,?_⟩
     have:y≠x:=λe=>hj (KD hN e1 (e▸hi))
     simp[this,e]
    .exact .inr ⟨k,c,e,z.sameBut hs (oR y c e)⟩
  .obtain⟨w',z⟩:=I.cell y c e
   exact⟨w',z.sameBut hs (oR y c e)⟩
  .obtain⟨e,n,ne,nf,d⟩:=I.pin p hp
   exact⟨(hs.2 p.1 ne).trans e,n,ne,nf,d⟩
 .have hfn:X.fn x=true:=by
   rcases hf with z|z
   .exact z
   .rw[z]at hk; cases hk
  obtain⟨c,hc⟩:=I.ok.has x (.inl hk)
  obtain⟨w',z⟩:=I.cell x c hc
  refine wpAny_storeName_cell I.ok.kind hk hc z (λh' hc' hs=>?_)
  obtain⟨oc,hoc,aap⟩:=id z
  refine h {s with heap:=h' } ⟨I.ok,I.os,I.bare,⟨λb o e n hb hx=>?_,λb o e n hb hx=>?_,I.base.free,λb o e hx=>?_,I.base.tups,I.base.f9,I.base.gh⟩,⟨m,hn.sameBut hs (Ne.symm (oR x c hc)),λj y v' e1 e2 e3=>?_⟩,λy c' e=>?_,I.free,I.jA,λp hp=>?_,tracked ⟨oc,hoc,I.jA x c hc⟩ hs,by simpa using I.len⟩ ⟨c,hs,.inr hc⟩
  .exact(hs.2 b (Nat.ne_of_lt (Nat.lt_of_lt_of_le (Heap.lt_size e) (I.ok.cab x c hfn hc)))).trans (I.base.keep b o e n hb hx)
  .obtain⟨sl,e1⟩:=I.base.slot b o e n hb hx
   exact⟨sl,(hs.2 b (Nat.ne_of_lt (Nat.lt_of_lt_of_le (Heap.lt_size e) (I.ok.cab x c hfn hc)))).trans e1⟩
  .obtain⟨o',e1⟩:=I.base.there b o e hx
   exact⟨o',(hs.2 b (Nat.ne_of_lt (Nat.lt_of_lt_of_le (Heap.lt_size e) (I.ok.cab x c hfn hc)))).trans e1⟩
  .by_cases hj:j=i
   .subst hj
    rw[hi]at e1; cases e1
    rw[List.getElem?_set_self KJ]at e2
    cases e2
    exact⟨u,r,.inr ⟨.inl hk,c,hc,hc'⟩⟩
   .rw[List.getElem?_set_ne (Ne.symm hj)]at e2
    obtain⟨u',r',q⟩:=hl j y v' e1 e2 e3
    refine⟨u',r',?_⟩
    rcases q with q|⟨k,c',e,z'⟩
    .exact .inl q
    .refine .inr ⟨k,c',e,z'.sameBut hs ?_⟩
     rintro rfl
     exact hj (KD hN e1 (I.ok.inj _ _ _ e hc▸hi))
  .by_cases hcc:c'=c
   .subst hcc; exact⟨_,hc'⟩
   .obtain⟨w2,z2⟩:=I.cell y c' e
    exact⟨w2,z2.sameBut hs hcc⟩
  .obtain⟨e,n,ne,nf,d⟩:=I.pin p hp
   refine⟨(hs.2 p.1 ?_).trans e,n,ne,nf,d⟩
   intro q
   rw[q,hoc]at e
   have q':oc=p.2:=Option.some.inj e
   exact d w' (by rw[<-q']; exact aap)
theorem wI(I:Inv X pins σ H s)(hN:X.N.Nodup)(hi:X.N[i]?=some x)(hx:Loc X.env.scope x)(r:RelV v u)
  (h:∀s',Inv X pins (σ.set i (some v)) H s'->Q () s') (hf:X.fn x=true\/X.env.scope.names.lookup x=some .local:=by first|exact .inl rfl|exact .inr rfl|assumption):wpAny M A (storeName X.env x u) Q E s :=
 KH I hN hi hx r (λs' I' _=>h s' I') hf
theorem Inv.call'(I:Inv X pins σ H s)(ho:s'.os=s.os)(u:Un (frs X.stack) ch H H' s.heap s'.heap)(hok:cA X.prog X.w H' s'.heap)(hg:AllBare s'.gens)
  (hch:∀b∈ch,(b∈X.ex\/X.s₀.heap.objs.size<=b)/\b≠X.env.locals/\(∀x c,X.env.cells.lookup x=some c->c≠b)/\∀p∈X.pn++pins,p.1≠b):Inv X pins σ H' s':=by
 obtain⟨h',g',d',t',o'⟩:=s'
 have e:o'=s.os:=ho
 subst e
 exact I.call (g':=g') (t':=t') (d':=d') u hok hg hch
end
noncomputable abbrev XK:=Value->Option Addr->Hp->Prop
noncomputable abbrev St:=List (Option V)
noncomputable abbrev VK:=V->Hp->Prop
noncomputable abbrev TE:=St->Hp->VK->Prop
noncomputable abbrev TT:=St->Hp->(Bool->Hp->Prop)->Prop
noncomputable abbrev TA:=St->Hp->(List V->Hp->Prop)->Prop
structure Ends where
 nx:St->Hp->Prop
 rt:VK
 bk:St->Hp->Prop:=λ_ _=>False
 ct:St->Hp->Prop:=λ_ _=>False
noncomputable abbrev TS:=Ends->St->Hp->Prop
noncomputable def EP(X:Cx)(pins:List (Addr × Obj))(σ : St)(Q:VK)(u:Value)(s':Shared):Prop:=∃v H',Inv X pins σ H' s'/\RelV v u/\Q v H'
noncomputable def TP(X:Cx)(pins:List (Addr × Obj))(σ : St)(Q:Bool->Hp->Prop)(b:Bool)(s':Shared):Prop:=∃H',Inv X pins σ H' s'/\Q b H'
noncomputable def AP(X:Cx)(pins:List (Addr × Obj))(σ : St)(Q:List V->Hp->Prop)(us:List Value)(s':Shared):Prop:=∃vs H',Inv X pins σ H' s'/\Vals vs us/\Q vs H'
noncomputable def SP(X:Cx)(pins:List (Addr × Obj))(D:Ends)(f:Flow)(s':Shared):Prop :=
 match f with
 |.next=>∃σ' H',Inv X pins σ' H' s'/\D.nx σ' H'
 |.brk=>∃σ' H',Inv X pins σ' H' s'/\D.bk σ' H'
 |.cont=>∃σ' H',Inv X pins σ' H' s'/\D.ct σ' H'
 |.ret u=>∃v σ' H',Inv X pins σ' H' s'/\RelV v u/\D.rt v H'
structure PE(X:Cx)(e:Expr)(t:TE):Prop where
 run:∀(pins:List (Addr × Obj)) (s:Shared) (σ : St) (H:Hp) (Q:VK),Inv X pins σ H s->t σ H Q->wpAny (model X.prog X.w) X.A (eval e X.env) (EP X pins σ Q) X.xe s
noncomputable instance {X:Cx}{e:Expr}{t:TE}:CoeFun (PE X e t) λ_=>∀(pins:List (Addr × Obj)) (s:Shared) (σ : St) (H:Hp) (Q:VK),Inv X pins σ H s->t σ H Q->wpAny (model X.prog X.w) X.A (eval e X.env) (EP X pins σ Q) X.xe s:=⟨PE.run⟩
structure PT(X:Cx)(e:Expr)(t:TT):Prop where
 run:∀(pins:List (Addr × Obj)) (s:Shared) (σ : St) (H:Hp) (Q:Bool->Hp->Prop),Inv X pins σ H s->t σ H Q->wpAny (model X.prog X.w) X.A (isTrue e X.env (eval e X.env)) (TP X pins σ Q) X.xe s
noncomputable instance {X:Cx}{e:Expr}{t:TT}:CoeFun (PT X e t) λ_=>∀(pins:List (Addr × Obj)) (s:Shared) (σ : St) (H:Hp) (Q:Bool->Hp->Prop),Inv X pins σ H s->t σ H Q->wpAny (model X.prog X.w) X.A (isTrue e X.env (eval e X.env)) (TP X pins σ Q) X.xe s:=⟨PT.run⟩
structure PW(X:Cx)(e:Expr)(t:TT):Prop where
 run:∀(whole:Sem Value) (pins:List (Addr × Obj)) (s:Shared) (σ : St) (H:Hp) (Q:Bool->Hp->Prop),Inv X pins σ H s->t σ H Q->wpAny (model X.prog X.w) X.A (isTrue e X.env whole) (TP X pins σ Q) X.xe s
noncomputable instance {X:Cx}{e:Expr}{t:TT}:CoeFun (PW X e t) λ_=>∀(whole:Sem Value) (pins:List (Addr × Obj)) (s:Shared) (σ : St) (H:Hp) (Q:Bool->Hp->Prop),Inv X pins σ H s->t σ H Q->wpAny (model X.prog X.w) X.A (isTrue e X.env whole) (TP X pins σ Q) X.xe s:=⟨PW.run⟩
theorem PW.pt(h:PW X e t):PT X e t:=⟨h.run _⟩
structure PA(X:Cx)(es:List Expr)(t:TA):Prop where
 run:∀(pos:Pos) (pins:List (Addr × Obj)) (s:Shared) (σ : St) (H:Hp) (Q:List V->Hp->Prop),Inv X pins σ H s->t σ H Q->wpAny (model X.prog X.w) X.A (spliced (backTo pos (starEach es X.env))) (AP X pins σ Q) X.xe s
noncomputable instance {X:Cx}{es:List Expr}{t:TA}:CoeFun (PA X es t) λ_=>∀(pos:Pos) (pins:List (Addr × Obj)) (s:Shared) (σ : St) (H:Hp) (Q:List V->Hp->Prop),Inv X pins σ H s->t σ H Q->wpAny (model X.prog X.w) X.A (spliced (backTo pos (starEach es X.env))) (AP X pins σ Q) X.xe s:=⟨PA.run⟩
structure PS(X:Cx)(st:Stmt)(t:TS):Prop where
 run:∀(pins:List (Addr × Obj)) (s:Shared) (σ : St) (H:Hp) (D:Ends),Inv X pins σ H s->t D σ H->wpAny (model X.prog X.w) X.A (exec st X.env) (SP X pins D) X.xe s
noncomputable instance {X:Cx}{st:Stmt}{t:TS}:CoeFun (PS X st t) λ_=>∀(pins:List (Addr × Obj)) (s:Shared) (σ : St) (H:Hp) (D:Ends),Inv X pins σ H s->t D σ H->wpAny (model X.prog X.w) X.A (exec st X.env) (SP X pins D) X.xe s:=⟨PS.run⟩
structure dj(X:Cx)(st:List Stmt)(t:TS):Prop where
 run:∀(pins:List (Addr × Obj)) (s:Shared) (σ : St) (H:Hp) (D:Ends),Inv X pins σ H s->t D σ H->wpAny (model X.prog X.w) X.A (execs st X.env) (SP X pins D) X.xe s
noncomputable instance {X:Cx}{st:List Stmt}{t:TS}:CoeFun (dj X st t) λ_=>∀(pins:List (Addr × Obj)) (s:Shared) (σ : St) (H:Hp) (D:Ends),Inv X pins σ H s->t D σ H->wpAny (model X.prog X.w) X.A (execs st X.env) (SP X pins D) X.xe s:=⟨dj.run⟩
theorem aH{α : Type}{t:Sem α}{Q Q' : α -> Shared->Prop}{M:Model}{A:Around}{E:Value->Shared->Prop}{s:Shared}(h:wpAny M A t Q E s)(hQ:∀a s,Q a s->Q' a s):wpAny M A t Q' E s:=wpAny_mono h hQ λ_ _ x=>x
section
variable {X:Cx}
noncomputable def sJ(i:Nat):TE:=λσ H Q=>∃v,σ[i]?=some (some v)/\Q v H
noncomputable def tC(v:V):TE:=λ_ H Q=>Q v H
theorem KN(hN:X.N[i]?=some x)(hv:wj X.env.scope x)(hd:(x == ("__debug__" : Str))=false:=by decide) (hcd:(x == ("__classdict__" : Str))=false:=by decide):PE X (.Name x pos) (sJ i):=by
 refine⟨λpins s σ H Q I h=>?_⟩
 obtain⟨v,e,h⟩:=h
 obtain⟨m,hn,hl⟩:=I.loc
 obtain⟨u,r,l⟩:=hl i x v hN e hv
 have fin:EP X pins σ Q u s:=⟨v,H,I,r,h⟩
 rcases l with⟨hk,hm⟩|⟨hk,c,hc,hcell⟩
 .exact wpAny_Name (wpAny_loadName_local I.ok.kind hk hn hm fin) hd
 .rcases hk with hk|hk
  .exact wpAny_Name (wpAny_loadName_cell I.ok.kind hk hc hcell fin) hd
  .exact wpAny_Name (wpAny_loadName_free I.ok.kind hk hc hcell fin hcd) hd
theorem wJ{i j pos}:PE X (.Constant (.int i) j pos) (tC (.int i)):=⟨λ_ _ _ H _ I h=>wpAny_Constant_int ⟨.int i,H,I.tok _,⟨_,rfl⟩,h⟩⟩
theorem KQ{b j pos}:PE X (.Constant (.bool b) j pos) (tC (.bl b)):=⟨λ_ _ _ H _ I h=>Constant_bool ⟨.bl b,H,I,rfl,h⟩⟩
theorem KR{j pos}:PE X (.Constant .none j pos) (tC .non):=⟨λ_ _ _ H _ I h=>Constant_none ⟨.non,H,I,rfl,h⟩⟩
theorem KY{x j pos}:PE X (.Constant (.str x) j pos) (tC (.str x)):=⟨λ_ _ _ H _ I h=>Calls.Constant_str ⟨.str x,H,I.tok _,⟨_,rfl⟩,h⟩⟩
noncomputable def Gl(X:Cx)(x:Str):Prop:=X.env.kindOf x=some .globalImplicit
theorem Bw(I:Inv X pins σ H s)(hg:Gl X x)(hm:X.mg x=some u)(h:Q u s)
  (hd:(x == ("__debug__" : Str))=false:=by decide):wpAny (model X.prog X.w) X.A (eval (.Name x pos) X.env) Q E s :=
 Calls.Name_function_global I.ok.kind hg (Calls.loadGlobal_global (by rw[I.ok.glob]; exact I.mod.glob.keeps I.bk) hm h) hd
theorem kO(I:Inv X pins σ H s)(hg:Gl X x)(hm:X.mg x=none)(hv:bootBuiltins x=some u)(h:Q u s)
  (hn:x ≠ "__name__" := by decide) (hd:(x == ("__debug__" : Str))=false:=by decide):wpAny (model X.prog X.w) X.A (eval (.Name x pos) X.env) Q E s:=by
 obtain⟨mb,h1,h2⟩:=I.mod.blt
 exact Calls.Name_function_global I.ok.kind hg (Calls.loadGlobal_builtin (by rw[I.ok.glob]; exact I.mod.glob.keeps I.bk) hm (by rw[I.ok.blt]; exact h1.keeps I.bk) ((h2 x hn).trans hv) h) hd
theorem aaq(hg:Gl X x)(hm:X.mg x=some u)(r:RelV v u)(hd:(x == ("__debug__" : Str))=false:=by decide):PE X (.Name x pos) (tC v) :=
 ⟨λ_ _ _ H _ I h=>Bw I hg hm ⟨v,H,I,r,h⟩ hd⟩
theorem aar(hg:Gl X x)(hm:X.mg x=none)(hv:bootBuiltins x=some u)(r:RelV v u)(hn:x ≠ "__name__" := by decide) (hd:(x == ("__debug__" : Str))=false:=by decide):PE X (.Name x pos) (tC v) :=
 ⟨λ_ _ _ H _ I h=>kO I hg hm hv ⟨v,H,I,r,h⟩ hn hd⟩
variable {a b:Expr}{ta tb:TE}{pos:Pos}
variable {tA wK:TT}{rest:List Expr}
noncomputable def KZ(t u:TT):TT:=λσ H Q=>t σ H λc H1=>if c=true then u σ H1 Q else Q false H1
noncomputable def K1(t u:TT):TT:=λσ H Q=>t σ H λc H1=>if c=true then Q true H1 else u σ H1 Q
noncomputable def K3(t:TT):TT:=λσ H Q=>t σ H λc H1=>Q (!c) H1
theorem aas(ha:PT X a tA):PW X (.BoolOp .And [a] pos) tA:=by
 refine⟨λwh pins s σ H Q I h=>?_⟩
 refine isTrue_and (aH (ha pins s σ H Q I h) λc s1 e=>?_)
 cases c with
 |true=>exact isTrue_and_nil e
 |false=>exact e
theorem aat(ha:PT X a tA):PW X (.BoolOp .Or [a] pos) tA:=by
 refine⟨λwh pins s σ H Q I h=>?_⟩
 refine isTrue_or (aH (ha pins s σ H Q I h) λc s1 e=>?_)
 cases c with
 |false=>exact isTrue_or_nil e
 |true=>exact e
theorem aau(ha:PT X a tA)(hb:PW X (.BoolOp .And (b::rest) pos) wK):PW X (.BoolOp .And (a::b::rest) pos) (KZ tA wK):=by
 refine⟨λwh pins s σ H Q I h=>?_⟩
 refine isTrue_and (aH (ha pins s σ H _ I h) λc s1 ⟨H1,I1,q1⟩=>?_)
 cases c with
 |true=>exact hb wh pins s1 σ H1 Q I1 q1
 |false=>exact⟨H1,I1,q1⟩
theorem aav(ha:PT X a tA)(hb:PW X (.BoolOp .Or (b::rest) pos) wK):PW X (.BoolOp .Or (a::b::rest) pos) (K1 tA wK):=by
 refine⟨λwh pins s σ H Q I h=>?_⟩
 refine isTrue_or (aH (ha pins s σ H _ I h) λc s1 ⟨H1,I1,q1⟩=>?_)
 cases c with
 |true=>exact⟨H1,I1,q1⟩
 |false=>exact hb wh pins s1 σ H1 Q I1 q1
theorem aaw(ha:PT X a tA):PT X (.UnaryOp .Not a pos) (K3 tA):=by
 refine⟨λpins s σ H Q I h=>?_⟩
 exact isTrue_not (ha pins s σ H (λc H1=>Q (!c) H1) I h)
noncomputable def K4(ta tb:TE):TE:=λσ H Q=>ta σ H λx H1=>∃c,x=.bl c/\if c=true then tb σ H1 Q else Q (.bl false) H1
noncomputable def K5(ta tb:TE):TE:=λσ H Q=>ta σ H λx H1=>∃c,x=.bl c/\if c=true then Q (.bl true) H1 else tb σ H1 Q
noncomputable def K6(ta:TE):TE:=λσ H Q=>ta σ H λx H1=>∃c,x=.bl c/\Q (.bl (!c)) H1
theorem aax{op}{t:TE}(h:PE X a t):PE X (.BoolOp op [a] pos) t:=⟨λpins s σ H Q I hw=>BoolOp_one (h pins s σ H Q I hw)⟩
theorem aay(ha:PE X a ta)(hb:PE X (.BoolOp .And (b::rest) pos) tb):PE X (.BoolOp .And (a::b::rest) pos) (K4 ta tb):=by
 refine⟨λpins s σ H Q I h=>?_⟩
 refine BoolOp_and (aH (ha pins s σ H _ I h) λv s1 ⟨x,H1,I1,r1,q1⟩=>?_)
 obtain⟨c,rfl,q1⟩:=q1
 cases r1
 refine wpAny_truthy_bool ?_
 cases c with
 |true=>exact hb pins s1 σ H1 Q I1 q1
 |false=>exact⟨.bl false,H1,I1,rfl,q1⟩
theorem aaz(ha:PE X a ta)(hb:PE X (.BoolOp .Or (b::rest) pos) tb):PE X (.BoolOp .Or (a::b::rest) pos) (K5 ta tb):=by
 refine⟨λpins s σ H Q I h=>?_⟩
 refine BoolOp_or (aH (ha pins s σ H _ I h) λv s1 ⟨x,H1,I1,r1,q1⟩=>?_)
 obtain⟨c,rfl,q1⟩:=q1
 cases r1
 refine wpAny_truthy_bool ?_
 cases c with
 |false=>exact hb pins s1 σ H1 Q I1 q1
 |true=>exact⟨.bl true,H1,I1,rfl,q1⟩
theorem aaA(ha:PE X a ta):PE X (.UnaryOp .Not a pos) (K6 ta):=by
 refine⟨λpins s σ H Q I h=>?_⟩
 refine UnaryOp_ (aH (ha pins s σ H _ I h) λv s1 ⟨x,H1,I1,r1,q1⟩=>?_)
 obtain⟨c,rfl,q1⟩:=q1
 cases r1
 exact not_of (wpAny_truthy_bool ⟨.bl (!c),H1,I1,rfl,q1⟩)
noncomputable def K7(t:TT)(ta tb:TE):TE:=λσ H Q=>t σ H λc H1=>if c=true then ta σ H1 Q else tb σ H1 Q
theorem aaB{c:Expr}(hc:PT X c tA)(ha:PE X a ta)(hb:PE X b tb):PE X (.IfExp c a b pos) (K7 tA ta tb):=by
 refine⟨λpins s σ H Q I h=>?_⟩
 refine wpAny_IfExp (aH (hc pins s σ H _ I h) λd s1 ⟨H1,I1,q1⟩=>?_)
 cases d with
 |true=>exact ha pins s1 σ H1 Q I1 q1
 |false=>exact hb pins s1 σ H1 Q I1 q1
end
noncomputable def aG(K:PySem.W.Frag)(H:Hp)(a:Addr)(xs:List V):Prop :=
 Rd H a (.lst xs) \/
  ∃(o:Obj) (its:Array Value) (n:Nat),K.lookup a=some o/\o.cls=.type "list" /\ o.dict=none/\o.data=.seq its n/\its.size<=sizeLine/\Vals xs its.toList
noncomputable def bx(K:PySem.W.Frag)(H:Hp)(a:Addr)(xs:List V):Prop :=
 Rd H a (.tup xs) \/
  ∃(o:Obj) (its:Array Value) (n:Nat),K.lookup a=some o/\o.cls=.type "tuple" /\ o.data=.seq its n/\its.size<=sizeLine/\Vals xs its.toList
noncomputable def aaC:Value->Option V
 |.none=>some .non
 |.bool b=>some (.bl b)
 |.int i _=>some (.int i)
 |.str x _=>some (.str x)
 |.bytes b _=>some (.sE b)
 |.float b _=>some (.flt b)
 |.ref a=>some (.ref a)
 |.type n=>some (.ty n)
 |_=>none
theorem RelV.abs(r:RelV x u):aaC u=some x:=by
 cases x with
 |non=>cases r; rfl
 |bl _=>cases r; rfl
 |int _=>obtain⟨t,rfl⟩:=r; rfl
 |str _=>obtain⟨t,rfl⟩:=r; rfl
 |sE _=>obtain⟨t,rfl⟩:=r; rfl
 |flt _=>obtain⟨t,rfl⟩:=r; rfl
 |ref _=>cases r; rfl
 |ty _=>cases r; rfl
theorem RelV.inj{x y:V}{u:Value}(r:RelV x u)(q:RelV y u):x=y:=Option.some.inj (r.abs.symm.trans q.abs)
theorem Vals.inj:∀{xs ys:List V} {us:List Value},Vals xs us->Vals ys us->xs=ys
 |_,_,_,.nil,.nil=>rfl
 |_,_,_,.cons r t,.cons r' t'=>by rw[r.inj r',Vals.inj t t']
section
variable {X:Cx}{pins:List (Addr × Obj)}{σ : St}{H:Hp}{s:Shared}{a:Addr}{xs ys:List V}
theorem aG.of{K:PySem.W.Frag}(h:H a=some (.lst xs)):aG K H a xs:=.inl (.inl h)
theorem bx.of{K:PySem.W.Frag}(h:H a=some (.tup xs)):bx K H a xs:=.inl (.inl h)
theorem Inv.list(I:Inv X pins σ H s)(h:aG X.K H a xs):∃its:List Value,Vals xs its/\PlainL s.heap a its.toArray/\xs.length<=sizeLine:=by
 rcases h with h|⟨o,its,n,hk,hc,hd,hs,hz,r⟩
 .obtain⟨z,its,n,r,e⟩:=h.ok I.hok
  exact⟨its,r,⟨_,n,e,rfl,rfl,rfl⟩,z⟩
 .refine⟨its.toList,r,⟨o,n,I.gU a o hk,hc,hd,by simpa using hs⟩,?_⟩
  have e:=r.length
  simp only[Array.length_toList]at e
  lia
theorem Inv.tuple(I:Inv X pins σ H s)(h:bx X.K H a xs):∃its:List Value,Vals xs its/\IsTup s.heap a its.toArray/\xs.length<=sizeLine:=by
 rcases h with h|⟨o,its,n,hk,hc,hs,hz,r⟩
 .obtain⟨z,its,r,p⟩:=h.ok I.hok
  exact⟨its,r,p,z⟩
 .refine⟨its.toList,r,⟨o,I.gU a o hk,hc,n,by simpa using hs⟩,?_⟩
  have e:=r.length
  simp only[Array.length_toList]at e
  lia
theorem Inv.mQ(I:Inv X pins σ H s)(h:aG X.K H a xs)(h':aG X.K H a ys):xs=ys:=by
 obtain⟨its,r,⟨o,n,e,_,_,d⟩,_⟩:=I.list h
 obtain⟨its',r',⟨o',n',e',_,_,d'⟩,_⟩:=I.list h'
 rw[e]at e'; cases e'
 rw[d]at d'
 injection d' with d1 _
 have:its=its':=by simpa using congrArg Array.toList d1
 subst this
 exact r.inj r'
theorem Inv.K8(I:Inv X pins σ H s)(h:bx X.K H a xs)(h':bx X.K H a ys):xs=ys:=by
 obtain⟨its,r,⟨o,e,_,n,d⟩,_⟩:=I.tuple h
 obtain⟨its',r',⟨o',e',_,n',d'⟩,_⟩:=I.tuple h'
 rw[e]at e'; cases e'
 rw[d]at d'
 injection d' with d1 _
 have:its=its':=by simpa using congrArg Array.toList d1
 subst this
 exact r.inj r'
end
noncomputable abbrev Cx.wish(X:Cx)(E:Value->Shared->Prop):Cx:={X with xe:=E }
noncomputable abbrev Cx.iI(X:Cx):Cx:=X.wish λ_ _=>False
theorem Cx.Ok.wish{X:Cx}(ok:X.Ok)(E:Value->Shared->Prop):(X.wish E).Ok :=
 ⟨ok.mod,ok.kind,ok.glob,ok.blt,ok.above,ok.inj,ok.has,ok.cab,ok.hd,ok.frames,ok.stk,ok.Ky,ok.bs,ok.jT,ok.sG,ok.wu,ok.iH,ok.mL⟩
theorem Cx.Ok.jB{X:Cx}{E:Value->Shared->Prop}(ok:(X.wish E).Ok):X.Ok :=
 ⟨ok.mod,ok.kind,ok.glob,ok.blt,ok.above,ok.inj,ok.has,ok.cab,ok.hd,ok.frames,ok.stk,ok.Ky,ok.bs,ok.jT,ok.sG,ok.wu,ok.iH,ok.mL⟩
section
variable {X:Cx}{pins:List (Addr × Obj)}{σ : St}{H:Hp}{s:Shared}{E:Value->Shared->Prop}
theorem Inv.wish(I:Inv X pins σ H s)(E:Value->Shared->Prop):Inv (X.wish E) pins σ H s:=⟨I.ok.wish E,I.os,I.bare,I.base,I.loc,I.cell,I.free,I.jA,I.pin,I.hok,I.len⟩
theorem Inv.jB(I:Inv (X.wish E) pins σ H s):Inv X pins σ H s:=⟨I.ok.jB,I.os,I.bare,I.base,I.loc,I.cell,I.free,I.jA,I.pin,I.hok,I.len⟩
theorem SP.jB{D:Ends}{f:Flow}{s':Shared}(h:SP (X.wish E) pins D f s'):SP X pins D f s':=by
 cases f with
 |next=>obtain⟨σ',H',I,q⟩:=h; exact⟨σ',H',I.jB,q⟩
 |brk=>obtain⟨σ',H',I,q⟩:=h; exact⟨σ',H',I.jB,q⟩
 |cont=>obtain⟨σ',H',I,q⟩:=h; exact⟨σ',H',I.jB,q⟩
 |ret u=>obtain⟨v,σ',H',I,r,q⟩:=h; exact⟨v,σ',H',I.jB,r,q⟩
theorem PE.iI(h:PE X.iI e t):PE X e t:=⟨λpins s σ H Q I hw =>
 wpAny_mono (h pins s σ H Q (I.wish _) hw) (λ_ _ ⟨v,H',I',r,q⟩=>⟨v,H',I'.jB,r,q⟩) λ_ _ z=>False.elim z⟩
theorem PT.iI(h:PT X.iI e t):PT X e t:=⟨λpins s σ H Q I hw =>
 wpAny_mono (h pins s σ H Q (I.wish _) hw) (λ_ _ ⟨H',I',q⟩=>⟨H',I'.jB,q⟩) λ_ _ z=>False.elim z⟩
theorem dj.iI{st:List Stmt}{t:TS}(h:dj X.iI st t):dj X st t:=⟨λpins s σ H D I hw =>
 wpAny_mono (h pins s σ H D (I.wish _) hw) (λ_ _ q=>q.jB) λ_ _ z=>False.elim z⟩
end
section
variable {X:Cx}{st:Stmt}{rest:List Stmt}{t u:TS}{e:Expr}{te:TE}{pos:Pos}
noncomputable def aaD:TS:=λD σ H=>D.nx σ H
noncomputable def K9(t u:TS):TS:=λD σ H=>t {D with nx:=u D } σ H
theorem aaE:dj X [] aaD:=⟨λ_ _ σ H _ I h=>wpAny_execs_nil ⟨σ,H,I,h⟩⟩
theorem La(h1:PS X st t)(h2:dj X rest u):dj X (st::rest) (K9 t u):=by
 refine⟨λpins s σ H D I h=>?_⟩
 refine wpAny_execs_cons (aH (h1 pins s σ H {D with nx:=u D } I h) λf s1 q=>?_)
 cases f with
 |next =>
  obtain⟨σ',H',I',q⟩:=q
  exact h2 pins s1 σ' H' D I' q
 |ret v=>exact q
 |brk=>exact q
 |cont=>exact q
theorem Lb(h1:PS X st t):dj X [st] t:=by
 refine⟨λpins s σ H D I h=>?_⟩
 refine wpAny_execs_cons (aH (h1 pins s σ H D I h) λf s1 q=>?_)
 cases f with
 |next=>exact wpAny_execs_nil q
 |ret v=>exact q
 |brk=>exact q
 |cont=>exact q
theorem Inv.quiet{pins:List (Addr × Obj)}{σ : St}{H:Hp}{s:Shared}(I:Inv X pins σ H s):interactive X.env=false:=by simp[interactive,I.ok.kind]
noncomputable def aaF(te:TE):TS:=λD σ H=>te σ H λ_ H1=>D.nx σ H1
theorem Bx(he:PE X e te)(hs:swapsWith e none pos.line X.env=pure false:=by rfl):PS X (.Expr e pos) (aaF te):=by
 refine⟨λpins s σ H D I h=>?_⟩
 exact wpAny_Expr_any (aH (he pins s σ H _ I h) λv s1 ⟨x,H1,I1,r1,q1⟩=>⟨σ,H1,I1,q1⟩) I.quiet hs
noncomputable def aaG(te:TE):TS:=λD σ H=>te σ H D.rt
theorem Ld(he:PE X e te):PS X (.Return (some e) pos) (aaG te):=by
 refine⟨λpins s σ H D I h=>?_⟩
 exact wpAny_Return_some (aH (he pins s σ H _ I h) λv s1 ⟨x,H1,I1,r1,q1⟩=>⟨x,σ,H1,I1,r1,q1⟩)
noncomputable def aaH(c:TT)(t u:TS):TS:=λD σ H=>c σ H λb H1=>if b=true then t D σ H1 else u D σ H1
theorem aaI{c:Expr}{a b:List Stmt}{tc:TT}(hc:PT X c tc)(ha:dj X a t)(hb:dj X b u):PS X (.If c a b pos) (aaH tc t u):=by
 refine⟨λpins s σ H D I h=>?_⟩
 refine wpAny_If (aH (hc pins s σ H _ I h) λd s1 ⟨H1,I1,q1⟩=>?_)
 cases d with
 |true=>exact ha pins s1 σ H1 D I1 q1
 |false=>exact hb pins s1 σ H1 D I1 q1
end
noncomputable abbrev TG:=V->St->Hp->(St->Hp->Prop)->Prop
noncomputable abbrev oU:=List V->St->Hp->(St->Hp->Prop)->Prop
noncomputable def PG(X:Cx)(target:Expr)(t:TG):Prop :=
 ∀(pins:List (Addr × Obj)) (s:Shared) (σ : St) (H:Hp) (v:V) (u:Value) (Q:St->Hp->Prop),Inv X pins σ H s->RelV v u->t v σ H Q ->
  wpAny (model X.prog X.w) X.A (assign target X.env u) (λ_ s'=>∃σ' H',Inv X pins σ' H' s'/\Q σ' H') X.xe s
noncomputable def mR(X:Cx)(ts:List Expr)(t:oU):Prop :=
 ∀(pins:List (Addr × Obj)) (s:Shared) (σ : St) (H:Hp) (vs:List V) (us:List Value) (Q:St->Hp->Prop),Inv X pins σ H s->Vals vs us->t vs σ H Q ->
  wpAny (model X.prog X.w) X.A (assignInOrder ((assignEach ts X.env).map (·.2)) us) (λ_ s'=>∃σ' H',Inv X pins σ' H' s'/\Q σ' H') X.xe s
noncomputable abbrev BJ:=V->V->V->Hp->(Hp->Prop)->Prop
noncomputable def Le(X:Cx)(t:BJ):Prop :=
 ∀(pins:List (Addr × Obj)) (s:Shared) (σ : St) (H:Hp) (o i v:V) (ov iv u:Value) (Q:Hp->Prop),Inv X pins σ H s->RelV o ov->RelV i iv->RelV v u->t o i v H Q ->
  wpAny (model X.prog X.w) X.A (setItem ov iv u) (λ_ s'=>∃H',Inv X pins σ H' s'/\Q H') X.xe s
section
variable {X:Cx}{pos:Pos}
noncomputable def kW(i:Nat):TG:=λv σ H Q=>Q (σ.set i (some v)) H
theorem aaJ(hN:X.N.Nodup)(hi:X.N[i]?=some x)(hx:Loc X.env.scope x)(hf:X.fn x=true\/X.env.scope.names.lookup x=some .local:=by first|exact .inl rfl|exact .inr rfl|assumption):PG X (.Name x pos) (kW i):=by
 intro pins s σ H v u Q I r h
 exact wpAny_assign_Name (wI I hN hi hx r (λs' I'=>⟨_,H,I',h⟩) hf)
noncomputable def aaK:oU:=λvs σ H Q=>vs=[]/\Q σ H
noncomputable def aaL(t:TG)(u:oU):oU:=λvs σ H Q=>∃v r,vs=v::r/\t v σ H λσ' H'=>u r σ' H' Q
theorem aaM:mR X [] aaK:=by
 intro pins s σ H vs us Q I r h
 obtain⟨e,h⟩:=h
 subst e
 cases r
 exact assignInOrder_nil ⟨σ,H,I,h⟩
theorem aaN{e:Expr}{es:List Expr}{t:TG}{u:oU}(h1:PG X e t)(h2:mR X es u)
  (hs:(assignEach (e::es) X.env).map (·.2)=assign e X.env::(assignEach es X.env).map (·.2):=by rfl):mR X (e::es) (aaL t u):=by
 intro pins s σ H vs us Q I r h
 obtain⟨v,vr,e1,h⟩:=h
 subst e1
 cases r with
 |cons r rr =>
  rw[hs]
  refine assignInOrder_cons (aH (h1 pins s σ H _ _ _ I r h) λ_ s1 ⟨σ1,H1,I1,q1⟩=>?_)
  exact h2 pins s1 σ1 H1 _ _ Q I1 rr q1
noncomputable def aaO(K:PySem.W.Frag)(n:Nat)(t:oU):TG:=λv σ H Q=>∃a xs,v=.ref a/\bx K H a xs/\xs.length=n/\t xs σ H Q
theorem aaP(hc:X.calm=true)(h:mR X es t)
  (hn:(assignEach es X.env).length=n:=by rfl) (hst:(assignEach es X.env).findIdx? (·.1)=none:=by rfl):PG X (.Tuple es k pos) (aaO X.K n t):=by
 intro pins s σ H v u Q I r hw
 obtain⟨a,xs,e1,hq,hl,hw⟩:=hw
 subst e1
 cases r
 obtain⟨its,rv,ht,hz⟩:=I.tuple hq
 refine assign_Tuple_tuple (I.ok.hd hc) ht (by simp[hn,<-hl,rv.length]) hst λh' hx=>?_
 have I1:Inv X pins σ H {s with heap:=h' }:=I.kept (t':=s.toks) λb o e=>hx b o (Nat.ne_of_lt (Heap.lt_size e)) e
 exact h pins _ σ H xs _ Q I1 (by simpa using rv) hw
noncomputable def aaQ(to ti:TE)(t:BJ):TG:=λv σ H Q=>to σ H λo H1=>ti σ H1 λi H2=>t o i v H2 λH3=>Q σ H3
theorem Lf{o i:Expr}{to ti:TE}{t:BJ}(ho:PE X o to)(hi:PE X i ti)(hs:Le X t)
  (ha:∀v,assign (.Subscript o i pos) X.env v=(do
   let ov <-holding [v] (eval o X.env)
   let iv <-holding [v,ov] (eval i X.env)
   standAt pos
   holding [v,ov,iv] (setItem ov iv v)
   release [v,ov,iv] []):=by intro _; rfl):PG X (.Subscript o i pos) (aaQ to ti t):=by
 intro pins s σ H v u Q I r h
 rw[ha]
 refine wpAny_bind (wpAny_holding (aH (ho pins s σ H _ I h) λov s1 ⟨x,H1,I1,r1,q1⟩=>?_))
 refine wpAny_bind (wpAny_holding (aH (hi pins s1 σ H1 _ I1 q1) λiv s2 ⟨y,H2,I2,r2,q2⟩=>?_))
 refine wpAny_bind (wpAny_standAt (wpAny_bind (wpAny_holding (aH (hs pins s2 σ H2 x y v ov iv u _ I2 r1 r2 r q2) λ_ s3 ⟨H3,I3,q3⟩=>?_))))
 exact wpAny_release ⟨σ,H3,I3,q3⟩
noncomputable def kY(te:TE)(g:TG):TS:=λD σ H=>te σ H λx H1=>g x σ H1 D.nx
theorem BK{tg e:Expr}{te:TE}{g:TG}(he:PE X e te)(hg:PG X tg g)(hs:swapsWithSole [tg] e pos.line X.env=pure false:=by rfl)(hw:swappedStores [tg] e X.env=pure none:=by rfl)
  (h1:(assignEach [tg] X.env).map (·.2)=[assign tg X.env]:=by rfl):PS X (.Assign [tg] e pos) (kY te g):=by
 refine⟨λpins s σ H D I h=>?_⟩
 refine wpAny_Assign_stores (aH (he pins s σ H _ I h) λv s1 ⟨x,H1,I1,r1,q1⟩=>?_) hs hw
 rw[h1]
 exact aH (hg pins s1 σ H1 x v _ I1 r1 q1) λ_ s2 q=>q
theorem BL{i:Nat}{x:Str}{e:Expr}{te:TE}{pos':Pos}(hN:X.N.Nodup)(hi:X.N[i]?=some x)(hx:Loc X.env.scope x)(he:PE X e te)(hs:swapsWith e (some (.Name x pos')) pos.line X.env=pure false:=by rfl)(hf:X.fn x=true\/X.env.scope.names.lookup x=some .local:=by first|exact .inl rfl|exact .inr rfl|assumption) :
  PS X (.Assign [.Name x pos'] e pos) (kY te (kW i)):=by
 refine⟨λpins s σ H D I h=>?_⟩
 refine wpAny_Assign_Name (aH (he pins s σ H _ I h) λv s1 ⟨y,H1,I1,r1,q1⟩=>?_) hs
 exact wI I1 hN hi hx r1 (λs2 I2=>⟨_,H1,I2,q1⟩) hf
noncomputable def aaR(i j:Nat)(ta:TA):TS:=λD σ H=>ta σ H λvs H1=>∃v w,vs=[v,w]/\D.nx ((σ.set i (some v)).set j (some w)) H1
theorem aaS{kt k2 BP}(hc:X.calm=true)(hN:X.N.Nodup)(hi:X.N[i]?=some x)(hj:X.N[j]?=some y)(hij:i≠j)
  (hx:X.env.scope.names.lookup x=some .local) (hy:X.env.scope.names.lookup y=some .local) (ha:PA X [a,b] ta)
  (hw:swappedStores [.Tuple [.Name x px,.Name y py] kt pt] (.Tuple [a,b] k2 BP) X.env=pure (some [x,y]))
  (hs:swapsWithSole [.Tuple [.Name x px,.Name y py] kt pt] (.Tuple [a,b] k2 BP) pos.line X.env=pure false:=by rfl) :
  PS X (.Assign [.Tuple [.Name x px,.Name y py] kt pt] (.Tuple [a,b] k2 BP) pos) (aaR i j ta):=by
 refine⟨λpins s σ H D I h=>?_⟩
 rw[exec_Assign_arm]
 refine wpAny_bind (wpAny_standAt ?_)
 rw[hs]
 refine wpAny_bind (wpAny_pure ?_)
 rw[if_neg (by decide)]
 refine wpAny_bind (Tuple_ (aH (ha _ pins s σ H _ I h) λus s1 ⟨vs,H1,I1,r1,q1⟩=>?_))
 obtain⟨v,w,e1,q1⟩:=q1
 subst e1
 obtain⟨u1,u2,rfl,rv,oV⟩:∃u1 u2,us=[u1,u2]/\RelV v u1/\RelV w u2:=by
  cases r1 with
  |cons p q =>
   cases q with
   |cons p' q' =>
    cases q'
    exact⟨_,_,rfl,p,p'⟩
 refine wpAny_newObj_type ?_ (by show 2<=sizeLine; decide)
 have I2:Inv X pins σ H1 {s1 with heap:=s1.heap.push {cls:=.type "tuple",data:=.seq [u1,u2].toArray } }:=I1.kept (t':=s1.toks) λb o e=>Heap.get?_push_of_some _ e
 rw[hw]
 refine wpAny_bind (wpAny_pure ?_)
 show wpAny (model X.prog X.w) X.A (do rule "assign.swapped-stores"; let items <-unpackItems (.ref s1.heap.objs.size) 2 none; assignInOrder [λv=>bindName X.env y v,λv=>bindName X.env x v] items.reverse; pure Flow.next) _ _ _
 refine wpAny_bind (wpAny_rule (wpAny_bind (unpackItems_tuple (items:=#[u1,u2]) (I.ok.hd hc) (IsTup.new s1.heap _) λh' hx'=>?_)))
 have I3:=I2.kept (h':=h') (t':=s1.toks) λb o e=>hx' b o (Nat.ne_of_lt (Heap.lt_size e)) e
 show wpAny _ _ (assignInOrder [λv=>bindName X.env y v,λv=>bindName X.env x v] [u2,u1] >>= λ_=>pure Flow.next) _ _ _
 refine wpAny_bind (assignInOrder_cons (wpAny_bindName (wI I3 hN hj (.inl hy) oV (λs2 I4=>?_) (.inr hy))))
 refine assignInOrder_cons (wpAny_bindName (wI I4 hN hi (.inl hx) rv (λs3 I5=>assignInOrder_nil (wpAny_pure ?_)) (.inr hx)))
 rw[List.set_comm _ _ (Ne.symm hij)]at I5
 exact⟨_,H1,I5,q1⟩
end
section
variable {X:Cx}{pos:Pos}
noncomputable def aaT(c:TT)(tb:TS):TS:=λD σ H=>∃W:Nat->St->Hp->Prop,(∃m,W m σ H)/\∀m σ H,W m σ H ->
 c σ H λb H1=>if b=true then ∃N:St->Hp->Prop,(∀σ' H',N σ' H'->∃m',m'<m/\W m' σ' H')/\tb {D with nx:=N,ct:=N,bk:=D.nx } σ H1 else D.nx σ H1
theorem aaU(hp:PassesOwn (model X.prog X.w) X.A X.env X.xe)(hc:PT X c tc)(hb:dj X body tb):PS X (.While c body [] pos) (aaT tc tb):=by
 refine⟨λpins s σ H D I h=>?_⟩
 obtain⟨W,⟨m0,w0⟩,turn⟩:=h
 refine wpAny_While (codeAny_whileLoop (λn s'=>∃σ' H',Inv X pins σ' H' s'/\W n σ' H') ?_ m0 ⟨σ,H,I,w0⟩)
 rintro n s1 ⟨σ1,H1,I1,w1⟩
 refine wpAny_passesOwn hp (aH (hc pins s1 σ1 H1 _ I1 (turn n σ1 H1 w1)) λb s2 ⟨H2,I2,q2⟩=>?_)
 cases b with
 |true =>
  obtain⟨N,hN,q2⟩:=q2
  rw[if_pos rfl]
  refine wpAny_passesOwn hp (aH (hb pins s2 σ1 H2 _ I2 q2) λf s3 q3=>?_)
  cases f with
  |next =>
   obtain⟨σ3,H3,I3,n3⟩:=q3
   obtain⟨m',hm,w3⟩:=hN σ3 H3 n3
   exact⟨m',hm,σ3,H3,I3,w3⟩
  |cont =>
   obtain⟨σ3,H3,I3,n3⟩:=q3
   obtain⟨m',hm,w3⟩:=hN σ3 H3 n3
   exact⟨m',hm,σ3,H3,I3,w3⟩
  |brk=>exact q3
  |ret v=>exact q3
 |false =>
  rw[if_neg Bool.false_ne_true]
  exact wpAny_execs_nil ⟨σ1,H2,I2,q2⟩
end
structure It where
 go:Nat->Hp->Prop
 kZ:Nat->Hp->V->Hp->Prop
 stop:Nat->Hp->Prop
noncomputable def cL(X:Cx)(pins:List (Addr × Obj))(H:Hp)(b:Addr):Prop :=
 H b=none/\b≠X.env.locals/\b∉X.fs/\(b∈X.ex\/X.s₀.heap.objs.size<=b)/\(∀x c,X.env.cells.lookup x=some c->c≠b)/\∀p∈X.pn++pins,p.1≠b
theorem Inv.jC(I:Inv X pins σ H s)(hb:s.heap.objs.size<=b)(hn:H' b=none):cL X pins H' b:=by
 refine⟨hn,Nat.ne_of_gt (Nat.lt_of_lt_of_le I.lt hb),I.aao hb,.inr (Nat.le_trans I.sz hb),λx c e z=>?_,λp hp z=>?_⟩
 .obtain⟨v,q⟩:=I.cell x c e
  exact absurd (Nat.lt_of_lt_of_le q.lt (by rw[z]; exact hb)) (Nat.lt_irrefl _)
 .exact absurd (Nat.lt_of_lt_of_le (Heap.lt_size (I.pin p hp).1) (by rw[z]; exact hb)) (Nat.lt_irrefl _)
structure Turn(P:Program)(w:World)(K:PySem.W.Frag)(tg:Expr)(J:It)(fp:List Addr)(it:Addr)(tn:Nat->Heap->Prop):Prop where
 mem:it∈fp
 obj:∀i h,tn i h->∀b∈fp,∃o,h.get? b=some o/\∀v,o.data ≠ .cell v
 keep:∀i h h',tn i h->(∀b∈fp,∀o,h.get? b=some o->h'.get? b=some o)->tn i h'
 item:∀(X:Cx),X.prog=P->X.w=w->X.K=K->X.calm=true->∀(i:Nat) (pins:List (Addr × Obj)) (s:Shared) (σ : St) (H:Hp) (E:Value->Shared->Prop),Inv X pins σ H s->(∀b∈fp,cL X pins H b)->tn i s.heap->J.go i H ->
  wpAny (model P w) X.A (pyNext (.ref it)) (λr s1=>∃u,r=some u /\
   wpAny (model P w) X.A (letOwnedTupleGo tg (.ref it) u) (λ_ s2=>∃x H',Inv X pins σ H' s2/\RelV x u/\J.kZ i H x H'/\tn (i+1) s2.heap/\∀b∈fp,H' b=none) E s1) E s
 done:∀(X:Cx),X.prog=P->X.w=w->X.K=K->X.calm=true->∀(i:Nat) (pins:List (Addr × Obj)) (s:Shared) (σ : St) (H:Hp) (E:Value->Shared->Prop),Inv X pins σ H s->(∀b∈fp,cL X pins H b)->tn i s.heap->J.stop i H ->
  wpAny (model P w) X.A (pyNext (.ref it)) (λr s1=>r=none/\Inv X pins σ H s1) E s
 self:∀(A:Around) (i:Nat) (s:Shared) (Q:Value->Shared->Prop) (E:Value->Shared->Prop),tn i s.heap->Q (.ref it) s->wpAny (model P w) A (pyIter (.ref it)) Q E s
noncomputable abbrev TI:=St->Hp->(It->Hp->Prop)->Prop
noncomputable def PIE(X:Cx)(pins:List (Addr × Obj))(σ : St)(tg:Expr)(R:It->Hp->Prop)(itv:Value)(s2:Shared):Prop :=
 ∃(it:Addr) (fp:List Addr) (tn:Nat->Heap->Prop) (J:It) (H':Hp),itv=.ref it/\Inv X pins σ H' s2/\Turn X.prog X.w X.K tg J fp it tn/\tn 0 s2.heap/\(∀b∈fp,cL X pins H' b)/\R J H'
noncomputable def PI(X:Cx)(tg iter:Expr)(wi:TI):Prop :=
 ∀(pins:List (Addr × Obj)) (s:Shared) (σ : St) (H:Hp) (R:It->Hp->Prop),Inv X pins σ H s->wi σ H R ->
  wpAny (model X.prog X.w) X.A (eval iter X.env) (λv s1=>wpAny (model X.prog X.w) X.A (pyIter v) (PIE X pins σ tg R) X.xe s1) X.xe s
theorem BR(ho:s.heap.get? it=some o)(hc:o.cls=.type n)(hd:o.data=.fields vs)
    (hn : ["enumerate", "zip", "dict_itemiterator", "dict_reverseitemiterator", "odict_iterator", "itertools.zip_longest", "itertools.pairwise"].contains n=false) (hQ:Q () s):wpAny M A (letOwnedTupleGo tg (.ref it) u) Q E s:=by
  unfold letOwnedTupleGo
  cases tg <;> first
    |exact wpAny_pure hQ
    | (cases u <;> first
        |exact wpAny_pure hQ
        | (refine wpAny_bind (wpAny_load ho ?_)
           rw[hc,hd]
           show wpAny M A (if(["enumerate", "zip", "dict_itemiterator", "dict_reverseitemiterator", "odict_iterator", "itertools.zip_longest", "itertools.pairwise"].contains n&&vs[0]? == some (rawInt _))=true then _ else _) Q E s
           rw[if_neg (by intro h; rw[hn,Bool.false_and]at h; cases h)]
           exact wpAny_pure hQ))
noncomputable def BW(K:PySem.W.Frag)(a:Addr):It :=
 ⟨λi H=>∃xs x,aG K H a xs/\xs[i]?=some x,λi H x H'=>H'=H/\∀xs,aG K H a xs->xs[i]?=some x,λi H=>∃xs,aG K H a xs/\xs.length<=i⟩
noncomputable def BX(K:PySem.W.Frag)(a:Addr):It :=
 ⟨λi H=>∃xs x,bx K H a xs/\xs[i]?=some x,λi H x H'=>H'=H/\∀xs,bx K H a xs->xs[i]?=some x,λi H=>∃xs,bx K H a xs/\xs.length<=i⟩
noncomputable def wN(lo:Int)(n:Nat):It:=⟨λi _=>i<n,λi H x H'=>H'=H/\x=.int (lo+i),λi _=>n<=i⟩
theorem aaV{P:Program}{w:World}{K:PySem.W.Frag}{tg:Expr}(a it:Addr):Turn P w K tg (BW K a) [it] it (λi h=>h.IsListIter it a i) where
 mem:=by simp
 obj:=λi h st b hb=>by
  have e:b=it:=by simpa using hb
  subst e
  obtain⟨o,e,c,d⟩:=st
  exact⟨o,e,λv z=>by rw[d]at z; cases z⟩
 keep:=λi h h' st k=>st.at λo e=>k it (by simp) o e
 item:=by
  intro X hP hw hK hc i pins s σ H E I hf st hg
  subst hP hw hK
  obtain⟨xs,x,hq,hx⟩:=hg
  obtain⟨its,rv,p,hz⟩:=I.list hq
  obtain⟨u,hu,ru⟩:=rv.get hx
  obtain⟨f0,f1,f2,f3,f4,f5⟩:=hf it (by simp)
  refine wpAny_pyNext_list_item st p.isList (x:=u) (by simpa using hu) λh' st' sb=>?_
  have I1:Inv X pins σ H {s with heap:=h' }:=I.turned (t':=s.toks) (λb o hb e=>(sb.2 b hb).trans e) f0 f1 f3 f4 f5
  obtain⟨o,e,c,d⟩:=id st'
  exact⟨u,rfl,BR (s:={s with heap:=h' }) e c d (by decide) ⟨x,H,I1,ru,⟨rfl,λys hy=>by rw[I.mQ hy hq]; exact hx⟩,st',λb hb=>(hf b hb).1⟩⟩
 done:=by
  intro X hP hw hK hc i pins s σ H E I hf st hg
  subst hP hw hK
  obtain⟨xs,hq,hx⟩:=hg
  obtain⟨its,rv,p,hz⟩:=I.list hq
  obtain⟨f0,f1,f2,f3,f4,f5⟩:=hf it (by simp)
  have hl:=rv.length
  exact wpAny_pyNext_list_end (I.ok.hd hc) st p.isList (by simp; lia) λh' eb=>⟨rfl,I.turned (t':=s.toks) (λb o hb e=>eb b o hb e) f0 f1 f3 f4 f5⟩
 self:=λ_ _ _ _ _ st h=>wpAny_pyIter_listiter st h
theorem aaW{P:Program}{w:World}{K:PySem.W.Frag}{tg:Expr}(a it:Addr):Turn P w K tg (BX K a) [it] it (λi h=>h.IsTupleIter it a i) where
 mem:=by simp
 obj:=λi h st b hb=>by
  have e:b=it:=by simpa using hb
  subst e
  obtain⟨o,e,c,d⟩:=st
  exact⟨o,e,λv z=>by rw[d]at z; cases z⟩
 keep:=λi h h' st k=>st.at λo e=>k it (by simp) o e
 item:=by
  intro X hP hw hK hc i pins s σ H E I hf st hg
  subst hP hw hK
  obtain⟨xs,x,hq,hx⟩:=hg
  obtain⟨its,rv,p,hz⟩:=I.tuple hq
  obtain⟨u,hu,ru⟩:=rv.get hx
  obtain⟨f0,f1,f2,f3,f4,f5⟩:=hf it (by simp)
  refine wpAny_pyNext_tuple_item st (show s.heap.IsTuple a its.toArray from p) (x:=u) (by simpa using hu) λh' st' sb=>?_
  have I1:Inv X pins σ H {s with heap:=h' }:=I.turned (t':=s.toks) (λb o hb e=>(sb.2 b hb).trans e) f0 f1 f3 f4 f5
  obtain⟨o,e,c,d⟩:=id st'
  exact⟨u,rfl,BR (s:={s with heap:=h' }) e c d (by decide) ⟨x,H,I1,ru,⟨rfl,λys hy=>by rw[I.K8 hy hq]; exact hx⟩,st',λb hb=>(hf b hb).1⟩⟩
 done:=by
  intro X hP hw hK hc i pins s σ H E I hf st hg
  subst hP hw hK
  obtain⟨xs,hq,hx⟩:=hg
  obtain⟨its,rv,p,hz⟩:=I.tuple hq
  obtain⟨f0,f1,f2,f3,f4,f5⟩:=hf it (by simp)
  have hl:=rv.length
  exact wpAny_pyNext_tuple_end (I.ok.hd hc) st (show s.heap.IsTuple a its.toArray from p) (by simp; lia) λh' eb=>⟨rfl,I.turned (t':=s.toks) (λb o hb e=>eb b o hb e) f0 f1 f3 f4 f5⟩
 self:=λ_ _ _ _ _ st h=>wpAny_pyIter_tupleiter st h
theorem aaX{P:Program}{w:World}{K:PySem.W.Frag}{tg:Expr}(it:Addr)(lo:Int)(n:Nat):Turn P w K tg (wN lo n) [it] it (λi h=>IsRangeIter h it (lo+(i:Nat)*1) ((n:Int)-(i:Nat)) 1) where
 mem:=by simp
 obj:=λi h st b hb=>by
  have e:b=it:=by simpa using hb
  subst e
  exact⟨_,st,λv z=>by
   have z':Data.fields _=Data.cell v:=z
   cases z'⟩
 keep:=λi h h' st k=>k it (by simp) _ st
 item:=by
  intro X hP hw hK hc i pins s σ H E I hf st hg
  subst hP hw hK
  obtain⟨f0,f1,f2,f3,f4,f5⟩:=hf it (by simp)
  have W:=Walks.range (prog:=X.prog) (w:=X.w) (I.ok.hd hc) it lo 1 n
  refine W.item i s _ _ hg st λv h' tk hv st' kk=>?_
  obtain⟨t,rfl⟩:=hv
  have I1:Inv X pins σ H {s with heap:=h',toks:=tk }:=I.turned (λb o hb e=>kk b o (by simpa using hb) e) f0 f1 f3 f4 f5
  refine⟨_,rfl,BR (s:={s with heap:=h',toks:=tk }) (n := "range_iterator") st' rfl rfl (by decide) ⟨.int (lo+i),H,I1,⟨t,?_⟩,⟨rfl,rfl⟩,st',λb hb=>(hf b hb).1⟩⟩
  rw[Int.mul_one]
 done:=by
  intro X hP hw hK hc i pins s σ H E I hf st hg
  subst hP hw hK
  obtain⟨f0,f1,f2,f3,f4,f5⟩:=hf it (by simp)
  exact wpAny_pyNext_range_end (I.ok.hd hc) st (by have:n<=i:=hg; lia) λh' eb=>⟨rfl,I.turned (t':=s.toks) (λb o hb e=>eb b o hb e) f0 f1 f3 f4 f5⟩
 self:=λ_ _ _ _ _ st h=>wpAny_pyIter_rangeiter st h
section
variable {X:Cx}{tg:Expr}
noncomputable def Lg(K:PySem.W.Frag)(tl:TE):TI:=λσ H R=>tl σ H λx H1=>∃a,x=.ref a/\(∃xs,aG K H1 a xs)/\R (BW K a) H1
noncomputable def Lh(K:PySem.W.Frag)(tl:TE):TI:=λσ H R=>tl σ H λx H1=>∃a,x=.ref a/\(∃xs,bx K H1 a xs)/\R (BX K a) H1
theorem aaY{l:Expr}{tl:TE}(hl:PE X l tl):PI X tg l (Lg X.K tl):=by
 intro pins s σ H R I h
 refine aH (hl pins s σ H _ I h) λv s1 ⟨x,H1,I1,r1,q1⟩=>?_
 obtain⟨a,e,⟨xs,hq⟩,q⟩:=q1
 subst e
 cases r1
 obtain⟨its,rv,p,hz⟩:=I1.list hq
 refine wpAny_pyIter_list p.isList ?_
 refine⟨s1.heap.objs.size,[s1.heap.objs.size],_,_,H1,rfl,I1.kept (t':=s1.toks) λb o e=>Heap.get?_push_of_some _ e,aaV a _,⟨_,Heap.get?_push_size _ rfl,rfl,rfl⟩,λb hb=>?_,q⟩
 have e:b=s1.heap.objs.size:=by simpa using hb
 subst e
 exact I1.jC (Nat.le_refl _) (I1.hok.fresh (Nat.le_refl _))
theorem aaZ{l:Expr}{tl:TE}(hl:PE X l tl):PI X tg l (Lh X.K tl):=by
 intro pins s σ H R I h
 refine aH (hl pins s σ H _ I h) λv s1 ⟨x,H1,I1,r1,q1⟩=>?_
 obtain⟨a,e,⟨xs,hq⟩,q⟩:=q1
 subst e
 cases r1
 obtain⟨its,rv,p,hz⟩:=I1.tuple hq
 refine wpAny_pyIter_tuple (show s1.heap.IsTuple a its.toArray from p) ?_
 refine⟨s1.heap.objs.size,[s1.heap.objs.size],_,_,H1,rfl,I1.kept (t':=s1.toks) λb o e=>Heap.get?_push_of_some _ e,aaW a _,⟨_,Heap.get?_push_size _ rfl,rfl,rfl⟩,λb hb=>?_,q⟩
 have e:b=s1.heap.objs.size:=by simpa using hb
 subst e
 exact I1.jC (Nat.le_refl _) (I1.hok.fresh (Nat.le_refl _))
theorem aa0{pins:List (Addr × Obj)}{σ : St}{H:Hp}{s:Shared}{R:It->Hp->Prop}{E:Value->Shared->Prop}{lo hi:Int}{t u v:Tok}{tk:Nat}(I:Inv X pins σ H s)(h1 : -(2 ^ 62)<=lo)(h2:lo<2 ^ 62)(h3 : -(2 ^ 62)<=hi)(h4:hi<2 ^ 62)
  (q:R (wN lo (hi-lo).toNat) H):wpAny (model X.prog X.w) X.A (pyIter (.ref s.heap.objs.size)) (PIE X pins σ tg R) E {s with heap:=s.heap.push {cls:=.type "range",data:=.fields #[.int lo t,.int hi u,.int 1 v] },toks:=tk }:=by
 refine wpAny_pyIter_range (IsRange.new ..) (small_one h1 h2 h3 h4) ?_
 have I1:Inv X pins σ H {s with heap:=s.heap.push {cls:=.type "range",data:=.fields #[.int lo t,.int hi u,.int 1 v] },toks:=tk }:=I.kept λb o e=>Heap.get?_push_of_some _ e
 refine⟨(s.heap.push {cls:=.type "range",data:=.fields #[.int lo t,.int hi u,.int 1 v] }).objs.size,[(s.heap.push {cls:=.type "range",data:=.fields #[.int lo t,.int hi u,.int 1 v] }).objs.size],_,_,H,rfl,
  I1.kept (t':=tk) λb o e=>Heap.get?_push_of_some _ e,aaX _ lo (hi-lo).toNat,?_,λb hb=>?_,q⟩
 .have e1:lo+((0:Nat):Int)*1=lo:=by simp
  have e2:(((hi-lo).toNat:Nat):Int)-((0:Nat):Int)=Builtin.Range.rangeSize lo hi 1:=by rw[rangeSize_one]; split <;> lia
  show IsRangeIter _ _ (lo+((0:Nat):Int)*1) ((((hi-lo).toNat:Nat):Int)-((0:Nat):Int)) 1
  rw[e1,e2]
  exact Heap.get?_push_size _ rfl
 .have e:b=(s.heap.push {cls:=.type "range",data:=.fields #[.int lo t,.int hi u,.int 1 v] }).objs.size:=by simpa using hb
  subst e
  exact I1.jC (Nat.le_refl _) (I1.hok.fresh (Nat.le_refl _))
noncomputable def aa1(ta:TA):TI:=λσ H R=>ta σ H λvs H1=>∃j:Int,vs=[.int j] /\ -(2 ^ 62)<=j/\j<2 ^ 62/\R (wN 0 j.toNat) H1
theorem aa2{a:Expr}{ta:TA}{p pos:Pos}(hg:Gl X "range") (hm:X.mg "range" = none) (ha:PA X [a] ta) (hs:starEach [a] X.env=[(false,eval a X.env)]:=by rfl):PI X tg (.Call (.Name "range" p) [a] [] pos) (aa1 ta):=by
 intro pins s σ H R I h
 refine Call_ (kO I hg hm boot_range (PyProof.Rows.callWith_type1 (aH (ha pos pins s σ H _ I h) λus s1 ⟨vs,H1,I1,r1,q1⟩=>?_) hs rfl))
 obtain⟨j,e,q1,q2,q⟩:=q1
 subst e
 cases r1 with
 |cons r rr =>
  cases rr
  obtain⟨t,rfl⟩:=r
  exact call_range_1 (aa0 I1 (by lia) (by lia) q1 q2 (by simpa using q))
noncomputable def aa3(wi:TI)(g:TG)(tb:TS):TS:=λD σ H=>wi σ H λJ H1=>∃W:Nat->Nat->St->Hp->Prop,(∃m,W 0 m σ H1)/\∀i m σ H,W i m σ H ->
 (J.stop i H/\D.nx σ H)\/(J.go i H/\∃N:St->Hp->Prop,(∀σ' H',N σ' H'->∃m',m'<m/\W (i+1) m' σ' H')/\∀x H',J.kZ i H x H'->g x σ H' λσ2 H2=>tb {D with nx:=N,ct:=N,bk:=D.nx } σ2 H2)
noncomputable def wQ(fp:List Addr)(h:Heap):List (Addr × Obj):=fp.filterMap λb=>(h.get? b).map λo=>(b,o)
theorem qp(hb:b∈fp)(e:h.get? b=some o):(b,o)∈wQ fp h:=List.mem_filterMap.mpr ⟨b,hb,by rw[e]; rfl⟩
theorem aa4(hp:p∈wQ fp h):p.1∈fp/\h.get? p.1=some p.2:=by
 obtain⟨b,hb,e⟩:=List.mem_filterMap.mp hp
 cases q:h.get? b with
 |none=>rw[q]at e; cases e
 |some o =>
  rw[q]at e
  have e':(b,o)=p:=Option.some.inj e
  subst e'
  exact⟨hb,q⟩
theorem Inv.pinned(I:Inv X pins σ H s)(hf:∀b∈fp,cL X pins H b)(ho:∀b∈fp,∃o,s.heap.get? b=some o/\∀v,o.data ≠ .cell v):Inv X (pins++wQ fp s.heap) σ H s :=
 I.wH λp hp=>(List.mem_append.mp hp).elim (λz=>I.pin p (List.mem_append_right _ z)) λz=>by
  obtain⟨hb,e⟩:=aa4 z
  obtain⟨f0,f1,f2,_⟩:=hf p.1 hb
  obtain⟨o,e',d⟩:=ho p.1 hb
  rw[e]at e'; cases e'
  exact⟨e,f0,f1,f2,d⟩
theorem Inv.sU(I:Inv X (pins++pl) σ H s):Inv X pins σ H s:=I.wH λp hp=>I.pin p (List.mem_append_right _ (List.mem_append_left _ hp))
theorem aa5(hp:PassesOwn (model X.prog X.w) X.A X.env X.xe)(hc:X.calm=true)(hi:PI X tg iter wi)(hg:PG X tg g)(hb:dj X body tb)
  (hs:∀x,foldedSetIterable iter X.env x=pure x:=by intro _; rfl):PS X (.For tg iter body [] pos) (aa3 wi g tb):=by
 refine⟨λpins s σ H D I h=>?_⟩
 refine wpAny_For (aH (hi pins s σ H _ I h) λv s1 h1=>aH h1 λitv s2 h2=>?_) hs
 obtain⟨it,fp,tn,J,H2,e,I2,T,st2,f2,W,⟨m0,w0⟩,turn⟩:=h2
 subst e
 -- what stays true of the iterator's objects through the loop
 have stat:∀{H':Hp},(∀b∈fp,H' b=none)->∀b∈fp,cL X pins H' b:=λhn b hb=>⟨hn b hb,(f2 b hb).2⟩
 refine codeAny_forLoop_any (λn s'=>∃i σ' H',Inv X pins σ' H' s'/\tn i s'.heap/\(∀b∈fp,H' b=none)/\W i n σ' H') ?_ m0 ⟨0,σ,H2,I2,st2,λb hb=>(f2 b hb).1,w0⟩
 rintro n s3 ⟨i,σ3,H3,I3,st3,Li,w3⟩
 rcases turn i n σ3 H3 w3 with⟨stop,qn⟩|⟨go,N,hN,step⟩
 .refine wpAny_passesOwn hp (aH (T.done X rfl rfl rfl hc i pins s3 σ3 H3 X.xe I3 (stat Li) st3 stop) λr s4 ⟨hr,I4⟩=>?_)
  subst hr
  exact wpAny_execs_nil ⟨σ3,H3,I4,qn⟩
 .refine wpAny_passesOwn hp (aH (T.item X rfl rfl rfl hc i pins s3 σ3 H3 X.xe I3 (stat Li) st3 go) λr s4 ⟨u,hr,h4⟩=>?_)
  subst hr
  refine wpAny_passesOwn hp (aH h4 λ_ s5 ⟨x,H5,I5,r5,y5,mJ,wR⟩=>?_)
  have I5':=I5.pinned (stat wR) (T.obj _ _ mJ)
  refine wpAny_passesOwn hp (aH (hg _ s5 σ3 H5 x u _ I5' r5 (step x H5 y5)) λ_ s6 ⟨σ6,H6,I6,q6⟩=>?_)
  refine wpAny_passesOwn hp (aH (hb _ s6 σ6 H6 _ I6 q6) λf s7 q7=>?_)
  have again:∀{σ7:St} {H7:Hp},Inv X (pins++wQ fp s5.heap) σ7 H7 s7->N σ7 H7->∃m,m<n/\∃i σ' H',Inv X pins σ' H' s7/\tn i s7.heap/\(∀b∈fp,H' b=none)/\W i m σ' H':=λ{σ7 H7} I7 n7=>by
   obtain⟨m',hm,w7⟩:=hN σ7 H7 n7
   refine⟨m',hm,i+1,σ7,H7,I7.sU,T.keep _ _ _ mJ λb hb o e=>(I7.pin (b,o) (List.mem_append_right _ (List.mem_append_right _ (qp hb e)))).1,λb hb=>?_,w7⟩
   obtain⟨o,e,d⟩:=T.obj _ _ mJ b hb
   exact(I7.pin (b,o) (List.mem_append_right _ (List.mem_append_right _ (qp hb e)))).2.1
  cases f with
  |next=>obtain⟨σ7,H7,I7,n7⟩:=q7; exact again I7 n7
  |cont=>obtain⟨σ7,H7,I7,n7⟩:=q7; exact again I7 n7
  |brk=>obtain⟨σ7,H7,I7,q7⟩:=q7; exact⟨σ7,H7,I7.sU,q7⟩
  |ret v=>obtain⟨x7,σ7,H7,I7,r7,q7⟩:=q7; exact⟨x7,σ7,H7,I7.sU,r7,q7⟩
end
noncomputable abbrev R2:=V->V->Hp->VK->Prop
noncomputable def bh(X:Cx)(f:Value->Value->Sem Value)(r:R2):Prop :=
 ∀(pins:List (Addr × Obj)) (s:Shared) (σ : St) (H:Hp) (x y:V) (v u:Value) (Q:VK),Inv X pins σ H s->RelV x v->RelV y u->r x y H Q ->
  wpAny (model X.prog X.w) X.A (f v u) (EP X pins σ Q) X.xe s
noncomputable def BZ(X:Cx)(f:Value->Sem Value)(r:V->Hp->VK->Prop):Prop :=
 ∀(pins:List (Addr × Obj)) (s:Shared) (σ : St) (H:Hp) (x:V) (v:Value) (Q:VK),Inv X pins σ H s->RelV x v->r x H Q ->
  wpAny (model X.prog X.w) X.A (f v) (EP X pins σ Q) X.xe s
noncomputable def fP(X:Cx)(f:Value)(r:List V->Hp->VK->Prop):Prop :=
 ∀(pins:List (Addr × Obj)) (s:Shared) (σ : St) (H:Hp) (xs:List V) (us:List Value) (Q:VK),Inv X pins σ H s->Vals xs us->r xs H Q ->
  wpAny (model X.prog X.w) X.A (call f us) (EP X pins σ Q) X.xe s
noncomputable def aa6(X:Cx)(r:V->Hp->(Bool->Hp->Prop)->Prop):Prop :=
 ∀(pins:List (Addr × Obj)) (s:Shared) (σ : St) (H:Hp) (x:V) (v:Value) (Q:Bool->Hp->Prop),Inv X pins σ H s->RelV x v->r x H Q ->
  wpAny (model X.prog X.w) X.A (truthy v) (TP X pins σ Q) X.xe s
noncomputable def sV(r:R2)(ta tb:TE):TE:=λσ H Q=>ta σ H λx H1=>tb σ H1 λy H2=>r x y H2 Q
noncomputable def Lj(r:V->Hp->VK->Prop)(ta:TE):TE:=λσ H Q=>ta σ H λx H1=>r x H1 Q
noncomputable def rI(C:Int->Int->Prop)(g:Int->Int->V):R2:=λx y H Q=>∃i j,x=.int i/\y=.int j/\C i j/\Q (g i j) H
noncomputable def dH(g:Int->Int->V):R2:=λx y H Q=>∃i j,x=.int i/\y=.int j/\Q (g i j) H
noncomputable def rU(g:Int->V):V->Hp->VK->Prop:=λx H Q=>∃i,x=.int i/\Q (g i) H
section
variable {X:Cx}{a b c:Expr}{ta tb tc:TE}{pos:Pos}
theorem Ca(ha:PE X a ta)(hb:PE X b tb){pins:List (Addr × Obj)}{s:Shared}{σ : St}{H:Hp}{R:V->V->Hp->Prop}(I:Inv X pins σ H s)
  (h:ta σ H λx H1=>tb σ H1 λy H2=>R x y H2) {Q:Value->Shared->Prop} {f:Value->Value->Sem Value}
  (hf:∀v u s2 x y H2,Inv X pins σ H2 s2->RelV x v->RelV y u->R x y H2->wpAny (model X.prog X.w) X.A (f v u) Q X.xe s2) :
  wpAny (model X.prog X.w) X.A (eval a X.env) (λv s₁=>wpAny (model X.prog X.w) X.A (eval b X.env) (λu s₂=>wpAny (model X.prog X.w) X.A (f v u) Q X.xe s₂) X.xe s₁) X.xe s:=by
 refine aH (ha pins s σ H _ I h) λv s1 ⟨x,H1,I1,r1,q1⟩=>?_
 refine aH (hb pins s1 σ H1 _ I1 q1) λu s2 ⟨y,H2,I2,r2,q2⟩=>?_
 exact hf v u s2 x y H2 I2 r1 r2 q2
theorem wU{op:Operator}{r:R2}(ho:bh X (binaryOp op) r)(ha:PE X a ta)(hb:PE X b tb):PE X (.BinOp a op b pos) (sV r ta tb):=by
 refine⟨λpins s σ H Q I h=>?_⟩
 exact wpAny_BinOp (Ca ha hb I h λv u s2 x y H2 I2 rx ry q=>ho pins s2 σ H2 x y v u Q I2 rx ry q)
theorem Cd(ho:BZ X (unaryOp op) r)(ha:PE X a ta):PE X (.UnaryOp op a pos) (Lj r ta):=by
 refine⟨λpins s σ H Q I h=>?_⟩
 exact UnaryOp_ (aH (ha pins s σ H _ I h) λv s1 ⟨x,H1,I1,r1,q1⟩=>ho pins s1 σ H1 x v Q I1 r1 q1)
theorem sX{f:Value->Value->Sem Value}{C:Int->Int->Prop}{g:Int->Int->Int}
  (rule:∀(i j:Int) (t u:Tok) (s:Shared) (Q:Value->Shared->Prop) (E:Value->Shared->Prop),C i j->Q (.int (g i j) s.toks) {s with toks:=s.toks+1 }->wpAny (model X.prog X.w) X.A (f (.int i t) (.int j u)) Q E s) :
  bh X f (rI C λi j=>.int (g i j)):=by
 intro pins s σ H x y v u Q I rx ry h
 obtain⟨i,j,rfl,rfl,hc,q⟩:=h
 obtain⟨t,rfl⟩:=rx
 obtain⟨t',rfl⟩:=ry
 exact rule i j t t' s _ _ hc ⟨.int (g i j),H,I.tok _,⟨_,rfl⟩,q⟩
theorem Ce{f:Value->Value->Sem Value}{g:Int->Int->Int}
  (rule:∀(i j:Int) (t u:Tok) (s:Shared) (Q:Value->Shared->Prop) (E:Value->Shared->Prop),Q (.int (g i j) s.toks) {s with toks:=s.toks+1 }->wpAny (model X.prog X.w) X.A (f (.int i t) (.int j u)) Q E s) :
  bh X f (dH λi j=>.int (g i j)):=by
 intro pins s σ H x y v u Q I rx ry h
 obtain⟨i,j,rfl,rfl,q⟩:=h
 obtain⟨t,rfl⟩:=rx
 obtain⟨t',rfl⟩:=ry
 exact rule i j t t' s _ _ ⟨.int (g i j),H,I.tok _,⟨_,rfl⟩,q⟩
theorem wV{f:Value->Value->Sem Value}{g:Int->Int->Bool}
  (rule:∀(i j:Int) (t u:Tok) (s:Shared) (Q:Value->Shared->Prop) (E:Value->Shared->Prop),Q (.bool (g i j)) s->wpAny (model X.prog X.w) X.A (f (.int i t) (.int j u)) Q E s) :
  bh X f (dH λi j=>.bl (g i j)):=by
 intro pins s σ H x y v u Q I rx ry h
 obtain⟨i,j,rfl,rfl,q⟩:=h
 obtain⟨t,rfl⟩:=rx
 obtain⟨t',rfl⟩:=ry
 exact rule i j t t' s _ _ ⟨.bl (g i j),H,I,rfl,q⟩
noncomputable def wW(i j:Int):Prop:=0<=j/\j<=1000000/\i.natAbs<2 ^ 64
noncomputable def Ln(i j:Int):Prop:=(-(2 ^ 64)<i/\i<2 ^ 64)\/(-(2 ^ 64)<j/\j<2 ^ 64)
theorem Ln.ok{i j:Int}(h:Ln i j):IntMulOk i j:=by
 rcases h with⟨h1,h2⟩|⟨h1,h2⟩
 .exact .of_left (intBits_le_64 h1 h2)
 .exact .of_right (intBits_le_64 h1 h2)
theorem aa7(k:Nat):(0:Int)<=2 ^ k:=by
 rw[two_pow_cast]
 exact Int.natCast_nonneg _
theorem Lp:bh X (binaryOp .Add) (dH λi j=>.int (i+j)):=Ce λ_ _ _ _ _ _ _ q=>add_int q
theorem Lr:bh X (binaryOp .Sub) (dH λi j=>.int (i-j)):=Ce λ_ _ _ _ _ _ _ q=>sub_int q
theorem aa8:bh X (binaryOp .Mod) (rI (λ_ j=>j≠0) λi j=>.int (i.fmod j)):=sX λ_ _ _ _ _ _ _ hc q=>mod_int' hc q
theorem Ls:bh X (binaryOp .Pow) (rI wW λi j=>.int (i ^ j.toNat)):=sX λ_ _ _ _ _ _ _ hc q=>pow_int_small hc.1 hc.2.1 hc.2.2 q
theorem aa9:bh X (binaryOp .RShift) (rI (λ_ j=>0<=j) λi j=>.int (i / 2 ^ j.toNat)):=sX λi j _ _ _ _ _ hc q =>
 rshift_int hc (by rw[Int.fdiv_eq_ediv_of_nonneg i (aa7 _)]; exact q)
theorem abb:bh X (binaryOp .BitAnd) (dH λi j=>.int (Builtin.bitAnd i j)):=Ce λ_ _ _ _ _ _ _ q=>and_int q
theorem unI{f:Value->Sem Value}{g:Int->Int}
  (rule:∀(i:Int) (t:Tok) (s:Shared) (Q:Value->Shared->Prop) (E:Value->Shared->Prop),Q (.int (g i) s.toks) {s with toks:=s.toks+1 }->wpAny (model X.prog X.w) X.A (f (.int i t)) Q E s) :
  BZ X f (rU λi=>.int (g i)):=by
 intro pins s σ H x v Q I rx h
 obtain⟨i,rfl,q⟩:=h
 obtain⟨t,rfl⟩:=rx
 exact rule i t s _ _ ⟨.int (g i),H,I.tok _,⟨_,rfl⟩,q⟩
theorem Cg:BZ X (unaryOp .USub) (rU λi=>.int (-i)):=unI λ_ _ _ _ _ q=>neg_int q
end
section
variable {X:Cx}{a b c:Expr}{ta tb tc:TE}{pos:Pos}
theorem Lw(I:Inv X pins σ H s)(q:Q (.bl k) H)(e:k=k'):EP X pins σ Q (.bool k') s:=by
 subst e
 exact⟨.bl k,H,I,rfl,q⟩
theorem abd:bh X (compareOp .Lt) (dH λi j=>.bl (decide (i<j))):=wV λ_ _ _ _ _ _ _ q=>lt_int q
theorem abe:bh X (compareOp .LtE) (dH λi j=>.bl (decide (i<=j))):=wV λ_ _ _ _ _ _ _ q=>le_int q
theorem abf:bh X (compareOp .Gt) (dH λi j=>.bl (decide (j<i))):=wV λ_ _ _ _ _ _ _ q=>gt_int q
theorem abg:bh X (compareOp .GtE) (dH λi j=>.bl (decide (j<=i))):=wV λ_ _ _ _ _ _ _ q=>ge_int q
theorem abh:bh X (compareOp .Is) (λx y H Q=>y=.non/\Q (.bl (decide (x=.non))) H):=by
 intro pins s σ H x y v u Q I rx ry h
 obtain⟨rfl,q⟩:=h
 cases ry
 refine is_none_gen (Lw I q ?_)
 cases x <;> first
  |(cases rx; rfl)
  |(obtain⟨t,rfl⟩:=rx; rfl)
theorem abj:bh X (compareOp .IsNot) (λx y H Q=>y=.non/\Q (.bl (!decide (x=.non))) H):=by
 intro pins s σ H x y v u Q I rx ry h
 obtain⟨rfl,q⟩:=h
 cases ry
 refine isnot_none_gen (Lw I q ?_)
 cases x <;> first
  |(cases rx; rfl)
  |(obtain⟨t,rfl⟩:=rx; rfl)
theorem bh.or(h:bh X f r)(h':bh X f r'):bh X f (λx y H Q=>r x y H Q\/r' x y H Q):=by
 intro pins s σ H x y v u Q I rx ry q
 rcases q with q|q
 .exact h pins s σ H x y v u Q I rx ry q
 .exact h' pins s σ H x y v u Q I rx ry q
theorem abk{op:CmpOp}{r:R2}(ho:bh X (compareOp op) r)(ha:PE X a ta)(hb:PE X b tb)(hm:behindInMarks op b=false):PE X (.Compare a [op] [b] pos) (sV r ta tb):=by
 refine⟨λpins s σ H Q I h=>?_⟩
 exact wpAny_Compare1 (Ca ha hb I h λv u s2 x y H2 I2 rx ry q=>ho pins s2 σ H2 x y v u Q I2 rx ry q) hm
noncomputable def mU(t:TE):TT:=λσ H Q=>t σ H λx H'=>∃k,x=.bl k/\Q k H'
theorem abl(ho:bh X (compareOp op) r)(ha:PE X a ta)(hb:PE X b tb)(hm:behindInMarks op b=false):PT X (.Compare a [op] [b] pos) (mU (sV r ta tb)):=by
 refine⟨λpins s σ H Q I h=>?_⟩
 refine wpAny_isTrue_Compare1 (aH (ha pins s σ H _ I h) λv s1 ⟨x,H1,I1,r1,q1⟩=>aH (hb pins s1 σ H1 _ I1 q1) λu s2 ⟨y,H2,I2,r2,q2⟩ =>
  aH (ho pins s2 σ H2 x y v u _ I2 r1 r2 q2) λc s3 ⟨z,H3,I3,r3,k,e,q3⟩=>?_) hm
 subst e
 cases r3
 exact wpAny_truthy_bool ⟨H3,I3,q3⟩
noncomputable def Ci(r r':R2)(ta tb tc:TE):TE:=λσ H Q=>ta σ H λx H1=>tb σ H1 λy H2=>r x y H2 λz H3=>∃k,z=.bl k /\
 (if k=true then tc σ H3 λw' H4=>r' y w' H4 Q else Q (.bl false) H3)
theorem abm(ho:bh X (compareOp op) r)(ho':bh X (compareOp op') r')(ha:PE X a ta)(hb:PE X b tb)(hc:PE X c tc)
  (hm:lastMarks [op,op'] [b,c]=false:=by with_unfolding_all rfl):PE X (.Compare a [op,op'] [b,c] pos) (Ci r r' ta tb tc):=by
 refine⟨λpins s σ H Q I h=>?_⟩
 refine Compare_chain (aH (ha pins s σ H _ I h) λv s1 ⟨x,H1,I1,r1,q1⟩=>chain_link (aH (hb pins s1 σ H1 _ I1 q1) λu s2 ⟨y,H2,I2,r2,q2⟩ =>
  aH (ho pins s2 σ H2 x y v u _ I2 r1 r2 q2) λd s3 ⟨z,H3,I3,r3,k,e,q3⟩=>?_)) hm
 subst e
 cases r3
 refine wpAny_truthy_bool ?_
 cases k with
 |false=>exact ite_ff ⟨.bl false,H3,I3,rfl,q3⟩
 |true=>exact ite_tt (chain_last (aH (hc pins s3 σ H3 _ I3 q3) λw' s4 ⟨z',H4,I4,r4,q4⟩=>ho' pins s4 σ H4 y z' u w' Q I4 r2 r4 q4))
theorem abn(ho:bh X (compareOp op) r)(ho':bh X (compareOp op') r')(ha:PE X a ta)(hb:PE X b tb)(hc:PE X c tc)
  (hm:lastMarks [op,op'] [b,c]=false:=by with_unfolding_all rfl):PT X (.Compare a [op,op'] [b,c] pos) (mU (Ci r r' ta tb tc)):=by
 refine⟨λpins s σ H Q I h=>?_⟩
 refine isTrue_chain (aH (ha pins s σ H _ I h) λv s1 ⟨x,H1,I1,r1,q1⟩=>test_link (aH (hb pins s1 σ H1 _ I1 q1) λu s2 ⟨y,H2,I2,r2,q2⟩ =>
  aH (ho pins s2 σ H2 x y v u _ I2 r1 r2 q2) λd s3 ⟨z,H3,I3,r3,k,e,q3⟩=>?_)) hm
 subst e
 cases r3
 refine wpAny_truthy_bool ?_
 cases k with
 |false =>
  obtain⟨k',e',q'⟩:=q3
  cases e'
  exact ite_ff ⟨H3,I3,q'⟩
 |true =>
  refine ite_tt (test_last (aH (hc pins s3 σ H3 _ I3 q3) λw' s4 ⟨z',H4,I4,r4,q4⟩=>aH (ho' pins s4 σ H4 y z' u w' _ I4 r2 r4 q4) λd' s5 ⟨z2,H5,I5,r5,k2,e2,q5⟩=>?_))
  subst e2
  cases r5
  exact wpAny_truthy_bool ⟨H5,I5,q5⟩
noncomputable def Cj(K:PySem.W.Frag)(x:V)(H:Hp)(k:Bool):Prop :=
 match x with
 |.non=>k=false
 |.bl b=>k=b
 |.int i=>k=(i != 0)
 |.str y=>y.length<=sizeLine/\k=((y.length:Int) != 0)
 |.sE y=>y.size<=sizeLine/\k=((y.size:Int) != 0)
 |.ref p=>(∃xs,aG K H p xs/\k = !xs.isEmpty)\/(∃xs,bx K H p xs/\k = !xs.isEmpty)
 |_=>False
theorem Ly{xs:List V}{its:List Value}(r:Vals xs its):(!its.toArray.isEmpty) = !xs.isEmpty:=by
 cases r <;> simp
theorem oW:(sizeLine:Nat)<2 ^ 63:=by rw[sizeLine_eq]; decide
theorem abo:aa6 X (λx H Q=>∃k,Cj X.K x H k/\Q k H):=by
 intro pins s σ H x v Q I rx h
 obtain⟨k,e,q⟩:=h
 have hl:=oW
 have hs:sizeLine=16777216:=sizeLine_eq
 cases x with
 |non =>
  cases rx
  have e':k=false:=e
  subst e'
  exact truthy_none ⟨H,I,q⟩
 |bl b =>
  cases rx
  have e':k=b:=e
  subst e'
  exact wpAny_truthy_bool ⟨H,I,q⟩
 |int i =>
  obtain⟨t,rfl⟩:=rx
  have e':k=(i != 0):=e
  subst e'
  exact PySem.P.truthy_int ⟨H,I,q⟩
 |str y =>
  obtain⟨t,rfl⟩:=rx
  obtain⟨hy,e'⟩:y.length<=sizeLine/\k=((y.length:Int) != 0):=e
  subst e'
  exact PySem.P.truthy_str (by lia) ⟨H,I.tok _,q⟩
 |sE y =>
  obtain⟨t,rfl⟩:=rx
  obtain⟨hy,e'⟩:y.size<=sizeLine/\k=((y.size:Int) != 0):=e
  subst e'
  exact PySem.W.truthy_bytes (by lia) ⟨H,I.tok _,q⟩
 |ref p =>
  cases rx
  have e':(∃xs,aG X.K H p xs/\k = !xs.isEmpty)\/(∃xs,bx X.K H p xs/\k = !xs.isEmpty):=e
  rcases e' with⟨xs,hx,e'⟩|⟨xs,hx,e'⟩
  .subst e'
   obtain⟨its,r,pl,hz⟩:=I.list hx
   have hlen:=r.length
   exact wpAny_truthy_list pl.isList (by simp only[List.size_toArray]; lia) ⟨H,I.tok _,by rw[Ly r]; exact q⟩
  .subst e'
   obtain⟨its,r,pl,hz⟩:=I.tuple hx
   have hlen:=r.length
   exact truthy_tuple pl (by simp only[List.size_toArray]; lia) ⟨H,I.tok _,by rw[Ly r]; exact q⟩
 |_=>exact(show False from e).elim
theorem abp(ha:PE X a ta)(he:∀whole,isTrue a X.env whole=(do let v <-whole; standAt a.pos; holding [v] (truthy v))) :
  PT X a (λσ H Q=>ta σ H λx H'=>∃k,Cj X.K x H' k/\Q k H'):=by
 refine⟨λpins s σ H Q I h=>?_⟩
 exact isTrue_plain (aH (ha pins s σ H _ I h) λv s1 ⟨x,H1,I1,r1,q1⟩=>abo pins s1 σ H1 x v Q I1 r1 q1) (he _)
theorem abq:bh X (binaryOp .Add) (λx y H Q=>∃i j,x=.str i/\y=.str j/\i.length+j.length<=sizeLine/\Q (.str (i++j)) H):=by
 intro pins s σ H x y v u Q I rx ry h
 obtain⟨i,j,rfl,rfl,hz,q⟩:=h
 obtain⟨t,rfl⟩:=rx
 obtain⟨t',rfl⟩:=ry
 exact add_str (λt' tk=>⟨.str (i++j),H,I.tok _,⟨_,rfl⟩,q⟩) hz
theorem vals1(r:Vals [x] us):∃u,us=[u]/\RelV x u:=by
 cases r with
 |cons r1 r2=>cases r2; exact⟨_,rfl,r1⟩
theorem vals2(r:Vals [x,y] us):∃u w',us=[u,w']/\RelV x u/\RelV y w':=by
 cases r with
 |cons r1 r2 =>
  cases r2 with
  |cons r3 r4=>cases r4; exact⟨_,_,rfl,r1,r3⟩
theorem abr:fP X (.builtin "abs") (λxs H Q=>∃i,xs=[.int i]/\Q (.int (if i<0 then -i else i)) H):=by
 intro pins s σ H xs us Q I r h
 obtain⟨i,rfl,q⟩:=h
 obtain⟨u,rfl,t,rfl⟩:=vals1 r
 exact call_abs_int λu tk=>⟨.int (if i<0 then -i else i),H,I.tok _,⟨_,rfl⟩,q⟩
theorem abt:fP X (.type "int") (λxs H Q=>(∃i,xs=[.int i]/\Q (.int i) H)\/∃k,xs=[.bl k]/\Q (.int (if k then 1 else 0)) H):=by
 intro pins s σ H xs us Q I r h
 rcases h with⟨i,rfl,q⟩|⟨k,rfl,q⟩
 .obtain⟨u,rfl,t,rfl⟩:=vals1 r
  exact call_int_int ⟨.int i,H,I,⟨_,rfl⟩,q⟩
 .obtain⟨u,rfl,r1⟩:=vals1 r
  cases r1
  exact call_int_bool ⟨.int (if k then 1 else 0),H,I.tok _,⟨_,rfl⟩,q⟩
end
structure Cls(K:PySem.W.Frag)(C:Addr):Prop where
 pg:PySem.W.plainGet K C Str.empty=true
 hd:PySem.W.hasDictIn K C=true
 po:PySem.W.plainOver K C=true
 sa:PySem.W.findIn K (.ref C) "__setattr__" = some (some (.builtin "object.__setattr__"))
theorem Cls.get{K:PySem.W.Frag}{C:Addr}(c:Cls K C)(f:Str):PySem.W.plainGet K C f=true:=c.pg
structure cR(k:Nat)(A:Around):Prop where
 hd:A.handled=none
 dp:A.depth+3*k+5<recursionLimit
 un:A.units+16*k+200<cLine
 gd:A.guards=some []:=by rfl
theorem cR.mono(r:cR k A)(h:j<=k):cR j A:=⟨r.hd,by have:=r.dp; lia,by have:=r.un; lia,r.gd⟩
theorem cR.deeper(r:cR (k+1) A)(env:Env):cR k (A.deeper env) :=
 ⟨r.hd,by have:=r.dp; show A.depth+1+3*k+5<_; lia,by have:=r.un; show A.units+3+16*k+200<_; lia,r.gd⟩
theorem cR.in1(r:cR (k+1) A):cR k A.in1 :=
 ⟨r.hd,by have:=r.dp; show A.depth+3*k+5<_; lia,by have:=r.un; show A.units+1+16*k+200<_; lia,r.gd⟩
theorem cR.depth(r:cR k A):A.depth<recursionLimit:=by have:=r.dp; lia
theorem cR.units(r:cR k A):A.units+64<cLine:=by have:=r.un; lia
noncomputable def Lz:TA:=λ_ H Q=>Q [] H
noncomputable def Ck(ta:TE)(tr:TA):TA:=λσ H Q=>ta σ H λx H1=>tr σ H1 λxs H2=>Q (x::xs) H2
section
variable {X:Cx}{e:Expr}{es:List Expr}{te:TE}{t:TA}{pos:Pos}
theorem sY:PA X [] Lz:=⟨λ_ _ _ _ H Q I h=>Calls.spliced_nil ⟨[],H,I,.nil,h⟩⟩
theorem qu(ha:PE X e te)(hr:PA X es t)(hs:starEach (e::es) X.env=(false,eval e X.env)::starEach es X.env:=by rfl):PA X (e::es) (Ck te t):=by
 refine⟨λpos pins s σ H Q I h=>?_⟩
 rw[hs]
 show wpAny _ _ (spliced ((false,eval e X.env)::backTo pos (starEach es X.env))) _ _ s
 refine Calls.spliced_cons (aH (ha pins s σ H _ I h) λu s1 ⟨x,H1,I1,r1,q1⟩=>?_)
 exact aH (hr pos pins s1 σ H1 _ I1 q1) λus s2 ⟨xs,H2,I2,r2,q2⟩=>⟨x::xs,H2,I2,.cons r1 r2,q2⟩
noncomputable def abu(t:TA):TE:=λσ H Q=>t σ H λxs H1=>xs.length<=sizeLine/\∀p,H1 p=none->Q (.ref p) (upd H1 p (.tup xs))
noncomputable def abv(t:TA):TE:=λσ H Q=>t σ H λxs H1=>xs.length<=sizeLine/\∀p,H1 p=none->Q (.ref p) (upd H1 p (.lst xs))
theorem LC{x1}(h:PA X es t):PE X (.Tuple es x1 pos) (abu t):=by
 refine⟨λpins s σ H Q I hq=>?_⟩
 refine wpAny_Tuple_spliced (aH (h pos pins s σ H _ I hq) λus s1 ⟨xs,H1,I1,r,z,q⟩=>⟨by rw[<-r.length]; exact z,?_⟩)
 have hf:H1 s1.heap.objs.size=none:=I1.hok.fresh (Nat.le_refl _)
 refine⟨.ref s1.heap.objs.size,upd H1 s1.heap.objs.size (.tup xs),I1.laid (t':=s1.toks) (λb u e=>Heap.get?_push_of_some _ e) (Nat.le_refl _) ?_,rfl,q _ hf⟩
 exact⟨z,us,r,⟨_,Heap.get?_push_size _ rfl,rfl,_,rfl⟩⟩
theorem LK(h:PA X es t):PE X (.List es pos) (abv t):=by
 refine⟨λpins s σ H Q I hq=>?_⟩
 refine wpAny_List_spliced (aH (h pos pins s σ H _ I hq) λus s1 ⟨xs,H1,I1,r,z,q⟩=>⟨by rw[<-r.length]; exact z,?_⟩)
 have hf:H1 s1.heap.objs.size=none:=I1.hok.fresh (Nat.le_refl _)
 refine⟨.ref s1.heap.objs.size,upd H1 s1.heap.objs.size (.lst xs),I1.laid (t':=s1.toks) (λb u e=>Heap.get?_push_of_some _ e) (Nat.le_refl _) ?_,rfl,q _ hf⟩
 exact⟨z,us,0,r,Heap.get?_push_size _ rfl⟩
end
noncomputable abbrev Sp:=List V->Hp->VK->XK->Prop
noncomputable abbrev gj:=List Env->Hp->Shared->XK->Value->Shared->Prop
structure oX(P:Program)(w:World)(K:PySem.W.Frag)(mg:Str->Option Value)(base:Heap)(A:Around)(outer:List Env)(s:Shared)(H:Hp):Prop where
 frames:A.frames=some outer
 mod:Mod K mg base
 bs:∀b o,base.get? b=some o->s.heap.get? b=some o/\H b=none
 jT:base.objs.size<=s.heap.objs.size
 iH:s.heap.FunFrames base outer
 mL:∀b∈frs outer,H b=none
 hok:cA P w H s.heap
 bare:AllBare s.gens
noncomputable def CE(outer:List Env)(P:Program)(w:World)(H:Hp)(s:Shared)(Q:VK)(u:Value)(s':Shared):Prop :=
 ∃v H',s'.os=s.os/\AllBare s'.gens/\Un (frs outer) [] H H' s.heap s'.heap/\cA P w H' s'.heap/\RelV v u/\Q v H'
noncomputable def CR(CX:gj)(outer:List Env)(P:Program)(w:World)(H:Hp)(s:Shared)(Q:VK)(E:XK)(r:Result)(s':Shared):Prop :=
 match r with
 |.ok (.ret u)=>CE outer P w H s Q u s'
 |.ok _=>False
 |.error e=>CX outer H s E e s'
structure gq(P:Program)(w:World)(K:PySem.W.Frag)(mg:Str->Option Value)(base:Heap)(CX:gj)(k:Nat)(f:Addr)(fd:FuncData)(ps:List Str)(sp:Sp):Prop where
 len:∀vs H Q E,sp vs H Q E->vs.length=ps.length
 run:∀(A:Around) (outer:List Env) (s:Shared) (H:Hp) (args:Args) (us:List Value) (vs:List V) (Q:VK) (E:XK),cR k A->oX P w K mg base A outer s H->BindsTo s fd args (ps.zip us)->Vals vs us->sp vs H Q E ->
  codeAny (model P w) A (.call (.ref f) args) (CR CX outer P w H s Q E) s
theorem gq.mono{P:Program}{w:World}{K:PySem.W.Frag}{mg:Str->Option Value}{base:Heap}{CX:gj}{j k:Nat}{f:Addr}{fd:FuncData}{ps:List Str}{sp:Sp}(F:gq P w K mg base CX j f fd ps sp)(h:j<=k) :
  gq P w K mg base CX k f fd ps sp:=⟨F.len,λA outer s H args us vs Q E hr=>F.run A outer s H args us vs Q E (hr.mono h)⟩
theorem gq.imp{P:Program}{w:World}{K:PySem.W.Frag}{mg:Str->Option Value}{base:Heap}{CX:gj}{k:Nat}{f:Addr}{fd:FuncData}{ps:List Str}{sp LQ:Sp}(F:gq P w K mg base CX k f fd ps sp)
  (h:∀vs H Q E,LQ vs H Q E->sp vs H Q E):gq P w K mg base CX k f fd ps LQ :=
 ⟨λvs H Q E q=>F.len vs H Q E (h _ _ _ _ q),λA outer s H args us vs Q E hr he hb hv hs=>F.run A outer s H args us vs Q E hr he hb hv (h _ _ _ _ hs)⟩
theorem oX.in1{P:Program}{w:World}{K:PySem.W.Frag}{mg:Str->Option Value}{base:Heap}{A:Around}{outer:List Env}{s:Shared}{H:Hp}(e:oX P w K mg base A outer s H) :
  oX P w K mg base A.in1 outer s H:=⟨e.frames,e.mod,e.bs,e.jT,e.iH,e.mL,e.hok,e.bare⟩
section
variable {X:Cx}{pins:List (Addr × Obj)}{σ : St}{H:Hp}{s s':Shared}
theorem Inv.env0(I:Inv X pins σ H s):oX X.prog X.w X.K X.mg X.base X.A X.stack s H :=
 ⟨I.ok.frames,I.ok.mod,I.bs,Nat.le_trans I.ok.jT I.sz,I.stack,I.wC,I.hok,I.bare⟩
theorem Inv.after(I:Inv X pins σ H s)(h:CE X.stack X.prog X.w H s Q u s'):EP X pins σ Q u s':=by
 obtain⟨v,H',os,bare,un,hok,r,q⟩:=h
 obtain⟨hh,g,d,t,os'⟩:=s'
 obtain rfl:os'=s.os:=os
 exact⟨v,H',I.call (h':=hh) (g':=g) (d':=d) (t':=t) (ch:=[]) un hok bare (λb z=>absurd z (by simp)),r,q⟩
end
noncomputable def Cm(sp:Sp)(mV:List V)(E:XK)(t:TA):TE:=λσ H Q=>t σ H λvs H1=>sp (vs++mV) H1 Q E
noncomputable def Binds(K:PySem.W.Frag)(fd:FuncData)(ps:List Str)(ds:List Value):Prop :=
 ∀(s:Shared) (us:List Value),K.In s.heap->(us++ds).length=ps.length->BindsTo s fd ⟨us,[]⟩ (ps.zip (us++ds))
theorem Binds.all{K:PySem.W.Frag}{fd:FuncData}{ps:List Str}(h:∀us:List Value,us.length=ps.length->bindArgs fd ⟨us,[]⟩=pure (ps.zip us)):Binds K fd ps []:=λs us _ hl=>by
 rw[List.append_nil]at hl ⊢
 exact .of_eq (h us hl)
noncomputable def Passes(CX:gj)(X:Cx)(E:XK):Prop:=∀(pins:List (Addr × Obj)) (σ : St) (H:Hp) (s:Shared) (e:Value) (s':Shared),Inv X pins σ H s->CX X.stack H s E e s'->X.xe e s'
section
variable {X:Cx}{CX:gj}{k:Nat}{f C:Addr}{fd:FuncData}{ps:List Str}{sp:Sp}{mV:List V}{ds:List Value}{E:XK}{x m:Str}{p pos apos:Pos}{e o:Expr}{es:List Expr}{ta:TE}{t:TA}
theorem abw(F:gq X.prog X.w X.K X.mg X.base CX k f fd ps sp)(hr:cR k X.A)(hb:Binds X.K fd ps ds)(hd:Vals mV ds)(hx:Passes CX X E)
  (I:Inv X pins σ H s) (r:Vals vs us) (h:sp (vs++mV) H Q E):wpAny (model X.prog X.w) X.A (call (.ref f) us) (EP X pins σ Q) X.xe s:=by
 have r2:Vals (vs++mV) (us++ds):=r.append hd
 have hl:(us++ds).length=ps.length:=by rw[<-r2.length]; exact F.len _ _ _ _ h
 refine wpAny_call (codeAny_mono (F.run X.A X.stack s H ⟨us,[]⟩ (us++ds) (vs++mV) Q E hr I.env0 (hb s us I.gU hl) r2 h) λr s' hq=>?_)
 cases r with
 |error e=>exact hx pins σ H s e s' I hq
 |ok fl =>
  cases fl with
  |ret u=>exact I.after hq
  |next=>exact False.elim hq
  |brk=>exact False.elim hq
  |cont=>exact False.elim hq
theorem LR(F:gq X.prog X.w X.K X.mg X.base CX k f fd ps sp)(hr:cR k X.A)(hg:Gl X x)(hm:X.mg x=some (.ref f))(hk:PySem.W.keepIn X.K (.ref f)=true)(hb:Binds X.K fd ps ds)(hd:Vals mV ds)(hx:Passes CX X E)
  (ha:PA X (e::es) t) (hdb:(x == ("__debug__" : Str))=false:=by decide) (he:starEach (e::es) X.env=(false,eval e X.env)::starEach es X.env:=by rfl) (hpl:(backTo pos (starEach es X.env)).any (·.1)=false:=by rfl) :
  PE X (.Call (.Name x p) (e::es) [] pos) (Cm sp mV E t):=by
 refine⟨λpins s σ H Q I h=>?_⟩
 refine wpAny_Call_Name_kw (Bw I hg hm ?_ hdb)
 refine PySem.W.callWith_K (h₀ := X.base) I.ok.mod.Bv hk (aH (ha pos pins s σ H _ I h) λus s1 ⟨vs,H1,I1,r,q⟩=>⟨I1.gU,?_⟩) he hpl
 exact abw F hr hb hd hx I1 r q
end
structure oY(N P:List Str)(sc:Scope):Prop where
 kind:sc.kind=.function
 co:sc.isCoroutine=false
 gen:sc.isGenerator=false
 nd:N.Nodup
 pre:N.take P.length=P
 par:∀x∈P,sc.names.lookup x=some .local\/sc.names.lookup x=some .cell
 abx:∀y∈sc.names,y.2 ≠ .free
theorem Ma{kindOf:Str->Option NameKind}{x:Str}:∀{binds:List (Str × Value)} {m:Str->Option Value},(∀v,(x,v)∉binds)->bindL kindOf binds m x=m x
 | [],_,_=>rfl
 |(n,v)::r,m,h=>by
  unfold bindL
  rw[Ma λw hw=>h w (List.mem_cons_of_mem _ hw)]
  split
  .have:x≠n:=by rintro rfl; exact h v List.mem_cons_self
   simp[this]
  .rfl
theorem Mf{kindOf:Str->Option NameKind}{x:Str}:∀{binds:List (Str × Value)} {m:Str->Option Value},(∀v,(x,v)∉binds)->bindC kindOf binds m x=m x
 | [],_,_=>rfl
 |(n,v)::r,m,h=>by
  unfold bindC
  rw[Mf λw hw=>h w (List.mem_cons_of_mem _ hw)]
  split
  .rfl
  .have:x≠n:=by rintro rfl; exact h v List.mem_cons_self
   simp[this]
theorem Mg{kindOf:Str->Option NameKind}{x:Str}{v:Value}:∀{P:List Str} {vs:List Value} {i:Nat} {m:Str->Option Value},P.Nodup->P[i]?=some x->vs[i]?=some v->kindOf x=some .local ->
  bindL kindOf (P.zip vs) m x=some v
 | [],_,_,_,_,h,_,_=>by simp at h
 |_::_,[],_,_,_,_,h,_=>by simp at h
 |p::P,w::vs,0,m,nd,h1,h2,hk=>by
  simp at h1 h2; subst h1; subst h2
  show bindL kindOf ((p,w)::P.zip vs) m p=_
  unfold bindL
  rw[Ma λv hv=>(List.nodup_cons.mp nd).1 (List.of_mem_zip hv).1,if_pos hk]
  simp
 |p::P,w::vs,i+1,m,nd,h1,h2,hk=>by
  show bindL kindOf ((p,w)::P.zip vs) m x=_
  unfold bindL
  exact Mg (i:=i) (List.nodup_cons.mp nd).2 (by simpa using h1) (by simpa using h2) hk
theorem Mh{kindOf:Str->Option NameKind}{x:Str}{v:Value}:∀{P:List Str} {vs:List Value} {i:Nat} {m:Str->Option Value},P.Nodup->P[i]?=some x->vs[i]?=some v->kindOf x≠some .local ->
  bindC kindOf (P.zip vs) m x=some v
 | [],_,_,_,_,h,_,_=>by simp at h
 |_::_,[],_,_,_,_,h,_=>by simp at h
 |p::P,w::vs,0,m,nd,h1,h2,hk=>by
  simp at h1 h2; subst h1; subst h2
  show bindC kindOf ((p,w)::P.zip vs) m p=_
  unfold bindC
  rw[Mf λv hv=>(List.nodup_cons.mp nd).1 (List.of_mem_zip hv).1,if_neg hk]
  simp
 |p::P,w::vs,i+1,m,nd,h1,h2,hk=>by
  show bindC kindOf ((p,w)::P.zip vs) m x=_
  unfold bindC
  exact Mh (i:=i) (List.nodup_cons.mp nd).2 (by simpa using h1) (by simpa using h2) hk
noncomputable def start(N:List Str)(vs:List V):St:=vs.map some++List.replicate (N.length-vs.length) none
noncomputable def gA(CX:gj)(P:Program)(w:World)(K:PySem.W.Frag)(mg:Str->Option Value)(base:Heap)(N:List Str)(qual:Str)(scope:Scope)(f:Addr)(cd:Value)(A:Around)(outer:List Env)(s:Shared)(H:Hp)(E:XK):Cx where
 prog:=P
 w:=w
 K:=K
 mg:=mg
 base:=base
 A:=A.deeper (envOfC qual scope s.heap.objs.size f cd)
 N:=N
 s₀ := s
 H₀ := H
 env:=envOfC qual scope s.heap.objs.size f cd
 outer:=outer
 stack:=envOfC qual scope s.heap.objs.size f cd::outer
 ex:=[]
 calm:=true
 fn:=λ_=>true
 pn:=[]
 xe:=λe s'=>wpAny (model P w) (A.deeper (envOfC qual scope s.heap.objs.size f cd)) (leaving (envOfC qual scope s.heap.objs.size f cd) e) (λ_ s''=>CX outer H s E e s'') (λe' s''=>CX outer H s E e' s'') s'
theorem Mi{sc:Scope}{n:Nat}{x:Str}(h:sc.names.lookup x=some .cell):∃c,(cellsFrom n sc.names []).lookup x=some c:=by
 have q:=PySem.W.cellsFrom_some sc.names n [] (.inl h)
 exact Option.isSome_iff_exists.mp q
theorem aby{CX:gj}{P:Program}{w:World}{K:PySem.W.Frag}{mg:Str->Option Value}{base:Heap}{N ps:List Str}{qual:Str}{scope:Scope}{f:Addr}{cd:Value}{A:Around}{outer:List Env}{s s1:Shared}{H:Hp}{E:XK}{us:List Value}{vs:List V}
  (S:oY N ps scope) (hd:A.handled=none) (e0:oX P w K mg base A outer s H) (hl:vs.length=ps.length) (r:Vals vs us)
  (x:InCallC s s.heap.objs.size (bindL (envOfC qual scope s.heap.objs.size f cd).kindOf (ps.zip us) λ_=>none) (cellsFrom (s.heap.objs.size+1) scope.names []) (bindC (envOfC qual scope s.heap.objs.size f cd).kindOf (ps.zip us) λ_=>none) s1) :
  Inv (gA CX P w K mg base N qual scope f cd A outer s H E) [] (start N vs) H s1:=by
 have hpl:ps.length<=N.length:=by have:=congrArg List.length S.pre; rw[List.length_take]at this; lia
 obtain⟨h1,tk,rfl,hk⟩:=x.done
 have tu:∀b:Addr,b∉(gA CX P w K mg base N qual scope f cd A outer s H E).ex:=λb z=>absurd (show b∈([]:List Addr)from z) (by simp)
 refine⟨⟨e0.mod,S.kind,rfl,rfl,Nat.le_refl _,λy z c h1 h2=>?_,λy hy=>?_,λy c _ h=>?_,λ_=>hd,Around.frames_deeper e0.frames,.inr ⟨rfl,rfl⟩,λb z=>absurd z (tu b),e0.bs,e0.jT,λb _ _=>tu b,λb z=>absurd z (tu b),e0.iH,e0.mL⟩,
  rfl,e0.bare,Un.kept hk,⟨_,x.toInCall.ns,λi y v h1 h2 h3=>?_⟩,λy c h=>⟨_,x.cell y c h⟩,e0.hok.fresh (Nat.le_refl _),λy c h=>?_,λp hp=>absurd (show p∈([]:List (Addr × Obj))from hp) (by simp),e0.hok.kept hk,?_⟩
 .exact name_of_addr x.apart (PySem.mem_of_lookup h1) (PySem.mem_of_lookup h2)
 .have hy:scope.names.lookup y=some .cell\/scope.names.lookup y=some .free:=hy
  rcases hy with hy|hy
  .exact Mi hy
  .exact absurd rfl (S.abx _ (PySem.mem_of_lookup hy))
 .exact Nat.le_of_lt (x.above y c (PySem.mem_of_lookup h))
 .have hi:i<vs.length:=by
   unfold start at h2
   by_cases hi:i<vs.length
   .exact hi
   .rw[List.getElem?_append_right (by simpa using hi)]at h2
    rw[List.getElem?_replicate]at h2
    split at h2 <;> cases h2
  have ha:vs[i]?=some v:=by
   unfold start at h2
   rw[List.getElem?_append_left (by simpa using hi),List.getElem?_map]at h2
   cases e:vs[i]? with
   |none=>rw[e]at h2; cases h2
   |some a=>rw[e]at h2; cases h2; rfl
  obtain⟨u,hu,rv⟩:=r.get ha
  have hp:ps[i]?=some y:=by
   rw[<-S.pre,List.getElem?_take_of_lt (by lia)]; exact h1
  have Mj:ps.Nodup:=by rw[<-S.pre]; exact S.nd.sublist (List.take_sublist _ _)
  refine⟨u,rv,?_⟩
  rcases S.par y (List.mem_of_getElem? hp)with k|k
  .exact .inl ⟨k,Mg Mj hp hu k⟩
  .obtain⟨c,e⟩:=Mi (n:=s.heap.objs.size+1) k
   refine .inr ⟨.inl k,c,e,?_⟩
   have q:=x.cell y c e
   rw[Mh Mj hp hu (by show scope.names.lookup y≠_; rw[k]; decide)]at q
   exact q
 .exact e0.hok.fresh (Nat.le_of_lt (x.above y c (PySem.mem_of_lookup h)))
 .unfold start
  show _=N.length
  rw[List.length_append,List.length_map,List.length_replicate]
  lia
theorem Cp{CX:gj}{P:Program}{w:World}{K:PySem.W.Frag}{mg:Str->Option Value}{base:Heap}{k:Nat}{f:Addr}{name qual:Str}{params:Arguments}{body:List Stmt}{scope:Scope}{dV kV doc pm cdv ct oc:Value}{an od:Option Addr}
  {osl:Array (Option Value)} {N ps:List Str} {sp:Sp} (lk:K.lookup f=some ⟨oc,od,.func (PySem.W.fnOf name qual params body scope dV kV doc pm an cdv ct),osl⟩) (hcd:PySem.W.codeIn K cdv qual=true) (S:oY N ps scope)
  (len:∀vs H Q E,sp vs H Q E->vs.length=ps.length)
  (hbody:∀(A:Around) (outer:List Env) (s:Shared) (H:Hp) (vs:List V) (Q:VK) (E:XK),cR k (A.deeper (envOfC qual scope s.heap.objs.size f cdv))->sp vs H Q E ->
   ∃t,dj (gA CX P w K mg base N qual scope f cdv A outer s H E) body t/\t {nx:=λ_ H'=>Q .non H',rt:=Q } (start N vs) H) :
  gq P w K mg base CX (k+1) f (PySem.W.fnOf name qual params body scope dV kV doc pm an cdv ct) ps sp:=by
 refine⟨len,λA outer s H args us vs Q E hr e0 hb r hsp=>?_⟩
 have hl:=len _ _ _ _ hsp
 have KX:K.In s.heap:=e0.mod.Bv.keeps λb o e=>(e0.bs b o e).1
 have lim:s.heap.NoLimit:=e0.mod.nolimit.keeps λb o e=>(e0.bs b o e).1
 have hkind:∀y∈ps.zip us,scope.names.lookup y.1=some .local\/(scope.names.lookup y.1=some .cell/\((cellsFrom (s.heap.objs.size+1) scope.names []).lookup y.1).isSome=true):=λ⟨n,v⟩ hy=>by
  rcases S.par n (List.of_mem_zip hy).1 with q|q
  .exact .inl q
  .exact .inr ⟨q,PySem.W.cellsFrom_some _ _ _ (.inl q)⟩
 refine codeAny_call_function hr.depth (KX _ _ lk) rfl S.co S.gen rfl (PySem.W.codeRec_of KX hcd) (hb _ _ _ _ ?_)
 refine wpAny_newFunctionEnv_cells S.kind hkind λenv he s1 x=>?_
 subst he
 refine⟨lim.keeps x.toInCall.keep,codeAny_func ?_⟩
 obtain⟨t,ht,hq⟩:=hbody A outer s H vs Q E (hr.deeper _) hsp
 have I:Inv (gA CX P w K mg base N qual scope f cdv A outer s H E) [] (start N vs) H s1:=aby S hr.hd e0 hl r x
 refine wpAny_mono (ht [] s1 (start N vs) H _ I hq) (λfl s' hs=>?_) λe s' hs=>hs
 have fin:∀{σ':St} {H':Hp} {v:V} {u:Value},Inv (gA CX P w K mg base N qual scope f cdv A outer s H E) [] σ' H' s'->RelV v u->Q v H'->CE outer P w H s Q u s' :=
  λ{σ' H' v u} J rv q=>⟨v,H',J.os,J.bare,J.base,J.hok,rv,q⟩
 cases fl with
 |ret u =>
  obtain⟨v,σ',H',J,rv,q⟩:=hs
  exact fin J rv q
 |next =>
  obtain⟨σ',H',J,q⟩:=hs
  exact fin (v:=V.non) (u:=Value.none) J rfl q
 |brk =>
  obtain⟨_,_,_,q⟩:=hs
  exact False.elim q
 |cont =>
  obtain⟨_,_,_,q⟩:=hs
  exact False.elim q
section
variable {X:Cx}{x:Str}{p pos:Pos}{e:Expr}{es:List Expr}{t:TA}{id T:String}{r:List V->Hp->VK->Prop}
noncomputable def wX(r:List V->Hp->VK->Prop)(t:TA):TE:=λσ H Q=>t σ H λvs H1=>r vs H1 Q
theorem Ml(hc:fP X (.builtin id) r)(hg:Gl X x)(hm:X.mg x=none)(hv:bootBuiltins x=some (.builtin id))(ha:PA X (e::es) t)(hn:x ≠ "__name__" := by decide) (hdb:(x == ("__debug__" : Str))=false:=by decide)
  (he:starEach (e::es) X.env=(false,eval e X.env)::starEach es X.env:=by rfl) (hpl:(backTo pos (starEach es X.env)).any (·.1)=false:=by rfl):PE X (.Call (.Name x p) (e::es) [] pos) (wX r t):=by
 refine⟨λpins s σ H Q I h=>?_⟩
 refine wpAny_Call_Name_kw (kO I hg hm hv ?_ hn hdb)
 exact PyProof.Rows.callWith_builtin1 (aH (ha pos pins s σ H _ I h) λus s1 ⟨vs,H1,I1,r1,q1⟩=>hc pins s1 σ H1 vs us Q I1 r1 q1) he hpl
theorem abz(hc:fP X (.type T) r)(hg:Gl X x)(hm:X.mg x=none)(hv:bootBuiltins x=some (.type T))(ha:PA X (e::es) t)(hn:x ≠ "__name__" := by decide) (hdb:(x == ("__debug__" : Str))=false:=by decide)
  (he:starEach (e::es) X.env=(false,eval e X.env)::starEach es X.env:=by rfl) (hpl:(backTo pos (starEach es X.env)).any (·.1)=false:=by rfl):PE X (.Call (.Name x p) (e::es) [] pos) (wX r t):=by
 refine⟨λpins s σ H Q I h=>?_⟩
 refine wpAny_Call_Name_kw (kO I hg hm hv ?_ hn hdb)
 exact PyProof.Rows.callWith_type1 (aH (ha pos pins s σ H _ I h) λus s1 ⟨vs,H1,I1,r1,q1⟩=>hc pins s1 σ H1 vs us Q I1 r1 q1) he hpl
end
end L2
namespace HT
open PySem PyProof.Rows
noncomputable def lexLt:List Int->List Int->Bool
 | [],[]=>false
 | [],_::_=>true
 |_::_,[]=>false
 |x::xs,y::ys=>if x=y then lexLt xs ys else decide (x<y)
theorem abA(x y:Int)(xs ys:List Int):lexLt (x::xs) (y::ys)=if x=y then lexLt xs ys else decide (x<y):=rfl
theorem abB:lexLt [] []=false:=rfl
theorem abC(y:Int)(ys:List Int):lexLt [] (y::ys)=true:=rfl
theorem abD(x:Int)(xs:List Int):lexLt (x::xs) []=false:=rfl
theorem abE(A:Around)(s:Shared)(a:Int)(t:Tok)(c:Int)(u:Tok):∃e,SeqAt.EqAt A s (.int a t) (.int c u) e/\(e=true↔a=c) :=
 ⟨(a == c),SeqAt.EqAt.int_int a t c u,by simp⟩
theorem abF(A:Around)(s:Shared)(a:Int)(t:Tok)(c:Int)(u:Tok)(prog:Program)(w:World)(E:Value->Shared->Prop)(Q:Value->Shared->Prop)(h:Q (.bool (decide (a<c))) s) :
  wpAny (model prog w) A (richCompare .Lt (.int a t) (.int c u)) Q E s :=
 (PyProof.Rows.lt_int h:wpAny (model prog w) A (compareOp .Lt (.int a t) (.int c u)) Q E s)
section
open PySem.SeqAt
open PySem.AutoSeq1 (wpAny_loadPart')
open PySem.MeetsSeq PySem.MeetsSeq2 PySem.MeetsSeq3
theorem abG(l b:Addr)(items items2:Array Value)(n n2:Nat)(dd dd2:Option Addr)(sl sl2:Array (Option Value))(ns ms:List Int)(hi:IntsAre items.toList ns)(hj:IntsAre items2.toList ms) :
  Meets (Builtin.«tuple.__lt__» ⟨[.ref l,.ref b],[]⟩)
   (λ_ R s=>s.heap.get? l=some {cls:=.type "tuple",dict:=dd,data:=.seq items n,slots:=sl }∧s.heap.get? b=some {cls:=.type "tuple",dict:=dd2,data:=.seq items2 n2,slots:=sl2 } ∧
    R (.ok (.ret (.bool (lexLt ns ms)))) s) :=
 .of_wp λprog w A R s h=>by
  obtain⟨hp,g,d,tk,os⟩:=s; obtain⟨hl,hb,h⟩:=h
  have f2:=AutoSeq1.sub_tuple_tuple
  have z1:items.size=ns.length:=by rw[<-hi.length]; simp
  have z2:items2.size=ms.length:=by rw[<-hj.length]; simp
  wp_walk using wpAny_loadPart' hl,wpAny_loadPart' hb,wpAny_forIn_list _ (λrest b s'=>b.1=none/\s'=⟨hp,g,d,tk,os⟩/\∃(vs ws:List Value) (ns' qw:List Int),rest=vs.zip ws /\
   IntsAre vs ns'/\IntsAre ws qw/\ns'.length+items2.size=qw.length+items.size/\R (.ok (.ret (.bool (lexLt ns' qw)))) ⟨hp,g,d,tk,os⟩) _
  case turn =>
   rintro⟨y,x⟩ rest b s' ⟨hb',rfl,vs,ws,ns',qw,hz,Cr,hwi,hlen,hR⟩
   cases Cr with
   |nil=>rw[List.zip_nil_left]at hz; cases hz
   |cons a t abH =>
    cases hwi with
    |nil=>rw[List.zip_nil_right]at hz; cases hz
    |cons c u abI =>
     rw[List.zip_cons_cons]at hz
     injection hz with hyx hrest
     injection hyx with hy hx
     subst hy hx
     rw[abA]at hR
     simp only[List.length_cons]at hlen
     obtain⟨e,he,hiff⟩:=abE A.in1 ⟨hp,g,d,tk,os⟩ a t c u
     refine wpAny_bind (he prog w _ _ ?_)
     cases e with
     |true =>
      rw[if_pos (hiff.mp rfl)]at hR
      wp_walk
      exact⟨rfl,rfl,_,_,_,_,hrest,abH,abI,by lia,hR⟩
     |false =>
      rw[if_neg (λq=>absurd (hiff.mpr q) Bool.false_ne_true)]at hR
      have hri:=abF A.in1 ⟨hp,g,d,tk,os⟩ a t c u prog w
      wp_walk using hri
      exact⟨_,rfl,by simpa using hR⟩
  case fin =>
   rintro⟨b1,b2⟩ s' ⟨hb',rfl,vs,ws,ns',qw,hz,Cr,hwi,hlen,hR⟩
   simp only at hb'
   subst hb'
   have hv:lexLt ns' qw=decide (items.size<items2.size):=by
    cases Cr with
    |nil =>
     cases hwi with
     |nil =>
      simp only[List.length_nil]at hlen
      rw[abB]
      exact(decide_eq_false (by lia)).symm
     |cons c u hw =>
      simp only[List.length_nil,List.length_cons]at hlen
      rw[abC]
      exact(decide_eq_true (by lia)).symm
    |cons a t hv =>
     cases hwi with
     |nil =>
      simp only[List.length_nil,List.length_cons]at hlen
      rw[abD]
      exact(decide_eq_false (by lia)).symm
     |cons c u hw =>
      rw[List.zip_cons_cons]at hz
      cases hz
   rw[hv]at hR
   wp_walk
   exact⟨_,rfl,by simpa[Builtin.Tuple.tupleCompareSizes]using hR⟩
  case h =>
   exact⟨rfl,rfl,items.toList,items2.toList,ns,ms,rfl,hi,hj,by lia,h⟩
end
section
variable {prog:Program}{w:World}{A:Around}{E:Value->Shared->Prop}{s:Shared}
theorem abJ(hl:IsTup s.heap l items)(hb:IsTup s.heap b items2)(hi:IntsAre items.toList ns)(hj:IntsAre items2.toList ms)
  (hu:A.units<cLine) (h:Q (.bool (lexLt ns ms)) s):wpAny (model prog w) A (compareOp .Lt (.ref l) (.ref b)) Q E s:=by
 obtain⟨⟨cls,dd,data,sl⟩,ho,hc,n,hd⟩:=id hl
 obtain⟨⟨cls2,dd2,data2,sl2⟩,ho2,hc2,n2,hd2⟩:=id hb
 simp only at hc hd hc2 hd2
 subst hc hd hc2 hd2
 exact richCompare_meets_room (op:=.Lt) ⟨_,ho,rfl⟩ ⟨_,ho2,rfl⟩ PySem.F.slot_tuple_lt PySem.F.entry_tuple_lt (PySem.F.args_tuple_lt_2 _ _) (abG l b items items2 n n2 dd dd2 sl sl2 ns ms hi hj)
  ⟨ho,ho2,show Value.bool (lexLt ns ms)≠Value.notImplemented/\Q (.bool (lexLt ns ms)) s from⟨(λx=>nomatch x),h⟩⟩ hu
theorem abK(ht:IsTup s.heap t vs.toArray)(hb:IsTup s.heap b ws.toArray)(hv:vs≠[])
  (h1:ws=[]->Q (.ref t) s) (h2:ws≠[]->Q (.ref s.heap.objs.size) {s with heap:=s.heap.push {cls:=.type "tuple",data:=.seq (vs++ws).toArray } })
  (hsz:vs.length+ws.length<=sizeLine):wpAny (model prog w) A (binaryOp .Add (.ref t) (.ref b)) Q E s:=by
 obtain⟨⟨cls,dd,data,sl⟩,ho,hc,n,hd⟩:=id ht
 obtain⟨⟨cls2,dd2,data2,sl2⟩,ho2,hc2,n2,hd2⟩:=id hb
 simp only at hc hd hc2 hd2
 subst hc hd hc2 hd2
 have e:vs.toArray++ws.toArray=(vs++ws).toArray:=by simp
 by_cases hw:ws=[]
 .exact concat_meets ⟨_,ho,rfl⟩ ⟨_,ho2,rfl⟩ noFill_tuple_add seq_tuple_add PySem.F.slot_tuple_add PySem.F.entry_tuple_add (PySem.F.args_tuple_add_2 _ _)
   (tuple_addW1 t b vs.toArray ws.toArray n n2 dd dd2 sl sl2 (by simpa using hv) (by simp[hw])) ⟨ho,ho2,h1 hw⟩
 .refine concat_meets ⟨_,ho,rfl⟩ ⟨_,ho2,rfl⟩ noFill_tuple_add seq_tuple_add PySem.F.slot_tuple_add PySem.F.entry_tuple_add (PySem.F.args_tuple_add_2 _ _)
   (tuple_addW2 t b vs.toArray ws.toArray n n2 dd dd2 sl sl2 (by simpa using hv) (by simpa using hw) (by rw[List.size_toArray,List.size_toArray]; exact hsz)) ⟨ho,ho2,?_⟩
  rw[e]
  exact h2 hw
noncomputable def aQ(n d:Nat):Option Int->Nat
 |none=>d
 |some v=>if v<0 then(v+(n:Int)).toNat else min v.toNat n
theorem abL(n d:Nat)(hd:d<=n)(o:Option Int):aQ n d o<=n:=by
 cases o with
 |none=>exact hd
 |some v =>
  show(if v<0 then(v+(n:Int)).toNat else min v.toNat n)<=n
  by_cases hv:v<0
  .rw[if_pos hv]; lia
  .rw[if_neg hv]; exact Nat.min_le_right _ _
theorem Mp(v:Int)(n d:Nat):(if v<0 then max (v+(n:Int)) 0 else min v (n:Int))=((aQ n d (some v):Nat):Int):=by
 show(if v<0 then max (v+(n:Int)) 0 else min v (n:Int))=(((if v<0 then(v+(n:Int)).toNat else min v.toNat n):Nat):Int)
 by_cases hv:v<0
 .simp only[if_pos hv]; lia
 .simp only[if_neg hv]; lia
theorem abM(lo hi:Option Int)(n:Nat):Builtin.Slice.sliceAdjust lo hi 1 (n:Int)=(((aQ n 0 lo:Nat):Int),((aQ n n hi:Nat):Int)):=by
 have h1:¬((1:Int)<0):=by lia
 unfold Builtin.Slice.sliceAdjust
 simp only[h1,if_false]
 refine Prod.ext ?_ ?_
 .cases lo with
  |none=>rfl
  |some v=>exact Mp v n 0
 .cases hi with
  |none=>rfl
  |some v=>exact Mp v n n
theorem abN(i j:Nat):Builtin.Slice.slicePlaces (i:Int) (j:Int) 1=j-i:=by
 unfold Builtin.Slice.slicePlaces
 have h1:(1:Int) > 0:=by lia
 simp only[h1,if_true,Int.ediv_one]
 split <;> lia
theorem Mq(p:IsPart v o)(h:Q o s):wpAny (model prog w) A (Builtin.Slice.slicePartIndex v) Q E s:=by
 cases p with
 |none=>exact slicePart_none h
 |int i t=>exact slicePart_int h
theorem abO{sl:Addr}{vl vu:Value}{lo hi:Option Int}{n:Nat}{Q:Int × Int × Nat->Shared->Prop}(hs:s.heap.IsSliceOf sl vl vu .none)(pl:IsPart vl lo)(pu:IsPart vu hi)
  (h:Q (((aQ n 0 lo:Nat):Int),1,aQ n n hi-aQ n 0 lo) s):wpAny (model prog w) A (Builtin.Slice.sliceApplied (.ref sl) (pure (n:Int))) Q E s:=by
 obtain⟨os,hos,hcs,hds⟩:=id hs
 unfold Builtin.Slice.sliceApplied Builtin.Slice.sliceFields
 refine wpAny_bind (wpAny_bind (wpAny_field hos hds (x:=vl) rfl (wpAny_bind (wpAny_field hos hds (x:=vu) rfl (wpAny_bind (wpAny_field hos hds (x:=.none) rfl (wpAny_pure ?_)))))))
 refine wpAny_bind (slicePart_none ?_)
 show wpAny _ _ (if((1:Int) == 0)=true then _ else _) _ _ s
 rw[if_neg (by decide)]
 refine wpAny_bind (Mq pl (wpAny_bind (Mq pu (wpAny_bind (wpAny_pure ?_)))))
 show wpAny _ _ (match Builtin.Slice.sliceAdjust lo hi 1 (n:Int)with|(lo,hi)=>pure (lo,(1:Int),Builtin.Slice.slicePlaces lo hi 1)) _ _ s
 rw[abM lo hi n]
 show wpAny _ _ (pure (((aQ n 0 lo:Nat):Int),(1:Int),Builtin.Slice.slicePlaces ((aQ n 0 lo:Nat):Int) ((aQ n n hi:Nat):Int) 1)) _ _ s
 rw[abN]
 exact wpAny_pure h
theorem abP(xs:Array Value)(i k:Nat):((List.range k).filterMap λ(m:Nat)=>xs[((i:Int)+(m:Int)*1).toNat]?).toArray=((xs.toList.drop i).take k).toArray:=by
 have e:(λ(m:Nat)=>xs[((i:Int)+(m:Int)*1).toNat]?)=λm=>xs[i+m]? := by
  funext m
  have:((i:Int)+(m:Int)*1).toNat=i+m:=by lia
  rw[this]
 rw[e]
 have:=pick_run xs i k
 rw[List.filterMap_map]at this
 have e2:((λx=>xs[x]?) ∘ λx=>i+x)=λm=>xs[i+m]? := rfl
 rw[e2]at this
 rw[this]
theorem abQ{t sl:Addr}{items:Array Value}{vl vu:Value}{lo hi:Option Int}{Q:Value->Shared->Prop}(ht:IsTup s.heap t items)(hs:s.heap.IsSliceOf sl vl vu .none)(pl:IsPart vl lo)(pu:IsPart vu hi)
  (hw:¬(aQ items.size 0 lo=0/\aQ items.size items.size hi=items.size))
  (h:Q (.ref s.heap.objs.size) {s with heap:=s.heap.push {cls:=.type "tuple",data:=.seq ((items.toList.drop (aQ items.size 0 lo)).take (aQ items.size items.size hi-aQ items.size 0 lo)).toArray } })
  (hsz:items.size<=sizeLine):wpAny (model prog w) A (getItem (.ref t) (.ref sl)) Q E s:=by
 have wY:sizeOk (.seq ((items.toList.drop (aQ items.size 0 lo)).take (aQ items.size items.size hi-aQ items.size 0 lo)).toArray):=by
  show((items.toList.drop (aQ items.size 0 lo)).take (aQ items.size items.size hi-aQ items.size 0 lo)).toArray.size<=sizeLine
  rw[List.size_toArray,List.length_take,List.length_drop,Array.length_toList]
  lia
 have hj:aQ items.size items.size hi<=items.size:=abL _ _ (Nat.le_refl _) hi
 obtain⟨os,hos,hcs,hds⟩:=id hs
 have hTs:s.TypeIs (.ref sl) "slice" := ⟨os,hos,hcs⟩
 unfold getItem
 try with_reducible refine wpAny_holding ?_
 first|refine wpAny_bind (wpAny_pure ?_)|skip
 refine wpAny_bind (wpAny_sequenceKey ht.typeIs (by decide) ?_)
 refine wpAny_bind (wpAny_callSpecial?_slot (name:=Str.ofString "__getitem__") ht.typeIs PyProof.Rows.slot_tuple_getitem
  (wpAny_call_entry PyProof.Rows.slot_tuple_getitem ht.typeIs entry_tuple_getitem ?_ (args_tuple_getitem _ _)))
 show wpAny _ _ (Builtin.Tuple.tupleItemsOf (.ref t) >>= _) _ _ s
 refine wpAny_bind (tupleItemsOf_ ht ?_)
 refine wpAny_bind (wpAny_typeOf hTs ?_)
 rw[if_pos (by decide)]
 refine wpAny_bind (abO hs pl pu ?_)
 have hno:¬((((aQ items.size 0 lo:Nat):Int) == 0&&(1:Int) == 1&&(aQ items.size items.size hi-aQ items.size 0 lo) == items.size)=true):=by
  intro q
  rw[Bool.and_eq_true,Bool.and_eq_true]at q
  have q1:((aQ items.size 0 lo:Nat):Int)=0:=eq_of_beq q.1.1
  have q2:aQ items.size items.size hi-aQ items.size 0 lo=items.size:=eq_of_beq q.2
  exact hw ⟨by lia,by lia⟩
 show wpAny _ _ (if(((aQ items.size 0 lo:Nat):Int) == 0&&(1:Int) == 1&&(aQ items.size items.size hi-aQ items.size 0 lo) == items.size)=true then _ else _) _ _ s
 rw[if_neg hno,abP]
 first
  |exact wpAny_bind (m:=Builtin.Tuple.tupleExact _) (wpAny_newObj_type (wpAny_pure ⟨_,rfl,wpAny_pure h⟩) wY)
  |exact wpAny_bind (m:=Builtin.Tuple.tupleExact _) (wpAny_newObj_type (wpAny_bind (wpAny_pure (wpAny_pure ⟨_,rfl,wpAny_pure h⟩))) wY)
  |exact wpAny_bind (wpAny_bind (m:=Builtin.Tuple.tupleExact _) (wpAny_newObj_type (wpAny_pure (wpAny_pure ⟨_,rfl,wpAny_pure h⟩)) wY))
  |exact wpAny_bind (wpAny_bind (m:=Builtin.Tuple.tupleExact _) (wpAny_newObj_type (wpAny_pure ⟨_,rfl,wpAny_pure h⟩) wY))
end
end HT
namespace L2
open PySem PySem.Spec PyProof.Rows
noncomputable abbrev TO:=St->Hp->(Option Int->Hp->Prop)->Prop
noncomputable def PO(X:Cx)(e:Option Expr)(t:TO):Prop :=
 ∀(pins:List (Addr × Obj)) (s:Shared) (σ : St) (H:Hp) (Q:Option Int->Hp->Prop),Inv X pins σ H s->t σ H Q ->
  wpAny (model X.prog X.w) X.A (evalPart e X.env) (λu s'=>∃o H',Inv X pins σ H' s'/\IsPart u o/\Q o H') X.xe s
noncomputable def abR:TO:=λ_ H Q=>Q none H
noncomputable def abS(t:TE):TO:=λσ H Q=>t σ H λx H1=>∃i,x=.int i/\Q (some i) H1
theorem intsAre_of:∀{us:List Value},Vals (ns.map V.int) us->IntsAre us ns:=by
 induction ns with
 |nil=>intro us r; rw[List.map_nil]at r; cases r; exact .nil
 |cons n ns ih =>
  intro us r
  rw[List.map_cons]at r
  cases r with
  |cons r1 r2 =>
   obtain⟨t,e⟩:=r1
   subst e
   exact .cons n t (ih r2)
section
variable {X:Cx}{e:Expr}{te:TE}{lo hi:Option Expr}{tl th:TO}{pos p2:Pos}
theorem abT:PO X none abR:=by
 intro pins s σ H Q I h
 rw[evalPart_none]
 exact wpAny_pure ⟨none,H,I,.none,h⟩
theorem abU(h:PE X e te):PO X (some e) (abS te):=by
 intro pins s σ H Q I hw
 rw[evalPart_some]
 refine aH (h pins s σ H _ I hw) λu s1 ⟨x,H1,I1,r1,q1⟩=>?_
 obtain⟨i,rfl,q⟩:=q1
 obtain⟨t,rfl⟩:=r1
 exact⟨some i,H1,I1,.int i t,q⟩
noncomputable def lq(X:Cx)(r:V->Option Int->Option Int->Hp->VK->Prop):Prop :=
 ∀(pins:List (Addr × Obj)) (s:Shared) (σ : St) (H:Hp) (x:V) (v vl vu:Value) (lo hi:Option Int) (sl:Addr) (Q:VK),Inv X pins σ H s->RelV x v->s.heap.IsSliceOf sl vl vu .none->IsPart vl lo->IsPart vu hi->r x lo hi H Q ->
  ∃T id,typeLookup (.type T) "__getitem__" = pure (some (.builtin id))/\s.TypeIs v T/\wpAny (model X.prog X.w) X.A (getItem v (.ref sl)) (EP X pins σ Q) X.xe s
theorem lq.or(h:lq X r)(h':lq X r'):lq X (λx lo hi H Q=>r x lo hi H Q\/r' x lo hi H Q):=by
 intro pins s σ H x v vl vu lo hi sl Q I rx hs pl pu q
 rcases q with q|q
 .exact h pins s σ H x v vl vu lo hi sl Q I rx hs pl pu q
 .exact h' pins s σ H x v vl vu lo hi sl Q I rx hs pl pu q
noncomputable def tSl(r:V->Option Int->Option Int->Hp->VK->Prop)(te:TE)(tl th:TO):TE:=λσ H Q=>te σ H λx H1=>tl σ H1 λl H2=>th σ H2 λu H3=>r x l u H3 Q
theorem abV(hr:lq X r)(he:PE X e te)(hl:PO X lo tl)(hu:PO X hi th):PE X (.Subscript e (.Slice lo hi none p2) pos) (tSl r te tl th):=by
 refine⟨λpins s σ H Q I h=>?_⟩
 refine Subscript_ (aH (he pins s σ H _ I h) λv s1 ⟨x,H1,I1,r1,q1⟩=>?_)
 refine wpAny_Slice (aH (hl pins s1 σ H1 _ I1 q1) λvl s2 ⟨l,H2,I2,pl,q2⟩=>aH (hu pins s2 σ H2 _ I2 q2) λvu s3 ⟨u,H3,I3,pu,q3⟩=>?_)
 rw[evalPart_none]
 refine wpAny_pure ?_
 have I4:Inv X pins σ H3 {s3 with heap:=s3.heap.push {cls:=.type "slice",data:=.fields #[vl,vu,.none] } }:=I3.kept (t':=s3.toks) λb ob q=>Heap.get?_push_of_some _ q
 obtain⟨T,id,hT,ht,hg⟩:=hr pins {s3 with heap:=s3.heap.push {cls:=.type "slice",data:=.fields #[vl,vu,.none] } } σ H3 x v vl vu l u s3.heap.objs.size Q I4 r1 (Heap.IsSliceOf.new ..) pl pu q3
 show wpAny (model X.prog X.w) X.A (subscriptTail e (.Slice lo hi none p2) v (.ref s3.heap.objs.size)) (EP X pins σ Q) X.xe {s3 with heap:=s3.heap.push {cls:=.type "slice",data:=.fields #[vl,vu,.none] } }
 exact tail_any (ops:=[.ref s3.heap.objs.size,v]) ht hT hg (by with_unfolding_all rfl)
noncomputable def mW(xs:List V)(lo hi:Option Int):List V:=(xs.drop (HT.aQ xs.length 0 lo)).take (HT.aQ xs.length xs.length hi-HT.aQ xs.length 0 lo)
theorem Mr(xs:List V)(lo hi:Option Int):(mW xs lo hi).length<=xs.length:=by
 unfold mW
 rw[List.length_take,List.length_drop]
 lia
noncomputable def Ms(K:PySem.W.Frag):V->Option Int->Option Int->Hp->VK->Prop:=λx lo hi H Q=>∃a xs,x=.ref a/\bx K H a xs /\
 ¬(HT.aQ xs.length 0 lo=0/\HT.aQ xs.length xs.length hi=xs.length)/\∀p,H p=none->Q (.ref p) (upd H p (.tup (mW xs lo hi)))
theorem abW:lq X (Ms X.K):=by
 intro pins s σ H x v vl vu lo hi sl Q I rx hs pl pu h
 obtain⟨a,xs,rfl,hx,hw,q⟩:=h
 cases rx
 obtain⟨its,r,ht,hz⟩:=I.tuple hx
 have hlen:its.toArray.size=xs.length:=by rw[List.size_toArray]; exact r.length.symm
 refine⟨"tuple",_,PyProof.Rows.slot_tuple_getitem.lookup,ht.typeIs,?_⟩
 refine HT.abQ ht hs pl pu (by rw[hlen]; exact hw) ?_ (by rw[hlen]; exact hz)
 rw[hlen]
 refine⟨.ref s.heap.objs.size,_,I.laid (t':=s.toks) (o:=.tup (mW xs lo hi)) (λb ob q=>Heap.get?_push_of_some _ q) (Nat.le_refl _) ?_,rfl,q _ (I.hok.fresh (Nat.le_refl _))⟩
 exact⟨Nat.le_trans (Mr xs lo hi) hz,_,(r.drop (HT.aQ xs.length 0 lo)).take (HT.aQ xs.length xs.length hi-HT.aQ xs.length 0 lo),IsTup.new _ _⟩
noncomputable def Mt(K:PySem.W.Frag):R2:=λx y H Q=>∃a b ns ms,x=.ref a/\y=.ref b/\bx K H a (ns.map V.int)/\bx K H b (ms.map V.int)/\Q (.bl (HT.lexLt ns ms)) H
theorem abX(hu:X.A.units<cLine):bh X (compareOp .Lt) (Mt X.K):=by
 intro pins s σ H x y v u Q I rx ry h
 obtain⟨a,b,ns,ms,rfl,rfl,ha,hb,q⟩:=h
 cases rx
 cases ry
 obtain⟨its,r1,p1,_⟩:=I.tuple ha
 obtain⟨its2,r2,p2,_⟩:=I.tuple hb
 have i1:IntsAre its.toArray.toList ns:=intsAre_of r1
 have i2:IntsAre its2.toArray.toList ms:=intsAre_of r2
 exact HT.abJ p1 p2 i1 i2 hu ⟨.bl (HT.lexLt ns ms),H,I,rfl,q⟩
noncomputable def Mv(K:PySem.W.Frag):R2:=λx y H Q=>∃a b xs ys,x=.ref a/\y=.ref b/\bx K H a xs/\bx K H b ys/\xs≠[]/\xs.length+ys.length<=sizeLine /\
 (ys=[]->Q (.ref a) H)/\(ys≠[]->∀p,H p=none->Q (.ref p) (upd H p (.tup (xs++ys))))
theorem Vals.Cu(r:Vals xs us):us=[]↔xs=[]:=by
 cases r with
 |nil=>simp
 |cons _ _=>simp
theorem abY:bh X (binaryOp .Add) (Mv X.K):=by
 intro pins s σ H x y v u Q I rx ry h
 obtain⟨a,b,xs,ys,rfl,rfl,ha,hb,hx,hz,q1,q2⟩:=h
 cases rx
 cases ry
 obtain⟨its,r1,p1,_⟩:=I.tuple ha
 obtain⟨its2,r2,p2,_⟩:=I.tuple hb
 refine HT.abK p1 p2 (λz=>hx (r1.Cu.mp z)) (λz=>⟨.ref a,H,I,rfl,q1 (r2.Cu.mp z)⟩) (λz=>?_) (by rw[<-r1.length,<-r2.length]; exact hz)
 refine⟨.ref s.heap.objs.size,_,I.laid (t':=s.toks) (o:=.tup (xs++ys)) (λb ob q=>Heap.get?_push_of_some _ q) (Nat.le_refl _) ?_,rfl,q2 (λw=>z (r2.Cu.mpr w)) _ (I.hok.fresh (Nat.le_refl _))⟩
 exact⟨by rw[List.length_append]; exact hz,_,r1.append r2,IsTup.new _ _⟩
end
noncomputable def eH(n:Nat)(i:Int):Option Nat:=if 0<=i then(if i<n then some i.toNat else none)else if -(n:Int)<=i then some (i+n).toNat else none
noncomputable def cW{α : Type}(xs:List α)(i:Int):Option α := (eH xs.length i).bind λj=>xs[j]?
theorem Mw(h:eH n i=some j):seqIndex? i n=some j/\j<n /\ -(n:Int)<=i/\i<n:=by
 unfold eH at h
 by_cases h0:0<=i
 .rw[if_pos h0]at h
  by_cases h1:i<n
  .rw[if_pos h1]at h
   have e:i.toNat=j:=Option.some.inj h
   exact⟨by rw[seqIndex_of h0 h1,e],by lia,by lia,h1⟩
  .rw[if_neg h1]at h; cases h
 .rw[if_neg h0]at h
  by_cases h1 : -(n:Int)<=i
  .rw[if_pos h1]at h
   have e:(i+n).toNat=j:=Option.some.inj h
   exact⟨by rw[seqIndex_neg (by lia) h1,e],by lia,h1,by lia⟩
  .rw[if_neg h1]at h; cases h
theorem Cv{α : Type}{xs:List α}{i:Int}{v : α}(h:cW xs i=some v):∃j,seqIndex? i xs.length=some j/\xs[j]?=some v/\j<xs.length /\ -(xs.length:Int)<=i/\i<xs.length:=by
 unfold cW at h
 cases e:eH xs.length i with
 |none=>rw[e]at h; cases h
 |some j =>
  rw[e]at h
  obtain⟨h1,h2,h3,h4⟩:=Mw e
  exact⟨j,h1,h,h2,h3,h4⟩
noncomputable def Mx(b:Expr):Prop:=∀o i,subscripted b false o i=operate [o,i] (getItem o i)
noncomputable def lu(X:Cx)(r:R2):Prop :=
 ∀(value slice:Expr) (pins:List (Addr × Obj)) (s:Shared) (σ : St) (H:Hp) (x y:V) (v u:Value) (Q:VK),Inv X pins σ H s->RelV x v->RelV y u->r x y H Q ->
  subscripted slice false v u=operate [v,u] (getItem v u)->wpAny (model X.prog X.w) X.A (subscriptTail value slice v u) (EP X pins σ Q) X.xe s
noncomputable def qx(X:Cx)(id:String)(r:V->List V->Hp->VK->Prop):Prop :=
 ∀(pins:List (Addr × Obj)) (s:Shared) (σ : St) (H:Hp) (x:V) (xs:List V) (v:Value) (us:List Value) (Q:VK),Inv X pins σ H s->RelV x v->Vals xs us->r x xs H Q ->
  wpAny (model X.prog X.w) X.A (call (.builtin id) (v::us)) (EP X pins σ Q) X.xe s
section
variable {X:Cx}{a b:Expr}{ta tb:TE}{pos:Pos}
theorem lu.or(h:lu X r)(h':lu X r'):lu X (λx y H Q=>r x y H Q\/r' x y H Q):=by
 intro value slice pins s σ H x y v u Q I rx ry q hs
 rcases q with q|q
 .exact h value slice pins s σ H x y v u Q I rx ry q hs
 .exact h' value slice pins s σ H x y v u Q I rx ry q hs
theorem qx.or{id:String}{r r':V->List V->Hp->VK->Prop}(h:qx X id r)(h':qx X id r'):qx X id (λx xs H Q=>r x xs H Q\/r' x xs H Q):=by
 intro pins s σ H x xs v us Q I rx rs q
 rcases q with q|q
 .exact h pins s σ H x xs v us Q I rx rs q
 .exact h' pins s σ H x xs v us Q I rx rs q
theorem wZ(hr:lu X r)(ha:PE X a ta)(hb:PE X b tb)(hs:Mx b):PE X (.Subscript a b pos) (sV r ta tb):=by
 refine⟨λpins s σ H Q I h=>?_⟩
 exact Subscript_ (Ca ha hb I h λv u s2 x y H2 I2 rx ry q=>hr a b pins s2 σ H2 x y v u Q I2 rx ry q (hs _ _))
noncomputable def Mz(K:PySem.W.Frag):R2:=λx y H Q=>∃p xs i v,x=.ref p/\y=.int i/\aG K H p xs/\cW xs i=some v/\Q v H
noncomputable def MF(K:PySem.W.Frag):R2:=λx y H Q=>∃p xs i v,x=.ref p/\y=.int i/\bx K H p xs/\cW xs i=some v/\Q v H
noncomputable def MJ:R2:=λx y H Q=>∃z i c,x=.str z/\y=.int i/\z.length<=sizeLine/\cW z.cps.toList i=some c/\Q (.str ⟨#[c]⟩) H
theorem abZ:lu X (Mz X.K):=by
 intro value slice pins s σ H x y v u Q I rx ry h hs
 obtain⟨p,xs,i,z,rfl,rfl,hq,he,q⟩:=h
 cases rx
 obtain⟨t,rfl⟩:=ry
 obtain⟨its,r,pl,hz⟩:=I.list hq
 obtain⟨j,h1,h2,h3,h4,h5⟩:=Cv he
 obtain⟨w,ew,oV⟩:=r.get h2
 have hl:=r.length
 have hn:=oW
 have fin:EP X pins σ Q w s:=⟨z,H,I,oV,q⟩
 by_cases h0:0<=i
 .have hj:i.toNat=j:=by
   rw[seqIndex_of h0 h5]at h1
   exact Option.some.inj h1
  exact item_listR pl.isList h0 (by lia) (by rw[hj]; simpa using ew) fin hs
 .have hj:(i+(its.toArray.size:Int)).toNat=j:=by
   rw[seqIndex_neg (by lia) h4]at h1
   rw[List.size_toArray,<-hl]
   exact Option.some.inj h1
  exact subscriptTail_builtinR (x:=w) pl.isList.typeIs slot_list_getitem.lookup
   (wpAny_getItem_list_neg (Q:=λr s'=>r=w/\EP X pins σ Q r s') pl.isList (by lia) (by rw[List.size_toArray] <;> lia) (by lia) (by rw[hj]; simpa using ew) ⟨rfl,fin⟩) hs
theorem ab0:lu X (MF X.K):=by
 intro value slice pins s σ H x y v u Q I rx ry h hs
 obtain⟨p,xs,i,z,rfl,rfl,hq,he,q⟩:=h
 cases rx
 obtain⟨t,rfl⟩:=ry
 obtain⟨its,r,pl,hz⟩:=I.tuple hq
 obtain⟨j,h1,h2,h3,h4,h5⟩:=Cv he
 obtain⟨w,ew,oV⟩:=r.get h2
 have hl:=r.length
 have hn:=oW
 have fin:EP X pins σ Q w s:=⟨z,H,I,oV,q⟩
 exact subscriptTail_builtinR (x:=w) pl.typeIs slot_tuple_getitem.lookup
  (getItem_tuple (j:=j) (Q:=λr s'=>r=w/\EP X pins σ Q r s') pl (by lia) (by lia) (by rw[List.size_toArray,<-hl]; exact h1) (by simpa using ew) ⟨rfl,fin⟩) hs
theorem ab1:lu X MJ:=by
 intro value slice pins s σ H x y v u Q I rx ry h hs
 obtain⟨z,i,c,rfl,rfl,hz,he,q⟩:=h
 obtain⟨t,rfl⟩:=rx
 obtain⟨t',rfl⟩:=ry
 obtain⟨j,h1,h2,h3,h4,h5⟩:=Cv he
 have hl:z.cps.toList.length=z.length:=by simp[Str.length]
 rw[hl]at h1 h4 h5
 have hn:=oW
 exact tail_any (typeIs_str s z t) slot_str_getitem.lookup (getItem_str (c:=c) (by
  have e1:decide (i < -(2 ^ 63:Int))=false:=decide_eq_false (by lia)
  have e2:decide (i >= 2 ^ 63)=false:=decide_eq_false (by lia)
  rw[e1,e2,Bool.or_false]) (by rw[h1]; simpa using h2) ⟨.str ⟨#[c]⟩,H,I.tok _,⟨_,rfl⟩,q⟩) hs
noncomputable def MK(K:PySem.W.Frag):R2:=λx y H Q=>Mz K x y H Q\/MF K x y H Q\/MJ x y H Q
theorem w6:lu X (MK X.K):=abZ.or (ab0.or ab1)
theorem ab2(its:List Value)(n j:Nat)(u:Value):Obj.mapSeq (·.setIfInBounds j u) {cls:=.type "list",data:=.seq its.toArray n }={cls:=.type "list",data:=.seq (its.set j u).toArray n }:=by
 simp[Obj.mapSeq]
theorem Inv.lst{pins:List (Addr × Obj)}{σ : St}{H:Hp}{s:Shared}{p:Addr}{xs:List V}(I:Inv X pins σ H s)(h:H p=some (.lst xs)) :
  ∃(its:List Value) (n:Nat),Vals xs its/\s.heap.get? p=some {cls:=.type "list",data:=.seq its.toArray n }/\xs.length<=sizeLine:=by
 obtain⟨z,its,n,r,e⟩:=I.hok p _ h
 exact⟨its,n,r,e,z⟩
theorem Inv.ab3{pins:List (Addr × Obj)}{σ : St}{H:Hp}{s:Shared}{p:Addr}{xs ys:List V}{its its':List Value}{n n':Nat}{f:Obj->Obj}(I:Inv X pins σ H s)(h:H p=some (.lst xs))
  (ho:s.heap.get? p=some {cls:=.type "list",data:=.seq its.toArray n }) (hf:f {cls:=.type "list",data:=.seq its.toArray n }={cls:=.type "list",data:=.seq its'.toArray n' }) (r:Vals ys its') (hz:ys.length<=sizeLine) (t:Nat) :
  Inv X pins σ (upd H p (.lst ys)) {s with heap:=s.heap.update p f,toks:=t }:=by
 have e:(s.heap.update p f).get? p=some {cls:=.type "list",data:=.seq its'.toArray n' }:=by
  rw[Heap.get?_update_self f ho (by rw[hf] <;> rfl),hf]
 refine I.write (x:=p) (e:=p) (by rw[h]; trivial) (.inl rfl) (λb u hb q=>(Heap.get?_update_other _ _ (Ne.symm hb)).trans q) ⟨_,e⟩ ?_
 exact⟨hz,its',n',r,e⟩
noncomputable def ab4:V->V->V->Hp->(Hp->Prop)->Prop:=λo i v H Q=>∃p xs k j,o=.ref p/\i=.int k/\H p=some (.lst xs)/\eH xs.length k=some j/\Q (upd H p (.lst (xs.set j v)))
theorem set_list:Le X ab4:=by
 intro pins s σ H o i v ov iv u Q I ro ri rv h
 obtain⟨p,xs,k,j,rfl,rfl,hp,hj,q⟩:=h
 cases ro
 obtain⟨t,rfl⟩:=ri
 obtain⟨its,n,r,ho,hz⟩:=I.lst hp
 obtain⟨h1,h2,h3,h4⟩:=Mw hj
 have hl:=r.length
 have hn:=oW
 have I':Inv X pins σ (upd H p (.lst (xs.set j v))) {s with heap:=s.heap.update p (Obj.mapSeq (·.setIfInBounds j u)) } :=
  I.ab3 hp ho (ab2 its n j u) (r.set rv j) (by rw[List.length_set]; exact hz) s.toks
 by_cases h0:0<=k
 .have hk:k.toNat=j:=by
   rw[seqIndex_of h0 h4]at h1
   exact Option.some.inj h1
  exact PySem.W.ki_setAt ho h0 (by lia) (by rw[List.size_toArray,<-hl]; exact h4) (by rw[hk]; exact⟨_,I',q⟩)
 .have hk:(k+(its.toArray.size:Int)).toNat=j:=by
   rw[seqIndex_neg (by lia) h3]at h1
   rw[List.size_toArray,<-hl]
   exact Option.some.inj h1
  exact PySem.W.ki_setBack ho (by lia) (by rw[List.size_toArray,<-hl]; exact h3) (by lia) (by rw[hk]; exact⟨_,I',q⟩)
theorem ab5(lo hi:Option Int)(n:Nat):(sliceBounds lo hi none n).1=((HT.aQ n 0 lo:Nat):Int)/\(sliceBounds lo hi none n).2.1=((HT.aQ n n hi:Nat):Int)/\(sliceBounds lo hi none n).2.2=1:=by
 refine⟨?_,?_,rfl⟩
 .cases lo with
  |none=>simp[sliceBounds,HT.aQ]
  |some i =>
   simp only[sliceBounds,HT.aQ,Option.getD_none,show(1:Int) > 0 by decide,if_true]
   by_cases h:i<0
   .simp only[h,if_true] <;> lia
   .simp only[h,if_false] <;> lia
 .cases hi with
  |none=>simp[sliceBounds,HT.aQ]
  |some i =>
   simp only[sliceBounds,HT.aQ,Option.getD_none,show(1:Int) > 0 by decide,if_true]
   by_cases h:i<0
   .simp only[h,if_true] <;> lia
   .simp only[h,if_false] <;> lia
theorem ab6(its:List Value)(lo hi:Option Int):slicePick its.toArray lo hi none=((its.drop (HT.aQ its.length 0 lo)).take (HT.aQ its.length its.length hi-HT.aQ its.length 0 lo)).toArray:=by
 obtain⟨h1,h2,h3⟩:=ab5 lo hi its.toArray.size
 unfold slicePick
 rw[h1,h2,h3]
 simp only[sliceRange_one,pick_run,List.size_toArray] <;> rfl
noncomputable def MN(K:PySem.W.Frag):V->Option Int->Option Int->Hp->VK->Prop:=λx lo hi H Q=>∃a xs,x=.ref a/\aG K H a xs/\∀p,H p=none->Q (.ref p) (upd H p (.lst (mW xs lo hi)))
theorem ab7:lq X (MN X.K):=by
 intro pins s σ H x v vl vu lo hi sl Q I rx hs pl pu h
 obtain⟨a,xs,rfl,hx,q⟩:=h
 cases rx
 obtain⟨its,r,ht,hz⟩:=I.list hx
 have hlen:=r.length
 refine⟨"list",_,slot_list_getitem.lookup,ht.isList.typeIs,?_⟩
 refine wpAny_getItem_list_slice ht.isList hs pl pu .none (by simp) ?_ (by rw[List.size_toArray] <;> lia)
 rw[ab6,<-hlen]
 refine⟨.ref s.heap.objs.size,_,I.laid (t':=s.toks) (o:=.lst (mW xs lo hi)) (λb ob q=>Heap.get?_push_of_some _ q) (Nat.le_refl _) ?_,rfl,q _ (I.hok.fresh (Nat.le_refl _))⟩
 exact⟨Nat.le_trans (Mr xs lo hi) hz,_,0,(r.drop (HT.aQ xs.length 0 lo)).take (HT.aQ xs.length xs.length hi-HT.aQ xs.length 0 lo),Heap.get?_push_size _ rfl⟩
theorem ab8:fP X (.builtin "len") (λxs H Q=>∃p ys,xs=[.ref p]/\(aG X.K H p ys\/bx X.K H p ys)/\Q (.int ys.length) H):=by
 intro pins s σ H xs us Q I r h
 obtain⟨p,ys,rfl,hq,q⟩:=h
 obtain⟨u,rfl,rx⟩:=vals1 r
 cases rx
 have hn:=oW
 rcases hq with hq|hq
 .obtain⟨its,r',pl,hz⟩:=I.list hq
  have hlen:=r'.length
  exact Calls.call_len_list pl.isList (by simp only[List.size_toArray] <;> lia) ⟨.int ys.length,H,I.tok _,⟨s.toks+1,by rw[List.size_toArray,hlen]⟩,q⟩
 .obtain⟨its,r',pl,hz⟩:=I.tuple hq
  have hlen:=r'.length
  exact len_tuple pl (by simp only[List.size_toArray] <;> lia) ⟨.int ys.length,H,I.tok _,⟨s.toks+1,by rw[List.size_toArray,hlen]⟩,q⟩
theorem ab9:fP X (.builtin "len") (λxs H Q=>∃z,xs=[.str z]/\z.length<=sizeLine/\Q (.int z.length) H):=by
 intro pins s σ H xs us Q I r h
 obtain⟨z,rfl,hz,q⟩:=h
 obtain⟨u,rfl,t,rfl⟩:=vals1 r
 have hn:=oW
 exact len_str (by lia) ⟨.int z.length,H,I.tok _,⟨_,rfl⟩,q⟩
theorem fP.or(h:fP X f r)(h':fP X f r'):fP X f (λxs H Q=>r xs H Q\/r' xs H Q):=by
 intro pins s σ H xs us Q I rs q
 rcases q with q|q
 .exact h pins s σ H xs us Q I rs q
 .exact h' pins s σ H xs us Q I rs q
theorem acd:fP X (.type "list") (λxs H Q=>∃p ys,xs=[.ref p]/\(aG X.K H p ys\/bx X.K H p ys)/\∀l,H l=none->Q (.ref l) (upd H l (.lst ys))):=by
 intro pins s σ H xs us Q I r h
 obtain⟨p,ys,rfl,hq,q⟩:=h
 obtain⟨u,rfl,rx⟩:=vals1 r
 cases rx
 have fin:∀(its:List Value),Vals ys its->ys.length<=sizeLine->∀(h':Heap) (c':Nat),(∀b o',s.heap.get? b=some o'->h'.get? b=some o') ->
   h'.get? s.heap.objs.size=some {cls:=.type "list",dict:=none,data:=.seq its.toArray c',slots:=#[] }->EP X pins σ Q (.ref s.heap.objs.size) {s with heap:=h' }:=λits r' hz h' c' kp e =>
  ⟨.ref s.heap.objs.size,_,I.laid (t':=s.toks) kp (Nat.le_refl _) (show iG X.prog X.w _ h' _ (.lst ys)from⟨hz,its,c',r',e⟩),rfl,q _ (I.hok.fresh (Nat.le_refl _))⟩
 rcases hq with hq|hq
 .obtain⟨its,r',pl,hz⟩:=I.list hq
  have hlen:=r'.length
  obtain⟨o,ho,hc,n,hd⟩:=pl.isList
  exact call_list_seq p (.inl rfl) ho hc hd (λh' c' kp e=>fin its r' hz h' c' kp e) (by simp only[List.size_toArray] <;> lia)
 .obtain⟨its,r',pl,hz⟩:=I.tuple hq
  have hlen:=r'.length
  obtain⟨o,ho,hc,n,hd⟩:=pl
  exact call_list_seq p (.inr rfl) ho hc hd (λh' c' kp e=>fin its r' hz h' c' kp e) (by simp only[List.size_toArray] <;> lia)
noncomputable def Cw(K:PySem.W.Frag)(T:String)(x:V)(H:Hp):Prop:=match x with
 |.str _=>T = "str"
 |.int _=>T = "int"
 | .ref p=>(T = "list" ∧ ∃xs,aG K H p xs)∨(T = "tuple" ∧ ∃o,K.lookup p=some o∧o.cls=.type "tuple" ∧ o.dict=none)
 |_=>False
theorem MP(I:Inv X pins σ H s)(r:RelV x v)(ty:Cw X.K T x H) :
  s.TypeIs v T/\∀a,v=.ref a->∃ob,s.heap.get? a=some ob/\ob.dict=none:=by
 cases x with
 |str z =>
  obtain⟨t,rfl⟩:=r
  cases(show T = "str" from ty)
  exact⟨typeIs_str s z t,λ_ e=>nomatch e⟩
 |int i =>
  obtain⟨t,rfl⟩:=r
  cases(show T = "int" from ty)
  exact⟨typeIs_int s i t,λ_ e=>nomatch e⟩
 |ref p =>
  cases r
  rcases ty with⟨rfl,xs,hq⟩|⟨rfl,o,hk,hc,hd⟩
  .obtain⟨its,_,pl,_⟩:=I.list hq
   refine⟨pl.isList.typeIs,λa e=>?_⟩
   cases e
   obtain⟨o,n,e,c,hd,_⟩:=pl
   exact⟨o,e,hd⟩
  .refine⟨⟨o,I.gU p o hk,hc⟩,λa e=>?_⟩
   cases e
   exact⟨o,I.gU _ o hk,hd⟩
 |_=>exact False.elim ty
noncomputable def ace(K:PySem.W.Frag)(T:String)(r:V->List V->Hp->VK->Prop)(to:TE):TE:=λσ H Q=>to σ H λx H1=>Cw K T x H1/\r x [] H1 Q
noncomputable def tBM(K:PySem.W.Frag)(T:String)(r:V->List V->Hp->VK->Prop)(to:TE)(t:TA):TE:=λσ H Q=>to σ H λx H1=>Cw K T x H1/\t σ H1 λxs H2=>r x xs H2 Q
variable {o e:Expr}{es:List Expr}{to:TE}{t:TA}{name:Str}{apos cpos:Pos}{T id:String}{r:V->List V->Hp->VK->Prop}
theorem acf(pa:PlainAttrs T)(slot:Slot T name id)(hty:typeOf (.builtin id)=pure (.type "method_descriptor")) (hm:qx X id r) (ho:PE X o to)
  (hbase:attributeBase o name X.env (eval o X.env)=eval o X.env:=by rfl) (hline:(apos.endLine == cpos.line)=true:=by rfl):PE X (.Call (.Attribute o name apos) [] [] cpos) (ace X.K T r to):=by
 refine⟨λpins s σ H Q I h=>?_⟩
 refine wpAny_Call_method0_late hbase hline (aH (ho pins s σ H _ I h) λv s1 ⟨x,H1,I1,r1,ty,q1⟩=>?_)
 obtain⟨h1,h2⟩:=MP I1 r1 ty
 exact⟨T,id,pa,slot,hty,h1,h2,Calls.callWith_builtin rfl (PySem.evalArgs_none (hm pins s1 σ H1 x [] v [] Q I1 r1 .nil q1))⟩
theorem M4(pa:PlainAttrs T)(slot:Slot T name id)(hty:typeOf (.builtin id)=pure (.type "method_descriptor")) (hm:qx X id r) (ho:PE X o to) (ha:PA X (e::es) t)
  (hbase:attributeBase o name X.env (eval o X.env)=eval o X.env:=by rfl)
  (hfew:((backTo cpos (starEach (e::es) X.env)).all (λx=>!x.1)&&(backToKw cpos (keywordEach [] X.env)).all (λx=>x.1.isSome)
   && decide ((e::es).length+([]:List Keyword).length+(if([]:List Keyword).isEmpty then 0 else 1)<30))=true:=by rfl)
  (hline:(apos.endLine == cpos.line)=true:=by rfl) (hs:starEach (e::es) X.env=(false,eval e X.env)::starEach es X.env:=by rfl) (hplain:(backTo cpos (starEach es X.env)).any (·.1)=false:=by rfl) :
  PE X (.Call (.Attribute o name apos) (e::es) [] cpos) (tBM X.K T r to t):=by
 refine⟨λpins s σ H Q I h=>?_⟩
 refine wpAny_Call_method_late hbase hfew hline rfl (aH (ho pins s σ H _ I h) λv s1 ⟨x,H1,I1,r1,ty,q1⟩=>?_)
 obtain⟨h1,h2⟩:=MP I1 r1 ty
 refine⟨T,id,pa,slot,hty,h1,h2,?_⟩
 have hA:=ha cpos pins s1 σ H1 _ I1 q1
 rw[hs]at hA ⊢
 refine Calls.callWith_builtin (by show(false || (backTo cpos (starEach es X.env)).any (·.1))=false; rw[hplain] <;> rfl) (Calls.evalArgs_plain ?_)
 exact aH hA λus s2 ⟨vs,H2,I2,r2,q2⟩=>hm pins s2 σ H2 x vs v us Q I2 r1 r2 q2
end
noncomputable def xg(X:Cx)(id:String)(r:V->List V->Hp->VK->Prop):Prop :=
 ∀(pins:List (Addr × Obj)) (s:Shared) (σ : St) (H:Hp) (x:V) (xs:List V) (v:Value) (us:List Value) (Q:VK),Inv X pins σ H s->RelV x v->Vals xs us->r x xs H Q ->
  wpAny (model X.prog X.w) X.A (call (.builtin id) (v::us)) (EP X pins σ Q) X.xe s
theorem Vals.one:∀{x:V} {us:List Value},Vals [x] us->∃u,us=[u]/\RelV x u
 |_,_,.cons r .nil=>⟨_,rfl,r⟩
theorem Vals.zero:∀{us:List Value},Vals [] us->us=[]
 |_,.nil=>rfl
theorem Vals.reverse{xs:List V}{us:List Value}(h:Vals xs us):Vals xs.reverse us.reverse:=by
 induction h with
 |nil=>exact .nil
 |cons r t ih=>rw[List.reverse_cons,List.reverse_cons]; exact Vals.append ih (.cons r .nil)
theorem Vals.rep(h:Vals xs us):∀k:Nat,Vals (List.replicate k xs).flatten (List.replicate k us).flatten
 | 0=>.nil
 |k+1=>by
  rw[List.replicate_succ,List.replicate_succ,List.flatten_cons,List.flatten_cons]
  exact Vals.append h (Vals.rep h k)
theorem foldl_rep(its:List Value):∀(k:Nat) (acc:List Value),
  List.foldl (λx1 x2=>x1++x2) acc.toArray (List.replicate k its.toArray)=(acc++(List.replicate k its).flatten).toArray
 | 0,acc=>by simp
 |k+1,acc=>by
  have e:acc.toArray++its.toArray=(acc++its).toArray:=by simp
  have e2:(acc++its)++(List.replicate k its).flatten=acc++(List.replicate (k+1) its).flatten:=by
   rw[List.replicate_succ,List.flatten_cons,List.append_assoc]
  rw[<-e2,<-foldl_rep its k (acc++its),<-e,List.replicate_succ,List.foldl_cons]
section
variable {X:Cx}{pins:List (Addr × Obj)}{σ : St}{H:Hp}{s:Shared}{l b:Addr}{xs ys zs:List V}
theorem Inv.Cy{its its':List Value}{n:Nat}{f:Array Value->Array Value}{t':Nat}(I:Inv X pins σ H s)(hH:H l=some (.lst xs))
  (e:s.heap.get? l=some {cls:=.type "list",data:=.seq its.toArray n }) (hf:f its.toArray=its'.toArray) (hv:Vals ys its') (hz:ys.length<=sizeLine) :
  Inv X pins σ (upd H l (.lst ys)) {s with heap:=s.heap.update l (Obj.mapSeq f),toks:=t' }:=by
 have q:=PySem.IsL.update e f
 rw[hf]at q
 refine I.write (x:=l) (e:=l) (by rw[hH]; exact trivial) (.inl rfl) (λb' u hb hu=>(Heap.get?_update_other s.heap (Obj.mapSeq f) (Ne.symm hb)).trans hu) ⟨_,q⟩ ?_
 exact⟨hz,its',_,hv,q⟩
theorem Inv.Cz(I:Inv X pins σ H s)(hv:Vals ys its)(hz:ys.length<=sizeLine) :
  Inv X pins σ (upd H s.heap.objs.size (.lst ys)) {s with heap:=s.heap.push {cls:=.type "list",data:=.seq its.toArray },toks:=t' } :=
 I.laid (λ_ _ q=>Heap.get?_push_of_some _ q) (Nat.le_refl _) ⟨hz,its,0,hv,Heap.get?_push_size _ rfl⟩
theorem Inv.fresh(I:Inv X pins σ H s):H s.heap.objs.size=none:=I.hok.fresh (Nat.le_refl _)
theorem Inv.CG(I:Inv X pins σ H s)(hH:H l=some (.lst xs)):xs.length<=sizeLine/\∃(its:List Value) (n:Nat),Vals xs its/\xs.length=its.length/\s.heap.get? l=some {cls:=.type "list",data:=.seq its.toArray n }:=by
 obtain⟨z,its,n,r,e⟩:=I.hok l _ hH
 exact⟨z,its,n,r,r.length,e⟩
theorem acg{n:Nat}(h:n<=sizeLine):Builtin.List.listTooLong n=false:=by
 unfold Builtin.List.listTooLong
 exact decide_eq_false (by lia)
end
section
variable {X:Cx}
noncomputable def CJ:V->List V->Hp->VK->Prop:=λx vs H Q=>∃l xs y,x=.ref l/\vs=[y]/\H l=some (.lst xs)/\xs.length<sizeLine/\Q .non (upd H l (.lst (xs++[y])))
theorem CK:xg X "list.append" CJ:=by
 intro pins s σ H x vs v us Q I rx rv h
 obtain⟨l,xs,y,rfl,rfl,hH,hz,q⟩:=h
 cases rx
 obtain⟨u,rfl,ru⟩:=rv.one
 obtain⟨z,its,n,r,hl,e⟩:=I.CG hH
 refine call_meets F.slot_list_append ⟨_,e,rfl⟩ F.entry_list_append (F.args_list_append_2 _ _) (PySem.list_append l its.toArray n u (by rw[List.size_toArray]; lia)) ⟨e,?_⟩
 refine⟨.non,_,I.Cy (its':=its++[u]) hH e (by simp) (r.append (.cons ru .nil)) ?_,rfl,q⟩
 rw[List.length_append,List.length_singleton]
 lia
noncomputable def ach:V->List V->Hp->VK->Prop:=λx vs H Q=>∃l xs,x=.ref l/\vs=[]/\H l=some (.lst xs)/\Q .non (upd H l (.lst []))
theorem aci:xg X "list.clear" ach:=by
 intro pins s σ H x vs v us Q I rx rv h
 obtain⟨l,xs,rfl,rfl,hH,q⟩:=h
 cases rx
 have hus:=rv.zero
 subst hus
 obtain⟨z,its,n,r,hl,e⟩:=I.CG hH
 refine call_meets F.slot_list_clear ⟨_,e,rfl⟩ F.entry_list_clear (F.args_list_clear_1 _) (AutoSeq1.list_clear_list_0 l its.toArray n (by rw[List.size_toArray]; lia)) ⟨e,?_⟩
 exact⟨.non,_,I.Cy (its':=[]) (ys:=[]) hH e rfl .nil (Nat.zero_le _),rfl,q⟩
theorem len_rep{α : Type}(xs:List α)(k:Nat):(List.replicate k xs).flatten.length=k*xs.length:=by
 induction k with
 |zero=>simp
 |succ k ih=>rw[List.replicate_succ,List.flatten_cons,List.length_append,ih,Nat.succ_mul,Nat.add_comm]
end
end L2
namespace M5
open PySem PySem.W PySem.Calls PyProof.Rows
theorem acj:∀(ns:List Int) (vs:List Value),WellAll P h vs (ns.map WData.int)->IntsAre vs ns:=by
 intro ns
 induction ns with
 |nil =>
  intro vs w
  rw[List.map_nil]at w
  cases w
  exact .nil
 |cons n ns ih =>
  intro vs w
  rw[List.map_cons]at w
  cases w with
  |cons a b =>
   cases a
   exact .cons _ _ (ih _ b)
theorem acn{l:OpenLaw}{n:Nat}(hn:l.most=some n){P:Params}{h:Heap}{args:List WData}{vals:List Value}
  (hpre:l.row.toRowW.claim.pre args=true) (hwl:WellAll P h vals args) :
  ∃a vs ns,vals=[Value.ref a]/\args=[WData.list (ns.map WData.int)]/\h.get? a=some {cls:=.type "list",data:=.seq vs.toArray }/\IntsAre vs ns/\ns.length<=n:=by
 have hsh:WShape.hasAll [] args [.list .int]=true:=(pre_splitW hpre).1
 have hc:l.pre.holds [] {args:=args }=true:=(pre_splitW hpre).2
 obtain⟨d,r,rfl,h1,h2⟩:=hasAllW_cons hsh
 obtain rfl:=hasAllW_nil h2
 obtain⟨xs,rfl,h3⟩:=hasW_list h1
 obtain⟨ns,rfl⟩:=items_int h3
 have hlen:ns.length<=n:=by
  unfold OpenLaw.pre at hc
  have h4:(WTm.not (.lt (.lit (.int (n:Int))) (.len (.arg 0)))).holds [] {args:=[.list (ns.map .int)] }=true:=by
   have h4:=(holds_andW hc).1
   rw[hn]at h4
   exact h4
  have h5:=condW_of h4 (w_not (w_lt w_lit (w_len_list (w_arg rfl))))
  rw[List.length_map]at h5
  refine Nat.le_of_not_lt λq=>?_
  have q':(n:Int)<((ns.length:Nat):Int):=by lia
  first
   |(rw[decide_eq_true q']at h5; exact absurd h5 (by decide))
   |(simp at h5; lia)
 cases hwl with
 |cons w1 w2 =>
  cases w2
  cases w1 with
  |list ho hall=>exact⟨_,_,ns,rfl,rfl,ho,acj ns _ hall,hlen⟩
theorem aco(l:OpenLaw)(args:List WData):l.row.toRowW.claim.post args (.bool true) args=true :=
 postW_of (r:=l.row.toRowW) (X:=(true == true))
  (show WShape.has [] (.bool true) .bool=true by first|rfl|decide|simp[WShape.has,WShape.arms,WShape.armsAll])
  (show(WTm.eq .res (.lit (.bool true))).value [] {args:=args,res:=some (.bool true),after:=args }=some (.bool (true == true))from w_eq_bool (w_res rfl) w_lit) rfl
theorem acp{l:OpenLaw}{n:Nat}{q:Program}{loose:List Str}{XP:(Str->Option Value)->Heap->Prop}{YP:World->Heap->Prop}{d:DefRec}
  (hn:l.most=some n) (hdf:d.params.defaults=[])
  (call:∀(w:World) (s₀ s₁ : Shared) (mg mb:Str->Option Value) (fa:Addr) (o:Obj) (pm cd doc:Value) (a:Addr) (vs:List Value) (ns:List Int),
   Ground q loose [] XP w s₀ mg mb s₁.heap->YP w s₁.heap ->
   s₁.heap.get? fa=some o->o.data=.func (docDef d.name d.params d.body d.scope pm cd doc)->s₁.heap.CodeRec cd d.name->mg d.name=some (.ref fa) ->
   s₁.heap.get? a=some {cls:=.type "list",data:=.seq vs.toArray }->IntsAre vs ns->ns.length<=n->s₁.gens = #[] ->
   codeAny (model l.prog w) callerA (.call (.ref fa) ⟨[.ref a],[]⟩) (λr s'=>r=.ok (.ret (.bool true))/\OldK s₁.heap s'.heap/\s'.os=s₁.os/\AllBare s'.gens) s₁) :
  WalkO q loose XP YP l.row.toRowW d [] (λf vs=>PySem.call f vs):=by
 intro w s₀ s₁ mg mb G Y fa o pm cd doc dV kV ho hd hcd hD hmg hg args vals as hpre hlay hrd hwl hlo
 obtain rfl:dV=.none:=Dflts.none hD hdf
 obtain rfl:kV=.none:=Dflts.noKw hD
 obtain⟨a,vs,ns,rfl,rfl,hobj,hints,hlen⟩:=acn hn hpre hwl
 refine enter_call (codeAny_mono (call w s₀ s₁ mg mb fa o pm cd doc a vs ns G Y ho (fd_plain hd) hcd hmg hobj hints hlen hg) λr s' hq=>?_)
 obtain⟨rfl,h2,h3,h4⟩:=hq
 exact⟨.inl ⟨.bool true,.bool true,[],rfl,λ_=>rfl,.bool true,aco l _,λ_=>⟨List.Pairwise.nil,λ_ hm=>(nomatch hm)⟩⟩,h2,h3,h4⟩
end M5
namespace L2
open PySem PySem.Spec PyProof.Rows
theorem M6:∀{vs:List Value} {ns:List Int},IntsAre vs ns->Vals (ns.map V.int) vs
 |_,_,.nil=>.nil
 |_,_,.cons n t h=>.cons ⟨t,rfl⟩ (M6 h)
noncomputable def jD(s:Stmt):Arguments:=match s with
 |.FunctionDef _ a _ _ _ _ _ _ _ _=>a
 |_=>{posonlyargs:=[],args:=[],vararg:=none,kwonlyargs:=[],kw_defaults:=[],kwarg:=none,defaults:=[] }
noncomputable def fQ(s:Stmt):List Stmt:=match s with
 |.FunctionDef _ _ b _ _ _ _ _ _ _=>b
 |_=>[]
noncomputable def bM(s:Stmt):Scope:=match s with
 |.FunctionDef _ _ _ _ _ _ sc _ _ _=>sc
 |_=>{kind:=.function,names:=[],isGenerator:=false,isCoroutine:=false }
noncomputable abbrev CN:gj:=λ_ _ _ _ _ _=>False
noncomputable abbrev E0:XK:=λ_ _ _=>False
structure lA(K:PySem.W.Frag)(x qual:Str)(st:Stmt)(f:Addr)(fd:FuncData):Prop where
 ex:∃(oc:Value) (od:Option Addr) (kV doc pm:Value) (an:Option Addr) (cdv ct:Value) (osl:Array (Option Value)),
  fd=PySem.W.fnOf x qual (jD st) (fQ st) (bM st) .none kV doc pm an cdv ct/\K.lookup f=some ⟨oc,od,.func fd,osl⟩/\PySem.W.codeIn K cdv qual=true
 kp:PySem.W.keepIn K (.ref f)=true
section
variable {P:Program}{w:World}{K:PySem.W.Frag}{mg:Str->Option Value}{base:Heap}
theorem lA.ok{x qual:Str}{st:Stmt}{f:Addr}{fd:FuncData}{N ps:List Str}{k:Nat}{sp:Sp}(F:lA K x qual st f fd)(S:oY N ps (bM st))(len:∀vs H Q E,sp vs H Q E->vs.length=ps.length)
  (hbody:∀(cdv:Value) (A:Around) (outer:List Env) (s:Shared) (H:Hp) (vs:List V) (Q:VK) (E:XK),cR k (A.deeper (envOfC qual (bM st) s.heap.objs.size f cdv))->sp vs H Q E ->
   ∃t,dj (gA CN P w K mg base N qual (bM st) f cdv A outer s H E).iI (fQ st) t/\t {nx:=λ_ H'=>Q .non H',rt:=Q } (start N vs) H):gq P w K mg base CN (k+1) f fd ps sp:=by
 obtain⟨oc,od,kV,doc,pm,an,cdv,ct,osl,rfl,lk,hcd⟩:=F.ex
 refine Cp lk hcd S len λA outer s H vs Q E hr hsp=>?_
 obtain⟨t,h,q⟩:=hbody cdv A outer s H vs Q E hr hsp
 exact⟨t,h.iI,q⟩
theorem lA.binds{x qual:Str}{st:Stmt}{f:Addr}{fd:FuncData}{ps:List Str}(F:lA K x qual st f fd)
  (h:∀(kV doc pm:Value) (an:Option Addr) (cdv ct:Value) (us:List Value),us.length=ps.length->bindArgs (PySem.W.fnOf x qual (jD st) (fQ st) (bM st) .none kV doc pm an cdv ct) ⟨us,[]⟩=pure (ps.zip us)):Binds K fd ps []:=by
 obtain⟨oc,od,kV,doc,pm,an,cdv,ct,osl,rfl,lk,hcd⟩:=F.ex
 exact .all (h kV doc pm an cdv ct)
theorem M7{x qual:Str}{st:Stmt}{f:Addr}{oc:Value}{od an:Option Addr}{osl:Array (Option Value)}{kV doc pm cdv ct:Value}(l:K.lookup f=some ⟨oc,od,.func (PySem.W.fnOf x qual (jD st) (fQ st) (bM st) .none kV doc pm an cdv ct),osl⟩)
  (c:PySem.W.codeIn K cdv qual=true) (k:PySem.W.keepIn K (.ref f)=true):lA K x qual st f (PySem.W.fnOf x qual (jD st) (fQ st) (bM st) .none kV doc pm an cdv ct):=⟨⟨oc,od,kV,doc,pm,an,cdv,ct,osl,rfl,l,c⟩,k⟩
end
theorem CP(h:n<=1000):n<sizeLine:=Nat.lt_of_le_of_lt h (by decide)
noncomputable def Same(H H':Hp):Prop:=∀b o,H b=some o->H' b=some o
theorem Same.refl(H:Hp):Same H H:=λ_ _ h=>h
theorem Same.trans(a:Same H H1)(b:Same H1 H2):Same H H2:=λc o h=>b c o (a c o h)
theorem Same.free{H H':Hp}(e:Same H H'){l:Addr}(h:H' l=Option.none):H l=Option.none:=by
 cases q:H l with
 |none=>rfl
 |some o =>
  rw[e l o q]at h
  cases h
theorem Same.seq{K:PySem.W.Frag}{H H':Hp}{a:Addr}{xs:List V}(e:Same H H')(h:aG K H a xs):aG K H' a xs:=by
 rcases h with(h|⟨o,h⟩)|h
 .exact .inl (.inl (e _ _ h))
 .exact .inl (.inr ⟨o,e _ _ h⟩)
 .exact .inr h
noncomputable def bY(cells:List (Str × Addr)):List (Str × NameKind)->List (Str × Addr)->List (Str × Addr)
 | [],acc=>acc
 |(n,k)::r,acc=>if k=.free then(match cells.lookup n with|some a=>bY cells r ((n,a)::acc)|none=>bY cells r acc)else bY cells r acc
theorem oZ:∀{names:List (Str × NameKind)} {acc:List (Str × Addr)},(bY cells names acc).lookup x=some c->acc.lookup x=some c\/cells.lookup x=some c
 | [],acc,h=>.inl h
 |(n,k)::r,acc,h=>by
  unfold bY at h
  split at h
  .split at h
   .rename_i a ha
    rcases oZ h with q|q
    .by_cases e:x=n
     .subst e
      rw[List.lookup_cons,beq_self_eq_true]at q
      cases q
      exact .inr ha
     .rw[List.lookup_cons,beq_false_of_ne e]at q
      exact .inl q
    .exact .inr q
   .exact oZ h
  .exact oZ h
theorem o7:∀{names:List (Str × NameKind)} {acc:List (Str × Addr)},((acc.lookup x).isSome=true\/((x,NameKind.free)∈names/\(cells.lookup x).isSome=true))->((bY cells names acc).lookup x).isSome=true
 | [],acc,h=>by
  rcases h with h|⟨h,_⟩
  .exact h
  .cases h
 |(n,k)::r,acc,h=>by
  have up:∀a,(acc.lookup x).isSome=true->(List.lookup x ((n,a)::acc)).isSome=true:=λa q=>by
   rw[List.lookup_cons]
   split
   .rfl
   .exact q
  unfold bY
  split
  .rename_i hk
   split
   .rename_i a ha
    refine o7 ?_
    rcases h with h|⟨h,hc⟩
    .exact .inl (up a h)
    .rcases List.mem_cons.mp h with e|e
     .cases e
      refine .inl ?_
      rw[List.lookup_cons,beq_self_eq_true]
      rfl
     .exact .inr ⟨e,hc⟩
   .rename_i hn
    refine o7 ?_
    rcases h with h|⟨h,hc⟩
    .exact .inl h
    .rcases List.mem_cons.mp h with e|e
     .cases e
      rw[hn]at hc; cases hc
     .exact .inr ⟨e,hc⟩
  .rename_i hk
   refine o7 ?_
   rcases h with h|⟨h,hc⟩
   .exact .inl h
   .rcases List.mem_cons.mp h with e|e
    .cases e; exact absurd rfl hk
    .exact .inr ⟨e,hc⟩
theorem CQ(h:∀y∈scope.names,y.2=.free->(env.cells.lookup y.1).isSome=true):closureFor scope env=pure (bY env.cells scope.names []):=by
 suffices q:∀(names:List (Str × NameKind)) (acc:List (Str × Addr)),(∀y∈names,y.2=.free->(env.cells.lookup y.1).isSome=true) ->
   (forIn names acc λx r=>do
    match x with
    |(name,kind)=>if(kind == NameKind.free)=true then do let a <-cellOf env name; pure (ForInStep.yield ((name,a)::r))else pure (ForInStep.yield r):Sem _)=pure (bY env.cells names acc) by
  have z:=q scope.names [] h
  exact(congrArg (λm=>m >>= λcs=>pure cs) z)
 intro names
 induction names with
 |nil=>intro acc _; rfl
 |cons y r ih =>
  intro acc hy
  obtain⟨n,k⟩:=y
  rw[List.forIn_cons]
  unfold bY
  by_cases hk:k=.free
  .subst hk
   have q:=hy (n,.free) List.mem_cons_self rfl
   cases e:env.cells.lookup n with
   |none=>rw[e]at q; cases q
   |some a =>
    have ec:cellOf env n=pure a:=by unfold cellOf; rw[e]
    simp only[ec]
    exact ih _ λz hz=>hy z (List.mem_cons_of_mem _ hz)
  .rw[if_neg hk]
   have hb:(k == NameKind.free)=false:=by simpa using hk
   simp only[hb]
   exact ih _ λz hz=>hy z (List.mem_cons_of_mem _ hz)
noncomputable def M8(scope sc:Scope):Scope :=
 {scope with names:=scope.names.map λ(n,k)=>if(k == .free&&sc.kind == .function&&sc.names.lookup n == some .cell)then(n,.cell)else(n,k) }
theorem M9{env:Env}:∀{names:List (Str × NameKind)} {x:Str},names.lookup x=some .free ->
  (names.map λ(n,k)=>if(k == NameKind.free&&env.scope.kind == .function&&env.kindOf n == some .cell)then(n,NameKind.cell)else(n,k)).lookup x=some .cell \/
  (names.map λ(n,k)=>if(k == NameKind.free&&env.scope.kind == .function&&env.kindOf n == some .cell)then(n,NameKind.cell)else(n,k)).lookup x=some .free
 | [],_,h=>by simp at h
 |(n,k)::r,x,h=>by
  have ih:=@M9 env r x
  rw[List.map_cons]
  dsimp only
  cases hx:x == n with
  |true =>
   simp only[List.lookup_cons,hx]at h
   cases h
   by_cases hc:(NameKind.free == NameKind.free&&env.scope.kind == .function&&env.kindOf n == some .cell)=true
   .rw[if_pos hc]; simp[List.lookup_cons,hx]
   .rw[if_neg hc]; simp[List.lookup_cons,hx]
  |false =>
   simp only[List.lookup_cons,hx]at h
   by_cases hc:(k == NameKind.free&&env.scope.kind == .function&&env.kindOf n == some .cell)=true
   .rw[if_pos hc]; simp only[List.lookup_cons,hx]; exact ih h
   .rw[if_neg hc]; simp only[List.lookup_cons,hx]; exact ih h
theorem Nb{env:Env}:∀{names:List (Str × NameKind)} {x:Str},
  ((names.map λ(n,k)=>if(k == NameKind.free&&env.scope.kind == .function&&env.kindOf n == some .cell)then(n,NameKind.cell)else(n,k)).lookup x=some .cell \/
  (names.map λ(n,k)=>if(k == NameKind.free&&env.scope.kind == .function&&env.kindOf n == some .cell)then(n,NameKind.cell)else(n,k)).lookup x=some .free)->names.lookup x=some .cell\/names.lookup x=some .free
 | [],_,h=>by simp at h
 |(n,k)::r,x,h=>by
  have ih:=@Nb env r x
  rw[List.map_cons]at h
  dsimp only at h
  cases hx:x == n with
  |true =>
   by_cases hcc:(k == NameKind.free&&env.scope.kind == .function&&env.kindOf n == some .cell)=true
   .have hk:k=.free:=by
     simp only[Bool.and_eq_true,beq_iff_eq]at hcc
     exact hcc.1.1
    subst hk
    exact .inr (by simp only[List.lookup_cons,hx])
   .rw[if_neg hcc]at h
    simp only[List.lookup_cons,hx]at h ⊢
    exact h
  |false =>
   have q:=ih (by
    by_cases hcc:(k == NameKind.free&&env.scope.kind == .function&&env.kindOf n == some .cell)=true
    .rw[if_pos hcc]at h; simp only[List.lookup_cons,hx]at h; exact h
    .rw[if_neg hcc]at h; simp only[List.lookup_cons,hx]at h; exact h)
   simp only[List.lookup_cons,hx]
   exact q
theorem mX:∀(names:List (Str × NameKind)) (n:Nat) (acc:List (Str × Addr)),cellsFrom n names acc=cellsFrom n names []++acc
 | [],_,_=>rfl
 |(x,k)::r,n,acc=>by
  unfold cellsFrom
  split
  .rw[mX r (n+1) ((x,n)::acc),mX r (n+1) [(x,n)],List.append_assoc]
   rfl
  .exact mX r n acc
theorem CT:∀(names:List (Str × NameKind)) (n:Nat) {x:Str} {c:Addr},(x,c)∈cellsFrom n names []->(x,NameKind.cell)∈names
 | [],_,_,_,h=>by cases h
 |(y,k)::r,n,x,c,h=>by
  unfold cellsFrom at h
  split at h
  .rename_i hk
   have hk:k=.cell:=by simpa using hk
   rw[mX]at h
   rcases List.mem_append.mp h with z|z
   .exact List.mem_cons_of_mem _ (CT r _ z)
   .have z:=List.mem_singleton.mp z
    cases z
    rw[hk]
    exact List.mem_cons_self
  .exact List.mem_cons_of_mem _ (CT r _ h)
theorem tB(x:Str):∀(a b:List (Str × Addr)),(a++b).lookup x=(match a.lookup x with|some c=>some c|none=>b.lookup x)
 | [],_=>rfl
 |(y,c)::r,b=>by
  have ih:=tB x r b
  rw[List.cons_append,List.lookup_cons,List.lookup_cons]
  cases h:x == y with
  |true=>rfl
  |false=>exact ih
theorem acq
  (hQ:∀h',h'.Ns s.heap.objs.size (λ_=>none)->(∀b o,s.heap.get? b=some o->h'.get? b=some o)->CellsOk h' (s.heap.objs.size+1) (cellsFrom (s.heap.objs.size+1) scope.names []) ->
   Q {scope:=scope,locals:=s.heap.objs.size,globals:=globals,cells:=cellsFrom (s.heap.objs.size+1) scope.names cl,qual:=qual,func:=none,code:=env.code,frame:=env.frame,builtins:=env.builtins } {s with heap:=h',toks:=s.toks+([]:List (Str × Value)).length }) :
  wpAny M A (newFunctionEnv scope globals cl [] qual none .none (some env)) Q E s:=by
 simp only[newFunctionEnv,Option.isSome_some,if_true]
 refine wpAny_bind (wpAny_alloc ?_)
 refine wpAny_bind (wpAny_layCells _ (λname kind cells=>by cases hkc:kind == NameKind.cell <;> simp[hkc]) _ _ _ _ ?_)
 have ok:=cellsFrom_ok scope.names (s.heap.push {cls:=.type "dict",data:=.dict #[] }) (s.heap.objs.size+1) [] ⟨λ_ _ hm=>(nomatch hm),List.Pairwise.nil⟩ (by rw[Heap.size_push]; exact Nat.le_refl _)
 rw[Heap.size_push]at ok
 rw[show({s with heap:=s.heap.push {cls:=.type "dict",data:=.dict #[] } }:Shared).heap.objs.size=s.heap.objs.size+1 from Heap.size_push ..]
 exact wpAny_bind (wpAny_pure (wpAny_pure (hQ _ ((Heap.Ns.new s.heap (.type "dict")).keeps (pushCells_keeps _ _)) (λb o e=>pushCells_keeps _ _ b o (Heap.get?_push_of_some _ e)) ok)))
structure qy(sc:Scope)(No N:List Str)(src:List (Option Nat))(scope:Scope):Prop where
 kind:scope.kind=.function
 cells:∀y∈scope.names,y.2=.cell->scope.names.lookup y.1=some .cell
 names:∀y∈scope.names,y.2=.local->scope.names.lookup y.1=some .local
 free:∀y∈scope.names,y.2=.free->sc.names.lookup y.1=some .cell\/sc.names.lookup y.1=some .free
 len:src.length=N.length
 up:∀p∈N.zip src,∀j∈p.2,No[j]?=some p.1/\scope.names.lookup p.1=some .free
noncomputable def cX(src:List (Option Nat))(σ : St):St:=src.map λo=>o.bind λj=>(σ[j]?).join
noncomputable def bV(X:Cx)(N:List Str)(scope:Scope)(C:Addr)(s:Shared)(H:Hp)(ex:List Addr):Cx where
 prog:=X.prog
 w:=X.w
 K:=X.K
 mg:=X.mg
 base:=X.base
 A:=X.A
 N:=N
 s₀ := s
 H₀ := H
 env:=compEnvC scope (cellsFrom (C+1) scope.names (bY X.env.cells scope.names [])) C X.env
 outer:=X.stack
 stack:=X.stack
 ex:=ex
 fn:=λx=>scope.names.lookup x == some .cell
 calm:=X.calm
 pn:=[]
 xe:=λ_ _=>False
noncomputable def Nf(Q:VK)(D:Addr)(H:Hp):Prop:=Q (.ref D) H
section
variable {X:Cx}{elt tg iter:Expr}{scope sc:Scope}{pos:Pos}{No N:List Str}{src:List (Option Nat)}{wi:TI}{g:TG}{te:TE}
theorem acr{pins:List (Addr × Obj)}{σ : St}{H:Hp}{s:Shared}{h₁ : Heap}{fp:List Addr}{tk:Nat}(hsc:X.env.scope=sc)(iJ:X.N=No)(S:qy sc No N src scope)(I:Inv X pins σ H s)
  (hf:∀b∈fp,cL X pins H b) (hlt:∀b∈fp,b<s.heap.objs.size)
  (hns:h₁.Ns s.heap.objs.size (λ_=>none)) (old:∀b o,s.heap.get? b=some o->h₁.get? b=some o) (ck:CellsOk h₁ (s.heap.objs.size+1) (cellsFrom (s.heap.objs.size+1) scope.names [])) :
  Inv (bV X N scope s.heap.objs.size s H fp) [] (cX src σ) H {s with heap:=h₁,toks:=tk }:=by
 subst hsc
 subst iJ
 have qz:∀x c,(cellsFrom (s.heap.objs.size+1) scope.names (bY X.env.cells scope.names [])).lookup x=some c->(cellsFrom (s.heap.objs.size+1) scope.names []).lookup x=some c\/X.env.cells.lookup x=some c:=λx c h=>by
  rw[mX,tB]at h
  split at h
  .rename_i e
   exact .inl (e.trans h)
  .rcases oZ h with q|q
   .simp at q
   .exact .inr q
 have big:=λx c h=>(ck.empty x c (PySem.mem_of_lookup h)).2
 have Ng:∀x c,X.env.cells.lookup x=some c->c<s.heap.objs.size:=λx c e=>by
  obtain⟨v,q⟩:=I.cell x c e
  exact q.lt
 have alk:∀b∈frs X.stack,b<s.heap.objs.size:=λb hb=>by
  obtain⟨_,o,ho,_⟩:=I.stack.mem hb
  exact Heap.lt_size ho
 refine⟨⟨I.ok.mod,S.kind,I.ok.glob,I.ok.blt,Nat.le_refl _,λx y c h1 h2=>?_,λx hx=>?_,λx c hfn h=>?_,I.ok.hd,I.ok.frames,.inl rfl,λb hb=>⟨Nat.ne_of_lt (hlt b hb),λx c e=>?_⟩,
   I.bs,Nat.le_trans I.ok.jT I.sz,λb o e hb=>?_,λb hb hb'=>?_,I.stack,I.wC⟩,
  rfl,I.bare,Un.kept old,⟨_,hns,λi x v h1 h2 h3=>?_⟩,λx c e=>?_,I.hok.fresh (Nat.le_refl _),λx c e=>?_,λp hp=>absurd (show p∈([]:List (Addr × Obj))from hp) (by simp),I.hok.kept old,?_⟩
 .rcases qz _ _ h1 with z1|z1
  .rcases qz _ _ h2 with z2|z2
   .exact name_of_addr ck.apart (PySem.mem_of_lookup z1) (PySem.mem_of_lookup z2)
   .exact absurd (Nat.le_trans (big _ _ z1) (Nat.le_of_lt (Ng _ _ z2))) (Nat.not_succ_le_self _)
  .rcases qz _ _ h2 with z2|z2
   .exact absurd (Nat.le_trans (big _ _ z2) (Nat.le_of_lt (Ng _ _ z1))) (Nat.not_succ_le_self _)
   .exact I.ok.inj x y c z1 z2
 ·-- every cell or free name has its cell
  rcases Nb hx with m|m
  .exact Option.isSome_iff_exists.mp (PySem.W.cellsFrom_some _ _ _ (.inl m))
  .have m:=PySem.mem_of_lookup m
   have q:=o7 (cells:=X.env.cells) (acc:=[]) (.inr ⟨m,by
    obtain⟨c,e⟩:=I.ok.has x (S.free _ m rfl)
    rw[e]; rfl⟩)
   exact Option.isSome_iff_exists.mp (PySem.W.cellsFrom_some _ _ _ (.inr q))
 .have hfn:scope.names.lookup x=some .cell:=by
   have z:(scope.names.lookup x == some .cell)=true:=hfn
   simpa using z
  obtain⟨c',e'⟩:=Option.isSome_iff_exists.mp (PySem.W.cellsFrom_some _ (s.heap.objs.size+1) [] (.inl hfn))
  have h:(cellsFrom (s.heap.objs.size+1) scope.names (bY X.env.cells scope.names [])).lookup x=some c:=h
  rw[mX,tB,e']at h
  cases h
  exact Nat.le_of_succ_le (big _ _ e')
 .rcases qz _ _ e with z|z
  .exact λy=>absurd (Nat.le_trans (big _ _ z) (y▸Nat.le_of_lt (hlt b hb))) (Nat.not_succ_le_self _)
  .exact(hf b hb).2.2.2.2.1 x c z
 .obtain⟨f0,f1,f2,f3,f4,f5⟩:=hf b hb
  rcases f3 with z|z
  .exact I.ok.sG b o e z
  .have q:=Heap.lt_size (I.ok.bs b o e).1
   exact absurd q (Nat.not_lt.mpr z)
 .obtain⟨f0,f1,f2,_⟩:=hf b hb
  rcases List.mem_cons.mp (I.wz b hb')with z|z
  .exact f1 z
  .exact f2 z
 .have hi:i<src.length:=by
   unfold cX at h2
   have:=(List.getElem?_eq_some_iff.mp h2).1
   simpa using this
  have h2':((src[i]).bind λj=>(σ[j]?).join)=some v:=by
   unfold cX at h2
   rw[List.getElem?_map,List.getElem?_eq_getElem hi]at h2
   exact Option.some.inj h2
  cases es:src[i]with
  |none=>rw[es]at h2'; cases h2'
  |some j =>
   rw[es]at h2'
   have hj : σ[j]?=some (some v):=by
    have z:(σ[j]?).join=some v:=h2'
    cases q : σ[j]? with
    |none=>rw[q]at z; cases z
    |some o=>rw[q]at z; have z':o=some v:=z; rw[z']
   have hz:(x,some j)∈N.zip src:=by
    refine List.mem_of_getElem? (i:=i) ?_
    rw[List.getElem?_zip_eq_some]
    exact⟨h1,by rw[List.getElem?_eq_getElem hi,es]⟩
   obtain⟨u1,u2⟩:=S.up _ hz j rfl
   have m:(x,NameKind.free)∈scope.names:=PySem.mem_of_lookup u2
   have kx:=S.free _ m rfl
   obtain⟨m0,hn0,hl0⟩:=id I.loc
   obtain⟨u,r,lk⟩:=hl0 j x v u1 hj (kx.elim (λz=>.inr (.inl z)) λz=>.inr (.inr z))
   refine⟨u,r,?_⟩
   rcases lk with⟨k,_⟩|⟨_,c,e,ic⟩
   .have k':X.env.scope.names.lookup x=some .local:=k
    rcases kx with z|z
    .rw[z]at k'; cases k'
    .rw[z]at k'; cases k'
   .refine .inr ⟨M9 u2,c,?_,?_⟩
    .have q:=o7 (cells:=X.env.cells) (acc:=[]) (.inr ⟨m,by rw[e]; rfl⟩)
     obtain⟨c',e'⟩:=Option.isSome_iff_exists.mp q
     have e2:X.env.cells.lookup x=some c':=by
      rcases oZ e' with q|q
      .simp at q
      .exact q
     rw[e]at e2; cases e2
     show(cellsFrom (s.heap.objs.size+1) scope.names (bY X.env.cells scope.names [])).lookup x=some c
     rw[mX,tB]
     split
     .rename_i c2 z
      have y:=S.cells _ (CT _ _ (PySem.mem_of_lookup z)) rfl
      rw[u2]at y; cases y
     .exact e'
    .obtain⟨o,ho,hd⟩:=ic
     exact⟨o,old _ _ ho,hd⟩
 .rcases qz _ _ e with z|z
  .exact⟨_,(ck.empty x c (PySem.mem_of_lookup z)).1⟩
  .obtain⟨v,o,ho,hd⟩:=I.cell x c z
   exact⟨v,o,old _ _ ho,hd⟩
 .rcases qz _ _ e with z|z
  .exact I.hok.fresh (Nat.le_of_succ_le (big _ _ z))
  .exact I.jA x c z
 .unfold cX
  rw[List.length_map]
  exact S.len
end
noncomputable def CV(e C:Addr)(h:Heap):Prop:=∃o vs,h.get? e=some o/\o.cls=.ref C/\o.data=.fields vs
noncomputable def xq(e C:Addr):HO:=.ext (CV e C)
noncomputable def xr:List Str:=["NoBottom", "NoBook", "NoList", "NoRule", "NoCount", "NoLooks", "NoThings", "NotSure", "NoSlack", "NoThing", "NoWorth", "TooMany", "NoText", "NoLine"]
inductive Tr where
 |non|bl (b:Bool)|int (i:Int)|str (x:Str)|tup (ts:List Tr)|lst (ts:List Tr)|bQ (c:Str)
mutual
inductive Rep(K:PySem.W.Frag)(H:Hp):V->Tr->Prop
 |non:Rep K H .non .non
 |bl (b:Bool):Rep K H (.bl b) (.bl b)
 |int (i:Int):Rep K H (.int i) (.int i)
 |str (x:Str):Rep K H (.str x) (.str x)
 |tup {a:Addr} {xs:List V} {ts:List Tr} (h:bx K H a xs) (r:au K H xs ts):Rep K H (.ref a) (.tup ts)
 |lst {a:Addr} {xs:List V} {ts:List Tr} (h:aG K H a xs) (r:au K H xs ts):Rep K H (.ref a) (.lst ts)
 |bQ {a C:Addr} {c:Str} (h:H a=some (xq a C)) (m:c∈xr) (n:PySem.W.nsIn K mainGlobals c=some (some (.ref C))):Rep K H (.ref a) (.bQ c)
inductive au(K:PySem.W.Frag)(H:Hp):List V->List Tr->Prop
 |nil:au K H [] []
 |cons {x:V} {t:Tr} {xs:List V} {ts:List Tr} (h:Rep K H x t) (r:au K H xs ts):au K H (x::xs) (t::ts)
end
theorem Rep.both{K:PySem.W.Frag}{H:Hp}{P:V->Tr->Prop}{Q:List V->List Tr->Prop}(h1:P .non .non)(h2:∀b,P (.bl b) (.bl b))(h3:∀i,P (.int i) (.int i))(h4:∀x,P (.str x) (.str x))(h5:∀a xs ts,bx K H a xs->Q xs ts->P (.ref a) (.tup ts))(h6:∀a xs ts,aG K H a xs->Q xs ts->P (.ref a) (.lst ts))(h7:∀a C c,H a=some (xq a C)->c∈xr->PySem.W.nsIn K mainGlobals c=some (some (.ref C))->P (.ref a) (.bQ c))(h8:Q [] [])(h9:∀x t xs ts,P x t->Q xs ts->Q (x::xs) (t::ts)):(∀{v t},Rep K H v t->P v t)/\∀{vs ts},au K H vs ts->Q vs ts :=
 ⟨λh=>Rep.rec (motive_1:=λv t _=>P v t) (motive_2:=λv t _=>Q v t) h1 h2 h3 h4 (λh _ q=>h5 _ _ _ h q) (λh _ q=>h6 _ _ _ h q) (λh m n=>h7 _ _ _ h m n) h8 (λ_ _ p q=>h9 _ _ _ _ p q) h,λh=>au.rec (motive_1:=λv t _=>P v t) (motive_2:=λv t _=>Q v t) h1 h2 h3 h4 (λh _ q=>h5 _ _ _ h q) (λh _ q=>h6 _ _ _ h q) (λh m n=>h7 _ _ _ h m n) h8 (λ_ _ p q=>h9 _ _ _ _ p q) h⟩
theorem Same.jE{K:PySem.W.Frag}{H H':Hp}{a:Addr}{xs:List V}(e:Same H H')(h:bx K H a xs):bx K H' a xs:=by
 rcases h with(h|⟨o,h⟩)|h
 .exact .inl (.inl (e _ _ h))
 .exact .inl (.inr ⟨o,e _ _ h⟩)
 .exact .inr h
theorem Nh{K:PySem.W.Frag}{H H':Hp}(e:Same H H'):(∀{v t},Rep K H v t->Rep K H' v t)/\∀{vs ts},au K H vs ts->au K H' vs ts:=Rep.both .non .bl .int .str (λ_ _ _ h q=>.tup (e.jE h) q) (λ_ _ _ h q=>.lst (e.seq h) q) (λ_ _ _ h m n=>.bQ (e _ _ h) m n) .nil λ_ _ _ _ p q=>.cons p q
theorem Rep.mono{K:PySem.W.Frag}{H H':Hp}(e:Same H H'){v:V}{t:Tr}(h:Rep K H v t):Rep K H' v t:=(Nh e).1 h
theorem au.mono{K:PySem.W.Frag}{H H':Hp}(e:Same H H'){v:List V}{t:List Tr}(h:au K H v t):au K H' v t:=(Nh e).2 h
theorem au.length{K:PySem.W.Frag}{H:Hp}:∀{v:List V} {t:List Tr},au K H v t->v.length=t.length
 |_,_,.nil=>rfl
 |_,_,.cons _ r=>by rw[List.length_cons,List.length_cons,au.length r]
theorem au.get{K:PySem.W.Frag}{H:Hp}:∀{v:List V} {t:List Tr} {i:Nat} {x:V},au K H v t->v[i]?=some x->∃u,t[i]?=some u/\Rep K H x u
 |_,_,_,_,.nil,e=>by simp at e
 |_,_,0,_,.cons h _,e=>by
  simp at e
  subst e
  exact⟨_,rfl,h⟩
 |_,_,i+1,x,.cons _ r,e=>by
  obtain⟨u,h1,h2⟩:=au.get (i:=i) (x:=x) r (by simpa using e)
  exact⟨u,by simpa using h1,h2⟩
theorem au.app{K:PySem.W.Frag}{H:Hp}:∀{v w:List V} {t u:List Tr},au K H v t->au K H w u->au K H (v++w) (t++u)
 |_,_,_,_,.nil,s=>s
 |_,_,_,_,.cons h r,s=>.cons h (au.app r s)
theorem au.take{K:PySem.W.Frag}{H:Hp}:∀{v:List V} {t:List Tr} (n:Nat),au K H v t->au K H (v.take n) (t.take n)
 |_,_,0,_=>by rw[List.take_zero,List.take_zero]; exact .nil
 |_,_,n+1,.nil=>by simpa using au.nil
 |_,_,n+1,.cons h r=>by
  exact .cons h (au.take n r)
theorem au.drop{K:PySem.W.Frag}{H:Hp}:∀{v:List V} {t:List Tr} (n:Nat),au K H v t->au K H (v.drop n) (t.drop n)
 |_,_,0,r=>by rw[List.drop_zero,List.drop_zero]; exact r
 |_,_,n+1,.nil=>by simpa using au.nil
 |_,_,n+1,.cons h r=>by
  exact au.drop n r
mutual
noncomputable def dep:Tr->Nat
 |.tup ts=>deps ts+1
 |.lst ts=>deps ts+1
 |.bQ _=>100
 |_=>0
noncomputable def deps:List Tr->Nat
 | []=>0
 |t::r=>max (dep t) (deps r)
end
mutual
noncomputable def eqT:Tr->Tr->Bool
 |.non,.non=>true
 |.bl a,.bl b=>a == b
 |.bl a,.int b=>(if a then 1 else 0) == b
 |.int a,.bl b=>a == (if b then 1 else 0)
 |.int a,.int b=>a == b
 |.str a,.str b=>a == b
 |.tup a,.tup b=>jF a b
 |.lst a,.lst b=>jF a b
 |.bQ a,.bQ b=>a == b
 |_,_=>false
noncomputable def jF:List Tr->List Tr->Bool
 | [],[]=>true
 |a::x,b::y=>eqT a b&&jF x y
 |_,_=>false
end
mutual
theorem xu:∀t:Tr,eqT t t=true
 |.non=>rfl
 |.bl b=>by unfold eqT; exact beq_self_eq_true b
 |.int i=>by unfold eqT; exact beq_self_eq_true i
 |.str x=>by unfold eqT; exact beq_self_eq_true x
 |.tup ts=>by unfold eqT; exact CW ts
 |.lst ts=>by unfold eqT; exact CW ts
 |.bQ c=>by unfold eqT; exact beq_self_eq_true c
theorem CW:∀ts:List Tr,jF ts ts=true
 | []=>rfl
 |t::r=>by unfold jF; rw[xu t,CW r]; rfl
end
theorem tD:∀{a b:List Tr},a.length≠b.length->jF a b=false
 | [],[],h=>absurd rfl h
 | [],_::_,_=>rfl
 |_::_,[],_=>rfl
 |x::a,y::b,h=>by
  unfold jF
  rw[tD (a:=a) (b:=b) (by simpa using h),Bool.and_false]
noncomputable def lB(a b:List Tr)(j:Nat):Bool:=match a[j]?,b[j]? with
 |some x,some y=>eqT x y
 |_,_=>true
theorem tE:∀{a b:List Tr},a.length=b.length->(List.range a.length).all (lB a b)=jF a b
 | [],[],_=>rfl
 | [],_::_,h=>by cases h
 |_::_,[],h=>by cases h
 |x::a,y::b,h=>by
  have ih:=tE (a:=a) (b:=b) (by simpa using h)
  rw[List.length_cons,List.range_succ_eq_map,List.all_cons,List.all_map]
  unfold jF
  rw[<-ih]
  rfl
section
variable {X:Cx}{pins:List (Addr × Obj)}{σ : St}{H:Hp}{s:Shared}
theorem Inv.acs(I:Inv X pins σ H s)(h:H a=some (xq a C))(p:IsTup s.heap a its):False:=by
 obtain⟨o,_,e1,e2,_⟩:=(I.hok a _ h).1
 obtain⟨o',e1',e2',_⟩:=p
 rw[e1]at e1'
 cases e1'
 rw[e2]at e2'
 cases e2'
theorem Inv.acu(I:Inv X pins σ H s)(h:H a=some (xq a C))(p:PlainL s.heap a its):False:=by
 obtain⟨o,_,e1,e2,_⟩:=(I.hok a _ h).1
 obtain⟨o',_,e1',e2',_⟩:=p
 rw[e1]at e1'
 cases e1'
 rw[e2]at e2'
 cases e2'
theorem acv(I:Inv X pins σ H s):(∀{v t},Rep X.K H v t->dep t<=99->∀u,Rep X.K H v u->t=u)/\∀{vs ts},au X.K H vs ts->deps ts<=99->∀us,au X.K H vs us->ts=us:=by
 refine Rep.both (λ_ u h=>?_) (λ_ _ u h=>?_) (λ_ _ u h=>?_) (λ_ _ u h=>?_) (λa xs ts h q d u h'=>?_) (λa xs ts h q d u h'=>?_) (λa C c h m n d u _=>?_) (λ_ u h=>?_) λx t xs ts p q d u h=>?_
 .cases h; rfl
 .cases h; rfl
 .cases h; rfl
 .cases h; rfl
 .obtain⟨_,_,p,_⟩:=I.tuple h
  cases h' with
  |tup h' r' =>
   have e:=I.K8 h h'
   subst e
   rw[q (by unfold dep at d; lia) _ r']
  |lst h' r' =>
   obtain⟨_,_,p',_⟩:=I.list h'
   exact absurd rfl (SeqAt.ne_of_list_tuple p'.isList p)
  |bQ h' _ _=>exact(I.acs h' p).elim
 .obtain⟨_,_,p,_⟩:=I.list h
  cases h' with
  |tup h' r' =>
   obtain⟨_,_,p',_⟩:=I.tuple h'
   exact absurd rfl (SeqAt.ne_of_list_tuple p.isList p')
  |lst h' r' =>
   have e:=I.mQ h h'
   subst e
   rw[q (by unfold dep at d; lia) _ r']
  |bQ h' _ _=>exact(I.acu h' p).elim
 .unfold dep at d; lia
 .cases h; rfl
 .cases h with
  |cons h r =>
   unfold deps at d
   rw[p (by lia) _ h,q (by lia) _ r]
theorem Rep.inj(I:Inv X pins σ H s){v:V}{t u:Tr}(d:dep t<=99)(h:Rep X.K H v t)(h':Rep X.K H v u):t=u:=(acv I).1 h d u h'
theorem in1_units(A:Around):A.in1.units<=A.units+1:=by
 show A.units+1<=_
 lia
theorem xG{xs:List V}{its:List Value}{j:Nat}(r:Vals xs its)(h:j<its.toArray.size):∃x,xs[j]?=some x/\RelV x its.toArray[j]:=by
 have h':j<its.length:=by simpa using h
 have hx:j<xs.length:=by rw[r.length]; exact h'
 obtain⟨u,h1,h2⟩:=r.get (List.getElem?_eq_getElem hx)
 refine⟨xs[j],List.getElem?_eq_getElem hx,?_⟩
 have e:u=its.toArray[j]:=by
  rw[List.getElem?_eq_getElem h']at h1
  have:=Option.some.inj h1
  simpa using this.symm
 rw[<-e]; exact h2
theorem Ni{a b:List Tr}{j:Nat}{x y:Tr}(h1:a[j]?=some x)(h2:b[j]?=some y):lB a b j=eqT x y:=by
 unfold lB
 rw[h1,h2]
theorem mY:∀{ts:List Tr} {j:Nat} {t:Tr},ts[j]?=some t->dep t<=deps ts
 | [],_,_,h=>by simp at h
 |x::r,0,t,h=>by
  simp at h
  subst h
  unfold deps
  exact Nat.le_max_left _ _
 |x::r,j+1,t,h=>by
  have:=mY (ts:=r) (j:=j) (t:=t) (by simpa using h)
  unfold deps
  exact Nat.le_trans this (Nat.le_max_right _ _)
theorem tG(I:Inv X pins σ H s)(A:Around)(t u:Tr)(x y:V)(xv yv:Value)(hu:A.units+0<cLine)(hd:dep t<=0)(du:dep u<=99)(rx:Rep X.K H x t)(ry:Rep X.K H y u)(vx:RelV x xv)(vy:RelV y yv) :
  SeqAt.RcAt A s xv yv (eqT t u)/\SeqAt.EqAt A s xv yv (eqT t u):=by
 have hu0:A.units<cLine:=by lia
 cases rx with
 |tup h r=>unfold dep at hd; lia
 |lst h r=>unfold dep at hd; lia
 |bQ h m n=>unfold dep at hd; lia
 |non =>
  cases vx
  cases ry with
  |non=>cases vy; unfold eqT; exact⟨SeqAt.RcAt.none_none,.same _⟩
  |bl b2=>cases vy; unfold eqT; exact⟨SeqAt.RcAt.none_bool _,SeqAt.EqAt.none_bool _⟩
  |int i2=>obtain⟨_,rfl⟩:=vy; unfold eqT; exact⟨SeqAt.RcAt.none_int _ _,SeqAt.EqAt.none_int _ _⟩
  |str z2=>obtain⟨_,rfl⟩:=vy; unfold eqT; exact⟨SeqAt.RcAt.none_str _ _,SeqAt.EqAt.none_str _ _⟩
  |tup h r=>cases vy; obtain⟨_,_,p,_⟩:=I.tuple h; unfold eqT; exact⟨SeqAt.RcAt.none_tuple p hu0,SeqAt.EqAt.none_tuple p hu0⟩
  |lst h r=>cases vy; obtain⟨_,_,p,_⟩:=I.list h; unfold eqT; exact⟨SeqAt.RcAt.none_list p.isList hu0,SeqAt.EqAt.none_list p.isList hu0⟩
  |bQ h m n=>unfold dep at du; lia
 |bl b =>
  cases vx
  cases ry with
  |non=>cases vy; unfold eqT; exact⟨SeqAt.RcAt.bool_none _,SeqAt.EqAt.bool_none _⟩
  |bl b2=>cases vy; unfold eqT; exact⟨SeqAt.RcAt.bool_bool _ _,SeqAt.EqAt.bool_bool _ _⟩
  |int i2=>obtain⟨_,rfl⟩:=vy; unfold eqT; exact⟨SeqAt.RcAt.bool_int _ _ _,SeqAt.EqAt.bool_int _ _ _⟩
  |str z2=>obtain⟨_,rfl⟩:=vy; unfold eqT; exact⟨SeqAt.RcAt.bool_str _ _ _,SeqAt.EqAt.bool_str _ _ _⟩
  |tup h r=>cases vy; obtain⟨_,_,p,_⟩:=I.tuple h; unfold eqT; exact⟨SeqAt.RcAt.bool_tuple _ p hu0,SeqAt.EqAt.bool_tuple _ p hu0⟩
  |lst h r=>cases vy; obtain⟨_,_,p,_⟩:=I.list h; unfold eqT; exact⟨SeqAt.RcAt.bool_list _ p.isList hu0,SeqAt.EqAt.bool_list _ p.isList hu0⟩
  |bQ h m n=>unfold dep at du; lia
 |int i =>
  obtain⟨_,rfl⟩:=vx
  cases ry with
  |non=>cases vy; unfold eqT; exact⟨SeqAt.RcAt.int_none _ _,SeqAt.EqAt.int_none _ _⟩
  |bl b2=>cases vy; unfold eqT; exact⟨SeqAt.RcAt.int_bool _ _ _,SeqAt.EqAt.int_bool _ _ _⟩
  |int i2=>obtain⟨_,rfl⟩:=vy; unfold eqT; exact⟨SeqAt.RcAt.int_int _ _ _ _,SeqAt.EqAt.int_int _ _ _ _⟩
  |str z2=>obtain⟨_,rfl⟩:=vy; unfold eqT; exact⟨SeqAt.RcAt.int_str _ _ _ _,SeqAt.EqAt.int_str _ _ _ _⟩
  |tup h r=>cases vy; obtain⟨_,_,p,_⟩:=I.tuple h; unfold eqT; exact⟨SeqAt.RcAt.int_tuple _ _ p hu0,SeqAt.EqAt.int_tuple _ _ p hu0⟩
  |lst h r=>cases vy; obtain⟨_,_,p,_⟩:=I.list h; unfold eqT; exact⟨SeqAt.RcAt.int_list _ _ p.isList hu0,SeqAt.EqAt.int_list _ _ p.isList hu0⟩
  |bQ h m n=>unfold dep at du; lia
 |str z =>
  obtain⟨_,rfl⟩:=vx
  cases ry with
  |non=>cases vy; unfold eqT; exact⟨SeqAt.RcAt.str_none _ _,SeqAt.EqAt.str_none _ _⟩
  |bl b2=>cases vy; unfold eqT; exact⟨SeqAt.RcAt.str_bool _ _ _,SeqAt.EqAt.str_bool _ _ _⟩
  |int i2=>obtain⟨_,rfl⟩:=vy; unfold eqT; exact⟨SeqAt.RcAt.str_int _ _ _ _,SeqAt.EqAt.str_int _ _ _ _⟩
  |str z2=>obtain⟨_,rfl⟩:=vy; unfold eqT; exact⟨SeqAt.RcAt.str_str _ _ _ _,SeqAt.EqAt.str_str _ _ _ _⟩
  |tup h r=>cases vy; obtain⟨_,_,p,_⟩:=I.tuple h; unfold eqT; exact⟨SeqAt.RcAt.str_tuple _ _ p hu0,SeqAt.EqAt.str_tuple _ _ p hu0⟩
  |lst h r=>cases vy; obtain⟨_,_,p,_⟩:=I.list h; unfold eqT; exact⟨SeqAt.RcAt.str_list _ _ p.isList hu0,SeqAt.EqAt.str_list _ _ p.isList hu0⟩
  |bQ h m n=>unfold dep at du; lia
theorem xH(I:Inv X pins σ H s):∀(n:Nat) (A:Around) (t u:Tr) (x y:V) (xv yv:Value),A.units+n<cLine->dep t<=n->dep t<=99->dep u<=99->Rep X.K H x t->Rep X.K H y u->RelV x xv->RelV y yv ->
  SeqAt.RcAt A s xv yv (eqT t u)/\SeqAt.EqAt A s xv yv (eqT t u):=by
 intro n
 induction n with
 |zero=>exact λA t u x y xv yv hu hd _ du rx ry vx vy=>tG I A t u x y xv yv hu hd du rx ry vx vy
 |succ n ih =>
  intro A t u x y xv yv hu hd qC du rx ry vx vy
  have hu0:A.units<cLine:=by lia
  have hu1:A.in1.units+n<cLine:=by
   have:=in1_units A
   lia
  have he:∀{xs ys:List V} {ts us:List Tr} {its its2:List Value},Vals xs its->Vals ys its2->au X.K H xs ts->au X.K H ys us->deps ts<=n->deps ts<=99->deps us<=99->∀j (h1:j<its.toArray.size) (h2:j<its2.toArray.size),SeqAt.EqAt A.in1 s its.toArray[j] its2.toArray[j] (lB ts us j):=by
   intro xs ys ts us its its2 r1 r2 q1 q2 hde hd9 Nj j h1 h2
   obtain⟨a,ea,ra⟩:=xG r1 h1
   obtain⟨b,eb,rb⟩:=xG r2 h2
   obtain⟨ta,eta,qa⟩:=q1.get ea
   obtain⟨tb,tH,qb⟩:=q2.get eb
   rw[Ni eta tH]
   exact(ih A.in1 ta tb a b _ _ hu1 (Nat.le_trans (mY eta) hde) (Nat.le_trans (mY eta) hd9) (Nat.le_trans (mY tH) Nj) qa qb ra rb).2
  have dt:∀{ts:List Tr},dep (.tup ts)<=n+1->deps ts<=n:=λ{ts} h=>by unfold dep at h; lia
  have dl:∀{ts:List Tr},dep (.lst ts)<=n+1->deps ts<=n:=λ{ts} h=>by unfold dep at h; lia
  have nt:∀{ts:List Tr},dep (.tup ts)<=99->deps ts<=99:=λ{ts} h=>by unfold dep at h; lia
  have nl:∀{ts:List Tr},dep (.lst ts)<=99->deps ts<=99:=λ{ts} h=>by unfold dep at h; lia
  have refs:∀{a b:Addr} {t u:Tr} {k:Bool},dep t<=99->Rep X.K H (.ref a) t->Rep X.K H (.ref b) u->k=eqT t u->SeqAt.RcAt A s (.ref a) (.ref b) k->SeqAt.EqAt A s (.ref a) (.ref b) k:=λ{a b t u k} d9 r1 r2 ek h=>by
   by_cases e:a=b
   .subst e
    have:=Rep.inj I d9 r1 r2
    subst this
    rw[ek,xu]
    exact .same _
   .exact .of_refs e h
  cases rx with
  | @tup a1 xs1 ts h r =>
   cases vx
   obtain⟨its,rv,p,_⟩:=I.tuple h
   cases ry with
   | @tup a2 xs2 us h' r' =>
    cases vy
    obtain⟨its2,fU,p2,_⟩:=I.tuple h'
    have R:=SeqAt.RcAt.tuples p p2 hu0 (he rv fU r r' (dt hd) (nt qC) (nt du))
    have el:its.toArray.size=ts.length:=by simpa using(rv.length.symm.trans r.length)
    have el2:its2.toArray.size=us.length:=by simpa using(fU.length.symm.trans r'.length)
    rw[el,el2]at R
    have eb:((List.range (min ts.length us.length)).all (lB ts us)&&ts.length == us.length)=eqT (.tup ts) (.tup us):=by
     unfold eqT
     by_cases e:ts.length=us.length
     .rw[e,Nat.min_self,<-e,tE e,beq_self_eq_true,Bool.and_true]
     .rw[beq_false_of_ne e,Bool.and_false,tD e]
    rw[eb]at R
    exact⟨R,refs qC (.tup h r) (.tup h' r') rfl R⟩
   |lst h' r' =>
    cases vy
    obtain⟨_,_,p2,_⟩:=I.list h'
    unfold eqT
    exact⟨SeqAt.RcAt.tuple_list p p2.isList hu0,.tuple_list p p2.isList hu0⟩
   |bQ h' m n=>unfold dep at du; lia
   |non=>cases vy; unfold eqT; exact⟨SeqAt.RcAt.tuple_none p hu0,.tuple_none p hu0⟩
   |bl b=>cases vy; unfold eqT; exact⟨SeqAt.RcAt.tuple_bool _ p hu0,.tuple_bool _ p hu0⟩
   |int i=>obtain⟨_,rfl⟩:=vy; unfold eqT; exact⟨SeqAt.RcAt.tuple_int _ _ p hu0,.tuple_int _ _ p hu0⟩
   |str z=>obtain⟨_,rfl⟩:=vy; unfold eqT; exact⟨SeqAt.RcAt.tuple_str _ _ p hu0,.tuple_str _ _ p hu0⟩
  | @lst a1 xs1 ts h r =>
   cases vx
   obtain⟨its,rv,p,_⟩:=I.list h
   cases ry with
   | @lst a2 xs2 us h' r' =>
    cases vy
    obtain⟨its2,fU,p2,_⟩:=I.list h'
    have el:its.toArray.size=ts.length:=by simpa using(rv.length.symm.trans r.length)
    have el2:its2.toArray.size=us.length:=by simpa using(fU.length.symm.trans r'.length)
    by_cases e:ts.length=us.length
    .have R:=SeqAt.RcAt.lists p.isList p2.isList (by rw[el,el2,e]) hu0 (he rv fU r r' (dl hd) (nl qC) (nl du))
     rw[el,tE e]at R
     have eb:jF ts us=eqT (.lst ts) (.lst us):=by unfold eqT; rfl
     rw[eb]at R
     exact⟨R,refs qC (.lst h r) (.lst h' r') rfl R⟩
    .have R:SeqAt.RcAt A s _ _ false:=SeqAt.RcAt.lists_lengths p.isList p2.isList (by rw[el,el2]; simpa using e) hu0
     have eb:false=eqT (.lst ts) (.lst us):=by unfold eqT; rw[tD e]
     rw[eb]at R
     exact⟨R,refs qC (.lst h r) (.lst h' r') rfl R⟩
   |tup h' r' =>
    cases vy
    obtain⟨_,_,p2,_⟩:=I.tuple h'
    unfold eqT
    exact⟨SeqAt.RcAt.list_tuple p.isList p2 hu0,.list_tuple p.isList p2 hu0⟩
   |bQ h' m n=>unfold dep at du; lia
   |non=>cases vy; unfold eqT; exact⟨SeqAt.RcAt.list_none p.isList hu0,.list_none p.isList hu0⟩
   |bl b=>cases vy; unfold eqT; exact⟨SeqAt.RcAt.list_bool _ p.isList hu0,.list_bool _ p.isList hu0⟩
   |int i=>obtain⟨_,rfl⟩:=vy; unfold eqT; exact⟨SeqAt.RcAt.list_int _ _ p.isList hu0,.list_int _ _ p.isList hu0⟩
   |str z=>obtain⟨_,rfl⟩:=vy; unfold eqT; exact⟨SeqAt.RcAt.list_str _ _ p.isList hu0,.list_str _ _ p.isList hu0⟩
  |bQ h m n=>unfold dep at qC; lia
  |non=>exact tG I A _ _ _ _ _ _ (by lia) (by unfold dep; lia) du .non ry vx vy
  |bl b=>exact tG I A _ _ _ _ _ _ (by lia) (by unfold dep; lia) du (.bl b) ry vx vy
  |int i=>exact tG I A _ _ _ _ _ _ (by lia) (by unfold dep; lia) du (.int i) ry vx vy
  |str z=>exact tG I A _ _ _ _ _ _ (by lia) (by unfold dep; lia) du (.str z) ry vx vy
end
section
variable {X:Cx}{a b:Expr}{ta tb:TE}{pos:Pos}
noncomputable def CZ(K:PySem.W.Frag):R2:=λx y H Q=>∃t u,Rep K H x t/\Rep K H y u/\dep t<=40/\dep u<=40/\Q (.bl (eqT t u)) H
theorem acw(hu:X.A.units+64<cLine):bh X (compareOp .Eq) (CZ X.K):=by
 intro pins s σ H x y v u Q I rx ry h
 obtain⟨t,t',q1,q2,hd,hd2,q⟩:=h
 exact(xH I 40 X.A t t' x y v u (by lia) hd (by lia) (by lia) q1 q2 rx ry).1 _ _ _ _ ⟨.bl _,H,I,rfl,q⟩
noncomputable def jU(t:Tr)(ts:List Tr):Bool:=ts.any λu=>eqT u t
noncomputable def Dc(K:PySem.W.Frag):R2:=λx y H Q=>∃t ts p xs,Rep K H x t/\y=.ref p/\(aG K H p xs\/bx K H p xs)/\au K H xs ts/\deps ts<=40/\dep t<=40/\Q (.bl (jU t ts)) H
theorem xJ{xs:List V}{its:List Value}{ts:List Tr}{K:PySem.W.Frag}{H:Hp}(f:Tr->Bool)(e:Value->Bool)(r:Vals xs its)(q:au K H xs ts)(h:∀x v t,x∈xs->RelV x v->Rep K H x t->t∈ts->e v=f t):its.any e=ts.any f:=by
 induction r generalizing ts with
 |nil=>cases q; rfl
 |cons r1 r2 ih =>
  cases q with
  |cons q1 q2 =>
   rw[List.any_cons,List.any_cons,h _ _ _ List.mem_cons_self r1 q1 List.mem_cons_self,ih q2 λx v t hx hr hq ht=>h x v t (List.mem_cons_of_mem _ hx) hr hq (List.mem_cons_of_mem _ ht)]
theorem qD:∀{ts:List Tr} {t:Tr},t∈ts->dep t<=deps ts:=λ{ts t} h=>by
 obtain⟨i,hi,e⟩:=List.mem_iff_getElem.mp h
 exact mY (j:=i) (by rw[List.getElem?_eq_getElem hi,e])
open Classical in
theorem acy(hu:X.A.units+64<cLine):bh X (compareOp .In) (Dc X.K):=by
 intro pins s σ H x y v u Q I rx ry h
 obtain⟨t,ts,p,xs,q1,rfl,hq,qs,hd,hd2,q⟩:=h
 cases ry
 have hu1:X.A.in1.units+40<cLine:=by
  have:=in1_units X.A
  lia
 -- what == tells of an item,by the item itself
 let e:Value->Bool:=λw'=>if h:∃z tz,z∈xs/\RelV z w'/\Rep X.K H z tz/\tz∈ts then eqT (Classical.choose (Classical.choose_spec h)) t else false
 have ee:∀z w' tz,z∈xs->RelV z w'->Rep X.K H z tz->tz∈ts->e w'=eqT tz t:=λz w' tz h1 h2 h3 h4=>by
  have hx:∃z tz,z∈xs/\RelV z w'/\Rep X.K H z tz/\tz∈ts:=⟨z,tz,h1,h2,h3,h4⟩
  show(if h:_ then _ else _)=_
  rw[dif_pos hx]
  have sp:=Classical.choose_spec (Classical.choose_spec hx)
  have key:∀z z' t1 t2,RelV z w'->RelV z' w'->dep t1<=99->Rep X.K H z t1->Rep X.K H z' t2->t1=t2:=λz z' t1 t2 a1 a2 d9 a3 a4=>by
   obtain rfl:=RelV.inj a1 a2
   exact Rep.inj I d9 a3 a4
  rw[key _ _ _ _ sp.2.1 h2 (by have:=qD sp.2.2.2; lia) sp.2.2.1 h3]
 have mem:∀{its:List Value},Vals xs its->∀w'∈its,SeqAt.EqAt X.A.in1 s w' v (e w'):=by
  intro its r w' hw
  obtain⟨j,hj,ej⟩:=List.mem_iff_getElem.mp hw
  have hjx:j<xs.length:=by rw[r.length]; exact hj
  obtain⟨u',h1,h2⟩:=r.get (List.getElem?_eq_getElem hjx)
  rw[List.getElem?_eq_getElem hj,ej]at h1
  cases h1
  obtain⟨tz,h3,h4⟩:=qs.get (List.getElem?_eq_getElem hjx)
  have hm:=List.mem_of_getElem? h3
  rw[ee _ _ tz (List.getElem_mem hjx) h2 h4 hm]
  exact(xH I 40 X.A.in1 tz t _ x _ v hu1 (Nat.le_trans (qD hm) hd) (by have:=qD hm; lia) (by lia) h4 q1 h2 rx).2
 rcases hq with hq|hq
 .obtain⟨its,r,pl,hz⟩:=I.list hq
  refine SeqAt.in_listAt e pl.isList (λw hw=>mem r w (by simpa using hw)) ⟨.bl _,H,I,rfl,?_⟩
  rw[show its.toArray.any e=its.any e by simp,xJ (λz=>eqT z t) e r qs λz w' tz h1 h2 h3 h4=>ee z w' tz h1 h2 h3 h4]
  exact q
 .obtain⟨its,r,pl,hz⟩:=I.tuple hq
  refine SeqAt.in_tupleAt e pl (λw hw=>mem r w (by simpa using hw)) ⟨.bl _,H,I,rfl,?_⟩
  rw[show its.toArray.any e=its.any e by simp,xJ (λz=>eqT z t) e r qs λz w' tz h1 h2 h3 h4=>ee z w' tz h1 h2 h3 h4]
  exact q
inductive Ty where|int|bool|str|tuple|list
noncomputable def Ty.name:Ty->String
 |.int => "int" |.bool => "bool" |.str => "str" |.tuple => "tuple" |.list => "list"
noncomputable def mZ:Tr->Ty->Bool
 |.bl _,.bool=>true|.bl _,.int=>true|.int _,.int=>true|.str _,.str=>true|.tup _,.tuple=>true|.lst _,.list=>true
 |_,_=>false
noncomputable def Nk(K:PySem.W.Frag):List V->Hp->VK->Prop:=λxs H Q=>∃v t c,xs=[v,.ty (Ty.name c)]/\Rep K H v t/\Q (.bl (mZ t c)) H
noncomputable def lC(K:PySem.W.Frag):Prop:=∀c∈xr,∀C,PySem.W.nsIn K mainGlobals c=some (some (.ref C))->(∀a,PySem.W.KitX K (.ref a) (.ref C) (CV a C))/\∀y:Ty,PySem.W.kitOne K (.ref C) (.type y.name)=some false
theorem acz(hX:lC X.K):fP X (.builtin "isinstance") (Nk X.K):=by
 intro pins s σ H xs us Q I r h
 obtain⟨v,t,c,rfl,q1,q⟩:=h
 obtain⟨u,w',rfl,ru,oV⟩:=vals2 r
 obtain rfl:w'=Value.type (Ty.name c):=oV
 have fin:∀tk,EP X pins σ Q (.bool (mZ t c)) {s with toks:=tk }:=λtk=>⟨.bl _,H,I.tok tk,rfl,q⟩
 cases q1 with
 |non=>cases ru; cases c <;> exact PySem.W.kia_one PySem.W.kitx_none I.gU True.intro (by kernel_rfl) (λz=>nomatch z) fin
 |bl y=>cases ru; cases c <;> exact PySem.W.kia_one PySem.W.kitx_bool I.gU True.intro (by kernel_rfl) (λz=>nomatch z) fin
 |int i=>obtain⟨_,rfl⟩:=ru; cases c <;> exact PySem.W.kia_one PySem.W.kitx_int I.gU True.intro (by kernel_rfl) (λz=>nomatch z) fin
 |str y=>obtain⟨_,rfl⟩:=ru; cases c <;> exact PySem.W.kia_one PySem.W.kitx_str I.gU True.intro (by kernel_rfl) (λz=>nomatch z) fin
 |tup h r =>
  cases ru
  obtain⟨_,_,⟨o,h1,h2,_⟩,_⟩:=I.tuple h
  cases c <;> exact PySem.W.kia_one PySem.W.kitx_tuple I.gU ⟨o,h1,h2⟩ (by kernel_rfl) (λz=>nomatch z) fin
 |lst h r =>
  cases ru
  obtain⟨_,_,p,_⟩:=I.list h
  obtain⟨o,h1,h2,_⟩:=p.isList
  cases c <;> exact PySem.W.kia_one PySem.W.kitx_list I.gU ⟨o,h1,h2⟩ (by kernel_rfl) (λz=>nomatch z) fin
 |bQ h m n =>
  cases ru
  obtain⟨z1,z2⟩:=hX _ m _ n
  exact PySem.W.kia_one (z1 _) I.gU (I.hok _ _ h).1 (z2 c) (λz=>nomatch z) fin
noncomputable def Dd(K:PySem.W.Frag):List V->Hp->VK->Prop:=λxs H Q=>∃(p:Addr) (bs:List Bool),xs=[.ref p]/\aG K H p (bs.map V.bl)/\Q (.bl (bs.all id)) H
theorem acA(hc:X.calm=true):fP X (.builtin "all") (Dd X.K):=by
 intro pins s σ H xs us Q I r h
 obtain⟨p,bs,rfl,hq,q⟩:=h
 obtain⟨u,rfl,ru⟩:=vals1 r
 cases ru
 obtain⟨its,rv,pl,hz⟩:=I.list hq
 refine call_all_walk (wpAny_pyIter_list pl.isList ?_)
 obtain⟨ol,hol,hol'⟩:=id pl.isList
 have hlt:p<s.heap.objs.size:=Heap.lt_size hol
 have hlen:its.toArray.size=bs.length:=by simpa using rv.length.symm
 have at_:∀(i:Nat) (v:Value),its.toArray[i]?=some v->∃k,bs[i]?=some k/\v=Value.bool k:=λi v e=>by
  have e':its[i]?=some v:=by simpa using e
  have hi:i<its.length:=(List.getElem?_eq_some_iff.mp e').1
  have hb:i<(bs.map V.bl).length:=by rw[rv.length]; exact hi
  obtain⟨u',h1,h2⟩:=rv.get (List.getElem?_eq_getElem hb)
  rw[e']at h1
  cases h1
  have hb':i<bs.length:=by simpa using hb
  refine⟨bs[i],List.getElem?_eq_getElem hb',?_⟩
  rw[List.getElem_map]at h2
  exact h2
 refine⟨s.heap.objs.size,_,_,_,_,_,λi=>bs.getD i true,rfl,Walks.list (A:=X.A.in1) (I.ok.hd hc) s.heap.objs.size p (Nat.ne_of_lt hlt) its.toArray,⟨⟨_,Heap.get?_push_size _ rfl,rfl,rfl⟩,⟨ol,Heap.get?_push_of_some _ hol,hol'⟩⟩,?_,?_⟩
 .intro i v s' Q' E' hP hQ'
  obtain⟨k,h1,rfl⟩:=at_ i v hP
  have:bs.getD i true=k:=by rw[List.getD_eq_getElem?_getD,h1]; rfl
  dsimp only at hQ'
  rw[this]at hQ'
  exact wpAny_truthy_bool hQ'
 .intro h' tk hk
  have I1:Inv X pins σ H {s with heap:=h',toks:=tk }:=I.kept λb o e=>hk b o (by
   have:=Heap.lt_size e
   simp
   exact Nat.ne_of_lt this) (Heap.get?_push_of_some _ e)
  refine⟨.bl _,H,I1,rfl,?_⟩
  have eq:(List.range its.toArray.size).all (λi=>bs.getD i true)=bs.all id:=by
   rw[hlen]
   clear q hq rv at_ hlen hz
   induction bs with
   |nil=>rfl
   |cons b r ih =>
    rw[List.length_cons,List.range_succ_eq_map,List.all_cons,List.all_map,List.all_cons]
    exact congrArg (b && ·) ih
  rw[eq]
  exact q
end
noncomputable def Df(P:Program)(w:World)(K:PySem.W.Frag)(mg:Str->Option Value)(base:Heap)(k:Nat)(x:Str)(ps:List Str)(sp:Sp):Prop :=
 ∃f fd,gq P w K mg base CN k f fd ps sp/\Binds K fd ps []/\PySem.W.keepIn K (.ref f)=true/\mg x=some (.ref f)
theorem Df.mono{P:Program}{w:World}{K:PySem.W.Frag}{mg:Str->Option Value}{base:Heap}{j k:Nat}{x:Str}{ps:List Str}{sp:Sp}(D:Df P w K mg base j x ps sp)(h:j<=k):Df P w K mg base k x ps sp:=by
 obtain⟨f,fd,h1,h2⟩:=D
 exact⟨f,fd,h1.mono h,h2⟩
noncomputable def At(K:PySem.W.Frag)(mg:Str->Option Value)(x:Str)(st:Stmt):Prop:=∃f fd,lA K x x st f fd/\mg x=some (.ref f)
section
variable {X:Cx}{k:Nat}{x:Str}{ps:List Str}{sp:Sp}{p q pos:Pos}{e:Expr}{es:List Expr}{te:TE}{t:TA}
theorem acB(hX:lC X.K)(c:Ty)(he:PE X e te)(h1:X.mg "isinstance" = none) (h2:X.mg x=none) (hb:bootBuiltins x=some (.type c.name):=by decide +kernel) (hg1:Gl X "isinstance" := by rfl) (hg2:Gl X x:=by rfl) (hn:x ≠ "__name__" := by decide) (hd:(x == ("__debug__" : Str))=false:=by decide)
  (hs:starEach (e::[.Name x q]) X.env=(false,eval e X.env)::starEach [.Name x q] X.env:=by rfl):PE X (.Call (.Name "isinstance" p) [e,.Name x q] [] pos) (wX (Nk X.K) (Ck te (Ck (tC (.ty c.name)) Lz))) :=
 Ml (acz hX) hg1 h1 PyProof.Rows.boot_isinstance (qu he (qu (aar hg2 h2 hb rfl hn hd) sY) hs) (he:=hs)
end
structure Pj(Pr:Hp->Hp)(H0:Hp):Prop where
 mono:∀{H H':Hp},Same H H'->Same (Pr H) (Pr H')
 sub:∀H,Same (Pr H) H
 new:∀{H:Hp} {r:Addr} {o:HO},Same H0 H->H r=none->Pr (upd H r o) r=some o
theorem Pj.id(H0:Hp):Pj (λH=>H) H0:=⟨λs=>s,λH=>Same.refl H,λ_ _=>bW⟩
theorem Pj.le(p:Pj Pr H0)(s:Same H0 H1):Pj Pr H1:=⟨p.mono,p.sub,λs' h=>p.new (s.trans s') h⟩
theorem fV(h:H p=none)(o:HO):Same H (upd H p o):=λb u q=>by rw[aM (iD q h)]; exact q
section
variable (K:PySem.W.Frag)(Pr:Hp->Hp)(σ : St)(H0:Hp)
noncomputable def Ev(te:TE)(T:Tr):Prop:=∀(H:Hp) (Q:VK),Same H0 H->(∀v H',Same H H'->Rep K (Pr H') v T->Q v H')->te σ H Q
noncomputable def Nm(te:TE)(Ts:List Tr):Prop:=∀(H:Hp) (Q:VK),Same H0 H->(∀a xs H1,Same H H1->H1 a=none->au K (Pr H1) xs Ts->xs.length=Ts.length->Q (.ref a) (upd H1 a (.lst xs)))->te σ H Q
end
section
variable {K:PySem.W.Frag}{Pr:Hp->Hp}{σ : St}{H0:Hp}{te tb:TE}{ta:TA}{T:Tr}{Ts Us:List Tr}
theorem Nm.ev(p:Pj Pr H0)(h:Nm K Pr σ H0 te Ts):Ev K Pr σ H0 te (.lst Ts):=λH Q s k =>
 h H _ s λa xs H1 s1 ha r _=>k (.ref a) _ (s1.trans (fV ha _)) (.lst (aG.of (p.new (s.trans s1) ha)) (r.mono (p.mono (fV ha _))))
end
noncomputable def notStar:Expr->Bool
 |.Starred _ _=>false
 |_=>true
theorem gC(h:notStar e=true):starEach (e::es) env=(false,eval e env)::starEach es env:=by
 cases e <;> first|rfl|(unfold notStar at h; cases h)
noncomputable def o8(K:PySem.W.Frag)(T:Tr):TE:=λ_ H Q=>∀v H',Same H H'->(∀Pr,Pj Pr H->Rep K (Pr H') v T)->Q v H'
noncomputable def qF(K:PySem.W.Frag)(Ts:List Tr):TA:=λ_ H Q=>∀vs H',Same H H'->(∀Pr,Pj Pr H->au K (Pr H') vs Ts)->Q vs H'
noncomputable def Dg(K:PySem.W.Frag)(Ts:List Tr):TE:=λ_ H Q=>∀a xs H1,Same H H1->H1 a=none->(∀Pr,Pj Pr H->au K (Pr H1) xs Ts)->xs.length=Ts.length->Q (.ref a) (upd H1 a (.lst xs))
theorem PE.imp(h:PE X e t)(i:∀σ H Q,u σ H Q->t σ H Q):PE X e u:=⟨λpins s σ H Q I q=>h pins s σ H Q I (i σ H Q q)⟩
theorem PA.imp(h:PA X e t)(i:∀σ H Q,u σ H Q->t σ H Q):PA X e u:=⟨λpos pins s σ H Q I q=>h pos pins s σ H Q I (i σ H Q q)⟩
mutual
noncomputable def pd:Tr->PyData
 |.non=>.none
 |.bl b=>.bool b
 |.int i=>.int i
 |.str x=>.str x
 |.tup ts=>.tuple (Dh ts)
 |.lst ts=>.list (Dh ts)
 |.bQ _=>.none
noncomputable def Dh:List Tr->List PyData
 | []=>[]
 |t::r=>pd t::Dh r
end
noncomputable def nw(H H':Hp):Hp:=λb=>match H b with
 |none=>H' b
 |some _=>none
noncomputable def But(p:Addr)(H H':Hp):Prop:=∀b u,b≠p->H b=some u->H' b=some u
theorem But.refl(p:Addr)(H:Hp):But p H H:=λ_ _ _ e=>e
theorem But.trans(a:But p H H1)(b:But p H1 H2):But p H H2:=λx u n e=>b x u n (a x u n e)
theorem But.put(p:Addr)(H:Hp)(o:HO):But p H (upd H p o):=λb u n e=>by rw[aM n]; exact e
theorem But.new(h:H r=none)(o:HO):But p H (upd H r o):=λb u _ e=>fV h o b u e
theorem But.free(h:But p H H')(hp:H' p=some o)(e:H' b=none):H b=none:=by
 cases e':H b with
 |none=>rfl
 |some u =>
  by_cases n:b=p
  .rw[n,hp]at e; cases e
  .rw[h b u n e']at e; cases e
noncomputable def gD(P:Program)(w:World):gj:=λouter H s E e s'=>∃ea cls a0 H' B,e=.ref ea/\E cls none H'/\s'.os=s.os/\AllBare s'.gens/\Un (frs outer) [] H H' s.heap s'.heap/\cA P w H' B /\
 Heap.FlyingW B outer ea cls a0 s'.heap/\∀b o,s.heap.get? b=some o->b∉frs outer->∃o',B.get? b=some o'
theorem acC(hf:env.frame=some L)(h:b∈frs (env::outer)):b=L\/b∈frs outer:=by
 unfold frs at h
 rw[List.filterMap_cons_some hf]at h
 exact List.mem_cons.mp h
theorem acD(h:b∈frs outer):b∈frs (env::outer):=by
 obtain⟨e,he,q⟩:=List.mem_filterMap.mp h
 exact List.mem_filterMap.mpr ⟨e,List.mem_cons_of_mem _ he,q⟩
theorem acE(x:cA P w H h)(fr:∀b∈l,H b=none):cA P w H (PySem.W.hideAll h l):=λa o e =>
 (x a o e).stay (λb u hb q=>PySem.W.hideAll_get _ q λhm=>by
  rcases hb with rfl|hb
  .rw[fr _ hm]at e; cases e
  .rw[fr _ hm]at hb; cases hb) (λ_ q=>q) λ_ _ q=>q
section
variable {P:Program}{w:World}{K:PySem.W.Frag}{mg:Str->Option Value}{base:Heap}{N:List Str}{qual:Str}{scope:Scope}{f:Addr}{cd:Value}{A:Around}{outer:List Env}{s:Shared}{H:Hp}{E:XK}{CX:gj}
theorem Un.left{pins:List (Addr × Obj)}{σ : St}{H1 H2:Hp}{s1:Shared}{h2 h3 B:Heap}(I:Inv (gA CX P w K mg base N qual scope f cd A outer s H E) pins σ H1 s1)
  (u:Un (frs (envOfC qual scope s.heap.objs.size f cd::outer)) [] H1 H2 s1.heap h2) (st:B.StaysIn h2) (kb:∀b o,s1.heap.get? b=some o->b∉frs (envOfC qual scope s.heap.objs.size f cd::outer)->∃o',B.get? b=some o')
  (fl:B.StaysIn h3) (sl:h2.UpToSlots h3):Un (frs outer) [] H H2 s.heap h3/\∀b o,s.heap.get? b=some o->b∉frs outer->∃o',B.get? b=some o':=by
 have ub:=I.base
 have hf:(envOfC qual scope s.heap.objs.size f cd).frame=some s.heap.objs.size:=by
  rcases I.ok.stk with z|z
  .exact absurd (congrArg List.length z) (by show outer.length+1≠outer.length; lia)
  .exact z.2
 have no:∀b o,s.heap.get? b=some o->b∉frs outer->b∉frs (envOfC qual scope s.heap.objs.size f cd::outer):=λb o e n z=>by
  rcases acC hf z with rfl|z
  .exact absurd (Heap.lt_size e) (Nat.lt_irrefl _)
  .exact n z
 have nx:∀b:Addr,b∉([]:List Addr):=λb z=>nomatch z
 have inB:∀b o,s.heap.get? b=some o->b∉frs outer->∃o',B.get? b=some o':=λb o e n=>by
  obtain⟨o1,e1⟩:=ub.there b o e (nx b)
  exact kb b o1 e1 (no b o e n)
 have slots:∀b o,s.heap.get? b=some o->H b=none->b∈frs outer->∃sl,h3.get? b=some {o with slots:=sl }:=λb o e n z=>by
  obtain⟨Np,e1⟩:=ub.slot b o e n z (nx b)
  obtain⟨sl2,e2⟩:=u.slot b _ e1 (ub.free b o e n (nx b)) (acD z) (nx b)
  obtain⟨_,o',e',nf⟩:=I.ok.iH.mem z
  have e'':s.heap.get? b=some o':=e'
  rw[e]at e''
  cases e''
  obtain⟨Di,e3⟩:=sl b _ e2 nf
  exact⟨Di,e3⟩
 refine⟨⟨λb o e n z _=>?_,λb o e n z _=>slots b o e n z,λb o e n _=>?_,λb o e _=>?_,λb xs q=>u.tups b xs (ub.tups b xs q),λb o q z=>u.f9 b o q (ub.f9 b o q z),λb ps q=>?_⟩,inB⟩
 .have e1:=ub.keep b o e n z (nx b)
  have e2:=u.keep b o e1 (ub.free b o e n (nx b)) (no b o e z) (nx b)
  obtain⟨o',e3⟩:=inB b o e z
  have e4:=st b o' e3
  rw[e2]at e4
  cases e4
  exact fl b o e3
 .obtain⟨o1,e1⟩:=ub.there b o e (nx b)
  exact u.free b o1 e1 (ub.free b o e n (nx b)) (nx b)
 .by_cases z:b∈frs outer
  .obtain⟨sl,e1⟩:=slots b o e (I.ok.mL b z) z
   exact⟨_,e1⟩
  .obtain⟨o',e1⟩:=inB b o e z
   exact⟨o',fl b o' e1⟩
 .obtain⟨m1,e1⟩:=ub.gh b ps q
  obtain⟨m2,e2⟩:=u.gh b _ e1
  exact⟨m1++m2,by rw[e2,Array.append_assoc]⟩
end
noncomputable def Raises(X:Cx)(E:XK):Prop:=∀(pins:List (Addr × Obj)) (σ : St) (H:Hp) (s:Shared) (h':Heap) (e C:Addr) (us:List Value),Inv X pins σ H s->Heap.MadeExcOf s.heap h' e (.ref C) us->E (.ref C) none H->X.xe (.ref e) {s with heap:=h' }
theorem Dj{P:Program}{w:World}{K:PySem.W.Frag}{mg:Str->Option Value}{base:Heap}{N:List Str}{qual:Str}{scope:Scope}{f:Addr}{cd:Value}{A:Around}{outer:List Env}{s:Shared}{H:Hp}{E:XK} :
  Raises (gA (gD P w) P w K mg base N qual scope f cd A outer s H E) E:=by
 intro pins σ H1 s1 h' e C us I hx q
 have hs:=I.stack
 have hf:(envOfC qual scope s.heap.objs.size f cd).frame=some s.heap.objs.size:=by
  rcases I.ok.stk with z|z
  .exact absurd (congrArg List.length z) (by show outer.length+1≠outer.length; lia)
  .exact z.2
 have hin:∀env∈(envOfC qual scope s.heap.objs.size f cd::outer),∀a,env.frame=some a->a∈frs (envOfC qual scope s.heap.objs.size f cd::outer):=λenv he b hb=>List.mem_filterMap.mpr ⟨env,he,hb⟩
 have Nq:(PySem.W.hideAll s1.heap (frs (envOfC qual scope s.heap.objs.size f cd::outer))).StaysIn s1.heap:=λb o z=>PySem.W.of_hideAll _ z
 have stH:=λb o z=>hx.keeps b o (Nq b o z)
 refine wpAny_leaves_madeW (base:=PySem.W.hideAll s1.heap (frs (envOfC qual scope s.heap.objs.size f cd::outer))) (h:=s1.heap) I.ok.frames hf Nq (PySem.W.funFrames_hide hs hin) hx λh'' t fl _ _ sl=>?_
 obtain⟨un,ib⟩:=Un.left (B:=PySem.W.hideAll s1.heap (frs (envOfC qual scope s.heap.objs.size f cd::outer))) I (Un.kept (h':=h') hx.keeps) stH (λb o z n=>⟨o,PySem.W.hideAll_get _ z n⟩) fl.1 sl
 exact⟨e,.ref C,.ref t,H1,_,rfl,q,I.os,I.bare,un,acE I.hok I.wC,fl,ib⟩
theorem Dk{P:Program}{w:World}{K:PySem.W.Frag}{mg:Str->Option Value}{base:Heap}{N:List Str}{qual:Str}{scope:Scope}{f:Addr}{cd:Value}{A:Around}{outer:List Env}{s:Shared}{H:Hp}{E:XK} :
  Passes (gD P w) (gA (gD P w) P w K mg base N qual scope f cd A outer s H E) E:=by
 intro pins σ H1 s1 e s' I h
 obtain⟨ea,cls,a0,H2,B,rfl,q,os,bare,un,hok,fl,kb⟩:=h
 have hf:(envOfC qual scope s.heap.objs.size f cd).frame=some s.heap.objs.size:=by
  rcases I.ok.stk with z|z
  .exact absurd (congrArg List.length z) (by show outer.length+1≠outer.length; lia)
  .exact z.2
 refine wpAny_leaves_onW (base:=B) I.ok.frames hf fl λh'' xK sl=>?_
 obtain⟨un',ib⟩:=Un.left (B:=B) I un fl.1 kb xK.1 sl
 exact⟨ea,cls,a0,H2,B,rfl,q,os.trans I.os,bare,un',hok,xK,ib⟩
noncomputable def acF(E:XK)(C:Addr)(te:TE):TS:=λ_ σ H=>te σ H λv H1=>[v].length=1/\E (.ref C) none H1
theorem acG(R:Raises X E)(O:OwnCls x C bm newId X.mg X.base)(FB:ExcBaseFacts B newId initId bm)(hc:X.calm=true)(ha:PE X e te)
  (hg:Gl X x:=by rfl) (hd:(x == ("__debug__" : Str))=false:=by decide) (hs:starEach [e] X.env=[(false,eval e X.env)]:=by rfl) :
  PS X (.Raise (some (.Call (.Name x np) [e] [] cpos)) none pos) (acF E C te):=by
 refine⟨λpins s σ H D I h=>?_⟩
 obtain⟨tl,N,nm,q,bs,hdct,sn,sub,ab,col,dd,k0,k1,k2,k3,k5,mN,hC,hN,hni,T⟩:=O.obj
 refine wpAny_Raise_call_subT (C:=C) (nm:=nm) (q:=q) (N:=N) (bs:=bs) (bm:=tl) (hdct:=hdct) (sn:=sn) (sub:=sub) (ab:=ab) (col:=col) (dd:=dd) (k0:=k0) (k1:=k1) (k2:=k2) (k3:=k3) (k5:=k5)
  FB (mN:=mN) (T.hasType FB.hasBase) (I.ok.hd hc) (by rw[hs]; rfl) hni (Bw I hg O.bound ⟨rfl,?_⟩ hd)
 have ga:=qu ha sY (by rw[hs]; rfl)
 have z:=ga cpos pins s σ H (λvs H1=>vs.length=1/\E (.ref C) none H1) I (by
  exact h)
 rw[hs]at z ⊢
 refine Calls.evalArgs_plain (wpAny_mono z (λus s₂ h₂=>?_) λ_ _ y=>y)
 obtain⟨vs,H2,I2,rv,hl,hE⟩:=h₂
 refine⟨rfl,?_,I2.bk _ _ hC,hN.keeps I2.bk,T.keeps I2.bk,λh' e' hm=>R pins σ H2 s₂ h' e' C us I2 hm hE⟩
 rw[<-rv.length,hl]
 decide
noncomputable def XP(X:Cx)(pins:List (Addr × Obj))(EX:St->XK)(e:Value)(s':Shared):Prop:=∃σ H s,Inv X pins σ H s/\gD X.prog X.w X.stack H s (EX σ) e s'
noncomputable abbrev TX:=Ends->(St->XK)->St->Hp->Prop
noncomputable abbrev TEX:=(St->XK)->TE
end L2
end
section
namespace L2
open PySem PySem.Spec PyProof.Rows PySem.W PySem.Builtin PySem.Builtin.ObjectAttr PySem.Builtin.Getset_descriptor
structure m5(K:Frag)(C:Addr):Prop where
 ga:findIn K (.ref C) "__getattribute__" = some (some (.builtin "BaseException.__getattribute__"))
 gn:findIn K (.ref C) "__getattr__" = some none
 cl:findIn K (.ref C) "__class__" = some (some (.builtin "object.__class__"))
 ob:mroIn K C (.type "object")=some true
 be:mroIn K C (.type "BaseException")=some true
 is:(clsIn K C).isSome=true
section
variable {prog:Program}{w:World}{A:Around}{E:Value->Shared->Prop}{h:Heap}{g:Array GenState}{d:Drawn}{t:Nat}{os:OsState}{a C:Addr}{o:Obj}{K:Frag}
theorem acH(X:K.In h)(Z:m5 K C)(hx:h.get? a=some o)(hc:o.cls=.ref C)(hq:R (.ok (.ret (.ref C))) ⟨h,g,d,t,os⟩) :
  codeAny (model prog w) A (.call (.builtin "getset_descriptor.__get__") ⟨[.builtin "object.__class__",.ref a,.ref C],[]⟩) R ⟨h,g,d,t,os⟩:=by
 have ty:Looks (model prog w) h (typeOf (.ref a)) (.ref C):=hc▸(Looks.ld hx).andThen .now
 have ms:=looks_mroIn (M:=model prog w) X Z.ob
 refine codeAny_call_builtin KF.slot_gs.plain KF.entry_gs (KF.slot_gs.check _ _ _ _ _ _ _ _ KF.type_class (KF.args_gs _ _ _) ?_)
 unfold Builtin.«getset_descriptor.__get__»
 unfold Builtin.Getset_descriptor.descrGet
 rw[dga_obj]
 refine wpAny_bind (wpAny_pure ?_)
 unfold Builtin.Getset_descriptor.descrGetter
 unfold Builtin.Getset_descriptor.descrCheckInstance
 unfold Builtin.Getset_descriptor.descrNameAndClass
 unfold isInstance
 simp only[KF.owner_class]
 repeat lk
 refine⟨Code.quiet_builtin _ (by decide +kernel),codeAny_builtin KF.entry_class ?_⟩
 unfold Builtin.«object.__class__»
 unfold shownTypeOf
 repeat lk
 all_goals first|exact hq|assumption
theorem acI(X:K.In h)(Z:m5 K C)(hx:h.get? a=some o)(hc:o.cls=.ref C)(hq:Q (.done (.ret (.ref C))) ⟨h,g,d,t,os⟩) :
  wpAny (model prog w) A (Builtin.«object.__getattribute__» ⟨[.ref a,.str "__class__" tk],[]⟩) Q E ⟨h,g,d,t,os⟩:=by
 have hT5:(⟨h,g,d,t,os⟩:Shared).TypeIs (.builtin "object.__class__") "getset_descriptor" := KF.type_class
 have f6:=F.slot_gs_get.lookup
 have f7:=F.slot_gs_set.lookup
 have lc:=λA (Q:Option Value->Shared->Prop) E (q:Q (some (.builtin "object.__class__")) ⟨h,g,d,t,os⟩)=>looks_findIn (M:=model prog w) X Z.cl A Q E ⟨h,g,d,t,os⟩ (λ_ _ z=>z) q
 repeat(any_goals (first|assumption|(with_reducible refine wpAny_loadPart_at hx ?_; rw[hc])|with_reducible refine lc _ _ _ ?_|wp_step))
 refine acH X Z hx hc ?_
 repeat(any_goals (first|assumption|wp_step))
theorem acJ(X:K.In h)(Z:m5 K C)(hx:h.get? a=some o)(hc:o.cls=.ref C)(hq:Q () ⟨h,g,d,t,os⟩) :
  wpAny (model prog w) A (checkBuiltinCall "BaseException.__getattribute__" ⟨[.ref a,nameV],[]⟩) Q E ⟨h,g,d,t,os⟩:=by
 have b1:builtinKind "BaseException.__getattribute__" = some .slot:=by decide +kernel
 have b2:splitId "BaseException.__getattribute__" = some ("BaseException", "__getattribute__"):=by decide +kernel
 have ha:=F.args_bexc_ga (.ref a) nameV
 have lc:=λA (Q:Bool->Shared->Prop) E (q:Q true ⟨h,g,d,t,os⟩)=>looks_mroIn (M:=model prog w) X Z.be A Q E ⟨h,g,d,t,os⟩ (λ_ _ z=>z) q
 simp only[checkBuiltinCall,b1,b2]
 refine wpAny_bind ?_
 unfold isInstance
 repeat(first|(with_reducible refine wpAny_loadPart_at hx ?_; rw[hc])|with_reducible refine lc _ _ _ ?_|wp_step)
 exact hq
theorem acK(X:K.In h)(Z:m5 K C)(hx:h.get? a=some o)(hc:o.cls=.ref C)(hq:R (.ok (.ret (.ref C))) ⟨h,g,d,t,os⟩) :
  codeAny (model prog w) A (.call (.builtin "BaseException.__getattribute__") ⟨[.ref a,.str "__class__" tk],[]⟩) R ⟨h,g,d,t,os⟩ :=
 codeAny_call_builtin PySem.F.attr_ValueError.ga.plain F.entry_bexc_ga (acJ X Z hx hc (acI X Z hx hc hq))
theorem acL(X:K.In h)(Z:m5 K C)(hx:h.get? a=some o)(hc:o.cls=.ref C)(hq:Q (.ref C) ⟨h,g,d,t,os⟩) :
  wpAny (model prog w) A (getAttrBy (.ref a) (.str "__class__" tk) false) Q E ⟨h,g,d,t,os⟩:=by
 have f3:=PySem.F.attr_ValueError.ga.bind (.ref a)
 have hx2:(Value.builtin "BaseException.__getattribute__" == Value.builtin "object.__getattribute__")=false:=by decide +kernel
 have hx1:(onTheHeap (Value.ref C)&&Value.builtin "BaseException.__getattribute__" == Value.builtin "object.__getattribute__")=false:=by rw[hx2]; rfl
 have l1:=λA (Q:Option Value->Shared->Prop) E (q:Q (some (.builtin "BaseException.__getattribute__")) ⟨h,g,d,t,os⟩)=>looks_findIn (M:=model prog w) X Z.ga A Q E ⟨h,g,d,t,os⟩ (λ_ _ z=>z) q
 have l2:=λA (Q:Option Value->Shared->Prop) E (q:Q none ⟨h,g,d,t,os⟩)=>looks_findIn (M:=model prog w) X Z.gn A Q E ⟨h,g,d,t,os⟩ (λ_ _ z=>z) q
 repeat(any_goals (first|assumption|(with_reducible refine wpAny_loadPart_at hx ?_; rw[hc])|with_reducible refine l1 _ _ _ ?_|with_reducible refine l2 _ _ _ ?_|wp_step))
 refine acK X Z hx hc ?_
 repeat(any_goals (first|assumption|wp_step))
theorem acM(X:K.In h)(Z:m5 K C)(hx:h.get? a=some o)(hc:o.cls=.ref C)(hq:Q (some (.ref C)) ⟨h,g,d,t+1,os⟩) :
  wpAny (model prog w) A (getAttr? (.ref a) "__class__") Q E ⟨h,g,d,t,os⟩:=by
 repeat(any_goals (first|assumption|with_reducible apply acL X Z hx hc|wp_step))
theorem acN(Z:m5 K C):KitX K (.ref a) (.ref C) (CV a C) where
 ty:=λ_ _ _ ⟨o,_,h1,h2,_⟩=>h2▸(Looks.ld h1).andThen .now
 it:=λ_ _ X _=>by
  obtain⟨cd,e⟩:=Option.isSome_iff_exists.mp Z.is
  unfold clsIn at e
  split at e
  .rename_i ho
   intro A' Q' E' s' k q
   unfold isType loadHead
   exact wpAny_bind (wpAny_loadPart (k _ _ (X _ _ ho)) (wpAny_pure q))
  .cases e
 ne:=λh tp dd its n sl X htp=>by
  obtain⟨cd,e⟩:=Option.isSome_iff_exists.mp Z.is
  refine Bool.eq_false_iff.mpr λq=>?_
  have q':C=tp:=Value.ref.inj (beq_iff_eq.mp q)
  subst q'
  unfold clsIn at e
  split at e
  .rename_i ho
   have z:=(X _ _ ho).symm.trans htp
   cases z
  .cases e
 ca:=λ{_ _ _ _ _ s} X p k=>by
  obtain⟨h,g,d,t,os⟩:=s
  obtain⟨o,_,h1,h2,_⟩:=p
  exact acM X Z h1 h2 k
end
open PySem
theorem acO(a b:Int):a=b*a.fdiv b+a.fmod b:=by
 have:=Int.mul_fdiv_add_fmod a b
 omega
theorem Nr(a b:Int)(h:b≠0):(a.fmod b).natAbs<b.natAbs:=by
 have h1:=Int.emod_nonneg a h
 have h2:=Int.emod_lt a h
 rw[Int.fmod_eq_emod]
 split
 .omega
 .rename_i hn
  have hb:¬0<=b:=λz=>hn (.inl z)
  have hd:¬b∣a:=λz=>hn (.inr z)
  have h3:a%b≠0:=λz=>hd (Int.dvd_of_emod_eq_zero z)
  omega
theorem Nt(a b:Int):Int.gcd b (a.fmod b)=Int.gcd a b:=by
 have e:=acO a b
 apply Nat.dvd_antisymm
 .refine Int.dvd_gcd ?_ ?_
  .have h1:(Int.gcd b (a.fmod b):Int)∣b:=Int.gcd_dvd_left ..
   have h2:(Int.gcd b (a.fmod b):Int)∣a.fmod b:=Int.gcd_dvd_right ..
   have h3:=Int.dvd_add (Int.dvd_mul_of_dvd_left (c:=a.fdiv b) h1) h2
   rw[<-e]at h3
   exact h3
  .exact Int.gcd_dvd_left ..
 .refine Int.dvd_gcd ?_ ?_
  .exact Int.gcd_dvd_right ..
  .have h1:(Int.gcd a b:Int)∣a:=Int.gcd_dvd_left ..
   have h2:(Int.gcd a b:Int)∣b:=Int.gcd_dvd_right ..
   have e2:a.fmod b=a-b*a.fdiv b:=by omega
   rw[e2]
   exact Int.dvd_sub h1 (Int.dvd_mul_of_dvd_left h2)
theorem acP(a:Int):(if a<0 then -a else a)=((Int.gcd a 0:Nat):Int):=by
 rw[Int.gcd_zero_right]
 split <;> omega
theorem o9(hb:0<b):0<((Int.gcd a b:Nat):Int)/\((Int.gcd a b:Nat):Int)<=b/\1<=b / (Int.gcd a b:Nat)/\Int.gcd (a / (Int.gcd a b:Nat)) (b / (Int.gcd a b:Nat))=1/\(0<=a->0<=a / (Int.gcd a b:Nat)) /\
  a=(a / (Int.gcd a b:Nat))*(Int.gcd a b:Nat)/\b=(b / (Int.gcd a b:Nat))*(Int.gcd a b:Nat):=by
 have hg:0<Int.gcd a b:=Int.gcd_pos_of_ne_zero_right a (by omega)
 have hgi:0<((Int.gcd a b:Nat):Int):=by omega
 have d1:(Int.gcd a b:Int)∣a:=Int.gcd_dvd_left ..
 have d2:(Int.gcd a b:Int)∣b:=Int.gcd_dvd_right ..
 have e1:=Int.ediv_mul_cancel d1
 have e2:=Int.ediv_mul_cancel d2
 refine⟨hgi,Int.le_of_dvd hb d2,?_,Int.gcd_ediv_gcd_ediv_gcd hg,λh=>Int.ediv_nonneg h (by omega),e1.symm,e2.symm⟩
 have:0<b / (Int.gcd a b:Nat):=Int.ediv_pos_of_pos_of_dvd hb (by omega) d2
 omega
open PySem.Spec PyProof.Rows
theorem acQ(h1:1<=q)(h2:1<=q')(g1:Int.gcd p q=1)(g2:Int.gcd p' q'=1)(e:p*q'=p'*q):p=p'/\q=q':=by
 have en:p.natAbs*q'.natAbs=p'.natAbs*q.natAbs:=by rw[<-Int.natAbs_mul,<-Int.natAbs_mul,e]
 have c1:Nat.Coprime q.natAbs p.natAbs:=by rw[Nat.coprime_comm]; exact g1
 have c2:Nat.Coprime q'.natAbs p'.natAbs:=by rw[Nat.coprime_comm]; exact g2
 have d1:q.natAbs∣q'.natAbs:=c1.dvd_of_dvd_mul_left ⟨p'.natAbs,by rw[en,Nat.mul_comm]⟩
 have d2:q'.natAbs∣q.natAbs:=c2.dvd_of_dvd_mul_left ⟨p.natAbs,by rw[<-en,Nat.mul_comm]⟩
 have ea:=Nat.dvd_antisymm d1 d2
 have eq:q=q':=by lia
 refine⟨?_,eq⟩
 rw[<-eq]at e
 exact Int.eq_of_mul_eq_mul_right (by lia) e
open PySem.W
theorem acR{K:Frag}{h:Heap}{mg:Str->Option Value}{x:Str}{C:Addr}{bmB:List Value}{newId:String}(X:K.In h)(G:h.Ns mainGlobals mg)(e:nsIn K mainGlobals x=some (some (.ref C)))(q:excIn K C bmB newId=true):OwnCls x C bmB newId mg h:=by
 constructor
 .exact mg_of X G e
 unfold excIn at q
 split at q
 case h_2=>cases q
 rename_i dd cd sl lk
 split at q
 case h_2=>cases q
 rename_i c0 bm y0 y1 y2 y3 nid y5 hm hl
 rw[Bool.and_eq_true,Bool.and_eq_true,Bool.and_eq_true,Bool.and_eq_true,Bool.and_eq_true]at q
 obtain⟨⟨⟨⟨⟨q1,q2⟩,q3⟩,q4⟩,q5⟩,q6⟩:=q
 have r1:=beq_iff_eq.mp q1
 have r2:=beq_iff_eq.mp q2
 have r6:=beq_iff_eq.mp q6
 have r3:cd.hasDel=false:=by simpa using q3
 subst r1 r2
 have hsl:sl = #[y0,y1,y2,y3,some (.builtin nid),y5]:=by
  cases sl with
  |mk l=>exact congrArg Array.mk hl
 subst hsl
 cases cd with
 |mk nm bs mro ns qn hd sn sub ab col del =>
  subst hm r3
  exact⟨bm,ns,nm,qn,bs,hd,sn,sub,ab,col,dd,y0,y1,y2,y3,y5,_,X _ _ lk,.of_isNs (isNs_of_in X q5),nsMap_none_of_in X q5 r6,tail_of_in X q4⟩
section
variable {P:Program}{w:World}{K:Frag}{mg:Str->Option Value}{base:Heap}
theorem lA.okX{x qual:Str}{st:Stmt}{f:Addr}{fd:FuncData}{N ps:List Str}{k:Nat}{sp:Sp}(F:lA K x qual st f fd)(S:oY N ps (bM st))(len:∀vs H Q E,sp vs H Q E->vs.length=ps.length)
  (hbody:∀(cdv:Value) (A:Around) (outer:List Env) (s:Shared) (H:Hp) (vs:List V) (Q:VK) (E:XK),cR k (A.deeper (envOfC qual (bM st) s.heap.objs.size f cdv))->sp vs H Q E ->
   ∃t,dj (gA (gD P w) P w K mg base N qual (bM st) f cdv A outer s H E) (fQ st) t/\t {nx:=λ_ H'=>Q .non H',rt:=Q } (start N vs) H):gq P w K mg base (gD P w) (k+1) f fd ps sp:=by
 obtain⟨oc,od,kV,doc,pm,an,cdv,ct,osl,rfl,lk,hcd⟩:=F.ex
 exact Cp lk hcd S len λA outer s H vs Q E hr h=>hbody cdv A outer s H vs Q E hr h
noncomputable def jf(P:Program)(w:World)(K:Frag)(mg:Str->Option Value)(base:Heap)(k:Nat)(x:Str)(ps:List Str)(sp:Sp):Prop :=
 ∃f fd,gq P w K mg base (gD P w) k f fd ps sp/\Binds K fd ps []/\keepIn K (.ref f)=true/\mg x=some (.ref f)
theorem jf.mono(D:jf P w K mg base j x ps sp)(h:j<=k):jf P w K mg base k x ps sp:=by
 obtain⟨f,fd,h1,h2⟩:=D
 exact⟨f,fd,h1.mono h,h2⟩
theorem At.Dl{k:Nat}{x:Str}{st:Stmt}{N ps:List Str}{sp:Sp}(a:At K mg x st)(S:oY N ps (bM st))
  (hb:∀(kV doc pm:Value) (an:Option Addr) (cdv ct:Value) (us:List Value),us.length=ps.length->bindArgs (fnOf x x (jD st) (fQ st) (bM st) .none kV doc pm an cdv ct) ⟨us,[]⟩=pure (ps.zip us))
  (len:∀vs H Q E,sp vs H Q E->vs.length=ps.length)
  (hbody:∀(f:Addr) (cdv:Value) (A:Around) (outer:List Env) (s:Shared) (H:Hp) (vs:List V) (Q:VK) (E:XK),cR k (A.deeper (envOfC x (bM st) s.heap.objs.size f cdv))->sp vs H Q E ->
   ∃t,dj (gA (gD P w) P w K mg base N x (bM st) f cdv A outer s H E) (fQ st) t/\t {nx:=λ_ H'=>Q .non H',rt:=Q } (start N vs) H):jf P w K mg base (k+1) x ps sp:=by
 obtain⟨f,fd,F,m⟩:=a
 exact⟨f,fd,F.okX S len λcdv A outer s H vs Q E hr h=>hbody f cdv A outer s H vs Q E hr h,F.binds hb,F.kp,m⟩
end
section
variable {X:Cx}{k:Nat}{x:Str}{ps:List Str}{sp:Sp}{p pos:Pos}{e:Expr}{es:List Expr}{t:TA}
theorem Nu:Passes (gD P w) X E0:=λ_ _ _ _ _ _ _ h=>by
 obtain⟨_,_,_,_,_,_,q,_⟩:=h
 exact q.elim
end
noncomputable def Sx(p:Addr)(H H':Hp):Prop:=∀b o,b≠p->H b=some o->H' b=some o
theorem Sx.refl(p:Addr)(H:Hp):Sx p H H:=λ_ _ _ h=>h
theorem Sx.trans(a:Sx p H H1)(b:Sx p H1 H2):Sx p H H2:=λc o n h=>b c o n (a c o n h)
theorem Sx.put(p:Addr)(H:Hp)(o:HO):Sx p H (upd H p o):=λb u n h=>by rw[aM n]; exact h
theorem Sx.of(s:Same H H'):Sx p H H':=λb o _ h=>s b o h
end L2
end
section
namespace L2
open PySem PySem.Spec PyProof.Rows
noncomputable def Nv(K:PySem.W.Frag)(l1 l2:Addr):It where
 go:=λi H=>∃xs ys x y,aG K H l1 xs/\aG K H l2 ys/\xs[i]?=some x/\ys[i]?=some y
 kZ:=λi H v H'=>∃T x y,v=.ref T/\H T=none/\H'=upd H T (.tup [x,y])/\∀xs ys,aG K H l1 xs->aG K H l2 ys->xs[i]?=some x/\ys[i]?=some y
 stop:=λi H=>∃xs ys,aG K H l1 xs/\aG K H l2 ys/\i=min xs.length ys.length
noncomputable def acS(l1 l2 z TI TO i1 i2:Addr)(i:Nat)(h:Heap):Prop:=IsZip h z TI TO .none/\IsPair h TI (.ref i1) (.ref i2)/\(∃a b,IsPair h TO a b)/\h.IsListIter i1 l1 i/\h.IsListIter i2 l2 i
section
variable {P:Program}{w:World}{K:PySem.W.Frag}
theorem Inv.Dm{pins:List (Addr × Obj)}{tk:Nat}{fp:List Addr}{xs:List V}{its:List Value}(I:Inv X pins σ H s)(hf:∀b∈fp,cL X pins H b)(k:∀b o,b∉fp->s.heap.get? b=some o->h'.get? b=some o)
  (th:∀b∈fp,∃o,h'.get? b=some o) (hT:s.heap.objs.size<=T) (ht:IsTup h' T its.toArray) (rv:Vals xs its) (hz:xs.length<=sizeLine):Inv X pins σ (upd H T (.tup xs)) {s with heap:=h',toks:=tk }:=by
 have fT:H T=none:=I.hok.fresh hT
 have neT:∀b o,s.heap.get? b=some o->b≠T:=λb o e z=>by rw[z]at e; exact absurd (Heap.lt_size e) (Nat.not_lt.mpr hT)
 have tL:∀b o,H b=some o->b≠T:=λb o e z=>by rw[z,fT]at e; cases e
 refine I.step (g':=s.gens) (d':=s.drawn) (ch:=fp) (λb hb=>?_) (λb o _ _ hc e _=>k b o hc e) (λb o _ _ hc e _=>⟨o.slots,k b o hc e⟩) (λb o _ e n=>by rw[aM (neT b o e)]; exact n) (λb o hc e=>⟨o,k b o hc e⟩)
  (λb ys e=>by rw[aM (tL b _ e)]; exact e) (λb o u e=>by rw[aM (tL b _ e)]; exact e) (λb ps e=>⟨#[],by rw[aM (tL b _ e)]; simpa using e⟩) (λm hm=>?_) (λb u e=>?_) I.bare
 .obtain⟨f0,f1,f2,f3,f4,f5⟩:=hf b hb
  exact⟨f3,f1,f4,f5⟩
 .obtain⟨o,es,ep,ho,r⟩:=hm
  exact⟨o,es,ep,k _ o (λz=>(hf _ z).2.1 rfl) ho,r⟩
 .by_cases z:b=T
  .subst z
   rw[bW]at e
   cases e
   exact⟨hz,its,rv,ht⟩
  .rw[aM z]at e
   refine(I.hok b u e).stay (λc o hc q=>k c o (λzc=>?_) q) (λc q=>by rw[aM (tL c _ q)]; exact q) λc ys q=>by rw[aM (tL c _ q)]; exact q
   have:=(hf c zc).1
   rcases hc with rfl|hc
   .rw[this]at e; cases e
   .rw[this]at hc; cases hc
theorem Inv.Dn{pins:List (Addr × Obj)}{tk:Nat}{fp:List Addr}(I:Inv X pins σ H s)(hf:∀b∈fp,cL X pins H b)(k:∀b o,b∉fp->s.heap.get? b=some o->h'.get? b=some o):Inv X pins σ H {s with heap:=h',toks:=tk }:=by
 refine I.step (g':=s.gens) (d':=s.drawn) (ch:=fp) (λb hb=>?_) (λb o _ _ hc e _=>k b o hc e) (λb o _ _ hc e _=>⟨o.slots,k b o hc e⟩) (λb o _ e n=>n) (λb o hc e=>⟨o,k b o hc e⟩)
  (λb ys e=>e) (λb o u e=>e) (λb ps e=>⟨#[],by simpa using e⟩) (λm hm=>?_) (λb u e=>?_) I.bare
 .obtain⟨f0,f1,f2,f3,f4,f5⟩:=hf b hb
  exact⟨f3,f1,f4,f5⟩
 .obtain⟨o,es,ep,ho,r⟩:=hm
  exact⟨o,es,ep,k _ o (λz=>(hf _ z).2.1 rfl) ho,r⟩
 .refine(I.hok b u e).stay (λc o hc q=>k c o (λzc=>?_) q) (λc q=>q) λc ys q=>q
  have:=(hf c zc).1
  rcases hc with rfl|hc
  .rw[this]at e; cases e
  .rw[this]at hc; cases hc
theorem acT{elts:List Expr}{k:Nat}(l1 l2 z TI TO i1 i2:Addr)(D:ZipApart z TI TO i1 i2 l1 l2):Turn P w K (.Tuple elts k pos) (Nv K l1 l2) [z,TI,TO,i1,i2] z (acS l1 l2 z TI TO i1 i2) where
 mem:=by simp
 obj:=λi h st b hb=>by
  obtain⟨hz,hTI,⟨a,c,hTO⟩,⟨o1,e1,_,d1⟩,⟨o2,e2,_,d2⟩⟩:=st
  have hb':b=z\/b=TI\/b=TO\/b=i1\/b=i2:=by simpa using hb
  rcases hb' with rfl|rfl|rfl|rfl|rfl
  .exact⟨_,hz,λv q=>nomatch q⟩
  .exact⟨_,hTI,λv q=>nomatch q⟩
  .exact⟨_,hTO,λv q=>nomatch q⟩
  .exact⟨o1,e1,λv q=>by rw[d1]at q; cases q⟩
  .exact⟨o2,e2,λv q=>by rw[d2]at q; cases q⟩
 keep:=λi h h' st kp=>by
  obtain⟨hz,hTI,⟨a,c,hTO⟩,h1,h2⟩:=st
  exact⟨kp z (by simp) _ hz,kp TI (by simp) _ hTI,⟨a,c,kp TO (by simp) _ hTO⟩,h1.at λo e=>kp i1 (by simp) o e,h2.at λo e=>kp i2 (by simp) o e⟩
 item:=by
  intro X hP hw hK hc i pins s σ H E I hf st hg
  subst hP hw hK
  obtain⟨xs,ys,x,y,q1,q2,hx,hy⟩:=hg
  obtain⟨gF,lD,p1,_⟩:=I.list q1
  obtain⟨its2,fU,p2,_⟩:=I.list q2
  obtain⟨u,hu,ru⟩:=lD.get hx
  obtain⟨v,hv,rv⟩:=fU.get hy
  have W:=WalksT.zip2 (prog:=X.prog) (w:=X.w) (A:=X.A) (I.ok.hd hc) z TI TO i1 i2 l1 l2 D gF.toArray its2.toArray
  have lt1:i<gF.length:=(List.getElem?_eq_some_iff.mp hu).1
  have aN:i<its2.length:=(List.getElem?_eq_some_iff.mp hv).1
  refine W.item i s _ E (by simp; lia) ⟨st.1,st.2.1,st.2.2.1,st.2.2.2.1,st.2.2.2.2,p1.isList,p2.isList⟩ λT vals h' tk hp hT ht mid kk=>?_
  obtain⟨u',v',e1,e2,rfl⟩:=hp
  have eu:u'=u:=by
   have:gF[i]?=some u':=by simpa using e1
   rw[hu]at this; cases this; rfl
  have ev:v'=v:=by
   have:its2[i]?=some v':=by simpa using e2
   rw[hv]at this; cases this; rfl
  subst eu ev
  refine⟨.ref T,rfl,?_⟩
  refine W.go elts k pos i T _ _ E mid λh'' st' tM=>?_
  have nT:=W.apart i T _ mid
  have ob:=(λb hb=>(by
   obtain⟨hz,hTI,⟨a,c,hTO⟩,⟨o1,e1,_,d1⟩,⟨o2,e2,_,d2⟩⟩:=st
   have hb':b=z\/b=TI\/b=TO\/b=i1\/b=i2:=by simpa using hb
   rcases hb' with rfl|rfl|rfl|rfl|rfl
   .exact Heap.lt_size hz
   .exact Heap.lt_size hTI
   .exact Heap.lt_size hTO
   .exact Heap.lt_size e1
   .exact Heap.lt_size e2:b<s.heap.objs.size):∀b∈[z,TI,TO,i1,i2],b<s.heap.objs.size)
  have Dp:T∉[z,TI,TO,i1,i2]:=λm=>absurd (ob T m) (Nat.not_lt.mpr hT)
  have sub:∀b,b∉[z,TI,TO,i1,i2]->b∉[z,TO,i1,i2]:=λb n m=>n (by simp at m ⊢; rcases m with rfl|rfl|rfl|rfl <;> simp)
  have Dq:IsTup h'' T #[u',v']:=by
   obtain⟨o,e,r⟩:=ht
   exact⟨o,tM T o nT e,r⟩
  have th:∀b∈[z,TI,TO,i1,i2],∃o,h''.get? b=some o:=λb hb=>by
   obtain⟨hz,hTI,⟨a,c,hTO⟩,⟨o1,e1,_,d1⟩,⟨o2,e2,_,d2⟩,_⟩:=st'
   have hb':b=z\/b=TI\/b=TO\/b=i1\/b=i2:=by simpa using hb
   rcases hb' with rfl|rfl|rfl|rfl|rfl
   .exact⟨_,hz⟩
   .exact⟨_,hTI⟩
   .exact⟨_,hTO⟩
   .exact⟨_,e1⟩
   .exact⟨_,e2⟩
  have I':Inv X pins σ (upd H T (.tup [x,y])) {s with heap:=h'',toks:=tk }:=I.Dm (its:=[u',v']) hf (λb o n e=>tM b o (sub b n) (kk b o (sub b n) e)) th hT Dq (.cons ru (.cons rv .nil)) (by show 2<=sizeLine; decide)
  refine⟨.ref T,_,I',rfl,⟨T,x,y,rfl,I.hok.fresh hT,rfl,λxs' ys' a1 a2=>?_⟩,⟨st'.1,st'.2.1,st'.2.2.1,st'.2.2.2.1,st'.2.2.2.2.1⟩,λb hb=>?_⟩
  .rw[I.mQ a1 q1,I.mQ a2 q2]
   exact⟨hx,hy⟩
  .have nb:b≠T:=by
    intro e0
    rw[e0]at hb
    exact Dp hb
   rw[aM nb]
   exact(hf b hb).1
 done:=by
  intro X hP hw hK hc i pins s σ H E I hf st hg
  subst hP hw hK
  obtain⟨xs,ys,q1,q2,e⟩:=hg
  obtain⟨gF,lD,p1,_⟩:=I.list q1
  obtain⟨its2,fU,p2,_⟩:=I.list q2
  have W:=WalksT.zip2 (prog:=X.prog) (w:=X.w) (A:=X.A) (I.ok.hd hc) z TI TO i1 i2 l1 l2 D gF.toArray its2.toArray
  have ei:i=min gF.toArray.size its2.toArray.size:=by simp[e,lD.length,fU.length]
  subst ei
  have sub:∀b,b∉[z,TI,TO,i1,i2]->b∉[z,TO,i1,i2]:=λb n m=>n (by simp at m ⊢; rcases m with rfl|rfl|rfl|rfl <;> simp)
  exact W.done s _ E ⟨st.1,st.2.1,st.2.2.1,st.2.2.2.1,st.2.2.2.2,p1.isList,p2.isList⟩ λh' tk kk=>⟨rfl,I.Dn hf λb o n e=>kk b o (sub b n) e⟩
 self:=λA i s Q E st h=>wpAny_pyIter_zip st.1 h
end
section
variable {X:Cx}
noncomputable def acU(K:PySem.W.Frag)(ta:TA):TI:=λσ H R=>ta σ H λvs H1=>∃l1 l2,vs=[.ref l1,.ref l2]/\(∃xs,aG K H1 l1 xs)/\(∃ys,aG K H1 l2 ys)/\R (Nv K l1 l2) H1
theorem acV(hm:X.mg "zip" = none) (ha:PA X [a,b] ta) (hg:Gl X "zip" := by rfl) (hs:starEach [a,b] X.env=[(false,eval a X.env),(false,eval b X.env)]:=by rfl) (hs2:starEach [b] X.env=[(false,eval b X.env)]:=by rfl) :
  PI X (.Tuple elts k tpos) (.Call (.Name "zip" p) [a,b] [] pos) (acU X.K ta):=by
 intro pins s σ H R I h
 refine Call_ (kO I hg hm (show bootBuiltins "zip" = some (.type "zip") by decide +kernel) (PyProof.Rows.callWith_type1 (aH (ha pos pins s σ H _ I h) λus s1 ⟨vs,H1,I1,r1,q1⟩=>?_) (by rw[hs,hs2]) (by rw[hs2]; rfl)))
 obtain⟨l1,l2,e,⟨xs,h1⟩,⟨ys,h2⟩,q⟩:=q1
 subst e
 cases r1 with
 |cons r rr =>
  cases rr with
  |cons r' rr =>
   cases rr
   cases r
   cases r'
   obtain⟨gF,lD,p1,_⟩:=I1.list h1
   obtain⟨its2,fU,p2,_⟩:=I1.list h2
   obtain⟨o1,e1,_⟩:=p1.isList
   obtain⟨o2,e2,_⟩:=p2.isList
   refine call_zip_2 p1.isList p2.isList λh' hz hTI hTO hi1 hi2 hsz hk=>?_
   refine wpAny_pyIter_zip hz ?_
   refine⟨_,[_,_,_,_,_],_,_,H1,rfl,I1.kept (t':=s1.toks) hk,acT l1 l2 _ _ _ _ _ (PySem.W.ktu_apart _ _ _ (Heap.lt_size e1) (Heap.lt_size e2)),⟨hz,hTI,⟨_,_,hTO⟩,hi1,hi2⟩,λc hc=>?_,q⟩
   have hc':c=s1.heap.objs.size+4\/c=s1.heap.objs.size+2\/c=s1.heap.objs.size+3\/c=s1.heap.objs.size\/c=s1.heap.objs.size+1:=by simpa using hc
   have hge:s1.heap.objs.size<=c:=by rcases hc' with rfl|rfl|rfl|rfl|rfl <;> lia
   exact I1.jC hge (I1.hok.fresh hge)
end
end L2
end
section
namespace L2
open PySem
noncomputable def Sz(m:Nat)(r:Rat):Prop:=r.num.natAbs<=2 ^ m/\r.den<=2 ^ m
theorem Sz.mono(h:Sz m r)(hm:m<=n):Sz n r:=⟨Nat.le_trans h.1 (Nat.pow_le_pow_right (by decide) hm),Nat.le_trans h.2 (Nat.pow_le_pow_right (by decide) hm)⟩
theorem den_pos(r:Rat):1<=(r.den:Int):=by have:=r.den_pos; omega
theorem xM(r:Rat):Rat.divInt r.num (r.den:Int)=r:=Rat.num_divInt_den r
theorem add_eq(r s:Rat):Rat.divInt (r.num*s.den+s.num*r.den) (r.den*s.den)=r+s:=by
 have h:=Rat.divInt_add_divInt r.num s.num (d₁ := r.den) (d₂ := s.den) (by have:=den_pos r; omega) (by have:=den_pos s; omega)
 rw[xM,xM]at h
 exact h.symm
theorem mul_eq(r s:Rat):Rat.divInt (r.num*s.num) (r.den*s.den)=r*s:=by
 have h:=Rat.divInt_mul_divInt r.num s.num (d₁ := r.den) (d₂ := s.den)
 rw[xM,xM]at h
 exact h.symm
theorem Sz.d(h:Sz m r):(r.den:Int).natAbs<=2 ^ m:=by rw[Int.natAbs_natCast]; exact h.2
open PySem.Spec PyProof.Rows
section
variable {X:Cx}
noncomputable def Dr(K:PySem.W.Frag):R2:=λx y H Q=>∃t ts p xs,Rep K H x t/\y=.ref p/\(aG K H p xs\/bx K H p xs)/\au K H xs ts/\deps ts<=40/\dep t<=40/\Q (.bl (!jU t ts)) H
open Classical in
theorem acW(hu:X.A.units+64<cLine):bh X (compareOp .NotIn) (Dr X.K):=by
 intro pins s σ H x y v u Q I rx ry h
 obtain⟨t,ts,p,xs,q1,rfl,hq,qs,hd,hd2,q⟩:=h
 cases ry
 have hu1:X.A.in1.units+40<cLine:=by
  have:=in1_units X.A
  lia
 -- what == tells of an item,by the item itself
 let e:Value->Bool:=λw'=>if h:∃z tz,z∈xs/\RelV z w'/\Rep X.K H z tz/\tz∈ts then eqT (Classical.choose (Classical.choose_spec h)) t else false
 have ee:∀z w' tz,z∈xs->RelV z w'->Rep X.K H z tz->tz∈ts->e w'=eqT tz t:=λz w' tz h1 h2 h3 h4=>by
  have hx:∃z tz,z∈xs/\RelV z w'/\Rep X.K H z tz/\tz∈ts:=⟨z,tz,h1,h2,h3,h4⟩
  show(if h:_ then _ else _)=_
  rw[dif_pos hx]
  have sp:=Classical.choose_spec (Classical.choose_spec hx)
  have key:∀z z' t1 t2,RelV z w'->RelV z' w'->dep t1<=99->Rep X.K H z t1->Rep X.K H z' t2->t1=t2:=λz z' t1 t2 a1 a2 d9 a3 a4=>by
   obtain rfl:=RelV.inj a1 a2
   exact Rep.inj I d9 a3 a4
  rw[key _ _ _ _ sp.2.1 h2 (by have:=qD sp.2.2.2; lia) sp.2.2.1 h3]
 have mem:∀{its:List Value},Vals xs its->∀w'∈its,SeqAt.EqAt X.A.in1 s w' v (e w'):=by
  intro its r w' hw
  obtain⟨j,hj,ej⟩:=List.mem_iff_getElem.mp hw
  have hjx:j<xs.length:=by rw[r.length]; exact hj
  obtain⟨u',h1,h2⟩:=r.get (List.getElem?_eq_getElem hjx)
  rw[List.getElem?_eq_getElem hj,ej]at h1
  cases h1
  obtain⟨tz,h3,h4⟩:=qs.get (List.getElem?_eq_getElem hjx)
  have hm:=List.mem_of_getElem? h3
  rw[ee _ _ tz (List.getElem_mem hjx) h2 h4 hm]
  exact(xH I 40 X.A.in1 tz t _ x _ v hu1 (Nat.le_trans (qD hm) hd) (by have:=qD hm; lia) (by lia) h4 q1 h2 rx).2
 rcases hq with hq|hq
 .obtain⟨its,r,pl,hz⟩:=I.list hq
  refine SeqAt.notIn_listAt e pl.isList (λw hw=>mem r w (by simpa using hw)) ⟨.bl _,H,I,rfl,?_⟩
  rw[show its.toArray.any e=its.any e by simp,xJ (λz=>eqT z t) e r qs λz w' tz h1 h2 h3 h4=>ee z w' tz h1 h2 h3 h4]
  exact q
 .obtain⟨its,r,pl,hz⟩:=I.tuple hq
  refine SeqAt.notIn_tupleAt e pl (λw hw=>mem r w (by simpa using hw)) ⟨.bl _,H,I,rfl,?_⟩
  rw[show its.toArray.any e=its.any e by simp,xJ (λz=>eqT z t) e r qs λz w' tz h1 h2 h3 h4=>ee z w' tz h1 h2 h3 h4]
  exact q
end
theorem _root_.L2.bx.mono{K:PySem.W.Frag}{H H':Hp}{a:Addr}{xs:List V}(s:Same H H')(h:bx K H a xs):bx K H' a xs:=by
 rcases h with(h|h)|h
 .exact .inl (.inl (s _ _ h))
 .exact .inl (.inr (by obtain⟨o,e⟩:=h; exact⟨o,s _ _ e⟩))
 .exact .inr h
section
variable {X:Cx}
noncomputable def Ds(K:PySem.W.Frag):R2:=λx y H Q=>∃t u,Rep K H x t/\Rep K H y u/\dep t<=40/\dep u<=40/\Q (.bl (!eqT t u)) H
theorem acX(hu:X.A.units+64<cLine):bh X (compareOp .NotEq) (Ds X.K):=by
 intro pins s σ H x y v u Q I vx vy h
 obtain⟨t,t',rx,ry,hd,du,q⟩:=h
 have hu0:X.A.units<cLine:=by lia
 have hu1:X.A.in1.units+40<cLine:=by
  have:=in1_units X.A
  lia
 have fin:SeqAt.RcNeAt X.A s v u (!eqT t t')->wpAny (model X.prog X.w) X.A (compareOp .NotEq v u) (EP X pins σ Q) X.xe s:=λh=>h _ _ _ _ ⟨.bl _,H,I,rfl,q⟩
 have items:∀{xs ys:List V} {ts us:List Tr} {its its2:List Value},Vals xs its->Vals ys its2->au X.K H xs ts->au X.K H ys us->deps ts<=40->deps us<=40->∀j (h1:j<its.toArray.size) (h2:j<its2.toArray.size),SeqAt.EqAt X.A.in1 s its.toArray[j] its2.toArray[j] (lB ts us j):=by
  intro xs ys ts us its its2 r1 r2 q1 q2 hde Nj j h1 h2
  obtain⟨a,ea,ra⟩:=xG r1 h1
  obtain⟨b,eb,rb⟩:=xG r2 h2
  obtain⟨ta,eta,qa⟩:=q1.get ea
  obtain⟨tb,tH,qb⟩:=q2.get eb
  rw[Ni eta tH]
  exact(xH I 40 X.A.in1 ta tb a b _ _ hu1 (Nat.le_trans (mY eta) hde) (by have:=mY eta; lia) (by have:=mY tH; lia) qa qb ra rb).2
 cases rx with
 |bQ h m n=>unfold dep at hd; lia
 |non =>
  cases vx
  cases ry with
  |non=>cases vy; unfold eqT at fin; exact fin .none_none
  |bl b2=>cases vy; unfold eqT at fin; exact fin (.none_bool _)
  |int i2=>obtain⟨_,rfl⟩:=vy; unfold eqT at fin; exact fin (.none_int _ _)
  |str z2=>obtain⟨_,rfl⟩:=vy; unfold eqT at fin; exact fin (.none_str _ _)
  |tup h r=>cases vy; obtain⟨_,_,p,_⟩:=I.tuple h; unfold eqT at fin; exact fin (.none_tuple p hu0)
  |lst h r=>cases vy; obtain⟨_,_,p,_⟩:=I.list h; unfold eqT at fin; exact fin (.none_list p.isList hu0)
  |bQ h m n=>unfold dep at du; lia
 |bl b =>
  cases vx
  cases ry with
  |non=>cases vy; unfold eqT at fin; exact fin (.bool_none _)
  |bl b2=>cases vy; unfold eqT at fin; exact fin (.bool_bool _ _)
  |int i2=>obtain⟨_,rfl⟩:=vy; unfold eqT at fin; exact fin (.bool_int _ _ _)
  |str z2=>obtain⟨_,rfl⟩:=vy; unfold eqT at fin; exact fin (.bool_str _ _ _)
  |tup h r=>cases vy; obtain⟨_,_,p,_⟩:=I.tuple h; unfold eqT at fin; exact fin (.bool_tuple _ p hu0)
  |lst h r=>cases vy; obtain⟨_,_,p,_⟩:=I.list h; unfold eqT at fin; exact fin (.bool_list _ p.isList hu0)
  |bQ h m n=>unfold dep at du; lia
 |int i =>
  obtain⟨_,rfl⟩:=vx
  cases ry with
  |non=>cases vy; unfold eqT at fin; exact fin (.int_none _ _)
  |bl b2=>cases vy; unfold eqT at fin; exact fin (.int_bool _ _ _)
  |int i2=>obtain⟨_,rfl⟩:=vy; unfold eqT at fin; exact fin (.int_int _ _ _ _)
  |str z2=>obtain⟨_,rfl⟩:=vy; unfold eqT at fin; exact fin (.int_str _ _ _ _)
  |tup h r=>cases vy; obtain⟨_,_,p,_⟩:=I.tuple h; unfold eqT at fin; exact fin (.int_tuple _ _ p hu0)
  |lst h r=>cases vy; obtain⟨_,_,p,_⟩:=I.list h; unfold eqT at fin; exact fin (.int_list _ _ p.isList hu0)
  |bQ h m n=>unfold dep at du; lia
 |str z =>
  obtain⟨_,rfl⟩:=vx
  cases ry with
  |non=>cases vy; unfold eqT at fin; exact fin (.str_none _ _)
  |bl b2=>cases vy; unfold eqT at fin; exact fin (.str_bool _ _ _)
  |int i2=>obtain⟨_,rfl⟩:=vy; unfold eqT at fin; exact fin (.str_int _ _ _ _)
  |str z2=>obtain⟨_,rfl⟩:=vy; unfold eqT at fin; exact fin (.str_str _ _ _ _)
  |tup h r=>cases vy; obtain⟨_,_,p,_⟩:=I.tuple h; unfold eqT at fin; exact fin (.str_tuple _ _ p hu0)
  |lst h r=>cases vy; obtain⟨_,_,p,_⟩:=I.list h; unfold eqT at fin; exact fin (.str_list _ _ p.isList hu0)
  |bQ h m n=>unfold dep at du; lia
 | @tup a1 xs1 ts h1 r1 =>
  cases vx
  obtain⟨its,rv,p,_⟩:=I.tuple h1
  have hd':deps ts<=40:=by unfold dep at hd; lia
  cases ry with
  |non=>cases vy; unfold eqT at fin; exact fin (.tuple_none p hu0)
  |bl b2=>cases vy; unfold eqT at fin; exact fin (.tuple_bool _ p hu0)
  |int i2=>obtain⟨_,rfl⟩:=vy; unfold eqT at fin; exact fin (.tuple_int _ _ p hu0)
  |str z2=>obtain⟨_,rfl⟩:=vy; unfold eqT at fin; exact fin (.tuple_str _ _ p hu0)
  |lst h r=>cases vy; obtain⟨_,_,p2,_⟩:=I.list h; unfold eqT at fin; exact fin (.tuple_list p p2.isList hu0)
  |bQ h m n=>unfold dep at du; lia
  | @tup a2 xs2 us h2 r2 =>
   cases vy
   obtain⟨its2,fU,p2,_⟩:=I.tuple h2
   have R:=SeqAt.RcNeAt.tuples (A:=X.A) (e:=lB ts us) p p2 (by lia) λj k1 k2=>items rv fU r1 r2 hd' (by unfold dep at du; lia) j k1 k2
   have el:its.toArray.size=ts.length:=by simpa using(rv.length.symm.trans r1.length)
   have el2:its2.toArray.size=us.length:=by simpa using(fU.length.symm.trans r2.length)
   rw[el,el2]at R
   have eb:((List.range (min ts.length us.length)).all (lB ts us)&&ts.length == us.length)=eqT (.tup ts) (.tup us):=by
    unfold eqT
    by_cases e:ts.length=us.length
    .rw[e,Nat.min_self,<-e,tE e,beq_self_eq_true,Bool.and_true]
    .rw[beq_false_of_ne e,Bool.and_false,tD e]
   rw[eb]at R
   exact fin R
 | @lst a1 xs1 ts h1 r1 =>
  cases vx
  obtain⟨its,rv,p,_⟩:=I.list h1
  have hd':deps ts<=40:=by unfold dep at hd; lia
  cases ry with
  |non=>cases vy; unfold eqT at fin; exact fin (.list_none p.isList hu0)
  |bl b2=>cases vy; unfold eqT at fin; exact fin (.list_bool _ p.isList hu0)
  |int i2=>obtain⟨_,rfl⟩:=vy; unfold eqT at fin; exact fin (.list_int _ _ p.isList hu0)
  |str z2=>obtain⟨_,rfl⟩:=vy; unfold eqT at fin; exact fin (.list_str _ _ p.isList hu0)
  |bQ h m n=>unfold dep at du; lia
  |tup h r=>cases vy; obtain⟨_,_,p2,_⟩:=I.tuple h; unfold eqT at fin; exact fin (.list_tuple p.isList p2 hu0)
  | @lst a2 xs2 us h2 r2 =>
   cases vy
   obtain⟨its2,fU,p2,_⟩:=I.list h2
   have el:its.toArray.size=ts.length:=by simpa using(rv.length.symm.trans r1.length)
   have el2:its2.toArray.size=us.length:=by simpa using(fU.length.symm.trans r2.length)
   by_cases e:ts.length=us.length
   .have R:=SeqAt.RcNeAt.lists (A:=X.A) (e:=lB ts us) p.isList p2.isList (by lia) (by lia) λj k1 k2=>items rv fU r1 r2 hd' (by unfold dep at du; lia) j k1 k2
    rw[el]at R
    rw[tE e]at R
    unfold eqT at fin
    exact fin R
   .have R:=SeqAt.RcNeAt.lists_lengths (A:=X.A) p.isList p2.isList (by rw[el,el2]; simpa using e) (by lia)
    unfold eqT at fin
    rw[tD e]at fin
    exact fin R
end
open Classical in
noncomputable def cg(o:Obj):Obj:=if o.cls=.type "list" ∧ ¬(∃its n,o={cls:=.type "list",data:=.seq its n })then{cls:=.none,data:=.fields #[] }else o
noncomputable def aA(K:PySem.W.Frag):PySem.W.Frag:=K.map λp=>(p.1,cg p.2)
theorem jg:∀(K:PySem.W.Frag) (a:Addr),(aA K).lookup a=(K.lookup a).map cg
 | [],a=>rfl
 |(c,q)::r,a=>by
  show((c,cg q)::aA r).lookup a=_
  rw[List.lookup_cons,List.lookup_cons]
  cases a == c with
  |true=>rfl
  |false=>exact jg r a
theorem acY{K:PySem.W.Frag}{a:Addr}{o:Obj}(h:(aA K).lookup a=some o)(c:o.cls=.type "tuple"):K.lookup a=some o:=by
 rw[jg]at h
 cases e:K.lookup a with
 |none=>rw[e]at h; cases h
 |some q =>
  rw[e]at h
  have h:cg q=o:=Option.some.inj h
  unfold cg at h
  split at h
  .subst h; cases c
  .rw[h]
theorem acZ{K:PySem.W.Frag}{a:Addr}{o:Obj}(h:(aA K).lookup a=some o)(c:o.cls=.type "list"):K.lookup a=some o∧∃its n,o={cls:=.type "list",data:=.seq its n }:=by
 rw[jg]at h
 cases e:K.lookup a with
 |none=>rw[e]at h; cases h
 |some q =>
  rw[e]at h
  have h:cg q=o:=Option.some.inj h
  unfold cg at h
  split at h
  .subst h; cases c
  .rename_i n
   subst h
   refine⟨rfl,?_⟩
   by_cases z:∃its n,q={cls:=.type "list",data:=.seq its n }
   .exact z
   .exact(n ⟨c,z⟩).elim
theorem ac0{K:PySem.W.Frag}{a:Addr}{o:Obj}(h:K.lookup a=some o)(c:o.cls=.type "tuple"):(aA K).lookup a=some o:=by
 rw[jg,h]
 show some (cg o)=some o
 unfold cg
 rw[if_neg (by rintro⟨z,_⟩; rw[c]at z; injection z with z; exact absurd z (by decide))]
theorem bx.toK{K:PySem.W.Frag}{H:Hp}{a:Addr}{xs:List V}(h:bx (aA K) H a xs):bx K H a xs:=by
 rcases h with h|⟨o,its,n,e,c,r⟩
 .exact .inl h
 .exact .inr ⟨o,its,n,acY e c,c,r⟩
noncomputable def gW(K:PySem.W.Frag)(H:Hp)(a:Addr)(xs:List V):Prop:=Rd H a (.lst xs)\/∃(its:Array Value) (n:Nat),K.lookup a=some {cls:=.type "list",data:=.seq its n }/\its.size<=sizeLine/\Vals xs its.toList
theorem aG.xO{K:PySem.W.Frag}{H:Hp}{a:Addr}{xs:List V}(h:aG (aA K) H a xs):gW K H a xs:=by
 rcases h with h|⟨o,its,n,e,c,_,d,r⟩
 .exact .inl h
 .obtain⟨e2,its',n',rfl⟩:=acZ e c
  injection d with d1 d2
  subst d1 d2
  exact .inr ⟨its',n',e2,r⟩
theorem gW.toK{K:PySem.W.Frag}{H:Hp}{a:Addr}{xs:List V}(h:gW K H a xs):aG K H a xs:=by
 rcases h with h|⟨its,n,e,r⟩
 .exact .inl h
 .exact .inr ⟨_,its,n,e,rfl,rfl,rfl,r⟩
theorem gW.toN{K:PySem.W.Frag}{H:Hp}{a:Addr}{xs:List V}(h:gW K H a xs):aG (aA K) H a xs:=by
 rcases h with h|⟨its,n,e,r⟩
 .exact .inl h
 .refine .inr ⟨{cls:=.type "list",data:=.seq its n },its,n,?_,rfl,rfl,rfl,r⟩
  rw[jg,e]
  show some (cg _)=_
  unfold cg
  rw[if_neg λz=>z.2 ⟨its,n,rfl⟩]
theorem aG.toK{K:PySem.W.Frag}{H:Hp}{a:Addr}{xs:List V}(h:aG (aA K) H a xs):aG K H a xs:=h.xO.toK
theorem ac1{K:PySem.W.Frag}{N:Addr}{c:Str}{v:Value}(h:PySem.W.nsIn (aA K) N c=some (some v)):PySem.W.nsIn K N c=some (some v):=by
 unfold PySem.W.nsIn at h ⊢
 rw[jg]at h
 cases e:K.lookup N with
 |none=>rw[e]at h; cases h
 |some q =>
  rw[e]at h
  by_cases z:q.cls=.type "list" ∧ ¬(∃its n,q={cls:=.type "list",data:=.seq its n })
  .have:cg q={cls:=.none,data:=.fields #[] }:=by unfold cg; rw[if_pos z]
   rw[show(some q).map cg=some (cg q)from rfl,this]at h
   cases h
  .have:cg q=q:=by unfold cg; rw[if_neg z]
   rw[show(some q).map cg=some (cg q)from rfl,this]at h
   exact h
theorem Nx{K:PySem.W.Frag}{H:Hp}:(∀{v t},Rep (aA K) H v t->Rep K H v t)/\∀{vs ts},au (aA K) H vs ts->au K H vs ts:=Rep.both .non .bl .int .str (λ_ _ _ h q=>.tup h.toK q) (λ_ _ _ h q=>.lst h.toK q) (λ_ _ _ h m n=>.bQ h m (ac1 n)) .nil λ_ _ _ _ p q=>.cons p q
theorem Rep.toK{K:PySem.W.Frag}{H:Hp}{v:V}{t:Tr}(h:Rep (aA K) H v t):Rep K H v t:=Nx.1 h
theorem au.toK{K:PySem.W.Frag}{H:Hp}{v:List V}{t:List Tr}(h:au (aA K) H v t):au K H v t:=Nx.2 h
section
variable {X:Cx}
theorem Inv.Dt(I:Inv X pins σ H s)(hH:gW X.K H l xs):xs.length<=sizeLine/\∃(its:List Value) (n:Nat),Vals xs its/\xs.length=its.length/\s.heap.get? l=some {cls:=.type "list",data:=.seq its.toArray n }:=by
 rcases hH with hH|⟨its,n,e,z,r⟩
 .obtain⟨z,its,n,r,e⟩:=hH.ok I.hok
  exact⟨z,its,n,r,r.length,e⟩
 .have l':=r.length.trans Array.length_toList
  exact⟨by rw[l']; exact z,its.toList,n,r,r.length,I.gU _ _ e⟩
noncomputable def Ny(K:PySem.W.Frag):R2:=λx y H Q=>∃l b xs zs,x=.ref l/\y=.ref b/\gW K H l xs/\gW K H b zs/\xs.length+zs.length<=sizeLine/\∀p,H p=none->Q (.ref p) (upd H p (.lst (xs++zs)))
theorem ac2:bh X (binaryOp .Add) (Ny X.K):=by
 intro pins s σ H x y v u Q I rx ry h
 obtain⟨l,b,xs,zs,rfl,rfl,hH,hB,hz,q⟩:=h
 cases rx
 cases ry
 obtain⟨z,its,n,r,hl,e⟩:=I.Dt hH
 obtain⟨z2,its2,n2,r2,hl2,e2⟩:=I.Dt hB
 refine PySem.P.add_list e e2 ?_ (by rw[List.size_toArray,List.size_toArray]; lia)
 have ea:its.toArray++its2.toArray=(its++its2).toArray:=by simp
 rw[ea]
 exact⟨.ref _,_,I.Cz (t':=s.toks) (r.append r2) (by rw[List.length_append]; lia),rfl,q _ I.fresh⟩
end
noncomputable def Nz(K:PySem.W.Frag):R2:=λx y H Q=>∃l k xs,x=.ref l/\y=.int k/\gW K H l xs /\ -(2 ^ 63)<=k/\k<2 ^ 63/\xs.length*k.toNat<=sizeLine/\∀p,H p=none->Q (.ref p) (upd H p (.lst (List.replicate k.toNat xs).flatten))
theorem ac3{X:Cx}:bh X (binaryOp .Mult) (Nz X.K):=by
 intro pins s σ H x y v u Q I rx ry h
 obtain⟨l,k,xs,rfl,rfl,hH,h1,h2,hz,q⟩:=h
 cases rx
 obtain⟨t,rfl⟩:=ry
 obtain⟨z,its,n,r,hl,e⟩:=I.Dt hH
 have hlen:its.toArray.size*k.toNat<=sizeLine:=by rw[List.size_toArray,<-hl]; exact hz
 have hcap:¬its.toArray.size*k.toNat > (2 ^ 63-1) / 8:=by
  have:(sizeLine:Nat)<=(2 ^ 63-1) / 8:=by decide
  lia
 have hfit:¬(!Builtin.List.listFitsIndex k)=true:=by
  rw[fitsIndex_both h1 h2]
  exact Bool.false_ne_true
 have ac4:¬Builtin.List.listTooLong (its.toArray.size*k.toNat)=true:=by
  rw[acg hlen]
  exact Bool.false_ne_true
 have hnew:List.foldl (λx1 x2=>x1++x2) #[] (List.replicate (if its.toArray.isEmpty=true then 0 else k.toNat) its.toArray)=(List.replicate k.toNat its).flatten.toArray:=by
  have f0:∀m:Nat,List.foldl (λx1 x2=>x1++x2) #[] (List.replicate m its.toArray)=(List.replicate m its).flatten.toArray:=λm=>by
   have:=foldl_rep its m []
   rw[List.nil_append]at this
   exact this
  rw[f0]
  cases its with
  |nil=>simp
  |cons a r'=>rw[if_neg (by simp)]
 refine wpAny_binaryOp_repeat_ref (T := "list") (U := "int") (by decide) ⟨_,e,rfl⟩ (λs'=>typeIs_int s' k t) noFill_list_mul F.fills_int_mul F.slot_int_rmul repeat_list F.slot_int_index.lookup
  (call_meets F.slot_int_rmul (typeIs_int s k t) F.entry_int_rmul (F.args_int_rmul_2 _ _) (int___rmul___int_list k t l its.toArray n)
   ⟨e,rfl,⟨_,e,rfl⟩,call_meets F.slot_list_mul ⟨_,e,rfl⟩ F.entry_list_mul (F.args_list_mul_2 _ _) (AutoListH.list___mul___list_int_3 l its.toArray n k t hfit hcap ac4) ⟨e,?_⟩⟩)
 rw[hnew]
 exact⟨.ref _,_,I.Cz (t':=s.toks) (r.rep k.toNat) (by rw[len_rep,Nat.mul_comm]; exact hz),rfl,q _ I.fresh⟩
inductive Rs(α : Type) where
 |bad|ex (c:Str)|ok (a : α)
noncomputable def Rs.bind{α β : Type}:Rs α -> (α -> Rs β)->Rs β
 |.bad,_=>.bad
 |.ex c,_=>.ex c
 |.ok a,f=>f a
noncomputable instance:Monad Rs where
 pure:=.ok
 bind:=Rs.bind
inductive Sl where
 |un|sh (t:Tr)|ow (ts:List Tr)|rf (ts:List Tr)|dp (ts:List Tr)
noncomputable abbrev En:=List Sl
inductive Rv where
 |v (T:Tr) (fr:Bool)|s (i:Nat)
noncomputable abbrev EF:=En->Rs (Rv × En)
noncomputable abbrev BF:=En->Rs (Bool × En)
noncomputable abbrev AF:=En->Rs (List Rv × En)
noncomputable abbrev OF:=En->Rs (Option Int × En)
noncomputable abbrev IF:=En->Rs (List Tr × En)
noncomputable abbrev GF:=Tr->En->Rs En
noncomputable abbrev qG:=List Tr->En->Rs En
inductive Fl where
 |nx|rt (T:Tr) (fr:Bool)|bk|ct
noncomputable abbrev SF:=En->Rs (Fl × En)
noncomputable def pq:Tr->Bool
 |.lst _=>true
 |_=>false
noncomputable def eN:List Str:=["falling_places", "order_of_bounds"]
noncomputable def Tb(K:PySem.W.Frag)(b:Addr):Prop:=∃x∈eN,∃c,PySem.W.tabIn K x=some (c,b)
noncomputable def NK(o:Obj)(q:Str):Prop:=∃vs t,o.data=.fields vs/\vs[1]?=some (.str q t)
noncomputable def xP(x:Str):Str:=x++(".<locals>." : Str)++("<lambda>" : Str)
noncomputable def xQ(H:Hp)(q:Str)(ps:Array Value):Prop:=TriplesOk ps.toList/\∀pos v,codeAmong pos ps.toList=some v->∃c o,v=.ref c/\H c=some (.cQ o (.own 0))/\NK o q
noncomputable def bL(K:PySem.W.Frag)(H:Hp):Prop:=∀x∈eN,∀c b,PySem.W.tabIn K x=some (c,b)->∃ps,H b=some (.cu ps)/\xQ H (xP x) ps
theorem bL.cu{K:PySem.W.Frag}{H:Hp}(h:bL K H){b:Addr}(t:Tb K b):∃ps,H b=some (.cu ps):=by
 obtain⟨x,hx,c,e⟩:=t
 obtain⟨ps,q,_⟩:=h x hx c b e
 exact⟨ps,q⟩
theorem bL.nt{K:PySem.W.Frag}{H:Hp}(h:bL K H){b:Addr}{xs:List V}(e:H b=some (.lst xs)):¬Tb K b:=λt=>by
 obtain⟨ps,q⟩:=h.cu t
 rw[e]at q
 cases q
theorem bL.fr{K:PySem.W.Frag}{H H':Hp}(h:bL K H)(s:∀b o,(∀xs,o ≠ .lst xs)->H b=some o->H' b=some o):bL K H':=λx hx c b e=>by
 obtain⟨ps,q,t1,t2⟩:=h x hx c b e
 refine⟨ps,s _ _ (λ_ z=>by cases z) q,t1,λpos v k=>?_⟩
 obtain⟨c,o,e1,e2,e3⟩:=t2 pos v k
 exact⟨c,o,e1,s _ _ (λ_ z=>by cases z) e2,e3⟩
theorem bL.upd{K:PySem.W.Frag}{H:Hp}(h:bL K H){a:Addr}{xs:List V}{o:HO}(e:H a=some (.lst xs)):bL K (L2.upd H a o):=h.fr λb u n q=>by
 rw[aM]
 .exact q
 .rintro rfl
  rw[e]at q
  cases q
  exact n _ rfl
mutual
noncomputable def bK:Tr->Bool
 |.tup ts=>cY ts
 |.lst _=>false
 |_=>true
noncomputable def cY:List Tr->Bool
 | []=>true
 |t::r=>bK t&&cY r
end
inductive DR(K:PySem.W.Frag)(G H:Hp):List V->List Tr->List Addr->Prop
 |nil:DR K G H [] [] []
 |cl {x:V} {u:Tr} {xs:List V} {ts:List Tr} {bs:List Addr} (n:bK u=true) (h:Rep K G x u) (r:DR K G H xs ts bs):DR K G H (x::xs) (u::ts) bs
 |rw {b:Addr} {ys:List V} {us:List Tr} {cs:List Addr} {xs:List V} {ts:List Tr} {bs:List Addr} (h:H b=some (.lst ys)) (q:DR K G H ys us cs) (r:DR K G H xs ts bs):DR K G H (.ref b::xs) (.lst us::ts) (b::(cs++bs))
 |tp {b:Addr} {ys:List V} {us:List Tr} {cs:List Addr} {xs:List V} {ts:List Tr} {bs:List Addr} (h:bx K G b ys) (q:DR K G H ys us cs) (r:DR K G H xs ts bs):DR K G H (.ref b::xs) (.tup us::ts) (cs++bs)
theorem DR.mono{K:PySem.W.Frag}{G G' H H':Hp}(m:Same G G'){xs:List V}{ts:List Tr}{bs:List Addr}(h:DR K G H xs ts bs):(∀b∈bs,∀o,H b=some o->H' b=some o)->DR K G' H' xs ts bs:=by
 induction h with
 |nil=>exact λ_=>.nil
 |cl n h _ ih=>exact λk=>.cl n (h.mono m) (ih k)
 |rw h _ _ i1 i2=>exact λk=>.rw (k _ (List.mem_cons_self ..) _ h) (i1 λb hb=>k b (List.mem_cons_of_mem _ (List.mem_append_left _ hb))) (i2 λb hb=>k b (List.mem_cons_of_mem _ (List.mem_append_right _ hb)))
 |tp h _ _ i1 i2=>exact λk=>.tp (m.jE h) (i1 λb hb=>k b (List.mem_append_left _ hb)) (i2 λb hb=>k b (List.mem_append_right _ hb))
theorem DR.lst{K:PySem.W.Frag}{G H:Hp}{xs:List V}{ts:List Tr}{bs:List Addr}(h:DR K G H xs ts bs):∀b∈bs,∃ys,H b=some (.lst ys):=by
 induction h with
 |nil=>exact λ_ h=>by cases h
 |cl _ _ _ ih=>exact ih
 |rw q _ _ i1 i2 =>
  intro b h
  rcases List.mem_cons.mp h with rfl|h
  .exact⟨_,q⟩
  .exact(List.mem_append.mp h).elim (i1 b) (i2 b)
 |tp _ _ _ i1 i2=>exact λb h=>(List.mem_append.mp h).elim (i1 b) (i2 b)
theorem DR.flat{K:PySem.W.Frag}{G H:Hp}:∀{ts:List Tr} {xs:List V},au K G xs ts->cY ts=true->DR K G H xs ts []
 | [],_,h,_=>by cases h; exact .nil
 |t::ts,_,h,n=>by
  cases h with
  |cons h r =>
   have n:(bK t&&cY ts)=true:=n
   rw[Bool.and_eq_true]at n
   exact .cl n.1 h (DR.flat r n.2)
theorem DR.nil_of{K:PySem.W.Frag}{G H:Hp}{xs:List V}{ts:List Tr}{bs:List Addr}(h:DR K G H xs ts bs):cY ts=true->bs=[]:=by
 induction h with
 |nil=>exact λ_=>rfl
 | @cl _ u _ ts _ _ _ _ ih =>
  intro n
  have n:(bK u&&cY ts)=true:=n
  rw[Bool.and_eq_true]at n
  exact ih n.2
 |rw=>exact λn=>(by cases n)
 | @tp _ _ us _ _ ts _ _ _ _ i1 i2 =>
  intro n
  have n:(cY us&&cY ts)=true:=n
  rw[Bool.and_eq_true]at n
  rw[i1 n.1,i2 n.2]
  rfl
theorem xR:∀{ts:List Tr},(∀t∈ts,bK t=true)->cY ts=true
 | [],_=>rfl
 |t::ts,h=>by
  show(bK t&&cY ts)=true
  rw[h t (List.mem_cons_self ..),xR λx hx=>h x (List.mem_cons_of_mem _ hx)]
  rfl
theorem DR.app{K:PySem.W.Frag}{G H:Hp}{xs ys:List V}{ts us:List Tr}{as bs:List Addr}(h:DR K G H xs ts as)(r:DR K G H ys us bs):DR K G H (xs++ys) (ts++us) (as++bs):=by
 induction h with
 |nil=>exact r
 |cl n h _ ih=>exact .cl n h ih
 |rw h q _ _ ih=>have:=DR.rw h q ih; rw[<-List.append_assoc]at this; exact this
 |tp h q _ _ ih=>have:=DR.tp h q ih; rw[<-List.append_assoc]at this; exact this
theorem DR.reps{K:PySem.W.Frag}{G G' H:Hp}(m:Same G G'){xs:List V}{ts:List Tr}{bs:List Addr}(h:DR K G H xs ts bs):(∀b∈bs,G' b=H b)->au K G' xs ts:=by
 induction h with
 |nil=>exact λ_=>.nil
 |cl n h _ ih=>exact λk=>.cons (h.mono m) (ih k)
 |rw h _ _ i1 i2=>exact λk=>.cons (.lst (aG.of ((k _ (List.mem_cons_self ..)).trans h)) (i1 λb hb=>k b (List.mem_cons_of_mem _ (List.mem_append_left _ hb)))) (i2 λb hb=>k b (List.mem_cons_of_mem _ (List.mem_append_right _ hb)))
 |tp h _ _ i1 i2=>exact λk=>.cons (.tup (m.jE h) (i1 λb hb=>k b (List.mem_append_left _ hb))) (i2 λb hb=>k b (List.mem_append_right _ hb))
theorem DR.length{K:PySem.W.Frag}{G H:Hp}{xs:List V}{ts:List Tr}{bs:List Addr}(h:DR K G H xs ts bs):xs.length=ts.length:=by
 induction h with
 |nil=>rfl
 |cl _ _ _ ih=>rw[List.length_cons,List.length_cons,ih]
 |rw _ _ _ _ ih=>rw[List.length_cons,List.length_cons,ih]
 |tp _ _ _ _ ih=>rw[List.length_cons,List.length_cons,ih]
theorem DR.split{K:PySem.W.Frag}{G H:Hp}{xs:List V}{t:Tr}{ts:List Tr}{bs:List Addr}(h:DR K G H xs (t::ts) bs):∃v ys c b,xs=v::ys/\bs=c++b/\DR K G H [v] [t] c/\DR K G H ys ts b:=by
 cases h with
 |cl n h r=>exact⟨_,_,[],_,rfl,rfl,.cl n h .nil,r⟩
 | @rw b _ _ cs _ _ bs h q r=>exact⟨_,_,b::cs,bs,rfl,rfl,by have:=DR.rw h q .nil; rwa[List.append_nil]at this,r⟩
 | @tp b _ _ cs _ _ bs h q r=>exact⟨_,_,cs,bs,rfl,rfl,by have:=DR.tp h q .nil; rwa[List.append_nil]at this,r⟩
theorem DR.at{K:PySem.W.Frag}{G H:Hp}:∀{ts:List Tr} {xs:List V} {bs:List Addr} {m:Nat} {T:Tr},DR K G H xs ts bs->bs.Nodup->ts[m]?=some T->∃v cs,xs[m]?=some v/\DR K G H [v] [T] cs/\cs.Nodup/\(∀c∈cs,c∈bs)/\∀H' T',(∀b∈bs,b∉cs->∀o,H b=some o->H' b=some o)->DR K G H' [v] [T'] cs->DR K G H' xs (ts.set m T') bs
 | [],_,_,_,_,_,_,h=>by simp at h
 |t::ts,_,_,m,T,d,n,h=>by
  obtain⟨v,ys,c,b,rfl,rfl,d1,d2⟩:=d.split
  obtain⟨n1,n2,n3⟩:=List.nodup_append.mp n
  cases m with
  |zero =>
   obtain rfl:t=T:=by simpa using h
   exact⟨v,c,rfl,d1,n1,λx hx=>List.mem_append_left _ hx,λH' T' k q=>q.app (d2.mono (Same.refl _) λx hx=>k x (List.mem_append_right _ hx) λz=>n3 x z x hx rfl)⟩
  |succ m =>
   obtain⟨w,cs,h1,h2,h3,h4,h5⟩:=DR.at d2 n2 (by simpa using h)
   exact⟨w,cs,by simpa using h1,h2,h3,λx hx=>List.mem_append_right _ (h4 x hx),λH' T' k q=>(d1.mono (Same.refl _) λx hx=>k x (List.mem_append_left _ hx) λz=>n3 x hx x (h4 x z) rfl).app (h5 H' T' (λx hx=>k x (List.mem_append_right _ hx)) q)⟩
noncomputable abbrev Fp:=Nat->List Addr
noncomputable def Fn(F:Fp)(b:Addr):Prop:=∃i,b∈F i
noncomputable def NP(K:PySem.W.Frag)(G H:Hp)(v:Option (Option V))(f:List Addr)(ts:List Tr)(P:Addr->Prop):Prop:=∃a xs,v=some (some (.ref a))/\f=[a]/\P a/\H a=some (.lst xs)/\au K G xs ts
noncomputable def lE(K:PySem.W.Frag)(R:Addr->Prop)(G H:Hp)(v:Option (Option V))(f:List Addr):Option Sl->Prop
 |some (.sh T)=>f=[]/\∃u,v=some (some u)/\Rep K G u T
 |some (.ow ts)=>NP K G H v f ts λa=>¬R a
 |some (.rf ts)=>NP K G H v f ts R
 |some (.dp ts)=>∃a xs bs,v=some (some (.ref a))/\f=a::bs/\f.Nodup/\(∀b∈f,¬R b)/\H a=some (.lst xs)/\DR K G H xs ts bs
 |_=>f=[]
theorem lE.lst{K:PySem.W.Frag}{R:Addr->Prop}{G H:Hp}{v:Option (Option V)}{f:List Addr}{s:Option Sl}(h:lE K R G H v f s):∀b∈f,∃ys,H b=some (.lst ys):=λb hb=>by
 unfold lE at h
 split at h
 .rw[h.1]at hb; cases hb
 .obtain⟨a,xs,_,rfl,_,q,_⟩:=h; cases List.mem_singleton.mp hb; exact⟨_,q⟩
 .obtain⟨a,xs,_,rfl,_,q,_⟩:=h; cases List.mem_singleton.mp hb; exact⟨_,q⟩
 .obtain⟨a,xs,bs,_,rfl,_,_,q,d⟩:=h
  rcases List.mem_cons.mp hb with rfl|hb
  .exact⟨_,q⟩
  .exact d.lst b hb
 .rw[h]at hb; cases hb
theorem lE.mono{K:PySem.W.Frag}{R:Addr->Prop}{G G' H H':Hp}{v:Option (Option V)}{f:List Addr}{s:Option Sl}(h:lE K R G H v f s)(m:Same G G')(k:∀b∈f,∀o,H b=some o->H' b=some o):lE K R G' H' v f s:=by
 unfold lE at h ⊢
 split at h
 .obtain⟨h1,u,h2,h3⟩:=h; exact⟨h1,u,h2,h3.mono m⟩
 .obtain⟨a,xs,h1,rfl,n,q,r⟩:=h; exact⟨a,xs,h1,rfl,n,k _ (List.mem_singleton.mpr rfl) _ q,r.mono m⟩
 .obtain⟨a,xs,h1,rfl,n,q,r⟩:=h; exact⟨a,xs,h1,rfl,n,k _ (List.mem_singleton.mpr rfl) _ q,r.mono m⟩
 .obtain⟨a,xs,bs,h1,rfl,nd,n,q,d⟩:=h; exact⟨a,xs,bs,h1,rfl,nd,n,k _ (List.mem_cons_self ..) _ q,d.mono m λb hb=>k b (List.mem_cons_of_mem _ hb)⟩
 .exact h
structure Ok(K:PySem.W.Frag)(R:Addr->Prop)(ρ : En)(σ : St)(G H:Hp)(F:Fp):Prop where
 len : ρ.length = σ.length
 sub:Same G H
 tb:bL K H
 tg:∀b,Tb K b->G b=none
 hid:∀b,Fn F b->G b=none
 rg:∀b,R b->G b=none/\H b≠none
 di:∀i j b,b∈F i->b∈F j->i=j
 sl:∀i,lE K R G H σ[i]? (F i) ρ[i]?
structure Fr(K:PySem.W.Frag)(H:Hp)(F:Fp)(H':Hp):Prop where
 fr:∀b o,H b=some o->¬Fn F b->¬Tb K b->H' b=some o
 tb:bL K H'
structure aF(K:PySem.W.Frag)(G H:Hp)(F:Fp)(G' H':Hp)(F':Fp):Prop where
 gg:Same G G'
 fr:∀b o,H b=some o->¬Fn F b->¬Tb K b->H' b=some o
 nw:∀b,G' b≠none->G b≠none\/H b=none\/Fn F b
 nf:∀b,Fn F' b->H b=none\/Fn F b
 dm:∀b,H' b=none->H b=none
section
variable {K:PySem.W.Frag}{R:Addr->Prop}{ρ : En}{σ : St}{G H G' H':Hp}{F F':Fp}
theorem aF.refl:aF K G H F G H F:=⟨Same.refl _,λ_ _ h _ _=>h,λ_ h=>.inl h,λ_ h=>.inr h,λ_ h=>h⟩
theorem aF.out(s:aF K G H F G' H' F')(h:H b=some o)(n:¬Fn F b):¬Fn F' b:=λz=>(s.nf b z).elim (λq=>by rw[h]at q; cases q) n
theorem aF.trans(s:aF K G H F G1 H1 F1)(u:aF K G1 H1 F1 G' H' F'):aF K G H F G' H' F' where
 gg:=s.gg.trans u.gg
 fr b o h n t:=u.fr b o (s.fr b o h n t) (s.out h n) t
 nw b h:=(u.nw b h).elim (s.nw b) λh=>.inr (h.elim (λh=>.inl (s.dm b h)) (s.nf b))
 nf b h:=(u.nf b h).elim (λh=>.inl (s.dm b h)) (s.nf b)
 dm b h:=s.dm b (u.dm b h)
theorem aF.back(s:aF K G H F G1 H1 F1)(f:Fr K H1 F1 H'):Fr K H F H':=⟨λb o h n t=>f.fr b o (s.fr b o h n t) (s.out h n) t,f.tb⟩
theorem Ok.fl(e:Ok K R ρ σ G H F)(h:Fn F b):∃ys,H b=some (.lst ys):=h.elim λi h=>(e.sl i).lst b h
theorem Ok.fs(e:Ok K R ρ σ G H F)(h:H b=none):¬Fn F b:=λz=>by
 obtain⟨ys,q⟩:=e.fl z
 rw[h]at q
 cases q
theorem Ok.rn(e:Ok K R ρ σ G H F)(h:H b=none):¬R b:=λz=>(e.rg b z).2 h
structure Gw(K:PySem.W.Frag)(G H G' H':Hp):Prop where
 gg:Same G G'
 hh:∀b o,H b=some o->¬Tb K b->H' b=some o
 sub:Same G' H'
 tb:bL K H->bL K H'
 nw:∀b,G' b≠none->G b≠none\/H b=none
theorem bL.new(h:bL K H)(q:H p=none):bL K (L2.upd H p o):=h.fr λb u _ z=>fV q _ b u z
theorem Gw.refl(s:Same G H):Gw K G H G H:=⟨Same.refl _,λ_ _ h _=>h,s,id,λ_ h=>.inl h⟩
theorem Gw.flt(s:Same G H)(h:H p=none):Gw K G H G (upd H p o):=⟨Same.refl _,λb u q _=>fV h o b u q,s.trans (fV h o),λt=>t.new h,λ_ h=>.inl h⟩
theorem Gw.new(s:Same G H)(h:H p=none):Gw K G H (upd G p o) (upd H p o):=⟨fV (s.free h) o,λb u q _=>fV h o b u q,λb u q=>by
 by_cases e:b=p
 .subst e; rw[bW]at q ⊢; exact q
 .rw[aM e]at q ⊢; exact s b u q,λt=>t.new h,λb q=>by
 by_cases e:b=p
 .subst e; exact .inr h
 .rw[aM e]at q; exact .inl q⟩
structure Gs(K:PySem.W.Frag)(G H G' H':Hp):Prop where
 gw:Gw K G H G' H'
 sm:Same H H'
theorem Gs.refl(s:Same G H):Gs K G H G H:=⟨.refl s,Same.refl _⟩
theorem Gs.flt(s:Same G H)(h:H p=none):Gs K G H G (upd H p o):=⟨.flt s h,fV h o⟩
theorem Gs.new(s:Same G H)(h:H p=none):Gs K G H (upd G p o) (upd H p o):=⟨.new s h,fV h o⟩
theorem Ok.grow(e:Ok K R ρ σ G H F)(w:Gw K G H G' H'):Ok K R ρ σ G' H' F/\aF K G H F G' H' F:=by
 have tb:=w.tb e.tb
 have dm:∀b,H' b=none->H b=none:=λb h=>by
  cases q:H b with
  |none=>rfl
  |some o =>
   by_cases t:Tb K b
   .obtain⟨ps,z⟩:=tb.cu t; rw[h]at z; cases z
   .rw[w.hh b o q t]at h; cases h
 have no:∀b,G b=none->H b≠none->G' b=none:=λb h n=>by
  cases q:G' b with
  |none=>rfl
  |some o=>exact((w.nw b (by rw[q]; exact λz=>by cases z)).elim (λz=>z h) n).elim
 refine⟨⟨e.len,w.sub,tb,λb t=>no b (e.tg b t) λz=>?_,λb h=>no b (e.hid b h) λz=>e.fs z h,λb h=>⟨no b (e.rg b h).1 (e.rg b h).2,λz=>(e.rg b h).2 (dm b z)⟩,e.di,λi=>(e.sl i).mono w.gg λb hb o q=>w.hh b o q ?_⟩,w.gg,λb o h _ t=>w.hh b o h t,λb h=>(w.nw b h).imp id .inl,λb h=>.inr h,dm⟩
 .obtain⟨ps,q⟩:=e.tb.cu t; rw[z]at q; cases q
 .obtain⟨ys,z⟩:=e.fl ⟨i,hb⟩
  exact e.tb.nt z
theorem Ok.show(e:Ok K R ρ σ G H F)(h:H a=some (.lst xs))(n:¬Fn F a)(r:¬R a):Ok K R ρ σ (upd G a (.lst xs)) H F/\Same G (upd G a (.lst xs)):=by
 have m:Same G (upd G a (.lst xs)):=λb o q=>by
  by_cases z:b=a
  .subst z; rw[bW,<-h]; exact(e.sub b o q)
  .rw[aM z]; exact q
 have no:∀b,b≠a->G b=none->upd G a (.lst xs) b=none:=λb z q=>by rw[aM z]; exact q
 refine⟨⟨e.len,λb o q=>?_,e.tb,λb t=>no b (λz=>e.tb.nt h (z▸t)) (e.tg b t),λb z=>no b (λq=>n (q▸z)) (e.hid b z),λb z=>⟨no b (λq=>r (q▸z)) (e.rg b z).1,(e.rg b z).2⟩,e.di,λi=>(e.sl i).mono m λ_ _ _ q=>q⟩,m⟩
 by_cases z:b=a
 .subst z; rw[bW]at q; rw[h]; exact q
 .rw[aM z]at q; exact e.sub b o q
noncomputable def VN(K:PySem.W.Frag)(Hs G H:Hp)(v:V)(T:Tr):Bool->Prop
 |false=>Rep K G v T
 |true=>∃a xs ts,v=.ref a/\T=.lst ts/\Hs a=none/\G a=none/\H a=some (.lst xs)/\au K G xs ts
noncomputable def eO(K:PySem.W.Frag)(σ : St)(Hs G H:Hp)(F:Fp)(v:V):Rv->Prop
 |.v T fr=>VN K Hs G H v T fr/\(fr=true->∀a,v=.ref a->¬Fn F a)
 |.s i=>σ[i]?=some (some v)
theorem VN.ok(h:VN K H G' H' v T fr)(e:Ok K R ρ σ G H F):eO K τ H G' H' F v (.v T fr):=⟨h,λz a q=>by
 subst z; subst q
 obtain⟨b,_,_,z,_,n,_⟩:=h
 cases z
 exact e.fs n⟩
theorem eO.low(h:Rep K G v T):eO K σ Hs G H F v (.v T false):=⟨h,λz=>by cases z⟩
theorem eO.step(h:eO K σ Hs G H F v r)(tb:bL K H)(s:aF K G H F G' H' F'):eO K σ Hs G' H' F' v r:=by
 match r,h with
 |.s i,h=>exact h
 |.v T false,h=>exact .low (Rep.mono s.gg h.1)
 |.v T true,⟨⟨a,xs,ts,e1,e2,n,g,q,r⟩,f⟩ =>
  have na:=f rfl a e1
  refine⟨⟨a,xs,ts,e1,e2,n,?_,s.fr a _ q na (tb.nt q),r.mono s.gg⟩,λ_ b z=>?_⟩
  .cases k:G' a with
   |none=>rfl
   |some o=>exact((s.nw a (by rw[k]; exact λz=>by cases z)).elim (λz=>z g) λz=>z.elim (λz=>by rw[q]at z; cases z) na).elim
  .rw[e1]at z; cases z
   exact s.out q na
theorem eO.back(h:eO K σ H1 G' H' F' v r)(d:∀b,H1 b=none->H b=none):eO K σ H G' H' F' v r:=by
 match r,h with
 |.s i,h=>exact h
 |.v T false,h=>exact .low h.1
 |.v T true,⟨⟨a,xs,ts,e1,e2,n,q⟩,f⟩=>exact⟨⟨a,xs,ts,e1,e2,d a n,q⟩,f⟩
noncomputable def Rp(K:PySem.W.Frag)(G H:Hp)(v:V)(T:Tr):Prop:=Rep K G v T\/∃a xs ts,v=.ref a/\T=.lst ts/\H a=some (.lst xs)/\au K G xs ts
theorem Rp.rep(s:Same G H)(h:Rp K G H v T):Rep K H v T:=by
 rcases h with h|⟨a,xs,ts,rfl,rfl,e,r⟩
 .exact h.mono s
 .exact .lst (aG.of e) (r.mono s)
theorem Rp.lst(s:Same G H)(h:Rp K G H v (.lst ts)):∃a xs,v=.ref a/\aG K H a xs/\au K G xs ts:=by
 rcases h with h|⟨a,xs,us,rfl,e0,e,r⟩
 .cases h with
  |lst h r=>exact⟨_,_,rfl,s.seq h,r⟩
 .cases e0
  exact⟨a,xs,rfl,aG.of e,r⟩
theorem Rp.low(h:Rp K G H v T)(n:pq T=false):Rep K G v T:=by
 rcases h with h|⟨a,xs,us,rfl,rfl,_⟩
 .exact h
 .cases n
theorem Rp.tup(s:Same G H)(h:Rp K G H v (.tup ts)):∃a xs,v=.ref a/\bx K H a xs/\au K G xs ts:=by
 have q:=h.low rfl
 cases q with
 |tup q r=>exact⟨_,_,rfl,s.jE q,r⟩
theorem Rp.int(h:Rp K G H v (.int i)):v=.int i:=by cases h.low rfl; rfl
theorem Rp.bl(h:Rp K G H v (.bl i)):v=.bl i:=by cases h.low rfl; rfl
theorem Rp.str(h:Rp K G H v (.str i)):v=.str i:=by cases h.low rfl; rfl
theorem Rp.non(h:Rp K G H v .non):v=.non:=by cases h.low rfl; rfl
noncomputable def dr(ρ : En):Rv->Rs Tr
 |.v T _=>.ok T
 |.s i=>match ρ[i]? with
  |some (Sl.ow ts)=>.ok (.lst ts)
  |some (Sl.rf ts)=>.ok (.lst ts)
  |_=>.bad
theorem gY(ρ : En)(r:Rv)(c:Str):dr ρ r ≠ .ex c:=by
 cases r with
 |v T fr=>intro z; cases z
 |s i=>dsimp only[dr]; split <;> (intro z; cases z)
theorem gZ(e:Ok K R ρ σ G H F)(h:eO K σ Hs G H F v r)(q:dr ρ r=.ok T):Rp K G H v T:=by
 match r,h with
 |.v U false,h=>cases q; exact .inl h.1
 |.v U true,⟨⟨a,xs,ts,e1,e2,_,_,z,r⟩,_⟩=>cases q; exact .inr ⟨a,xs,ts,e1,e2,z,r⟩
 |.s i,h =>
  dsimp only[dr]at q
  have z:=e.sl i
  split at q <;> rename_i k <;> (first|cases q; done|skip) <;> (rw[k]at z; obtain⟨a,xs,h1,_,_,h4,h5⟩:=z; rw[h]at h1; cases h1; cases q; exact .inr ⟨a,xs,_,rfl,rfl,h4,h5⟩)
end
structure Tx where
 K:PySem.W.Frag
 xe:Str->Hp->Prop
noncomputable def bG{α : Type}(t:Tx)(H:Hp)(F:Fp)(r:Rs α)(P : α -> Prop):Prop:=match r with
 |.bad=>False
 |.ex c=>∀H',Fr t.K H F H'->t.xe c H'
 |.ok a=>P a
theorem bB{C:Prop}{A B:(Addr->Prop)->En->Hp->Fp->Prop}(k:∀R ρ G F,A R ρ G F->B R ρ G F->C):(∃R ρ G F,A R ρ G F/\B R ρ G F)->C:=λz=>by
 obtain⟨R,ρ,G,F,e,h⟩:=z
 exact k R ρ G F e h
noncomputable def Te(t:Tx)(f:EF):TE:=λσ H Q=>∃R ρ G F,Ok t.K R ρ σ G H F/\bG t H F (f ρ) λp=>∀v G' H' F',Ok t.K R p.2 σ G' H' F'->aF t.K G H F G' H' F'->eO t.K σ H G' H' F' v p.1->Q v H'
noncomputable def Tt(t:Tx)(f:BF):TT:=λσ H Q=>∃R ρ G F,Ok t.K R ρ σ G H F/\bG t H F (f ρ) λp=>∀G' H' F',Ok t.K R p.2 σ G' H' F'->aF t.K G H F G' H' F'->Q p.1 H'
noncomputable def To(t:Tx)(f:OF):TO:=λσ H Q=>∃R ρ G F,Ok t.K R ρ σ G H F/\bG t H F (f ρ) λp=>∀G' H' F',Ok t.K R p.2 σ G' H' F'->aF t.K G H F G' H' F'->Q p.1 H'
inductive dK(K:PySem.W.Frag)(σ : St)(Hs G H:Hp)(F:Fp):List V->List Rv->Prop
 |nil:dK K σ Hs G H F [] []
 |cons {v:V} {r:Rv} {vs:List V} {rs:List Rv} (h:eO K σ Hs G H F v r) (q:dK K σ Hs G H F vs rs):dK K σ Hs G H F (v::vs) (r::rs)
noncomputable def Ta(t:Tx)(f:AF):TA:=λσ H Q=>∃R ρ G F,Ok t.K R ρ σ G H F/\bG t H F (f ρ) λp=>∀vs G' H' F',Ok t.K R p.2 σ G' H' F'->aF t.K G H F G' H' F'->dK t.K σ H G' H' F' vs p.1->Q vs H'
section
variable {t:Tx}{R:Addr->Prop}{ρ : En}{σ : St}{G H G0 H0:Hp}{F F0:Fp}
theorem bG.run{α β : Type}{r:Rs α}{g : α -> Rs β}{P : β -> Prop}{P' : α -> Prop}(s:aF t.K G0 H0 F0 G H F)(h:bG t H0 F0 (r.bind g) P)(k:∀a,bG t H0 F0 (g a) P->P' a):bG t H F r P':=by
 cases r with
 |bad=>exact h
 |ex c=>exact λH' f=>h H' (s.back f)
 |ok a=>exact k a h
theorem bG.okb{α β : Type}{r:Rs α}{g : α -> Rs β}{P : β -> Prop}(h:bG t H F (r.bind g) P)(n:∀c,r ≠ .ex c):∃a,r=.ok a/\bG t H F (g a) P:=by
 cases r with
 |bad=>exact h.elim
 |ex c=>exact(n c rfl).elim
 |ok a=>exact⟨a,rfl,h⟩
theorem dM{β : Type}{g:Rv × En->Rs β}{P : β -> Prop}(e:Ok t.K R ρ σ G H F)(s:aF t.K G0 H0 F0 G H F)(h:bG t H0 F0 ((f ρ).bind g) P)(k:∀p,bG t H0 F0 (g p) P->∀v G' H' F',Ok t.K R p.2 σ G' H' F'->aF t.K G H F G' H' F'->eO t.K σ H G' H' F' v p.1->Q v H'):Te t f σ H Q:=⟨R,ρ,G,F,e,h.run s k⟩
theorem jG{β : Type}{g:List Rv × En->Rs β}{P : β -> Prop}(e:Ok t.K R ρ σ G H F)(s:aF t.K G0 H0 F0 G H F)(h:bG t H0 F0 ((f ρ).bind g) P)(k:∀p,bG t H0 F0 (g p) P->∀v G' H' F',Ok t.K R p.2 σ G' H' F'->aF t.K G H F G' H' F'->dK t.K σ H G' H' F' v p.1->Q v H'):Ta t f σ H Q:=⟨R,ρ,G,F,e,h.run s k⟩
theorem lF{β : Type}{g:Bool × En->Rs β}{P : β -> Prop}(e:Ok t.K R ρ σ G H F)(s:aF t.K G0 H0 F0 G H F)(h:bG t H0 F0 ((f ρ).bind g) P)(k:∀p,bG t H0 F0 (g p) P->∀G' H' F',Ok t.K R p.2 σ G' H' F'->aF t.K G H F G' H' F'->Q p.1 H'):Tt t f σ H Q:=⟨R,ρ,G,F,e,h.run s k⟩
theorem NQ{β : Type}{g:Option Int × En->Rs β}{P : β -> Prop}(e:Ok t.K R ρ σ G H F)(s:aF t.K G0 H0 F0 G H F)(h:bG t H0 F0 ((f ρ).bind g) P)(k:∀p,bG t H0 F0 (g p) P->∀G' H' F',Ok t.K R p.2 σ G' H' F'->aF t.K G H F G' H' F'->Q p.1 H'):To t f σ H Q:=⟨R,ρ,G,F,e,h.run s k⟩
end
local macro_rules | `(tactic| walk_at "x")=>`(tactic| ((repeat' split) <;> (intro z; cases z)))
noncomputable def Pz{α : Type}(r:Rs α)(P : α -> Prop):Prop:=match r with
 |.ok a=>P a
 |_=>False
noncomputable abbrev G1:=Tr->Rs (Tr × Bool)
noncomputable abbrev G2:=Tr->Tr->Rs (Tr × Bool)
noncomputable abbrev GN:=List Tr->Rs (Tr × Bool)
structure cU(K:PySem.W.Frag)(r:R2)(g:G2):Prop where
 nx:∀a b c,g a b ≠ .ex c
 ok:∀G H x y a b Q,Same G H->Rp K G H x a->Rp K G H y b->Pz (g a b) (λp=>∀v G' H',Gs K G H G' H'->VN K H G' H' v p.1 p.2->Q v H')->r x y H Q
inductive lG(K:PySem.W.Frag)(G H:Hp):List V->List Tr->Prop
 |nil:lG K G H [] []
 |cons {x:V} {t:Tr} {xs:List V} {ts:List Tr} (h:Rp K G H x t) (r:lG K G H xs ts):lG K G H (x::xs) (t::ts)
structure Du(K:PySem.W.Frag)(r:List V->Hp->VK->Prop)(g:GN):Prop where
 nx:∀as c,g as ≠ .ex c
 ok:∀G H xs as Q,Same G H->lG K G H xs as->Pz (g as) (λp=>∀v G' H',Gs K G H G' H'->VN K H G' H' v p.1 p.2->Q v H')->r xs H Q
section
variable {K:PySem.W.Frag}
theorem VN.flt(s:Same G H)(hz:H z=none)(r:au K G xs ts):VN K H G (upd H z (.lst xs)) (.ref z) (.lst ts) true:=⟨z,xs,ts,rfl,rfl,hz,s.free hz,bW,r⟩
theorem VN.newT(s:Same G H)(hz:H z=none)(r:au K G xs ts):VN K H (upd G z (.tup xs)) (upd H z (.tup xs)) (.ref z) (.tup ts) false:=Rep.tup (bx.of bW) (r.mono (fV (s.free hz) _))
theorem au.jh:∀{v:List V} {t:List Tr} {i:Nat} {u:Tr},au K H v t->t[i]?=some u->∃x,v[i]?=some x/\Rep K H x u
 |_,_,_,_,.nil,e=>by simp at e
 |_,_,0,_,.cons h _,e=>by simp at e; subst e; exact⟨_,rfl,h⟩
 |_,_,i+1,_,.cons _ r,e=>by
  obtain⟨x,a,b⟩:=au.jh (i:=i) r (by simpa using e)
  exact⟨x,by simpa using a,b⟩
theorem au.cW(r:au K H xs ts)(h:cW ts i=some t):∃x,L2.cW xs i=some x/\Rep K H x t:=by
 unfold L2.cW at h ⊢
 rw[r.length]
 cases e:eH ts.length i with
 |none=>rw[e]at h; cases h
 |some j =>
  rw[e]at h
  exact r.jh h
theorem big(h:n<=100000):n<=sizeLine:=Nat.le_trans h (by decide)
noncomputable def gI(p:Int->Int->Int):G2
 |.int i,.int j=>.ok (.int (p i j),false)
 |_,_=>.bad
theorem NT:cU K (dH λi j=>.int (p i j)) (gI p):=⟨λa b c=>by unfold gI; walk_at "x",λG H x y a b Q s rx ry h=>by
 cases a <;> try exact h.elim
 cases b <;> try exact h.elim
 rw[rx.int,ry.int]
 exact⟨_,_,rfl,rfl,h _ G H (.refl s) (.int _)⟩⟩
noncomputable def m6(c:Int->Int->Bool)(p:Int->Int->Int):G2
 |.int i,.int j=>if c i j=true then .ok (.int (p i j),false)else .bad
 |_,_=>.bad
theorem xU(hc:∀i j,c i j=true->C i j):cU K (rI C λi j=>.int (p i j)) (m6 c p):=⟨λa b c=>by unfold m6; walk_at "x",λG H x y a b Q s rx ry h=>by
 cases a <;> try exact h.elim
 cases b <;> try exact h.elim
 rw[rx.int,ry.int]
 dsimp only[m6]at h
 split at h
 .rename_i e
  exact⟨_,_,rfl,rfl,hc _ _ e,h _ G H (.refl s) (.int _)⟩
 .exact h.elim⟩
noncomputable def gB(p:Int->Int->Bool):G2
 |.int i,.int j=>.ok (.bl (p i j),false)
 |_,_=>.bad
theorem Dv:cU K (dH λi j=>.bl (p i j)) (gB p):=⟨λa b c=>by unfold gB; walk_at "x",λG H x y a b Q s rx ry h=>by
 cases a <;> try exact h.elim
 cases b <;> try exact h.elim
 rw[rx.int,ry.int]
 exact⟨_,_,rfl,rfl,h _ G H (.refl s) (.bl _)⟩⟩
noncomputable def jH:G2:=λt u=>if dep t<=40/\dep u<=40 then .ok (.bl (eqT t u),false)else .bad
theorem ac5:cU (aA K) (CZ K) jH:=⟨λa b c=>by unfold jH; walk_at "x",λG H x y a b Q s rx ry h=>by
 unfold jH at h
 split at h
 .rename_i e
  exact⟨a,b,(rx.rep s).toK,(ry.rep s).toK,e.1,e.2,h _ G H (.refl s) (.bl _)⟩
 .exact h.elim⟩
noncomputable def eU:G2:=λt u=>if dep t<=40/\dep u<=40 then .ok (.bl (!eqT t u),false)else .bad
theorem ac6:cU (aA K) (Ds K) eU:=⟨λa b c=>by unfold eU; walk_at "x",λG H x y a b Q s rx ry h=>by
 unfold eU at h
 split at h
 .rename_i e
  exact⟨a,b,(rx.rep s).toK,(ry.rep s).toK,e.1,e.2,h _ G H (.refl s) (.bl _)⟩
 .exact h.elim⟩
noncomputable def jJ(f:Bool->Bool):G2:=λt u=>match u with
 |.lst us=>if deps us<=40/\dep t<=40 then .ok (.bl (f (jU t us)),false)else .bad
 |.tup us=>if deps us<=40/\dep t<=40 then .ok (.bl (f (jU t us)),false)else .bad
 |_=>.bad
theorem NZ(hr:∀x y H Q,(∃t ts p xs,Rep K H x t/\y=.ref p/\(aG K H p xs\/bx K H p xs)/\au K H xs ts/\deps ts<=40/\dep t<=40/\Q (.bl (f (jU t ts))) H)->r x y H Q):cU (aA K) r (jJ f):=⟨λa b c=>by unfold jJ; walk_at "x",λG H x y a b Q s rx ry h=>hr x y H Q (by
 cases b <;> try exact h.elim
 all_goals
  rename_i us
  dsimp only[jJ]at h
  split at h
  case isFalse=>exact h.elim
  rename_i e
 .obtain⟨p,xs,rfl,q,r⟩:=ry.tup s
  exact⟨a,us,p,xs,(rx.rep s).toK,rfl,.inr q.toK,(r.mono s).toK,e.1,e.2,h _ G H (.refl s) (.bl _)⟩
 .obtain⟨p,xs,rfl,q,r⟩:=ry.lst s
  exact⟨a,us,p,xs,(rx.rep s).toK,rfl,.inl q.toK,(r.mono s).toK,e.1,e.2,h _ G H (.refl s) (.bl _)⟩)⟩
theorem ac7:cU (aA K) (Dc K) (jJ id):=NZ λ_ _ _ _ h=>h
theorem ac8:cU (aA K) (Dr K) (jJ not):=NZ λ_ _ _ _ h=>h
noncomputable def qH:Tr->Bool
 |.non=>true
 |_=>false
noncomputable def oJ(f:Bool->Bool):G2:=λt u=>match u with
 |.non=>.ok (.bl (f (qH t)),false)
 |_=>.bad
theorem N5(f:Bool->Bool):cU K (λx y H Q=>y=.non/\Q (.bl (f (decide (x=.non)))) H) (oJ f):=⟨λa b c=>by unfold oJ; walk_at "x",λG H x y a b Q s rx ry h=>by
 cases b <;> try exact h.elim
 have z:decide (x=.non)=qH a:=by cases rx.rep s <;> rfl
 rw[ry.non,z]
 exact⟨rfl,h _ G H (.refl s) (.bl _)⟩⟩
noncomputable def Dw(K:PySem.W.Frag):R2:=λx y H Q=>(dH λi j=>.int (i+j)) x y H Q\/Ny K x y H Q\/(∃i j,x=.str i/\y=.str j/\i.length+j.length<=sizeLine/\Q (.str (i++j)) H)\/Mv K x y H Q
theorem ac9:bh X (binaryOp .Add) (Dw X.K):=bh.or Lp (bh.or ac2 (bh.or abq abY))
noncomputable def pA:G2
 |.int i,.int j=>.ok (.int (i+j),false)
 |.lst a,.lst b=>if a.length+b.length<=100000 then .ok (.lst (a++b),true)else .bad
 |.str a,.str b=>if a.length+b.length<=100000 then .ok (.str (a++b),false)else .bad
 |.tup a,.tup b=>if 0<a.length/\a.length+b.length<=100000 then .ok (.tup (a++b),false)else .bad
 |_,_=>.bad
theorem ada:cU (aA K) (Dw K) pA:=⟨λa b c=>by unfold pA; walk_at "x",λG H x y a b Q s rx ry h=>by
 cases a <;> cases b <;> try exact h.elim
 .rw[rx.int,ry.int]
  exact .inl ⟨_,_,rfl,rfl,h _ G H (.refl s) (.int _)⟩
 all_goals
  rename_i us ws
  dsimp only[pA]at h
  split at h
  case isFalse=>exact h.elim
  rename_i e
 .rw[rx.str,ry.str]
  exact .inr (.inr (.inl ⟨us,ws,rfl,rfl,big e,h _ G H (.refl s) (.str _)⟩))
 .have rt:=rx.low rfl
  obtain⟨p,xs,rfl,q,r⟩:=rx.tup s
  obtain⟨p',ys,rfl,q',r'⟩:=ry.tup s
  have l1:=r.length
  have l2:=r'.length
  refine .inr (.inr (.inr ⟨p,p',xs,ys,rfl,rfl,q.toK,q'.toK,?_,by rw[l1,l2]; exact big e.2,λz=>h _ G H (.refl s) ?_,λ_ z hz=>h _ _ _ (.new s hz) (.newT s hz (r.app r'))⟩))
  .rintro rfl
   have e1:=e.1
   rw[<-l1]at e1
   cases e1
  .subst z
   cases r'
   rw[List.append_nil]
   exact rt
 .obtain⟨p,xs,rfl,q,r⟩:=rx.lst s
  obtain⟨p',ys,rfl,q',r'⟩:=ry.lst s
  exact .inr (.inl ⟨p,p',xs,ys,rfl,rfl,q.xO,q'.xO,by rw[r.length,r'.length]; exact big e,λz hz=>h _ _ _ (.flt s hz) (.flt s hz (r.app r'))⟩)⟩
noncomputable def fit(i:Int):Bool:=decide (i.natAbs.log2<1048575)
theorem N6(h:fit i=true):Builtin.Int.intBits i<=2 ^ 20:=by
 have h:=of_decide_eq_true h
 unfold Builtin.Int.intBits
 split
 .decide
 .omega
noncomputable def tiny(i:Int):Bool:=decide (-18446744073709551616<i)&&decide (i<18446744073709551616)
noncomputable def cM(i j:Int):Bool:=(fit i&&fit j) || tiny i || tiny j
noncomputable def xV(i j:Int):Prop:=cM i j=true
theorem xV.ok(h:xV i j):IntMulOk i j:=by
 unfold xV cM at h
 rw[Bool.or_eq_true,Bool.or_eq_true,Bool.and_eq_true]at h
 have tn:∀{k:Int},tiny k=true -> -(2 ^ 64)<k/\k<2 ^ 64:=λ{k} h=>by
  unfold tiny at h
  rw[Bool.and_eq_true]at h
  have h1:=of_decide_eq_true h.1
  have h2:=of_decide_eq_true h.2
  omega
 rcases h with(⟨h1,h2⟩|h)|h
 .exact .of_bits (N6 h1) (N6 h2)
 .exact .of_left (intBits_le_64 (tn h).1 (tn h).2)
 .exact .of_right (intBits_le_64 (tn h).1 (tn h).2)
noncomputable def Dy(K:PySem.W.Frag):R2:=λx y H Q=>(rI xV λi j=>.int (i*j)) x y H Q\/Nz K x y H Q
theorem adb:bh X (binaryOp .Mult) (Dy X.K):=bh.or (sX λ_ _ _ _ _ _ _ hc q=>mul_int q hc.ok) ac3
noncomputable def pB:G2
 |.int i,.int j=>if cM i j=true then .ok (.int (i*j),false)else .bad
 |.lst a,.int k=>if(-1000<=k/\k<=1000)/\a.length<=100 then .ok (.lst (List.replicate k.toNat a).flatten,true)else .bad
 |_,_=>.bad
noncomputable def gO(_ j:Int):Bool:=decide (j≠0)&&decide (j.natAbs.log2<9000)
noncomputable def xW(i j:Int):Prop:=gO i j=true
theorem ade:bh X (binaryOp .FloorDiv) (rI xW λi j=>.int (i.fdiv j)):=sX λi j _ _ _ _ _ hc q=>by
 unfold xW gO at hc
 rw[Bool.and_eq_true]at hc
 exact floordiv_int (of_decide_eq_true hc.1) q (.inl (PyProof.noPylong_of_log2 (of_decide_eq_true hc.2)))
noncomputable def xX:G2:=m6 gO Int.fdiv
noncomputable def xY:G2:=m6 (λ_ j=>decide (j≠0)) Int.fmod
noncomputable def Dz(i j:Int):Bool:=decide (0<=j)&&decide (j<=1000)&&tiny i
noncomputable def sy:G2:=m6 Dz λi j=>i ^ j.toNat
noncomputable def tO:G2:=gI λi j=>i-j
section
variable {K:PySem.W.Frag}
theorem au.rep(r:au K H xs ts):∀n,au K H (List.replicate n xs).flatten (List.replicate n ts).flatten
 | 0=>.nil
 |n+1=>by
  exact r.app (au.rep r n)
theorem adf:cU (aA K) (Dy K) pB:=⟨λa b c=>by unfold pB; walk_at "x",λG H x y a b Q s rx ry h=>by
 cases a <;> cases b <;> try exact h.elim
 all_goals
  rename_i us k
  rw[ry.int]
  dsimp only[pB]at h
  split at h
  case isFalse=>exact h.elim
  rename_i e
 .rw[rx.int]
  exact .inl ⟨_,_,rfl,rfl,e,h _ G H (.refl s) (.int _)⟩
 .obtain⟨p,xs,rfl,q,r⟩:=rx.lst s
  refine .inr ⟨p,k,xs,rfl,rfl,q.xO,by omega,by omega,?_,λz hz=>h _ _ _ (.flt s hz) (.flt s hz (r.rep _))⟩
  rw[r.length]
  exact Nat.le_trans (Nat.mul_le_mul e.2 (show k.toNat<=1000 by omega)) (by decide)⟩
theorem adg:cU K (rI xW λi j=>.int (i.fdiv j)) xX:=xU λ_ _ h=>h
theorem adh:cU K (rI (λ_ j=>j≠0) λi j=>.int (i.fmod j)) xY:=xU λ_ _ h=>of_decide_eq_true h
theorem adi(i j:Int)(h:Dz i j=true):wW i j:=by
 simp only[Dz,tiny,Bool.and_eq_true,decide_eq_true_eq]at h
 exact⟨h.1.1,by omega,by omega⟩
theorem adk:cU K (rI wW λi j=>.int (i ^ j.toNat)) sy:=xU adi
theorem adl:cU K (dH λi j=>.int (i-j)) tO:=NT
noncomputable def DG:G2:=gB λi j=>decide (j<i)
noncomputable def DK:G2:=gB λi j=>decide (i<=j)
noncomputable def DN:G2:=gB λi j=>decide (j<=i)
theorem adn:cU K (dH λi j=>.bl (decide (j<i))) DG:=Dv
theorem ado:cU K (dH λi j=>.bl (decide (i<=j))) DK:=Dv
theorem adp:cU K (dH λi j=>.bl (decide (j<=i))) DN:=Dv
noncomputable def intsOf:List Tr->Option (List Int)
 | []=>some []
 |.int i::r=>(intsOf r).map (i :: ·)
 |_::_=>none
theorem ints_of:∀{ts:List Tr} {ns:List Int} {xs:List V},intsOf ts=some ns->au K H xs ts->xs=ns.map V.int
 | [],ns,xs,h,r=>by cases h; cases r; rfl
 |.int i::q,ns,xs,h,r=>by
  obtain⟨ms,e,rfl⟩:=Option.map_eq_some_iff.mp h
  cases r with
  |cons h1 r1 =>
   cases h1
   rw[ints_of e r1]
   rfl
noncomputable def DP(K:PySem.W.Frag):R2:=λx y H Q=>(dH λi j=>.bl (decide (i<j))) x y H Q\/Mt K x y H Q
theorem adq(hu:X.A.units+64<cLine):bh X (compareOp .Lt) (DP X.K):=bh.or abd (abX (by omega))
noncomputable def qI:G2
 |.int i,.int j=>.ok (.bl (decide (i<j)),false)
 |.tup a,.tup b=>match intsOf a,intsOf b with
  |some ns,some ms=>.ok (.bl (HT.lexLt ns ms),false)
  |_,_=>.bad
 |_,_=>.bad
theorem adt:cU (aA K) (DP K) qI:=⟨λa b c=>by unfold qI; walk_at "x",λG H x y a b Q s rx ry h=>by
 cases a <;> cases b <;> try exact h.elim
 .rw[rx.int,ry.int]
  exact .inl ⟨_,_,rfl,rfl,h _ G H (.refl s) (.bl _)⟩
 .dsimp only[qI]at h
  split at h
  case h_2=>exact h.elim
  rename_i ns ms e1 e2
  obtain⟨p,xs,rfl,q,r⟩:=rx.tup s
  obtain⟨p',ys,rfl,q',r'⟩:=ry.tup s
  have z1:=ints_of e1 r
  have z2:=ints_of e2 r'
  subst z1 z2
  exact .inr ⟨p,p',ns,ms,rfl,rfl,q.toK,q'.toK,h _ G H (.refl s) (.bl _)⟩⟩
noncomputable def aY:G2
 |.lst ts,.int i=>match cW ts i with
  |some t=>.ok (t,false)
  |none=>.bad
 |.tup ts,.int i=>match cW ts i with
  |some t=>.ok (t,false)
  |none=>.bad
 | .str z,.int i=>if z.length<=100000 then (match cW z.cps.toList i with
  |some c=>.ok (.str ⟨#[c]⟩,false)
  |none=>.bad)else .bad
 |_,_=>.bad
theorem N7:cU (aA K) (MK K) aY:=⟨λa b c=>by unfold aY; walk_at "x",λG H x y a b Q s rx ry h=>by
 cases a <;> cases b <;> try exact h.elim
 all_goals
  rename_i z i
  rw[ry.int]
  dsimp only[aY]at h
  split at h
  rotate_left
  exact h.elim
 .rename_i e
  rw[rx.str]
  split at h
  .rename_i c ec
   exact .inr (.inr ⟨z,i,c,rfl,rfl,big e,ec,h _ G H (.refl s) (.str _)⟩)
  .exact h.elim
 .rename_i t e
  obtain⟨p,xs,rfl,q,r⟩:=rx.tup s
  obtain⟨v,ev,rv⟩:=r.cW e
  exact .inr (.inl ⟨p,xs,i,v,rfl,rfl,q.toK,ev,h _ G H (.refl s) rv⟩)
 .rename_i t e
  obtain⟨p,xs,rfl,q,r⟩:=rx.lst s
  obtain⟨v,ev,rv⟩:=r.cW e
  exact .inl ⟨p,xs,i,v,rfl,rfl,q.toK,ev,h _ G H (.refl s) rv⟩⟩
structure lH(K:PySem.W.Frag)(r:V->Hp->VK->Prop)(g:G1):Prop where
 nx:∀a c,g a ≠ .ex c
 ok:∀G H x a Q,Same G H->Rp K G H x a->Pz (g a) (λp=>∀v G' H',Gs K G H G' H'->VN K H G' H' v p.1 p.2->Q v H')->r x H Q
noncomputable def g1(g:G1):GN
 | [a]=>g a
 |_=>.bad
theorem tQ{r:List V->Hp->VK->Prop}{g:G1}(h:lH K (λx=>r [x]) g):Du K r (g1 g):=⟨λas c=>(by
 unfold g1
 split
 .exact h.nx _ c
 .intro z; cases z),λG H xs as Q s rs q=>by
 cases rs with
 |nil=>exact q.elim
 |cons h1 r1 =>
  cases r1 with
  |nil=>exact h.ok G H _ _ Q s h1 q
  |cons _ _=>exact q.elim⟩
noncomputable def g2(g:G2):GN
 | [a,b]=>g a b
 |_=>.bad
noncomputable def ql:G1
 |.int i=>.ok (.int (-i),false)
 |_=>.bad
theorem N8:lH K (rU λi=>.int (-i)) ql:=⟨λa c=>by unfold ql; walk_at "x",λG H x a Q s rx h=>by
 cases a <;> try exact h.elim
 rw[rx.int]
 exact⟨_,rfl,h _ G H (.refl s) (.int _)⟩⟩
noncomputable def DQ(K:PySem.W.Frag):List V->Hp->VK->Prop:=λxs H Q=>(∃p ys,xs=[.ref p]/\(aG K H p ys\/bx K H p ys)/\Q (.int ys.length) H)\/(∃z,xs=[.str z]/\z.length<=sizeLine/\Q (.int z.length) H)
theorem adu:fP X (.builtin "len") (DQ X.K):=fP.or ab8 ab9
noncomputable def fZ:G1
 |.lst ts=>.ok (.int ts.length,false)
 |.tup ts=>.ok (.int ts.length,false)
 |.str z=>if z.length<=100000 then .ok (.int z.length,false)else .bad
 |_=>.bad
theorem adv:lH (aA K) (λx=>DQ K [x]) fZ:=⟨λa c=>by unfold fZ; walk_at "x",λG H x a Q s rx h=>by
 cases a <;> try exact h.elim
 .dsimp only[fZ]at h
  split at h
  .rename_i z e
   rw[rx.str]
   exact .inr ⟨z,rfl,big e,h _ G H (.refl s) (.int _)⟩
  .exact h.elim
 .obtain⟨p,xs,rfl,q,r⟩:=rx.tup s
  refine .inl ⟨p,xs,rfl,.inr q.toK,?_⟩
  rw[r.length]
  exact h _ G H (.refl s) (.int _)
 .obtain⟨p,xs,rfl,q,r⟩:=rx.lst s
  refine .inl ⟨p,xs,rfl,.inl q.toK,?_⟩
  rw[r.length]
  exact h _ G H (.refl s) (.int _)⟩
noncomputable def tR:G1
 |.int i=>.ok (.int (if i<0 then -i else i),false)
 |_=>.bad
theorem adw:lH K (λx H Q=>∃i,[x]=[V.int i]/\Q (.int (if i<0 then -i else i)) H) tR:=⟨λa c=>by unfold tR; walk_at "x",λG H x a Q s rx h=>by
 cases a <;> try exact h.elim
 rw[rx.int]
 exact⟨_,rfl,h _ G H (.refl s) (.int _)⟩⟩
noncomputable def vY:G1
 |.int i=>.ok (.int i,false)
 |.bl b=>.ok (.int (if b then 1 else 0),false)
 |_=>.bad
theorem adx:lH K (λx H Q=>(∃i,[x]=[V.int i]/\Q (.int i) H)\/∃k,[x]=[V.bl k]/\Q (.int (if k then 1 else 0)) H) vY:=⟨λa c=>by unfold vY; walk_at "x",λG H x a Q s rx h=>by
 cases a <;> try exact h.elim
 .rw[rx.bl]
  exact .inr ⟨_,rfl,h _ G H (.refl s) (.int _)⟩
 .rw[rx.int]
  exact .inl ⟨_,rfl,h _ G H (.refl s) (.int _)⟩⟩
noncomputable def vZ:G1
 |.lst ts=>.ok (.lst ts,true)
 |.tup ts=>.ok (.lst ts,true)
 |_=>.bad
theorem ady:lH (aA K) (λx H Q=>∃p ys,[x]=[V.ref p]/\(aG K H p ys\/bx K H p ys)/\∀l,H l=none->Q (.ref l) (upd H l (.lst ys))) vZ:=⟨λa c=>by unfold vZ; walk_at "x",λG H x a Q s rx h=>by
 cases a <;> try exact h.elim
 .obtain⟨p,xs,rfl,q,r⟩:=rx.tup s
  exact⟨p,xs,rfl,.inr q.toK,λz hz=>h _ _ _ (.flt s hz) (.flt s hz r)⟩
 .obtain⟨p,xs,rfl,q,r⟩:=rx.lst s
  exact⟨p,xs,rfl,.inl q.toK,λz hz=>h _ _ _ (.flt s hz) (.flt s hz r)⟩⟩
noncomputable def Z2:G2
 |.int i,.int j=>.ok (.int (if j<i then j else i),false)
 |_,_=>.bad
noncomputable def Z4:G2
 |.int i,.int j=>.ok (.int (if j > i then j else i),false)
 |_,_=>.bad
noncomputable def tU:List Tr->Option (List Bool)
 | []=>some []
 |.bl i::r=>(tU r).map (i :: ·)
 |_::_=>none
theorem Oa:∀{ts:List Tr} {ns:List Bool} {xs:List V},tU ts=some ns->au K H xs ts->xs=ns.map V.bl
 | [],ns,xs,h,r=>by cases h; cases r; rfl
 |.bl i::q,ns,xs,h,r=>by
  obtain⟨ms,e,rfl⟩:=Option.map_eq_some_iff.mp h
  cases r with
  |cons h1 r1 =>
   cases h1
   rw[Oa e r1]
   rfl
noncomputable def qJ:G1
 |.lst ts=>match tU ts with
  |some bs=>.ok (.bl (bs.all id),false)
  |none=>.bad
 |_=>.bad
theorem adz:lH (aA K) (λx=>Dd K [x]) qJ:=⟨λa c=>by unfold qJ; walk_at "x",λG H x a Q s rx h=>by
 cases a <;> try exact h.elim
 dsimp only[qJ]at h
 split at h
 .rename_i bs e
  obtain⟨p,xs,rfl,q,r⟩:=rx.lst s
  have z:=Oa e r
  subst z
  exact⟨p,bs,rfl,q.toK,h _ G H (.refl s) (.bl _)⟩
 .exact h.elim⟩
noncomputable def qj:Tr->Rs Bool
 |.bl b=>.ok b
 |_=>.bad
theorem Oh(a:Tr)(c:Str):qj a ≠ .ex c:=by cases a <;> (intro z; cases z)
theorem Oi{a:Tr}(h:Rp K G H v a)(q:qj a=.ok b):v=.bl b:=by
 cases a <;> cases q
 exact h.bl
noncomputable def xZ:Tr->Rs Int
 |.int i=>.ok i
 |_=>.bad
theorem Oj(a:Tr)(c:Str):xZ a ≠ .ex c:=by cases a <;> (intro z; cases z)
theorem Ol{a:Tr}(h:Rp K G H v a)(q:xZ a=.ok b):v=.int b:=by
 cases a <;> cases q
 exact h.int
noncomputable def mH:Tr->Rs Bool
 |.non=>.ok false
 |.bl b=>.ok b
 |.int i=>.ok (i != 0)
 |.lst ts=>.ok (!ts.isEmpty)
 |.tup ts=>.ok (!ts.isEmpty)
 |.str x=>if x.length<=100000 then .ok ((x.length:Int) != 0)else .bad
 |.bQ _=>.bad
theorem adA(a:Tr)(c:Str):mH a ≠ .ex c:=by unfold mH; walk_at "x"
theorem Om{α β : Type}{a:List α}{b:List β}(h:a.length=b.length):a.isEmpty=b.isEmpty:=by
 cases a <;> cases b <;> first|rfl|cases h
theorem adB(s:Same G H)(h:Rp (aA K) G H v a)(q:mH a=.ok b):Cj K v H b:=by
 cases a with
 |non=>cases q; rw[h.non]; rfl
 |bl i=>cases q; rw[h.bl]; rfl
 |int i=>cases q; rw[h.int]; rfl
 |str i =>
  dsimp only[mH]at q
  split at q
  .rename_i e
   cases q
   rw[h.str]
   exact⟨big e,rfl⟩
  .cases q
 |tup ts =>
  cases q
  obtain⟨p,xs,rfl,q,r⟩:=h.tup s
  exact .inr (id ⟨xs,q.toK,by rw[Om r.length]⟩)
 |lst ts =>
  cases q
  obtain⟨p,xs,rfl,q,r⟩:=h.lst s
  exact .inl ⟨xs,q.toK,by rw[Om r.length]⟩
 |bQ c=>cases q
end
end
end L2
end
section
namespace L2
open PySem
@[irreducible] def atName(e:Expr)(k:Str->Pos->Bool):Bool:=match e with
 |.Name x0 x1=>k x0 x1
 |_=>false
theorem Jt(h:atName e k=true):∃x0 x1,e=.Name x0 x1/\k x0 x1=true:=by unfold atName at h; cases e <;> first|exact⟨_,_,rfl,h⟩|cases h
@[elab_as_elim] theorem XD{C:_->Prop}(h:atName e k=true)(f:∀x0 x1,k x0 x1=true->C (.Name x0 x1)):C e:=by obtain⟨_,_,rfl,h'⟩:=Jt h; exact f _ _ h'
@[irreducible] def yc(e:Expr)(k:Expr->Operator->Expr->Pos->Bool):Bool:=match e with
 |.BinOp x0 x1 x2 x3=>k x0 x1 x2 x3
 |_=>false
theorem Ju(h:yc e k=true):∃x0 x1 x2 x3,e=.BinOp x0 x1 x2 x3/\k x0 x1 x2 x3=true:=by unfold yc at h; cases e <;> first|exact⟨_,_,_,_,rfl,h⟩|cases h
@[elab_as_elim] theorem XF{C:_->Prop}(h:yc e k=true)(f:∀x0 x1 x2 x3,k x0 x1 x2 x3=true->C (.BinOp x0 x1 x2 x3)):C e:=by obtain⟨_,_,_,_,rfl,h'⟩:=Ju h; exact f _ _ _ _ h'
@[irreducible] def pC(e:Expr)(k:UnaryOp->Expr->Pos->Bool):Bool:=match e with
 |.UnaryOp x0 x1 x2=>k x0 x1 x2
 |_=>false
theorem Jv(h:pC e k=true):∃x0 x1 x2,e=.UnaryOp x0 x1 x2/\k x0 x1 x2=true:=by unfold pC at h; cases e <;> first|exact⟨_,_,_,rfl,h⟩|cases h
@[elab_as_elim] theorem XH{C:_->Prop}(h:pC e k=true)(f:∀x0 x1 x2,k x0 x1 x2=true->C (.UnaryOp x0 x1 x2)):C e:=by obtain⟨_,_,_,rfl,h'⟩:=Jv h; exact f _ _ _ h'
@[irreducible] def tV(e:Expr)(k:Expr->List CmpOp->List Expr->Pos->Bool):Bool:=match e with
 |.Compare x0 x1 x2 x3=>k x0 x1 x2 x3
 |_=>false
theorem Jw(h:tV e k=true):∃x0 x1 x2 x3,e=.Compare x0 x1 x2 x3/\k x0 x1 x2 x3=true:=by unfold tV at h; cases e <;> first|exact⟨_,_,_,_,rfl,h⟩|cases h
@[elab_as_elim] theorem XJ{C:_->Prop}(h:tV e k=true)(f:∀x0 x1 x2 x3,k x0 x1 x2 x3=true->C (.Compare x0 x1 x2 x3)):C e:=by obtain⟨_,_,_,_,rfl,h'⟩:=Jw h; exact f _ _ _ _ h'
@[irreducible] def tX(e:Expr)(k:BoolOp->List Expr->Pos->Bool):Bool:=match e with
 |.BoolOp x0 x1 x2=>k x0 x1 x2
 |_=>false
theorem Jx(h:tX e k=true):∃x0 x1 x2,e=.BoolOp x0 x1 x2/\k x0 x1 x2=true:=by unfold tX at h; cases e <;> first|exact⟨_,_,_,rfl,h⟩|cases h
@[elab_as_elim] theorem XM{C:_->Prop}(h:tX e k=true)(f:∀x0 x1 x2,k x0 x1 x2=true->C (.BoolOp x0 x1 x2)):C e:=by obtain⟨_,_,_,rfl,h'⟩:=Jx h; exact f _ _ _ h'
@[irreducible] def yd(e:Expr)(k:Expr->Expr->Expr->Pos->Bool):Bool:=match e with
 |.IfExp x0 x1 x2 x3=>k x0 x1 x2 x3
 |_=>false
theorem Jy(h:yd e k=true):∃x0 x1 x2 x3,e=.IfExp x0 x1 x2 x3/\k x0 x1 x2 x3=true:=by unfold yd at h; cases e <;> first|exact⟨_,_,_,_,rfl,h⟩|cases h
@[elab_as_elim] theorem XQ{C:_->Prop}(h:yd e k=true)(f:∀x0 x1 x2 x3,k x0 x1 x2 x3=true->C (.IfExp x0 x1 x2 x3)):C e:=by obtain⟨_,_,_,_,rfl,h'⟩:=Jy h; exact f _ _ _ _ h'
@[irreducible] def jV(e:Expr)(k:Expr->Expr->Pos->Bool):Bool:=match e with
 |.Subscript x0 x1 x2=>k x0 x1 x2
 |_=>false
theorem Jz(h:jV e k=true):∃x0 x1 x2,e=.Subscript x0 x1 x2/\k x0 x1 x2=true:=by unfold jV at h; cases e <;> first|exact⟨_,_,_,rfl,h⟩|cases h
@[elab_as_elim] theorem XR{C:_->Prop}(h:jV e k=true)(f:∀x0 x1 x2,k x0 x1 x2=true->C (.Subscript x0 x1 x2)):C e:=by obtain⟨_,_,_,rfl,h'⟩:=Jz h; exact f _ _ _ h'
@[irreducible] def ji(e:Expr)(k:List Expr->Nat->Pos->Bool):Bool:=match e with
 |.Tuple x0 x1 x2=>k x0 x1 x2
 |_=>false
theorem JB(h:ji e k=true):∃x0 x1 x2,e=.Tuple x0 x1 x2/\k x0 x1 x2=true:=by unfold ji at h; cases e <;> first|exact⟨_,_,_,rfl,h⟩|cases h
@[elab_as_elim] theorem XS{C:_->Prop}(h:ji e k=true)(f:∀x0 x1 x2,k x0 x1 x2=true->C (.Tuple x0 x1 x2)):C e:=by obtain⟨_,_,_,rfl,h'⟩:=JB h; exact f _ _ _ h'
@[irreducible] def tY(e:Expr)(k:List Expr->Pos->Bool):Bool:=match e with
 |.List x0 x1=>k x0 x1
 |_=>false
theorem JC(h:tY e k=true):∃x0 x1,e=.List x0 x1/\k x0 x1=true:=by unfold tY at h; cases e <;> first|exact⟨_,_,rfl,h⟩|cases h
@[elab_as_elim] theorem X3{C:_->Prop}(h:tY e k=true)(f:∀x0 x1,k x0 x1=true->C (.List x0 x1)):C e:=by obtain⟨_,_,rfl,h'⟩:=JC h; exact f _ _ h'
@[irreducible] def yg(e:Expr)(k:Option Expr->Option Expr->Option Expr->Pos->Bool):Bool:=match e with
 |.Slice x0 x1 x2 x3=>k x0 x1 x2 x3
 |_=>false
theorem JD(h:yg e k=true):∃x0 x1 x2 x3,e=.Slice x0 x1 x2 x3/\k x0 x1 x2 x3=true:=by unfold yg at h; cases e <;> first|exact⟨_,_,_,_,rfl,h⟩|cases h
@[elab_as_elim] theorem X4{C:_->Prop}(h:yg e k=true)(f:∀x0 x1 x2 x3,k x0 x1 x2 x3=true->C (.Slice x0 x1 x2 x3)):C e:=by obtain⟨_,_,_,_,rfl,h'⟩:=JD h; exact f _ _ _ _ h'
@[irreducible] def fW(e:Expr)(k:Expr->List Expr->List Keyword->Pos->Bool):Bool:=match e with
 |.Call x0 x1 x2 x3=>k x0 x1 x2 x3
 |_=>false
theorem vU(h:fW e k=true):∃x0 x1 x2 x3,e=.Call x0 x1 x2 x3/\k x0 x1 x2 x3=true:=by unfold fW at h; cases e <;> first|exact⟨_,_,_,_,rfl,h⟩|cases h
@[elab_as_elim] theorem X5{C:_->Prop}(h:fW e k=true)(f:∀x0 x1 x2 x3,k x0 x1 x2 x3=true->C (.Call x0 x1 x2 x3)):C e:=by obtain⟨_,_,_,_,rfl,h'⟩:=vU h; exact f _ _ _ _ h'
@[irreducible] def qK(e:Expr)(k:Expr->Str->Pos->Bool):Bool:=match e with
 |.Attribute x0 x1 x2=>k x0 x1 x2
 |_=>false
theorem JF(h:qK e k=true):∃x0 x1 x2,e=.Attribute x0 x1 x2/\k x0 x1 x2=true:=by unfold qK at h; cases e <;> first|exact⟨_,_,_,rfl,h⟩|cases h
@[elab_as_elim] theorem X6{C:_->Prop}(h:qK e k=true)(f:∀x0 x1 x2,k x0 x1 x2=true->C (.Attribute x0 x1 x2)):C e:=by obtain⟨_,_,_,rfl,h'⟩:=JF h; exact f _ _ _ h'
@[irreducible] def m7(e:Expr)(k:Expr->List Comprehension->Scope->Pos->Bool):Bool:=match e with
 |.ListComp x0 x1 x2 x3=>k x0 x1 x2 x3
 |_=>false
theorem JG(h:m7 e k=true):∃x0 x1 x2 x3,e=.ListComp x0 x1 x2 x3/\k x0 x1 x2 x3=true:=by unfold m7 at h; cases e <;> first|exact⟨_,_,_,_,rfl,h⟩|cases h
@[elab_as_elim] theorem X7{C:_->Prop}(h:m7 e k=true)(f:∀x0 x1 x2 x3,k x0 x1 x2 x3=true->C (.ListComp x0 x1 x2 x3)):C e:=by obtain⟨_,_,_,_,rfl,h'⟩:=JG h; exact f _ _ _ _ h'
@[irreducible] def yh(e:Expr)(k:Arguments->Expr->Scope->Pos->Bool):Bool:=match e with
 |.Lambda x0 x1 x2 x3=>k x0 x1 x2 x3
 |_=>false
theorem JH(h:yh e k=true):∃x0 x1 x2 x3,e=.Lambda x0 x1 x2 x3/\k x0 x1 x2 x3=true:=by unfold yh at h; cases e <;> first|exact⟨_,_,_,_,rfl,h⟩|cases h
@[elab_as_elim] theorem X8{C:_->Prop}(h:yh e k=true)(f:∀x0 x1 x2 x3,k x0 x1 x2 x3=true->C (.Lambda x0 x1 x2 x3)):C e:=by obtain⟨_,_,_,_,rfl,h'⟩:=JH h; exact f _ _ _ _ h'
@[irreducible] def lJ(e:Stmt)(k:List Expr->Expr->Pos->Bool):Bool:=match e with
 |.Assign x0 x1 x2=>k x0 x1 x2
 |_=>false
theorem JK(h:lJ e k=true):∃x0 x1 x2,e=.Assign x0 x1 x2/\k x0 x1 x2=true:=by unfold lJ at h; cases e <;> first|exact⟨_,_,_,rfl,h⟩|cases h
@[elab_as_elim] theorem Yb{C:_->Prop}(h:lJ e k=true)(f:∀x0 x1 x2,k x0 x1 x2=true->C (.Assign x0 x1 x2)):C e:=by obtain⟨_,_,_,rfl,h'⟩:=JK h; exact f _ _ _ h'
@[irreducible] def qL(e:Stmt)(k:Expr->Pos->Bool):Bool:=match e with
 |.Expr x0 x1=>k x0 x1
 |_=>false
theorem JL(h:qL e k=true):∃x0 x1,e=.Expr x0 x1/\k x0 x1=true:=by unfold qL at h; cases e <;> first|exact⟨_,_,rfl,h⟩|cases h
@[elab_as_elim] theorem Yc{C:_->Prop}(h:qL e k=true)(f:∀x0 x1,k x0 x1=true->C (.Expr x0 x1)):C e:=by obtain⟨_,_,rfl,h'⟩:=JL h; exact f _ _ h'
@[irreducible] def tZ(e:Stmt)(k:Option Expr->Pos->Bool):Bool:=match e with
 |.Return x0 x1=>k x0 x1
 |_=>false
theorem JM(h:tZ e k=true):∃x0 x1,e=.Return x0 x1/\k x0 x1=true:=by unfold tZ at h; cases e <;> first|exact⟨_,_,rfl,h⟩|cases h
@[elab_as_elim] theorem Yd{C:_->Prop}(h:tZ e k=true)(f:∀x0 x1,k x0 x1=true->C (.Return x0 x1)):C e:=by obtain⟨_,_,rfl,h'⟩:=JM h; exact f _ _ h'
@[irreducible] def yj(e:Stmt)(k:Expr->List Stmt->List Stmt->Pos->Bool):Bool:=match e with
 |.If x0 x1 x2 x3=>k x0 x1 x2 x3
 |_=>false
theorem JN(h:yj e k=true):∃x0 x1 x2 x3,e=.If x0 x1 x2 x3/\k x0 x1 x2 x3=true:=by unfold yj at h; cases e <;> first|exact⟨_,_,_,_,rfl,h⟩|cases h
@[elab_as_elim] theorem Ye{C:_->Prop}(h:yj e k=true)(f:∀x0 x1 x2 x3,k x0 x1 x2 x3=true->C (.If x0 x1 x2 x3)):C e:=by obtain⟨_,_,_,_,rfl,h'⟩:=JN h; exact f _ _ _ _ h'
@[irreducible] def yp(e:Stmt)(k:Option Expr->Option Expr->Pos->Bool):Bool:=match e with
 |.Raise x0 x1 x2=>k x0 x1 x2
 |_=>false
theorem JQ(h:yp e k=true):∃x0 x1 x2,e=.Raise x0 x1 x2/\k x0 x1 x2=true:=by unfold yp at h; cases e <;> first|exact⟨_,_,_,rfl,h⟩|cases h
@[elab_as_elim] theorem Yg{C:_->Prop}(h:yp e k=true)(f:∀x0 x1 x2,k x0 x1 x2=true->C (.Raise x0 x1 x2)):C e:=by obtain⟨_,_,_,rfl,h'⟩:=JQ h; exact f _ _ _ h'
@[irreducible] def yq(e:Stmt)(k:Expr->List Stmt->List Stmt->Pos->Bool):Bool:=match e with
 |.While x0 x1 x2 x3=>k x0 x1 x2 x3
 |_=>false
theorem JR(h:yq e k=true):∃x0 x1 x2 x3,e=.While x0 x1 x2 x3/\k x0 x1 x2 x3=true:=by unfold yq at h; cases e <;> first|exact⟨_,_,_,_,rfl,h⟩|cases h
@[elab_as_elim] theorem Yh{C:_->Prop}(h:yq e k=true)(f:∀x0 x1 x2 x3,k x0 x1 x2 x3=true->C (.While x0 x1 x2 x3)):C e:=by obtain⟨_,_,_,_,rfl,h'⟩:=JR h; exact f _ _ _ _ h'
@[irreducible] def yr(e:Stmt)(k:Expr->Expr->List Stmt->List Stmt->Pos->Bool):Bool:=match e with
 |.For x0 x1 x2 x3 x4=>k x0 x1 x2 x3 x4
 |_=>false
theorem JT(h:yr e k=true):∃x0 x1 x2 x3 x4,e=.For x0 x1 x2 x3 x4/\k x0 x1 x2 x3 x4=true:=by unfold yr at h; cases e <;> first|exact⟨_,_,_,_,_,rfl,h⟩|cases h
@[elab_as_elim] theorem Yi{C:_->Prop}(h:yr e k=true)(f:∀x0 x1 x2 x3 x4,k x0 x1 x2 x3 x4=true->C (.For x0 x1 x2 x3 x4)):C e:=by obtain⟨_,_,_,_,_,rfl,h'⟩:=JT h; exact f _ _ _ _ _ h'
@[irreducible] def m8(e:Comprehension)(k:Expr->Expr->List Expr->Int->Bool):Bool:=k e.target e.iter e.ifs e.is_async
theorem JV(h:m8 e k=true):∃x0 x1 x2 x3,e=⟨x0,x1,x2,x3⟩/\k x0 x1 x2 x3=true:=by unfold m8 at h; cases e; exact⟨_,_,_,_,rfl,h⟩
@[elab_as_elim] theorem Yj{C:_->Prop}(h:m8 e k=true)(f:∀x0 x1 x2 x3,k x0 x1 x2 x3=true->C (⟨x0,x1,x2,x3⟩)):C e:=by obtain⟨_,_,_,_,rfl,h'⟩:=JV h; exact f _ _ _ _ h'
@[irreducible] def yt(e:Keyword)(k:Option Str->Expr->Pos->Bool):Bool:=k e.arg e.value e.pos
theorem JW(h:yt e k=true):∃x0 x1 x2,e=⟨x0,x1,x2⟩/\k x0 x1 x2=true:=by unfold yt at h; cases e; exact⟨_,_,_,rfl,h⟩
@[elab_as_elim] theorem Yk{C:_->Prop}(h:yt e k=true)(f:∀x0 x1 x2,k x0 x1 x2=true->C (⟨x0,x1,x2⟩)):C e:=by obtain⟨_,_,_,rfl,h'⟩:=JW h; exact f _ _ _ h'
@[irreducible] def yu(e:Arg)(k:Str->Option Expr->Pos->Bool):Bool:=k e.arg e.annotation e.pos
theorem JX(h:yu e k=true):∃x0 x1 x2,e=⟨x0,x1,x2⟩/\k x0 x1 x2=true:=by unfold yu at h; cases e; exact⟨_,_,_,rfl,h⟩
@[elab_as_elim] theorem Yl{C:_->Prop}(h:yu e k=true)(f:∀x0 x1 x2,k x0 x1 x2=true->C (⟨x0,x1,x2⟩)):C e:=by obtain⟨_,_,_,rfl,h'⟩:=JX h; exact f _ _ _ h'
@[irreducible] def yw(e:Arguments)(k:List Arg->List Arg->Option Arg->List Arg->List (Option Expr)->Option Arg->List Expr->Bool):Bool:=k e.posonlyargs e.args e.vararg e.kwonlyargs e.kw_defaults e.kwarg e.defaults
theorem JZ(h:yw e k=true):∃x0 x1 x2 x3 x4 x5 x6,e=⟨x0,x1,x2,x3,x4,x5,x6⟩/\k x0 x1 x2 x3 x4 x5 x6=true:=by unfold yw at h; cases e; exact⟨_,_,_,_,_,_,_,rfl,h⟩
@[elab_as_elim] theorem Ym{C:_->Prop}(h:yw e k=true)(f:∀x0 x1 x2 x3 x4 x5 x6,k x0 x1 x2 x3 x4 x5 x6=true->C (⟨x0,x1,x2,x3,x4,x5,x6⟩)):C e:=by obtain⟨_,_,_,_,_,_,_,rfl,h'⟩:=JZ h; exact f _ _ _ _ _ _ _ h'
@[irreducible] def aP{α : Type}(l:List α)(k : α -> List α -> Bool):Bool:=match l with
 |x::y=>k x y
 |_=>false
theorem Jr{α : Type}{l:List α}{k : α -> List α -> Bool}(h:aP l k=true):∃x y,l=x::y/\k x y=true:=by unfold aP at h; cases l <;> first|exact⟨_,_,rfl,h⟩|cases h
@[elab_as_elim] theorem Yn{α : Type}{l:List α}{k : α -> List α -> Bool}{C:_->Prop}(h:aP l k=true)(f:∀x y,k x y=true->C (x::y)):C l:=by obtain⟨_,_,rfl,h'⟩:=Jr h; exact f _ _ h'
@[irreducible] def aW{α : Type}(l:List α)(k:Bool):Bool:=l.isEmpty&&k
theorem Js{α : Type}{l:List α}{k:Bool}(h:aW l k=true):l=[]/\k=true:=by unfold aW at h; cases l <;> first|exact⟨rfl,h⟩|cases h
@[elab_as_elim] theorem Yo{α : Type}{l:List α}{k:Bool}{C:_->Prop}(h:aW l k=true)(f:k=true->C ([])):C l:=by obtain⟨rfl,h'⟩:=Js h; exact f h'
@[irreducible] def m9{α : Type}(l:Option α)(k : α -> Bool):Bool:=match l with
 |some x=>k x
 |_=>false
theorem J0{α : Type}{l:Option α}{k : α -> Bool}(h:m9 l k=true):∃x,l=some x/\k x=true:=by unfold m9 at h; cases l <;> first|exact⟨_,rfl,h⟩|cases h
@[elab_as_elim] theorem Yp{α : Type}{l:Option α}{k : α -> Bool}{C:_->Prop}(h:m9 l k=true)(f:∀x,k x=true->C (some x)):C l:=by obtain⟨_,rfl,h'⟩:=J0 h; exact f _ h'
@[irreducible] def pG{α : Type}(l:Option α)(k:Bool):Bool:=l.isNone&&k
theorem J1{α : Type}{l:Option α}{k:Bool}(h:pG l k=true):l=none/\k=true:=by unfold pG at h; cases l <;> first|exact⟨rfl,h⟩|cases h
@[elab_as_elim] theorem Yq{α : Type}{l:Option α}{k:Bool}{C:_->Prop}(h:pG l k=true)(f:k=true->C (none)):C l:=by obtain⟨rfl,h'⟩:=J1 h; exact f h'
@[irreducible] def jk{α : Type} [DecidableEq α](a b : α)(k:Bool):Bool:=decide (a=b)&&k
theorem J2{α : Type} [DecidableEq α]{a b : α}{k:Bool}(h:jk a b k=true):a=b/\k=true:=by simpa[jk]using h
@[elab_as_elim] theorem Yr{α : Type} [DecidableEq α]{a b : α}{k:Bool}{C : α -> Prop}(h:jk a b k=true)(f:k=true->C b):C a:=by obtain⟨e,q⟩:=J2 h; subst e; exact f q
open PySem.Spec PyProof.Rows
noncomputable def pH(i:Int):TE:=λ_ H Q=>Q (.int i) H
noncomputable def kI:Const->Option Int
 |.int i=>some i
 |_=>none
noncomputable def bI(o:Operator)(i j:Int):Option Int:=match o with
 |.Sub=>some (i-j)
 |.Add=>some (i+j)
 |.Pow=>if 0<=j/\j<=100/\i.natAbs<=1000 then some (i ^ j.toNat)else none
 |_=>none
noncomputable def uI(o:UnaryOp)(i:Int):Option Int:=match o with
 |.USub=>some (-i)
 |_=>none
noncomputable def cI:Expr->Option Int
 |.Constant c _ _=>kI c
 |.UnaryOp o e _=>(cI e).bind (uI o)
 |.BinOp a o b _=>(cI a).bind λi=>(cI b).bind λj=>bI o i j
 |_=>none
theorem adC(h:kI c=some i):PE X (.Constant c k p) (pH i):=by
 cases c <;> first|(cases h; exact wJ)|cases h
theorem adD(h:uI o i=some k)(he:PE X e (pH i)):PE X (.UnaryOp o e p) (pH k):=by
 cases o <;> first|(cases h; exact(Cd Cg he).imp λσ H Q q=>⟨i,rfl,q⟩)|cases h
theorem adE(h:bI o i j=some k)(ha:PE X a (pH i))(hb:PE X b (pH j)):PE X (.BinOp a o b p) (pH k):=by
 cases o <;> try cases h
 .exact(wU Lp ha hb).imp λσ H Q q=>⟨i,j,rfl,rfl,q⟩
 .exact(wU Lr ha hb).imp λσ H Q q=>⟨i,j,rfl,rfl,q⟩
 .dsimp only[bI]at h
  split at h
  .rename_i c
   cases h
   exact(wU Ls ha hb).imp λσ H Q q=>⟨i,j,rfl,rfl,⟨c.1,by lia,by lia⟩,q⟩
  .cases h
theorem yC(e:Expr)(k:Int)(h:cI e=some k):PE X e (pH k):=by
 cases e with
 |Constant c _ _=>exact adC h
 |UnaryOp o a _ =>
  have h:(cI a).bind (uI o)=some k:=h
  cases e1:cI a with
  |none=>rw[e1]at h; cases h
  |some i=>rw[e1]at h; exact adD h (yC a i e1)
 |BinOp a o b _ =>
  have h:((cI a).bind λi=>(cI b).bind λj=>bI o i j)=some k:=h
  cases e1:cI a with
  |none=>rw[e1]at h; cases h
  |some i =>
   cases e2:cI b with
   |none=>rw[e1,e2]at h; cases h
   |some j=>rw[e1,e2]at h; exact adE h (yC a i e1) (yC b j e2)
 |_=>cases h
noncomputable def kT:Const->Option Tr
 |.none=>some .non
 |.bool b=>some (.bl b)
 |.str x=>some (.str x)
 |.int i=>some (.int i)
 |_=>none
mutual
noncomputable def cT:Expr->Option Tr
 |.Constant c _ _=>kT c
 |.Tuple es _ _=>(gG es).map .tup
 |.List es _=>(gG es).map .lst
 |.UnaryOp o a p=>(cI (.UnaryOp o a p)).map .int
 |.BinOp a o b p=>(cI (.BinOp a o b p)).map .int
 |_=>none
noncomputable def gG:List Expr->Option (List Tr)
 | []=>some []
 |e::r=>match cT e,gG r with
  |some T,some Ts=>if Ts.length<1000 then some (T::Ts)else none
  |_,_=>none
end
theorem yD:∀{es:List Expr} {Ts:List Tr},gG es=some Ts->Ts.length<=1000
 | [],Ts,h=>by
  cases h
  decide
 |e::r,Ts,h=>by
  unfold gG at h
  split at h
  .split at h
   .cases h
    rename_i h1
    rw[List.length_cons]
    lia
   .cases h
  .cases h
section
variable {X:Cx}{e:Expr}{es:List Expr}{T:Tr}{Ts:List Tr}{pos:Pos}{k:Nat}{G:PySem.W.Frag}
theorem adF:PA X [] (qF G []):=sY.imp λσ H Q q=>q [] H (Same.refl _) λ_ _=>.nil
theorem adG(h:PE X e (o8 G T))(r:PA X es (qF G Ts))(hs:starEach (e::es) X.env=(false,eval e X.env)::starEach es X.env):PA X (e::es) (qF G (T::Ts)) :=
 (qu h r hs).imp λσ H Q q v H1 s1 rv vs H2 s2 rs=>q (v::vs) H2 (s1.trans s2) λPr p=>.cons ((rv Pr p).mono (p.mono s2)) (rs Pr (p.le s1))
theorem Oo(h:PA X es (qF G Ts))(hl:Ts.length<=1000):PE X (.Tuple es k pos) (o8 G (.tup Ts)) :=
 (LC h).imp λσ H Q q vs H1 s1 rs=>by
  by_cases hv:vs.length<=sizeLine
  .exact⟨hv,λa ha=>q (.ref a) _ (s1.trans (fV ha _)) λPr p=>.tup (bx.of ((p.le s1).new (Same.refl _) ha)) ((rs Pr p).mono (p.mono (fV ha _)))⟩
  .exact absurd (Nat.le_of_lt (CP (by rw[(rs _ (Pj.id H)).length]; exact hl))) hv
theorem Oq(h:PA X es (qF G Ts))(hl:Ts.length<=1000):PE X (.List es pos) (Dg G Ts) :=
 (LK h).imp λσ H Q q vs H1 s1 rs=>by
  have e:=(rs _ (Pj.id H)).length
  exact⟨Nat.le_of_lt (CP (by rw[e]; exact hl)),λa ha=>q a vs H1 s1 ha rs e⟩
theorem adH(h:PE X e (Dg G Ts)):PE X e (o8 G (.lst Ts)) :=
 h.imp λσ H Q q a xs H1 s1 ha rs _=>q (.ref a) _ (s1.trans (fV ha _)) λPr p=>.lst (aG.of ((p.le s1).new (Same.refl _) ha)) ((rs Pr p).mono (p.mono (fV ha _)))
theorem Ot(h:(cI e).map Tr.int=some T):PE X e (o8 G T):=by
 cases e1:cI e with
 |none=>rw[e1]at h; cases h
 |some i =>
  rw[e1]at h; cases h
  exact(yC e i e1).imp λσ H Q q=>q _ H (Same.refl _) λ_ _=>.int i
end
theorem adI(h:cT e=some T):starEach (e::es) env=(false,eval e env)::starEach es env:=by
 cases e <;> first|rfl|(unfold cT at h; cases h)
theorem adJ(h:kT c=some T):PE X (.Constant c k p) (o8 G T):=by
 cases c <;> try cases h
 .exact KR.imp λσ H Q q=>q _ H (Same.refl _) λ_ _=>.non
 .exact KQ.imp λσ H Q q=>q _ H (Same.refl _) λ_ _=>.bl _
 .exact wJ.imp λσ H Q q=>q _ H (Same.refl _) λ_ _=>.int _
 .exact KY.imp λσ H Q q=>q _ H (Same.refl _) λ_ _=>.str _
mutual
theorem adK(e:Expr)(T:Tr)(h:cT e=some T):PE X e (o8 G T):=by
 cases e with
 |Constant c _ _=>exact adJ (by unfold cT at h; exact h)
 |Tuple es _ _ =>
  unfold cT at h
  cases e:gG es with
  |none=>rw[e]at h; cases h
  |some Ts =>
   rw[e]at h
   cases h
   exact Oo (uc es Ts e) (yD e)
 |List es _ =>
  unfold cT at h
  cases e:gG es with
  |none=>rw[e]at h; cases h
  |some Ts =>
   rw[e]at h
   cases h
   exact adH (Oq (uc es Ts e) (yD e))
 |UnaryOp o a p=>exact Ot (by unfold cT at h; exact h)
 |BinOp a o b p=>exact Ot (by unfold cT at h; exact h)
 |_=>unfold cT at h; cases h
theorem uc:∀(es:List Expr) (Ts:List Tr),gG es=some Ts->PA X es (qF G Ts)
 | [],Ts,h=>by
  unfold gG at h; cases h
  exact adF
 |e::r,Ts,h=>by
  unfold gG at h
  cases e1:cT e with
  |none=>rw[e1]at h; cases h
  |some T =>
   cases e2:gG r with
   |none=>rw[e1,e2]at h; cases h
   |some Us =>
    rw[e1,e2]at h
    dsimp only at h
    split at h
    .cases h
     exact adG (adK e T e1) (uc r Us e2) (adI e1)
    .cases h
end
theorem adL(h:gG es=some Ts):PE X (.List es pos) (Dg G Ts):=Oq (uc es Ts h) (yD h)
theorem adM(h:gG es=some Ts):PE X (.Tuple es k pos) (o8 G (.tup Ts)):=Oo (uc es Ts h) (yD h)
class NF where
 f:Value->Int
section
variable [NF]{kf:Value->Int × Int}
noncomputable def q1(kf:Value->Int × Int)(xs:Array Keyed)(i:Nat):Int:=match xs[i]? with|some p=>(kf p.1).1|none=>0
noncomputable def q2(kf:Value->Int × Int)(xs:Array Keyed)(i:Nat):Int:=match xs[i]? with|some p=>(kf p.1).2|none=>0
noncomputable def qr(xs:Array Keyed)(i:Nat):Int:=match xs[i]? with|some p=>NF.f p.2|none=>0
noncomputable def Kl(kf:Value->Int × Int)(xs:Array Keyed)(i j:Nat):Prop:=q1 kf xs i<q1 kf xs j\/(q1 kf xs i=q1 kf xs j/\q2 kf xs i<q2 kf xs j)
noncomputable instance {kf:Value->Int × Int}{xs:Array Keyed}{i j:Nat}:Decidable (Kl kf xs i j):=by unfold Kl; infer_instance
noncomputable def Ke(kf:Value->Int × Int)(xs:Array Keyed)(i j:Nat):Prop:=q1 kf xs i=q1 kf xs j/\q2 kf xs i=q2 kf xs j
noncomputable def Lq(kf:Value->Int × Int)(xs:Array Keyed)(i j:Nat):Prop:=Kl kf xs i j\/(Ke kf xs i j/\qr xs i<qr xs j)
noncomputable def eV(kf:Value->Int × Int)(xs:Array Keyed)(m:Nat):Prop:=∀i j,i<j->j<m->Lq kf xs i j
noncomputable def cF(kf:Value->Int × Int)(xs:Array Keyed)(m:Nat):Prop:=∀i j,i<j->j<m->Lq kf xs j i
noncomputable def jW(kf:Value->Int × Int)(xs:Array Keyed)(m q:Nat):Prop:=(∀i j,i<j->j<m->i<q->Lq kf xs j i/\(q<=j->Kl kf xs j i))/\∀i j,q<=i->i<j->j<m->Ke kf xs i j/\qr xs i<qr xs j
noncomputable def Pre(N:Nat)(xs:Array Keyed)(m:Nat):Prop:=(∀k:Nat,k<m->qr xs k<m)/\∀k:Nat,m<=k->k<N->qr xs k=k
theorem lK(h:xs[i]?=ys[j]?):qr xs i=qr ys j:=by unfold qr; rw[h]
theorem yE(h:xs[i]?=ys[j]?):q1 kf xs i=q1 kf ys j:=by unfold q1; rw[h]
theorem yF(h:xs[i]?=ys[j]?):q2 kf xs i=q2 kf ys j:=by unfold q2; rw[h]
theorem gH(hj:j<=xs.size)(k:Nat):(i<=k/\k<j/\(mirror xs i j ((j-i) / 2))[k]?=xs[i+j-1-k]?)\/(¬(i<=k/\k<j)/\(mirror xs i j ((j-i) / 2))[k]?=xs[k]?):=by
 have e:=getElem?_mirror_all (i:=i) hj k
 by_cases h:i<=k/\k<j
 .rw[if_pos h]at e; exact .inl ⟨h.1,h.2,e⟩
 .rw[if_neg h]at e; exact .inr ⟨h,e⟩
theorem lM(h1:xs[i]?=ys[i']?)(h2:xs[j]?=ys[j']?):Lq kf xs i j↔Lq kf ys i' j':=by
 unfold Lq Kl Ke; rw[lK h1,lK h2,yE h1,yE h2,yF h1,yF h2]
theorem yG(h1:xs[i]?=ys[i']?)(h2:xs[j]?=ys[j']?):Kl kf xs i j↔Kl kf ys i' j':=by
 unfold Kl; rw[yE h1,yE h2,yF h1,yF h2]
theorem Kl.tr(a:Kl kf xs i j)(b:Kl kf xs j k):Kl kf xs i k:=by
 unfold Kl at *
 generalize q1 kf xs i=a1,q2 kf xs i=a2,q1 kf xs j=b1,q2 kf xs j=b2,q1 kf xs k=c1,q2 kf xs k=c2 at *
 lia
theorem Kl.no(a:¬Kl kf xs i j)(b:¬Kl kf xs j i):Ke kf xs i j:=by
 unfold Kl at *
 unfold Ke
 generalize q1 kf xs i=a1,q2 kf xs i=a2,q1 kf xs j=b1,q2 kf xs j=b2 at *
 lia
theorem Ke.s(a:Ke kf xs i j):Ke kf xs j i:=⟨a.1.symm,a.2.symm⟩
theorem Ke.t(a:Ke kf xs i j)(b:Ke kf xs j k):Ke kf xs i k:=⟨a.1.trans b.1,a.2.trans b.2⟩
theorem Ke.l(a:Ke kf xs i j)(b:Kl kf xs j k):Kl kf xs i k:=by
 unfold Kl at *
 rw[a.1,a.2]
 exact b
theorem Ke.r(a:Kl kf xs i j)(b:Ke kf xs j k):Kl kf xs i k:=by
 unfold Kl at *
 rw[<-b.1,<-b.2]
 exact a
theorem Kl.tq(a:Kl kf xs i j)(b:Lq kf xs j k):Kl kf xs i k:=b.elim a.tr λz=>Ke.r a z.1
theorem Kl.qt(a:Lq kf xs i j)(b:Kl kf xs j k):Kl kf xs i k:=a.elim (λz=>z.tr b) λz=>z.1.l b
theorem Lq.mk(a:¬Kl kf xs j i)(b:qr xs i<qr xs j):Lq kf xs i j:=by
 by_cases h:Kl kf xs i j
 .exact .inl h
 .exact .inr ⟨Kl.no h a,b⟩
theorem Pre.gH(h:Pre N xs m)(hj:j<=xs.size)(hm:j<=m):Pre N (mirror xs i j ((j-i) / 2)) m:=by
 refine⟨λk hk=>?_,λk hk hN=>?_⟩
 .rcases L2.gH hj k with⟨a,b,e⟩|⟨n,e⟩
  .rw[lK e]; exact h.1 _ (by lia)
  .rw[lK e]; exact h.1 _ hk
 .rcases L2.gH hj k with⟨a,b,e⟩|⟨n,e⟩
  .lia
  .rw[lK e]; exact h.2 _ hk hN
theorem cF.turn(h:cF kf xs m)(hm:m<=xs.size):eV kf (mirror xs 0 m ((m-0) / 2)) m:=λi j hij hj=>by
 rcases gH (i:=0) hm i with⟨_,_,e1⟩|⟨n,_⟩
 .rcases gH (i:=0) hm j with⟨_,_,e2⟩|⟨n,_⟩
  .rw[lM e1 e2]; exact h _ _ (by lia) (by lia)
  .lia
 .lia
theorem jW.turn(h:jW kf xs m q)(hm:m<=xs.size)(hq:q<m):cF kf (mirror xs q m ((m-q) / 2)) m:=λi j hij hj=>by
 rcases gH (i:=q) hm i with⟨a,b,e1⟩|⟨n,e1⟩ <;> rcases gH (i:=q) hm j with⟨a',b',e2⟩|⟨n',e2⟩
 .rw[lM e2 e1]
  have z:=h.2 (q+m-1-j) (q+m-1-i) (by lia) (by lia) (by lia)
  exact .inr z
 .lia
 .rw[lM e2 e1]
  exact(h.1 i (q+m-1-j) (by lia) (by lia) (by lia)).1
 .rw[lM e2 e1]
  exact(h.1 i j hij hj (by lia)).1
theorem jW.one(h:jW kf xs m q)(hq:m<=q+1):cF kf xs m:=λi j hij hj=>(h.1 i j hij hj (by lia)).1
end
section
variable [NF]{prog:Program}{w:World}{A:Around}{E:Value->Shared->Prop}{s:Shared}{N:Nat}{kd:SortKind}{kf:Value->Int × Int}
structure SB(a₀ : Array Keyed)(kd:SortKind)(st:SortSt):Prop where
 pm:(arrOf st).Perm a₀
 kn:kindOf st=kd
 fl:failedOf st=none
 pd:pendingOf st = #[]
theorem SB.sz{st:SortSt}(h:SB a₀ kd st):(arrOf st).size=a₀.size:=h.pm.size_eq
theorem SB.put{st:SortSt}(h:SB a₀ kd st)(p:xs.Perm (arrOf st)):SB a₀ kd (setArr st xs):=⟨p.trans h.pm,h.kn,h.fl,h.pd⟩
noncomputable def Asks(prog:Program)(w:World)(A:Around)(E:Value->Shared->Prop)(s:Shared)(a₀ : Array Keyed)(kd:SortKind)(kf:Value->Int × Int):Prop :=
 ∀(st:SortSt) (i j:Nat) (Q:Option Bool->SortSt->Prop),SB a₀ kd st->i<a₀.size->j<a₀.size->Q (some (decide (Kl kf (arrOf st) i j))) st->wpS (model prog w) A E s (ltAt' i j) Q st
variable {a₀ : Array Keyed}(ask:Asks prog w A E s a₀ kd kf)
include ask
theorem Ou{st:SortSt}(hn:n<=a₀.size)(ha:1<=a)(han:a<=n)(B:SB a₀ kd st)(p:Pre a₀.size (arrOf st) a)(h0:eV kf (arrOf st) a)
  (h:∀m,a<=m->m<=n->eV kf (arrOf st) m->Pre a₀.size (arrOf st) m->(m=n\/(m<n/\Kl kf (arrOf st) m (m-1)))->Q (none,m) st):wpS (model prog w) A E s (ascLoop a n) Q st:=by
 have up:∀x,a<=x->x<=n->Pre a₀.size (arrOf st) x:=λx h1 h2=>⟨λk hk=>by
  by_cases z:k<a
  .have:=p.1 k z; lia
  .rw[p.2 k (by lia) (by lia)]; lia,λk h3 h4=>p.2 k (by lia) h4⟩
 refine wpS_forRange (I:=λx c t=>t=st/\c=(none,x)/\x<=n/\eV kf (arrOf st) x) ?_ ?_ ⟨rfl,rfl,han,h0⟩
 .rintro x c t h1 h2 ⟨rfl,rfl,_,hs⟩
  refine wpS_bind (ask _ _ _ _ B (by lia) (by lia) ?_)
  by_cases l:Kl kf (arrOf t) x (x-1)
  .rw[decide_eq_true l]
   exact wpS_pure (h x h1 (by lia) hs (up x h1 (by lia)) (.inr ⟨h2,l⟩))
  .rw[decide_eq_false l]
   refine wpS_pure ⟨rfl,rfl,h2,λi j hij hj=>?_⟩
   by_cases z:j<x
   .exact hs i j hij z
   .have ej:j=x:=by lia
    subst ej
    have r1:=(up j h1 (by lia)).1 i hij
    have r2:=(up j h1 (by lia)).2 j (Nat.le_refl _) (by lia)
    by_cases z:i=j-1
    .subst z
     exact Lq.mk l (by rw[r2]; exact r1)
    .have y:=hs i (j-1) (by lia) (by lia)
     exact Lq.mk (λz=>l (z.tq y)) (by rw[r2]; exact r1)
 .rintro c t ⟨rfl,rfl,_,hs⟩
  rw[show max a n=n by lia]at hs ⊢
  exact h n han (Nat.le_refl _) hs (up n han (Nat.le_refl _)) (.inl rfl)
theorem Ov{st:SortSt}(hn:n<=a₀.size)(h1:1<=m)(hm:m<=n)(B:SB a₀ kd st)(p:Pre a₀.size (arrOf st) m)(d:cF kf (arrOf st) m)
  (h:∀m t,SB a₀ kd t->1<=m->m<=n->eV kf (arrOf t) m->Pre a₀.size (arrOf t) m->Q (some m) t):wpS (model prog w) A E s (tail3 m n) Q st:=by
 unfold tail3
 have z:m<=(arrOf st).size:=by rw[B.sz]; lia
 refine wpS_bind (wpS_reverse ?_)
 have B':SB a₀ kd (setArr st (mirror (arrOf st) 0 m ((m-0) / 2))):=B.put (mirror_perm _ _ _ _)
 exact wpS_bind (Ou ask hn h1 hm B' (p.gH z (Nat.le_refl _)) (d.turn z) λk k1 k2 k3 k4 _=>wpS_pure (h k _ B' (by lia) k2 k3 k4))
theorem adN{st:SortSt}(hn:n<=a₀.size)(h1:1<=m)(hm:m<=n)(B:SB a₀ kd st)(p:Pre a₀.size (arrOf st) m)(d:jW kf (arrOf st) m (m-1))
  (h:∀x e t,SB a₀ kd t->m<=x->x<=n->e+1<=x->jW kf (arrOf t) x (x-(e+1))->Pre a₀.size (arrOf t) x->Q (none,x,e) t):wpS (model prog w) A E s (descLoop m n) Q st:=by
 unfold descLoop
 refine wpS_forRange (I:=λx c t=>∃e,c=(none,x,e)/\SB a₀ kd t/\x<=n/\e+1<=x/\jW kf (arrOf t) x (x-(e+1))/\Pre a₀.size (arrOf t) x) ?_ ?_ ⟨0,rfl,B,hm,by lia,d,p⟩
 .rintro x c t k1 k2 ⟨e,rfl,B',_,ke,d',p'⟩
  dsimp only
  have z:x<=(arrOf t).size:=by rw[B'.sz]; lia
  have pu:∀ys:Array Keyed,Pre a₀.size ys x->Pre a₀.size ys (x+1):=λys q=>⟨λk hk=>by
   by_cases y:k<x
   .have:=q.1 k y; lia
   .rw[q.2 k (by lia) (by lia)]; lia,λk h3 h4=>q.2 k (by lia) h4⟩
  refine wpS_bind (ask _ _ _ _ B' (by lia) (by lia) ?_)
  by_cases l:Kl kf (arrOf t) x (x-1)
  .rw[decide_eq_true l]
   have next:∀ys:Array Keyed,cF kf ys x->(∀i,i<x->Kl kf ys x i)->jW kf ys (x+1) x:=λys y1 y2=>⟨λi j hij hj hi=>by
    by_cases y:j<x
    .exact⟨y1 i j hij y,λz=>by lia⟩
    .have:j=x:=by lia
     subst this
     exact⟨.inl (y2 i hi),λ_=>y2 i hi⟩,λi j h1 h2 h3=>by lia⟩
   have low:∀i,i<x->Kl kf (arrOf t) x i:=λi hi=>by
    by_cases y:i=x-1
    .rw[y]; exact l
    .by_cases y2:i<x-(e+1)
     .exact l.tq (d'.1 i (x-1) (by lia) (by lia) y2).1
     .exact Ke.r l (d'.2 i (x-1) (by lia) (by lia) (by lia)).1.s
   by_cases g:e > 0
   .rw[if_pos g]
    refine wpS_bind (wpS_reverse (wpS_pure ⟨0,rfl,B'.put (mirror_perm _ _ _ _),k2,by lia,?_,pu _ (p'.gH z (Nat.le_refl _))⟩))
    rw[show x+1-(0+1)=x by lia]
    refine next _ (d'.turn z (by lia)) λi hi=>?_
    rcases gH (i:=x-(e+1)) z x with⟨_,b,_⟩|⟨_,e1⟩
    .lia
    .rcases gH (i:=x-(e+1)) z i with⟨_,_,e2⟩|⟨_,e2⟩
     .rw[yG e1 e2]; exact low _ (by lia)
     .rw[yG e1 e2]; exact low _ hi
   .rw[if_neg g]
    refine wpS_pure ⟨0,rfl,B',k2,by lia,?_,pu _ p'⟩
    rw[show x+1-(0+1)=x by lia]
    exact next _ (d'.one (by lia)) low
  .rw[decide_eq_false l]
   refine wpS_bind (ask _ _ _ _ B' (by lia) (by lia) ?_)
   by_cases g:Kl kf (arrOf t) (x-1) x
   .rw[decide_eq_true g]
    exact wpS_pure (h x e t B' k1 (by lia) ke d' p')
   .rw[decide_eq_false g]
    have eq:Ke kf (arrOf t) (x-1) x:=Kl.no g l
    refine wpS_pure ⟨e+1,rfl,B',k2,by lia,?_,pu _ p'⟩
    rw[show x+1-(e+1+1)=x-(e+1) by lia]
    refine⟨λi j hij hj hi=>?_,λi j hi hij hj=>?_⟩
    .by_cases y:j<x
     .exact d'.1 i j hij y hi
     .have:j=x:=by lia
      subst this
      have y:=(d'.1 i (j-1) (by lia) (by lia) hi).2 (by lia)
      have y':Kl kf (arrOf t) j i:=eq.s.l y
      exact⟨.inl y',λ_=>y'⟩
    .by_cases y:j<x
     .exact d'.2 i j hi hij y
     .have:j=x:=by lia
      subst this
      have r1:=p'.1 i hij
      have r2:=p'.2 j (Nat.le_refl _) (by lia)
      refine⟨?_,by lia⟩
      by_cases y:i=j-1
      .rw[y]; exact eq
      .exact(d'.2 i (j-1) hi (by lia) (by lia)).1.t eq
 .rintro c t ⟨e,rfl,B',_,ke,d',p'⟩
  rw[show max m n=n by lia]at ke d' p' ⊢
  exact h n e t B' hm (Nat.le_refl _) ke d' p'
theorem Ow{st:SortSt}(hn:n<=a₀.size)(hm:m+1<=n)(B:SB a₀ kd st)(p:Pre a₀.size (arrOf st) (m+1))(d:jW kf (arrOf st) (m+1) m)
  (h:∀m t,SB a₀ kd t->1<=m->m<=n->eV kf (arrOf t) m->Pre a₀.size (arrOf t) m->Q (some m) t):wpS (model prog w) A E s (descPart m n) Q st:=by
 refine wpS_bind (wpS_lift (wpAny_rule ⟨rfl,?_⟩))
 refine wpS_bind (adN ask hn (by lia) hm B p (by rw[show m+1-1=m by lia]; exact d) λx e t B' k1 k2 ke d' p'=>?_)
 have z:x<=(arrOf t).size:=by rw[B'.sz]; lia
 show wpS _ _ _ _ (if e > 0 then(reverseSlice' (x-(e+1)) x >>= λ_=>tail3 x n)else tail3 x n) _ _
 by_cases g:e > 0
 .rw[if_pos g]
  exact wpS_bind (wpS_reverse (Ov ask hn (by lia) k2 (B'.put (mirror_perm _ _ _ _)) (p'.gH z (Nat.le_refl _)) (d'.turn z (by lia)) h))
 .rw[if_neg g]
  exact Ov ask hn (by lia) k2 B' p' (d'.one (by lia)) h
theorem adO{st:SortSt}(hn:n<=a₀.size)(h1:1<=n)(B:SB a₀ kd st)(p:Pre a₀.size (arrOf st) 0)
  (h:∀m t,SB a₀ kd t->1<=m->m<=n->eV kf (arrOf t) m->Pre a₀.size (arrOf t) m->Q (some m) t):wpS (model prog w) A E s (countRun' 0 n) Q st:=by
 rw[countRun0_eq]
 have p1:Pre a₀.size (arrOf st) 1:=⟨λk hk=>by rw[p.2 k (by lia) (by lia)]; lia,λk h3 h4=>p.2 k (by lia) h4⟩
 refine wpS_bind (Ou ask hn (Nat.le_refl 1) h1 B p1 (λi j _ _=>by lia) λm m1 m2 hs hp ho=>?_)
 by_cases e:m=n
 .rw[if_pos (by simpa using e)]
  exact wpS_pure (h m st B m1 m2 hs hp)
 .rw[if_neg (by simpa using e)]
  obtain⟨ml,l⟩:=ho.resolve_left e
  have pn:∀ys:Array Keyed,Pre a₀.size ys m->Pre a₀.size ys (m+1):=λys q=>⟨λk hk=>by
   by_cases y:k<m
   .have:=q.1 k y; lia
   .rw[q.2 k (by lia) (by lia)]; lia,λk h3 h4=>q.2 k (by lia) h4⟩
  by_cases g:m > 1
  .rw[if_pos g]
   refine wpS_bind (ask _ _ _ _ B (by lia) (by lia) ?_)
   by_cases r:Kl kf (arrOf st) 0 (m-1)
   .rw[decide_eq_true r]
    exact wpS_pure (h m st B m1 m2 hs hp)
   .rw[decide_eq_false r]
    have z:m<=(arrOf st).size:=by rw[B.sz]; lia
    have all:∀i j,i<j->j<m->Ke kf (arrOf st) i j/\qr (arrOf st) i<qr (arrOf st) j:=λi j hij hj=>by
     have a1:=hs i j hij hj
     have a2:i=0\/Lq kf (arrOf st) 0 i:=by
      by_cases y:i=0
      .exact .inl y
      .exact .inr (hs 0 i (by lia) (by lia))
     have a3:j=m-1\/Lq kf (arrOf st) j (m-1):=by
      by_cases y:j=m-1
      .exact .inl y
      .exact .inr (hs j (m-1) (by lia) (by lia))
     rcases a1 with k1|k1
     .have k2:Kl kf (arrOf st) 0 j:=by
       rcases a2 with y|y
       .rw[y]at k1; exact k1
       .exact Kl.qt y k1
      refine absurd ?_ r
      rcases a3 with y|y
      .rw[y]at k2; exact k2
      .exact k2.tq y
     .exact k1
    have ds:jW kf (arrOf st) m 0:=⟨λi j _ _ hi=>by lia,λi j _ hij hj=>all i j hij hj⟩
    refine wpS_bind (wpS_reverse (Ow ask hn (by lia) (B.put (mirror_perm _ _ _ _)) (pn _ (hp.gH z (Nat.le_refl _))) ?_ h))
    have dd:=ds.turn z (by lia)
    have low:∀i,i<m->Kl kf (arrOf st) m i:=λi hi=>by
     by_cases y:i=m-1
     .rw[y]; exact l
     .exact Ke.r l (all i (m-1) (by lia) (by lia)).1.s
    have Oz:∀i,i<m->Kl kf (mirror (arrOf st) 0 m ((m-0) / 2)) m i:=λi hi=>by
     rcases gH (i:=0) z m with⟨_,b,_⟩|⟨_,e1⟩
     .lia
     .rcases gH (i:=0) z i with⟨_,_,e2⟩|⟨_,e2⟩
      .rw[yG e1 e2]; exact low _ (by lia)
      .rw[yG e1 e2]; exact low _ hi
    refine⟨λi j hij hj hi=>?_,λi j _ _ _=>by lia⟩
    by_cases y:j<m
    .exact⟨dd i j hij y,λz=>by lia⟩
    .have:j=m:=by lia
     subst this
     exact⟨.inl (Oz i hi),λ_=>Oz i hi⟩
  .rw[if_neg g]
   have e1:m=1:=by lia
   subst e1
   refine Ow ask hn (by lia) B (pn _ hp) ⟨λi j hij hj hi=>?_,λi j _ _ _=>by lia⟩ h
   have i0:i=0:=by lia
   have j1:j=1:=by lia
   subst i0 j1
   exact⟨.inl l,λ_=>l⟩
theorem adP{st:SortSt}(hn:n<=a₀.size)(h1:1<=ok)(hok:ok<=n)(B:SB a₀ kd st)(p:Pre a₀.size (arrOf st) ok)(d:eV kf (arrOf st) ok)
  (h:∀t,SB a₀ kd t->eV kf (arrOf t) n->Q true t):wpS (model prog w) A E s (binarySort' 0 n ok) Q st:=by
 rw[binarySort'_eq]
 simp only[Nat.zero_add]
 refine wpS_bind (wpS_mono (wpS_forRange (I:=λk c t=>c=(none,())/\SB a₀ kd t/\k<=n/\eV kf (arrOf t) k/\Pre a₀.size (arrOf t) k) (Q:=λc t=>c=(none,())/\SB a₀ kd t/\eV kf (arrOf t) n) ?_ ?_ ?_) ?_)
 .rintro k c t k1 k2 ⟨rfl,B',_,d',p'⟩
  have hk:k<a₀.size:=by lia
  have rk:=p'.2 k (Nat.le_refl _) hk
  refine wpS_bind (wpS_mono (wpS_forRange (I:=λx c u=>u=t/\∃l r,c=(none,l,r)/\l<=r/\r<=k/\r-l<=k-x/\(∀i,i<l->¬Kl kf (arrOf t) k i)/\∀i,r<=i->i<k->Kl kf (arrOf t) k i)
   (Q:=λc u=>u=t/\∃l r,c=(none,l,r)/\l<=k/\(∀i,i<l->¬Kl kf (arrOf t) k i)/\∀i,l<=i->i<k->Kl kf (arrOf t) k i) ?_ ?_ ?_) ?_)
  .rintro x c u _ hx ⟨rfl,l,r,rfl,g1,g2,g3,lo,hi⟩
   dsimp only
   by_cases g:l >= r
   .rw[if_pos g]
    have:l=r:=by lia
    subst this
    exact wpS_pure ⟨rfl,l,l,rfl,g2,lo,hi⟩
   .rw[if_neg g]
    refine wpS_bind (ask _ _ _ _ B' hk (by lia) ?_)
    by_cases le:Kl kf (arrOf u) k ((l+r) / 2)
    .rw[decide_eq_true le]
     refine wpS_pure ⟨rfl,l,(l+r) / 2,rfl,by lia,by lia,by lia,lo,λi h1 h2=>?_⟩
     by_cases y:i=(l+r) / 2
     .rw[y]; exact le
     .exact le.tq (d' ((l+r) / 2) i (by lia) h2)
    .rw[decide_eq_false le]
     refine wpS_pure ⟨rfl,(l+r) / 2+1,r,rfl,by lia,by lia,by lia,λi h1=>?_,hi⟩
     by_cases y:i=(l+r) / 2
     .rw[y]; exact le
     .exact λz=>le (z.tq (d' i ((l+r) / 2) (by lia) (by lia)))
  .rintro c u ⟨rfl,l,r,rfl,g1,g2,g3,lo,hi⟩
   have:l=r:=by lia
   subst this
   exact⟨rfl,l,l,rfl,g2,lo,hi⟩
  .exact⟨rfl,0,k,rfl,by lia,by lia,by lia,λi hi=>by lia,λi g1 g2=>by lia⟩
  .rintro c u ⟨rfl,l,r,rfl,lk,lo,hi⟩
   rw[moveDown'_eq]
   refine wpS_bind (wpS_modify (wpS_pure ⟨rfl,B'.put (bubble_perm _ _ _),k2,?_,?_⟩))
   all_goals
    have ks:k<(arrOf u).size:=by rw[B'.sz]; exact hk
    have bb:=getElem?_bubble ks (k-l) (by lia)
    rw[show k-(k-l)=l by lia]at bb
    have b1:(bubble (arrOf u) k (k-l))[l]?=(arrOf u)[k]? := by rw[bb,if_pos rfl]
    have b2:∀i,l<i->i<=k->(bubble (arrOf u) k (k-l))[i]?=(arrOf u)[i-1]? := λi g1 g2=>by rw[bb,if_neg (by lia),if_pos ⟨g1,g2⟩]
    have b3:∀i,i<l->(bubble (arrOf u) k (k-l))[i]?=(arrOf u)[i]? := λi g1=>by rw[bb,if_neg (by lia),if_neg (by lia)]
    have b4:∀i,k<i->(bubble (arrOf u) k (k-l))[i]?=(arrOf u)[i]? := λi g1=>by rw[bb,if_neg (by lia),if_neg (by lia)]
   .intro i j hij hj
    show Lq kf (bubble (arrOf u) k (k-l)) i j
    rcases Nat.lt_trichotomy i l with y|y|y <;> rcases Nat.lt_trichotomy j l with y'|y'|y'
    .rw[lM (b3 i y) (b3 j y')]; exact d' i j hij (by lia)
    .subst y'
     rw[lM (b3 i y) b1]
     exact Lq.mk (lo i y) (by rw[rk]; exact p'.1 i (by lia))
    .rw[lM (b3 i y) (b2 j y' (by lia))]; exact d' i (j-1) (by lia) (by lia)
    .lia
    .lia
    .subst y
     rw[lM b1 (b2 j y' (by lia))]
     exact .inl (hi _ (by lia) (by lia))
    .lia
    .lia
    .rw[lM (b2 i y (by lia)) (b2 j y' (by lia))]; exact d' _ _ (by lia) (by lia)
   .refine⟨λi hi'=>?_,λi g1 g2=>?_⟩
    .show qr (bubble (arrOf u) k (k-l)) i<_
     rcases Nat.lt_trichotomy i l with y|y|y
     .rw[lK (b3 i y)]; have:=p'.1 i (by lia); lia
     .subst y; rw[lK b1,rk]; lia
     .rw[lK (b2 i y (by lia))]; have:=p'.1 (i-1) (by lia); lia
    .show qr (bubble (arrOf u) k (k-l)) i=_
     rw[lK (b4 i (by lia))]
     exact p'.2 i (by lia) g2
 .rintro c t ⟨rfl,B',kn,d',p'⟩
  refine⟨rfl,B',?_⟩
  rwa[show max (max ok 1) n=n by lia]at d'
 .rw[show max ok 1=ok by lia]
  exact⟨rfl,B,hok,d,p⟩
 .rintro c t ⟨rfl,B',d'⟩
  exact wpS_pure (h t B' d')
theorem adQ{st:SortSt}(B:SB a₀ kd st)(h2:2<=a₀.size)(h64:a₀.size<64)(p:Pre a₀.size (arrOf st) 0)
  (h:∀t,(arrOf t).Perm a₀ -> failedOf t=none->eV kf (arrOf t) a₀.size->Q () t):wpS (model prog w) A E s sortRuns' Q st:=by
 rw[sortRuns'_eq]
 refine wpS_bind (wpS_get ?_)
 have mr:minRun' (arrOf st).size (arrOf st).size 0=a₀.size:=by
  rw[B.sz]
  obtain⟨f,hf⟩:∃f,a₀.size=f+1:=⟨a₀.size-1,by lia⟩
  have:minRun' (f+1) (f+1) 0=f+1:=by rw[minRun'_succ,if_pos (by lia)]
  rw[hf]; exact this
 dsimp only
 rw[mr,B.sz]
 have fin:∀t,SB a₀ kd t->eV kf (arrOf t) a₀.size->(arrOf (setPending t ((pendingOf t).push (0,a₀.size,0)))).Perm a₀/\failedOf (setPending t ((pendingOf t).push (0,a₀.size,0)))=none/\pendingOf (setPending t ((pendingOf t).push (0,a₀.size,0))) = #[(0,a₀.size,0)]/\eV kf (arrOf (setPending t ((pendingOf t).push (0,a₀.size,0)))) a₀.size :=
  λt B' d'=>⟨B'.pm,B'.fl,by show(pendingOf t).push _=_; rw[B'.pd]; rfl,d'⟩
 refine wpS_bind (wpS_mono (wpS_forRange (I:=λx c t=>(x=0/\c=(none,0)/\SB a₀ kd t/\Pre a₀.size (arrOf t) 0)\/(1<=x/\c=(none,a₀.size)/\(arrOf t).Perm a₀/\failedOf t=none/\pendingOf t = #[(0,a₀.size,0)]/\eV kf (arrOf t) a₀.size))
  (Q:=λc t=>c=(none,a₀.size)/\(arrOf t).Perm a₀/\failedOf t=none/\pendingOf t = #[(0,a₀.size,0)]/\eV kf (arrOf t) a₀.size) ?_ ?_ (.inl ⟨rfl,rfl,B,p⟩)) ?_)
 .rintro x c t _ hx (⟨rfl,rfl,B',p'⟩|⟨hx1,rfl,D⟩)
  .skip
   rw[if_neg (by lia)]
   simp only[Nat.sub_zero,Nat.min_self,Nat.zero_add]
   refine wpS_bind (adO ask (Nat.le_refl _) (by lia) B' p' λm u B2 m1 m2 d2 p2=>?_)
   show wpS _ _ _ _ (if m<a₀.size then _ else _) _ _
   by_cases g:m<a₀.size
   .rw[if_pos g]
    refine wpS_bind (wpS_lift (wpAny_rule ⟨rfl,?_⟩))
    refine wpS_bind (adP ask (Nat.le_refl _) m1 m2 B2 p2 d2 λv B3 d3=>?_)
    refine wpS_bind (wpS_get ?_)
    rw[show(pendingOf v).back? = none by rw[B3.pd]; rfl]
    exact wpS_bind (wpS_modify (wpS_pure (.inr ⟨by lia,rfl,fin v B3 d3⟩)))
   .rw[if_neg g]
    have e:m=a₀.size:=by lia
    subst e
    refine wpS_bind (wpS_get ?_)
    rw[show(pendingOf u).back? = none by rw[B2.pd]; rfl]
    exact wpS_bind (wpS_modify (wpS_pure (.inr ⟨by lia,rfl,fin u B2 d2⟩)))
  .skip
   rw[if_pos (Nat.le_refl _)]
   exact wpS_pure ⟨rfl,D⟩
 .rintro c t (⟨hx,_,_⟩|⟨_,hc,D⟩)
  .lia
  .exact⟨hc,D⟩
 .rintro c t ⟨rfl,D⟩
  refine wpS_bind (wpS_mono (wpS_forRange (I:=λ_ c u=>u=t/\c=(none,())) (Q:=λc u=>u=t/\c=(none,())) ?_ (λ_ _ z=>z) ⟨rfl,rfl⟩) ?_)
  .rintro x c u _ _ ⟨rfl,rfl⟩
   refine wpS_bind (wpS_get ?_)
   rw[if_pos (by rw[D.2.2.1]; exact Nat.le_refl 1)]
   exact wpS_pure ⟨rfl,rfl⟩
  .rintro c u ⟨rfl,rfl⟩
   exact wpS_pure (h _ D.1 D.2.1 D.2.2.2)
end
open PySem.W
section
variable {X:Cx}{pins:List (Addr × Obj)}{σ : St}{H:Hp}{s:Shared}
theorem Inv.track(I:Inv X pins σ H s)(f:cL X pins H a)(e:s.heap.get? a=some {cls:=.type "list",data:=.seq its.toArray n }) (r:Vals xs its) (hz:xs.length<=sizeLine):Inv X pins σ (upd H a (.lst xs)) s:=by
 obtain⟨f0,f1,f2,f3,f4,f5⟩:=f
 have ok:cA X.prog X.w (upd H a (.lst xs)) s.heap:=λb u q=>by
  by_cases hb:b=a
  .subst hb; rw[bW]at q; cases q; exact⟨hz,its,n,r,e⟩
  .rw[aM hb]at q
   exact(I.hok b u q).stay (λc v _ z=>z) (λc z=>by rw[aM (iD z f0)]; exact z) λc ys z=>by rw[aM (iD z f0)]; exact z
 exact I.step (h':=s.heap) (g':=s.gens) (t':=s.toks) (d':=s.drawn) (ch:=[a]) (λb hb=>by
   have:b=a:=by simpa using hb
   subst this
   exact⟨f3,f1,f4,f5⟩) (λb o _ _ _ q _=>q) (λb o _ _ _ q _=>⟨o.slots,q⟩) (λb o hb _ q=>by rw[aM (by simpa using hb)]; exact q) (λb o _ q=>⟨o,q⟩)
  (λb ys q=>by rw[aM (iD q f0)]; exact q) (λb o u q=>by rw[aM (iD q f0)]; exact q) (λb ps q=>⟨#[],by rw[aM (iD q f0),q]; simp⟩) (λm q=>q) ok I.bare
theorem Inv.sub(I:Inv X pins σ H s)(h:∀p∈mO,p∈pins):Inv X mO σ H s:=I.wH λp hp=>I.pin p (List.mem_append_right _ (h p hp))
theorem Inv.pI(I:Inv X pins σ H s)(f:cL X pins H a)(e:s.heap.get? a=some o)(d:∀v,o.data ≠ .cell v):Inv X ((a,o)::pins) σ H s:=I.wH λp hp=>by
 rcases List.mem_cons.mp hp with rfl|hp
 .exact⟨e,f.1,f.2.1,f.2.2.1,d⟩
 .exact I.pin p (List.mem_append_right _ hp)
theorem cL.pI(f:cL X pins H b)(n:a≠b):cL X ((a,o)::pins) H b:=⟨f.1,f.2.1,f.2.2.1,f.2.2.2.1,f.2.2.2.2.1,λp hp=>by
 rcases List.mem_append.mp hp with hp|hp
 .exact f.2.2.2.2.2 p (List.mem_append_left _ hp)
 .rcases List.mem_cons.mp hp with rfl|hp
  .exact n
  .exact f.2.2.2.2.2 p (List.mem_append_right _ hp)⟩
theorem Inv.wr(I:Inv X pins σ H s)(f:cL X pins H a):Inv X pins σ H {s with heap:=s.heap.update a (Obj.mapSeq g),toks:=t' }:=by
 obtain⟨f0,f1,f2,f3,f4,f5⟩:=f
 exact I.turned (it:=a) (λb o hb e=>((Heap.SameBut.update s.heap a _).2 b hb).trans e) f0 f1 f3 f4 f5
end
noncomputable instance nfI:NF:=⟨numOf⟩
noncomputable def lN(n:Nat)(kz:Nat->Int × Int)(ys:List Nat):Prop:=ys.Perm (List.range n)/\ys.Pairwise λi j=>((kz i).1<(kz j).1\/((kz i).1=(kz j).1/\(kz i).2<(kz j).2))\/(((kz i).1=(kz j).1/\(kz i).2=(kz j).2)/\i<j)
structure nj(X:Cx)(Kv:Hp->Value->Int × Int->Prop)(kd:SortKind):Prop where
 kind:∀(H:Hp) (keys:Array Value) (kz:Nat->Int × Int),2<=keys.size->(∀i v,keys[i]?=some v->Kv H v (kz i))->∀{pins σ s Q E},Inv X pins σ H s->Q kd s->wpAny (model X.prog X.w) X.A.in1.in1 (keyKind' keys) Q E s
 ask:∀{pins σ H s} {E:Value->Shared->Prop} (a₀ : Array Keyed) (kf:Value->Int × Int),Inv X pins σ H s->(∀p,p∈a₀.toList->Kv H p.1 (kf p.1))->Asks X.prog X.w X.A.in1.in1 E s a₀ kd kf
section
variable {X:Cx}
theorem OD:nj X (λ_ v k=>∃t,v=.int k.1 t/\k.2=0) oneType' where
 kind:=λH keys kz h2 hk pins σ s Q E I q=>by
  have hi:IntsAre keys.toList (keys.toList.map numOf):=by
   refine intsAre_map _ λv hv=>?_
   obtain⟨i,hi,e⟩:=List.getElem_of_mem hv
   obtain⟨t,z,_⟩:=hk i v (by rw[<-e]; simp[Array.getElem?_eq_getElem (show i<keys.size by simpa using hi)])
   exact⟨_,t,z⟩
  rw[ksk_kind hi h2]
  exact wpAny_pure q
 ask:=λa₀ kf I h st i j Q B hi hj q=>by
  have h0:IntKeys a₀ := λp hp=>by
   obtain⟨t,z,_⟩:=h p hp
   exact⟨_,t,z⟩
  have B':SBase a₀ st:=⟨B.pm,B.kn,B.fl,B.pd⟩
  have at_:∀i,i<a₀.size->q1 kf (arrOf st) i=K (arrOf st) i/\q2 kf (arrOf st) i=0:=λi hi=>by
   obtain⟨t,p,e⟩:=B'.at h0 hi
   have hi':i<(arrOf st).size:=by rw[B.sz]; exact hi
   have hm:(arrOf st)[i]∈a₀.toList:=(Array.perm_iff_toList_perm.mp B.pm).mem_iff.mp (by simp)
   obtain⟨t',z,z2⟩:=h _ hm
   have e':(arrOf st)[i]?=some (arrOf st)[i]:=getElem?_pos _ i hi'
   have e2:(arrOf st)[i]=(Value.int (K (arrOf st) i) t,p):=by rw[e']at e; exact Option.some.inj e
   rw[e2]at z z2
   unfold q1 q2
   rw[e]
   refine⟨?_,z2⟩
   injection z with z
   exact z.symm
  refine wpS_ltK B' h0 hi hj ?_
  have:decide (Kl kf (arrOf st) i j)=decide (K (arrOf st) i<K (arrOf st) j):=by
   rw[decide_eq_decide]
   unfold Kl
   rw[(at_ i hi).1,(at_ j hj).1,(at_ i hi).2,(at_ j hj).2]
   lia
  rw[this]at q
  exact q
end
section
variable {X:Cx}{pins:List (Addr × Obj)}{σ : St}{H:Hp}{s:Shared}{Kv:Hp->Value->Int × Int->Prop}{kd:SortKind}{a kS:Addr}{n:Nat}{kz:Nat->Int × Int}{vs:List Value}
theorem OJ{st:SortSt}(I:Inv X pins σ H s)(fk:cL X pins H kS)(fa:cL X pins H a)(ne:kS≠a)(hk:s.heap.get? kS=some (seqObj "list" keys e)) (ha:s.heap.get? a=some (seqObj "list" #[] e1)) (hks:keys.size<=64) (hst:(arrOf st).size<=64) (fl:failedOf st=none)
  (h:∀s' c,Inv X pins σ H s'->s'.heap.get? a=some (seqObj "list" ((arrOf st).map (·.2)) c)->P (.done (.ret .none)) s'):wpAny (model X.prog X.w) X.A.in1.in1 (ksk_tail a false e1 (.ref kS) st) P E s:=by
 refine wpAny_bind (listUpdate_at hk rfl ?_ (by rw[sizeLine_eq]; lia) (Nat.zero_le _))
 refine wpAny_bind (wpAny_letGo ?_)
 have I1:=I.wr (g:=λ_=>#[]) (t':=s.toks) fk
 have ha1:(s.heap.update kS (Obj.mapSeq λ_=>(#[]:Array Value))).get? a=some (seqObj "list" #[] e1):=((Heap.SameBut.update s.heap kS _).2 a (Ne.symm ne)).trans ha
 refine wpAny_bind (seqEpoch_at ha1 rfl ?_)
 refine wpAny_bind (listUpdate_at ha1 rfl ?_ (Nat.zero_le _) (by simp only[Bool.false_eq_true,if_false,Array.size_map]; rw[sizeLine_eq]; lia))
 rw[fl]
 simp only[bne_self_eq_false,Bool.false_eq_true,if_false]
 exact wpAny_pure (h _ _ (I1.wr (t':=s.toks) fa) (get?_update_seq ha1 _))
theorem adR(T:nj X Kv kd)(I:Inv X pins σ H s)(fk:cL X pins H kS)(fa:cL X pins H a)(ne:kS≠a)(hk:s.heap.get? kS=some (seqObj "list" keys e)) (ha:s.heap.get? a=some (seqObj "list" #[] e1))
  (hv:∀(i:Nat) (v:Value),vs[i]?=some v->∃t,v=Value.int i t) (hl:vs.length=n) (hkn:keys.size=n) (h64:n<64) (hK:∀i v,keys[i]?=some v->Kv H v (kz i)) (inj:∀v k k',Kv H v k->Kv H v k'->k=k')
  (h:∀s' c out,Inv X pins σ H s'->s'.heap.get? a=some (seqObj "list" out c)->(∃ys,lN n kz ys/\Vals (ys.map λi:Nat=>V.int i) out.toList)->P (.done (.ret .none)) s'):wpAny (model X.prog X.w) X.A.in1.in1 (ksk_end a false vs.toArray e1 (.ref kS) keys) P E s:=by
 have qN:(keys.zip vs.toArray).size=n:=by rw[Array.size_zip,hkn,List.size_toArray,hl,Nat.min_self]
 have ud:∀i,i<n->∃v t,(keys.zip vs.toArray)[i]?=some (v,.int i t)/\Kv H v (kz i):=λi hi=>by
  obtain⟨t,e2⟩:=hv i vs[i] (by simp[hl,hi])
  have e1:keys[i]?=some keys[i]:=getElem?_pos _ _ (by lia)
  refine⟨keys[i],t,?_,hK i _ e1⟩
  rw[<-Array.getElem?_toList,ksk_zip,List.getElem?_zip_eq_some]
  refine⟨by simp[Array.getElem?_toList,e1],?_⟩
  show vs[i]?=some (Value.int i t)
  rw[List.getElem?_eq_getElem (by lia),e2]
 -- what the sorted array says
 have fin:∀(kf:Value->Int × Int) (xs:Array Keyed),(∀(i:Nat) v t,(keys.zip vs.toArray)[i]?=some (v,Value.int i t)->kf v=kz i)->xs.Perm (keys.zip vs.toArray)->eV kf xs n->∃ys,lN n kz ys/\Vals (ys.map λi:Nat=>V.int i) (xs.map (·.2)).toList:=λkf xs hkf hp hs=>by
  have hpl:=Array.perm_iff_toList_perm.mp hp
  have mem:∀p∈xs.toList,∃i t,i<n/\p.2=.int (i:Nat) t/\kf p.1=kz i:=λp hp'=>by
   obtain⟨i,hi,e⟩:=List.getElem_of_mem (hpl.mem_iff.mp hp')
   have hi':i<n:=by rw[Array.length_toList,qN]at hi; exact hi
   obtain⟨v,t,e1,_⟩:=ud i hi'
   have e2:(keys.zip vs.toArray)[i]?=some p:=by rw[<-Array.getElem?_toList,List.getElem?_eq_getElem hi,e]
   rw[e1]at e2
   cases e2
   exact⟨i,t,hi',rfl,hkf i v t e1⟩
  refine⟨xs.toList.map λp=>(numOf p.2).toNat,⟨?_,?_⟩,?_⟩
  .have h1:=hpl.map λp:Keyed=>(numOf p.2).toNat
   refine h1.trans (List.Perm.of_eq ?_)
   refine List.ext_getElem? λi=>?_
   by_cases hi:i<n
   .obtain⟨v,t,e1,_⟩:=ud i hi
    rw[List.getElem?_map,Array.getElem?_toList,e1,List.getElem?_range hi]
    simp[numOf]
   .rw[List.getElem?_eq_none (by simp[qN]; lia),List.getElem?_eq_none (by simp; lia)]
  .rw[List.pairwise_map,List.pairwise_iff_getElem]
   intro i j hi hj hij
   have sz:xs.size=n:=by rw[hp.size_eq,qN]
   have hi':i<xs.size:=by simpa using hi
   have hj':j<xs.size:=by simpa using hj
   have z:=hs i j hij (by lia)
   obtain⟨a1,t1,_,b1,c1⟩:=mem _ (List.getElem_mem hi)
   obtain⟨a2,t2,_,b2,c2⟩:=mem _ (List.getElem_mem hj)
   have x1:xs[i]?=some xs.toList[i]:=by rw[<-Array.getElem?_toList,List.getElem?_eq_getElem hi]
   have x2:xs[j]?=some xs.toList[j]:=by rw[<-Array.getElem?_toList,List.getElem?_eq_getElem hj]
   unfold Lq Kl Ke q1 q2 qr at z
   rw[x1,x2]at z
   dsimp only at z
   rw[b1,b2,c1,c2]at z
   rw[b1,b2]
   simp only[NF.f,nfI,numOf,Int.toNat_natCast]at z ⊢
   lia
  .rw[Array.toList_map,List.map_map]
   have go:∀l:List Keyed,(∀p∈l,∃i t,i<n/\p.2=.int (i:Nat) t/\kf p.1=kz i)->Vals (l.map ((λi:Nat=>V.int i) ∘ λp:Keyed=>(numOf p.2).toNat)) (l.map (·.2)):=λl=>by
    induction l with
    |nil=>intro _; exact .nil
    |cons p r ih =>
     intro hm
     refine .cons ?_ (ih λq hq=>hm q (List.mem_cons_of_mem _ hq))
     obtain⟨i,t,_,e,_⟩:=hm p (List.mem_cons_self ..)
     exact⟨t,by simp[e,numOf]⟩
   exact go _ mem
 -- a function of the keys
 obtain⟨kf,hkf⟩:∃kf:Value->Int × Int,∀v k,Kv H v k->kf v=k:=by
  classical
  refine⟨λv=>if q:∃k,Kv H v k then q.choose else(0,0),λv k hk=>?_⟩
  have q:∃k,Kv H v k:=⟨k,hk⟩
  dsimp only
  rw[dif_pos q]
  exact inj v _ _ q.choose_spec hk
 have O4:∀(i:Nat) v t,(keys.zip vs.toArray)[i]?=some (v,Value.int i t)->kf v=kz i:=λi v t e=>by
  have hi:i<n:=by
   have:=(Array.getElem?_eq_some_iff.mp e).1
   lia
  obtain⟨v',t',e1,q⟩:=ud i hi
  rw[e1]at e
  cases e
  exact hkf _ _ q
 unfold ksk_end
 simp only[Bool.false_eq_true,if_false]
 rw[List.size_toArray,hl]
 by_cases h2:n<2
 .rw[if_pos h2,if_pos h2]
  refine wpAny_bind (wpAny_pure ?_)
  rw[StateT.run_pure]
  refine wpAny_bind (wpAny_pure ?_)
  refine OJ (st:=SortSt.mk' general' (keys.zip vs.toArray) #[] 7 none) I fk fa ne hk ha (by lia) (by show(keys.zip vs.toArray).size<=64; lia) rfl λs' c I' e'=>h s' c _ I' e' (fin kf _ O4 (Array.Perm.refl _) λi j hij hj=>by lia)
 .rw[if_neg h2,if_neg h2]
  refine wpAny_bind (T.kind H keys kz (by lia) hK I ?_)
  have ask:=T.ask (E:=E) (s:=s) (keys.zip vs.toArray) kf I (λp hp=>by
   obtain⟨i,hi,e⟩:=List.getElem_of_mem hp
   have hi':i<n:=by rw[Array.length_toList,qN]at hi; exact hi
   obtain⟨v,t,e1,q⟩:=ud i hi'
   have e2:(keys.zip vs.toArray)[i]?=some p:=by rw[<-Array.getElem?_toList,List.getElem?_eq_getElem hi,e]
   rw[e1]at e2
   cases e2
   rw[hkf _ _ q]
   exact q)
  have B:SB (keys.zip vs.toArray) kd (SortSt.mk' kd (keys.zip vs.toArray) #[] 7 none):=⟨Array.Perm.refl _,rfl,rfl,rfl⟩
  have p0:Pre (keys.zip vs.toArray).size (arrOf (SortSt.mk' kd (keys.zip vs.toArray) #[] 7 none)) 0:=⟨λk hk=>by lia,λk _ hk=>by
   obtain⟨v,t,e1,_⟩:=ud k (by lia)
   show qr (keys.zip vs.toArray) k=k
   unfold qr
   rw[e1]
   rfl⟩
  refine wpAny_bind (wpAny_mono (adQ (Q:=λ_ t=>(arrOf t).Perm (keys.zip vs.toArray)/\failedOf t=none/\eV kf (arrOf t) (keys.zip vs.toArray).size) ask B (by lia) (by lia) p0 λt a1 a2 a3=>⟨a1,a2,a3⟩) ?_ λ_ _ z=>z)
  rintro⟨⟨⟩,t⟩ s' ⟨rfl,hp,hf,hs⟩
  rw[qN]at hs
  exact OJ I fk fa ne hk ha (by lia) (by rw[hp.size_eq,qN]; lia) hf λs' c I' e'=>h s' c _ I' e' (fin kf _ O4 hp hs)
end
section
variable {X:Cx}{pins:List (Addr × Obj)}{σ : St}{H:Hp}{s:Shared}{Kv:Hp->Value->Int × Int->Prop}{kd:SortKind}{n:Nat}{kz:Nat->Int × Int}{vs:List Value}{f:Value}
theorem cL.up(h:cL X pins H b)(e:H' b=none):cL X pins H' b:=⟨e,h.2⟩
noncomputable def DW(X:Cx)(pins:List (Addr × Obj))(σ : St)(H:Hp)(Kv:Hp->Value->Int × Int->Prop)(n:Nat)(kz:Nat->Int × Int)(f:Value):Prop :=
 ∀(mO:List (Addr × Obj)) (i:Nat) (t:Tok) (s':Shared) (H':Hp),i<n->(∀p∈pins,p∈mO)->Same H H'->Inv X mO σ H' s' ->
  wpAny (model X.prog X.w) X.A.in1.in1 (call f [.int i t]) (λv s''=>∃cZ,Same H' cZ/\Kv cZ v (kz i)/\Inv X mO σ cZ s'') (λ_ _=>False) s'
theorem adS(T:nj X Kv kd)(mono:∀{H H':Hp} {v k},Same H H'->Kv H v k->Kv H' v k)(inj:∀{pins:List (Addr × Obj)} {σ : St} {H:Hp} {s:Shared},Inv X pins σ H s->∀v k k',Kv H v k->Kv H v k'->k=k')
  (I:Inv X pins σ H s) (fk:cL X pins H kS) (fa:cL X pins H a) (ne:kS≠a) (hk:s.heap.get? kS=some (seqObj "list" #[] 0)) (ha:s.heap.get? a=some (seqObj "list" #[] e1))
  (hv:∀(i:Nat) (v:Value),vs[i]?=some v->∃t,v=Value.int i t) (hl:vs.length=n) (h64:n<64) (key:DW X pins σ H Kv n kz f)
  (h:∀s' c out H',Same H H'->H' a=none->Inv X pins σ H' s'->s'.heap.get? a=some (seqObj "list" out c)->(∃ys,lN n kz ys/\Vals (ys.map λi:Nat=>V.int i) out.toList)->P (.done (.ret .none)) s') :
  wpAny (model X.prog X.w) X.A.in1.in1 (ksk_rest a f false vs.toArray e1 (.ref kS)) P E s:=by
 unfold ksk_rest
 refine wpAny_bind (wpAny_rule ?_)
 rw[<-Array.forIn_toList]
 refine wpAny_bind (ksk_fold (λi s'=>∃H' kA e,Same H H'∧H' kS=none∧H' a=none∧Inv X pins σ H' s'∧s'.heap.get? kS=some (seqObj "list" kA e)∧s'.heap.get? a=some (seqObj "list" #[] e1)∧kA.size=i∧∀(j:Nat) v,kA[j]?=some v→Kv H' v (kz j)) vs 0 s
  ⟨H,#[],0,Same.refl _,fk.1,fa.1,I,hk,ha,rfl,λj v z=>by simp at z⟩ ?_ ?_)
 .rintro j x s' hx ⟨H',kA,e,sm,nk,na,I',hk',ha',sz,hK⟩
  rw[Nat.zero_add]at sz ⊢
  have hj:j<vs.length:=(List.getElem?_eq_some_iff.mp hx).1
  obtain⟨t,rfl⟩:=hv j x hx
  have fk':=fk.up nk
  have fa':=fa.up na
  have I2:=(I'.pI fa' ha' (λv z=>by cases z)).pI (fk'.pI (Ne.symm ne)) hk' (λv z=>by cases z)
  refine wpAny_bind (wpAny_attempt (wpAny_mono (key _ j t s' H' (by lia) (λp hp=>List.mem_cons_of_mem _ (List.mem_cons_of_mem _ hp)) sm I2) (λv s'' he=>?_) λ_ _ z=>z.elim))
  obtain⟨cZ,O5,kv,I3⟩:=he
  have p1:=I3.pin (kS,seqObj "list" kA e) (List.mem_append_right _ (List.mem_cons_self ..))
  have p2:=I3.pin (a,seqObj "list" #[] e1) (List.mem_append_right _ (List.mem_cons_of_mem _ (List.mem_cons_self ..)))
  have I4:=I3.sub λp hp=>List.mem_cons_of_mem _ (List.mem_cons_of_mem _ hp)
  refine wpAny_bind (listUpdate_at p1.1 rfl ?_ (by rw[sizeLine_eq]; lia) (Nat.le_trans (Nat.le_of_eq (Array.size_push ..)) (by rw[sizeLine_eq]; lia)))
  refine wpAny_pure ⟨rfl,cZ,kA.push v,_,sm.trans O5,p1.2.1,p2.2.1,I4.wr (t':=s''.toks) (fk.up p1.2.1),get?_update_seq p1.1 _,((Heap.SameBut.update s''.heap kS _).2 a (Ne.symm ne)).trans p2.1,by rw[Array.size_push,sz],λi u q=>?_⟩
  rw[Array.getElem?_push]at q
  split at q
  .rename_i z
   cases q
   rw[z,sz]
   exact kv
  .exact mono O5 (hK i u q)
 .rintro s' ⟨H',kA,e,sm,nk,na,I',hk',ha',sz,hK⟩
  refine wpAny_bind (listItems_at hk' rfl ?_)
  exact adR T I' (fk.up nk) (fa.up na) ne hk' ha' hv hl (by lia) h64 hK (inj I') λs'' c out DX e'' q=>h s'' c out H' sm na DX e'' q
theorem adT(T:nj X Kv kd)(mono:∀{H H':Hp} {v k},Same H H'->Kv H v k->Kv H' v k)(inj:∀{pins:List (Addr × Obj)} {σ : St} {H:Hp} {s:Shared},Inv X pins σ H s->∀v k k',Kv H v k->Kv H v k'->k=k')
  (I:Inv X pins σ H s) (fa:cL X pins H a) (ha:s.heap.get? a=some (seqObj "list" vs.toArray c0))
  (hv:∀(i:Nat) (v:Value),vs[i]?=some v->∃t,v=Value.int i t) (hl:vs.length=n) (h64:n<64) (key:DW X pins σ H Kv n kz f)
  (h:∀s' c out H',Same H H'->H' a=none->Inv X pins σ H' s'->s'.heap.get? a=some (seqObj "list" out c)->(∃ys,lN n kz ys/\Vals (ys.map λi:Nat=>V.int i) out.toList)->P (.done (.ret .none)) s') :
  wpAny (model X.prog X.w) X.A.in1.in1 (ksk_tree a f false) P E s:=by
 refine wpAny_bind (listItems_at ha rfl ?_)
 refine wpAny_bind (listUpdate_at ha rfl ?_ (by rw[List.size_toArray,sizeLine_eq]; lia) (Nat.zero_le _))
 have I1:=I.wr (g:=λ_=>#[]) (t':=s.toks) fa
 obtain⟨e1,ha1⟩:∃e1,(s.heap.update a (Obj.mapSeq λ_=>(#[]:Array Value))).get? a=some (seqObj "list" #[] e1):=⟨_,get?_update_seq ha _⟩
 refine wpAny_bind (seqEpoch_at ha1 rfl ?_)
 refine wpAny_bind (wpAny_newTuple ?_ (by show vs.toArray.toList.length<=_; rw[List.toList_toArray,sizeLine_eq]; lia))
 refine wpAny_bind (wpAny_newList ?_ (Nat.zero_le _))
 have I2:Inv X pins σ H {s with heap:=(s.heap.update a (Obj.mapSeq λ_=>(#[]:Array Value))).push {cls:=.type "tuple",data:=.seq vs.toArray.toList.toArray } }:=I1.kept (t':=s.toks) λb o e=>Heap.get?_push_of_some _ e
 have I3:Inv X pins σ H {s with heap:=((s.heap.update a (Obj.mapSeq λ_=>(#[]:Array Value))).push {cls:=.type "tuple",data:=.seq vs.toArray.toList.toArray }).push {cls:=.type "list",data:=.seq ([]:List Value).toArray } }:=I2.kept (t':=s.toks) λb o e=>Heap.get?_push_of_some _ e
 have lt:a<((s.heap.update a (Obj.mapSeq λ_=>(#[]:Array Value))).push {cls:=.type "tuple",data:=.seq vs.toArray.toList.toArray }).objs.size:=by
  rw[size_push',Heap.size_update]
  exact Nat.lt_succ_of_lt (Heap.lt_size ha)
 refine wpAny_holding ?_
 exact adS T mono inj I3 (I2.jC (Nat.le_refl _) (I2.hok.fresh (Nat.le_refl _))) fa (Nat.ne_of_gt lt) (Heap.get?_push_size _ rfl) (Heap.get?_push_of_some _ (Heap.get?_push_of_some _ ha1)) hv hl h64 key h
theorem adU(hh:A.handled=none)(hr:IsRange s.heap r 0 n 1 t u v)(hn:n<=1000)
  (h:∀h' tk (vs:List Value),(∀b o,s.heap.get? b=some o->h'.get? b=some o)->vs.length=n->(∀(i:Nat) (v:Value),vs[i]?=some v->∃t,v=Value.int i t)->Q vs {s with heap:=h',toks:=tk }) :
  wpAny (model P w) A (collect (.ref r)) Q E s:=by
 refine wpAny_bind (wpAny_runValue (codeAny_builtin F.entry_proto_collect ?_))
 refine wpAny_bind (wpAny_newList ?_ (Nat.zero_le _))
 refine wpAny_pure ⟨plainId_quiet F.plain_list_iadd _,codeAny_builtin F.entry_list_iadd ?_⟩
 have sz1:Builtin.Range.rangeSize 0 (n:Int) 1=n:=by rw[rangeSize_one]; split <;> lia
 have keep:∀b o,s.heap.get? b=some o->(s.heap.push {cls:=.type "list",data:=.seq ([]:List Value).toArray }).get? b=some o:=λb o e=>Heap.get?_push_of_some _ e
 refine wpAny_extend_range (A:=A) (R:=λr s'=>match r with
  | Except.ok (Flow.ret v)=>wpAny (model P w) A (match v with
   |Value.ref a=>do
    let __do_lift <-load a
    match __do_lift.data with
     |Data.seq xs epoch=>pure xs.toList
     |x=>unsupported "internal:collect"
   |x=>unsupported "internal:collect") Q E s'
  |Except.ok a=>False
  |Except.error e=>E e s') (s:={s with heap:=s.heap.push {cls:=.type "list",data:=.seq ([]:List Value).toArray } }) hh (keep _ _ hr) (small_one (by lia) (by lia) (by lia) (by lia)) sz1 (by lia) s.heap.objs.size (.ref s.heap.objs.size) 0 (Heap.get?_push_size _ rfl) λh' tk acc c hk hS hi=>?_
 refine wpAny_bind (wpAny_load hS ?_)
 refine wpAny_pure (h h' tk acc.toList (λb o e=>hk b o (Nat.ne_of_lt (Heap.lt_size e)) (keep b o e)) (by rw[Array.length_toList]; exact hi.1) λi v e=>?_)
 rw[Array.getElem?_toList]at e
 obtain⟨t,z⟩:=hi.2 i v e
 exact⟨t,by rw[z]; simp⟩
theorem adV(T:nj X Kv kd)(mono:∀{H H':Hp} {v k},Same H H'->Kv H v k->Kv H' v k)(inj:∀{pins:List (Addr × Obj)} {σ : St} {H:Hp} {s:Shared},Inv X pins σ H s->∀v k k',Kv H v k->Kv H v k'->k=k')
  (I:Inv X pins σ H s) (hh:X.A.handled=none) (hr:IsRange s.heap r 0 n 1 t u v) (h64:n<64) (key:DW X pins σ H Kv n kz (.ref q))
  (h:∀s' D ys H',Same H H'->H' D=none->Inv X pins σ (upd H' D (.lst (ys.map λi:Nat=>V.int i))) s'->lN n kz ys->Q (.ref D) s') :
  wpAny (model X.prog X.w) X.A (call (.builtin "sorted") [.ref r] [(Str.ofString "key",.ref q)]) Q E s:=by
 refine call_function_entry_kw kind_sorted plain_sorted entry_sorted (ksk_s1 _ _) ?_
 refine wpAny_bind (m:=checkCount "sorted" 1 1 _) (wpAny_pure ?_)
 refine wpAny_bind (adU (A:=X.A.in1) hh hr (by lia) λh1 tk vs keep hl hv=>?_)
 have I1:Inv X pins σ H {s with heap:=h1,toks:=tk }:=I.kept keep
 refine wpAny_bind (wpAny_newList ?_ (by rw[sizeLine_eq]; lia))
 have I2:Inv X pins σ H {s with heap:=h1.push {cls:=.type "list",data:=.seq vs.toArray },toks:=tk }:=I1.kept (t':=tk) λb o e=>Heap.get?_push_of_some _ e
 have ha:(h1.push {cls:=.type "list",data:=.seq vs.toArray }).get? h1.objs.size=some (seqObj "list" vs.toArray 0):=Heap.get?_push_size _ rfl
 refine wpAny_bind (wpAny_holding (wpAny_call_entry_kw slot_list_sort ⟨_,ha,rfl⟩ entry_list_sort ?_ (ksk_l1 _ _)))
 rw[ksk_t1]
 have fa:=I1.jC (Nat.le_refl _) (I1.hok.fresh (Nat.le_refl _))
 refine adT T mono inj I2 fa ha hv hl h64 key λs' c out H' sm na I' e' ⟨ys,hs,hv'⟩=>⟨_,rfl,?_⟩
 refine wpAny_pure ⟨_,rfl,h s' _ ys H' sm na (I'.track (its:=out.toList) (n:=c) (fa.up na) e' hv' ?_) hs⟩
 have:=hs.1.length_eq
 rw[List.length_map,this,List.length_range,sizeLine_eq]
 lia
end
noncomputable def yH(X:Cx)(A:Around)(N:List Str)(qual:Str)(scope:Scope)(f:Addr)(cd:Value)(s:Shared)(H:Hp):Cx where
 prog:=X.prog
 w:=X.w
 K:=X.K
 mg:=X.mg
 base:=X.base
 A:=A.deeper (envX qual scope s.heap.objs.size f cd (bY X.env.cells scope.names []))
 N:=N
 s₀ := s
 H₀ := H
 env:=envX qual scope s.heap.objs.size f cd (bY X.env.cells scope.names [])
 outer:=X.stack
 stack:=envX qual scope s.heap.objs.size f cd (bY X.env.cells scope.names [])::X.stack
 ex:=[]
 fn:=λ_=>false
 calm:=true
 pn:=[]
 xe:=λ_ _=>False
structure yJ(sc:Scope)(No:List Str)(x:Str)(Ns:List Str)(src:List (Option Nat))(scope:Scope):Prop where
 c:qy sc No (x::Ns) (none::src) scope
 O6:∀y∈scope.names,y.2 ≠ .cell
 par:scope.names.lookup x=some .local
 co:scope.isCoroutine=false
 gen:scope.isGenerator=false
section
variable {X:Cx}{pins:List (Addr × Obj)}{σ : St}{H:Hp}{s:Shared}{sc scope:Scope}{No Ns:List Str}{src:List (Option Nat)}{x qual:Str}
theorem adW(hsc:X.env.scope=sc)(iJ:X.N=No)(S:yJ sc No x Ns src scope)(hfr:A.frames=some X.stack)(hhd:A.handled=none)(I:Inv X pins σ H s)(rv:RelV v u)
  (hns:h₁.Ns s.heap.objs.size (λy=>([(x,u)]:List (Str × Value)).reverse.lookup y)) (old:∀b o,s.heap.get? b=some o->h₁.get? b=some o) :
  Inv (yH X A (x::Ns) qual scope f cd s H) [] (some v::cX src σ) H {s with heap:=h₁,toks:=tk }:=by
 subst hsc
 subst iJ
 have uf:∀x c,(bY X.env.cells scope.names []).lookup x=some c->X.env.cells.lookup x=some c:=λx c h=>by
  rcases oZ h with q|q
  .simp at q
  .exact q
 refine⟨⟨I.ok.mod,S.c.kind,rfl,rfl,Nat.le_refl _,λx y c h1 h2=>I.ok.inj x y c (uf _ _ h1) (uf _ _ h2),λy hy=>?_,λx c h=>(Bool.false_ne_true h).elim,λ_=>hhd,Around.frames_deeper hfr,.inr ⟨rfl,rfl⟩,λb hb=>absurd (show b∈([]:List Addr)from hb) (by simp),
   I.bs,Nat.le_trans I.ok.jT I.sz,λb o e=>by intro hb; exact absurd (show b∈([]:List Addr)from hb) (by simp),λb hb=>absurd (show b∈([]:List Addr)from hb) (by simp),I.stack,I.wC⟩,
  rfl,I.bare,Un.kept old,⟨_,hns,λi y w' h1 h2 h3=>?_⟩,λy c e=>?_,I.hok.fresh (Nat.le_refl _),λy c e=>I.jA y c (uf y c e),λp hp=>absurd (show p∈([]:List (Addr × Obj))from hp) (by simp),I.hok.kept old,?_⟩
 .skip
  have m:(y,NameKind.free)∈scope.names:=by
   rcases hy with z|z
   .exact absurd rfl (S.O6 _ (PySem.mem_of_lookup z))
   .exact PySem.mem_of_lookup z
  have q:=o7 (cells:=X.env.cells) (acc:=[]) (.inr ⟨m,by
   obtain⟨c,e⟩:=I.ok.has y (S.c.free _ m rfl)
   rw[e]; rfl⟩)
  exact Option.isSome_iff_exists.mp q
 .cases i with
  |zero =>
   have h1:some x=some y:=h1
   cases h1
   cases h2
   exact⟨u,rv,.inl ⟨S.par,by show([(x,u)]:List (Str × Value)).reverse.lookup x=some u; simp⟩⟩
  |succ i =>
   have h1:Ns[i]?=some y:=h1
   have h2:(cX src σ)[i]?=some (some w'):=h2
   have hi:i<src.length:=by
    unfold cX at h2
    have:=(List.getElem?_eq_some_iff.mp h2).1
    simpa using this
   have h2':((src[i]).bind λj=>(σ[j]?).join)=some w':=by
    unfold cX at h2
    rw[List.getElem?_map,List.getElem?_eq_getElem hi]at h2
    exact Option.some.inj h2
   cases es:src[i]with
   |none=>rw[es]at h2'; cases h2'
   |some j =>
    rw[es]at h2'
    have hj : σ[j]?=some (some w'):=by
     have z:(σ[j]?).join=some w':=h2'
     cases q : σ[j]? with
     |none=>rw[q]at z; cases z
     |some o=>rw[q]at z; have z':o=some w':=z; rw[z']
    have hz:(y,some j)∈(x::Ns).zip (none::src):=by
     refine List.mem_of_getElem? (i:=i+1) ?_
     rw[List.getElem?_zip_eq_some]
     exact⟨by simpa using h1,by simp[List.getElem?_eq_getElem hi,es]⟩
    obtain⟨u1,u2⟩:=S.c.up _ hz j rfl
    have m:(y,NameKind.free)∈scope.names:=PySem.mem_of_lookup u2
    have kx:=S.c.free _ m rfl
    obtain⟨m0,hn0,hl0⟩:=id I.loc
    obtain⟨u',r,lk⟩:=hl0 j y w' u1 hj (kx.elim (λz=>.inr (.inl z)) λz=>.inr (.inr z))
    refine⟨u',r,?_⟩
    rcases lk with⟨k,_⟩|⟨_,c,e,ic⟩
    .have k':X.env.scope.names.lookup y=some .local:=k
     rcases kx with z|z <;> (rw[z]at k'; cases k')
    .refine .inr ⟨.inr u2,c,?_,?_⟩
     .have q:=o7 (cells:=X.env.cells) (acc:=[]) (.inr ⟨m,by rw[e]; rfl⟩)
      obtain⟨c',e'⟩:=Option.isSome_iff_exists.mp q
      have e2:=uf y c' e'
      rw[e]at e2; cases e2
      exact e'
     .obtain⟨o,ho,hd⟩:=ic
      exact⟨o,old _ _ ho,hd⟩
 .obtain⟨v,o,ho,hd⟩:=I.cell y c (uf y c e)
  exact⟨v,o,old _ _ ho,hd⟩
 .have:=S.c.len
  show _=(x::Ns).length
  rw[List.length_cons]at this ⊢
  rw[List.length_cons]
  unfold cX
  rw[List.length_map]
  exact this
theorem adX(hsc:X.env.scope=sc)(iJ:X.N=No)(S:yJ sc No x Ns src scope)(hfr:A.frames=some X.stack)(hhd:A.handled=none)(hroom:A.depth<recursionLimit)
  (I:Inv X pins σ H s) (ho:s.heap.get? f=some (kla_obj "<lambda>" qual params body scope (bY X.env.cells scope.names []) pm c' ctv)) (hcd:s.heap.CodeRec (.ref c') qual) (rv:RelV v u)
  (hbind:bindArgs (kla_fn "<lambda>" qual params body scope (bY X.env.cells scope.names []) pm (.ref c') ctv) ⟨[u],[]⟩=pure [(x,u)])
  (he:∀s H,PE (yH X A (x::Ns) qual scope f (.ref c') s H) body te) (hq:te (some v::cX src σ) H Q):wpAny (model X.prog X.w) A (call (.ref f) [u]) (EP X pins σ Q) E s:=by
 refine wpAny_call (kla_callFunE hroom ho rfl S.co S.gen rfl hcd ?_)
 rw[hbind]
 refine wpAny_pure (wpAny_newFunctionEnv S.O6 (λy hy=>?_) (λh₁ hns hsb=>⟨I.nolimit.fresh _ hsb,?_⟩) S.c.kind)
 .have:y=(x,u):=by simpa using hy
  subst this
  exact S.par
 have old:=λb o e=>hsb.extBut b o (Nat.ne_of_lt (Heap.lt_size e)) (Heap.get?_push_of_some _ e)
 have J:=adW (A:=A) (f:=f) (cd:=.ref c') (qual:=qual) (tk:=s.toks+[(x,u)].length) hsc iJ S hfr hhd I rv hns old
 refine kla_codeExpr (wpAny_mono (he s H [] _ _ H Q J hq) (λw' s' hw=>?_) λ_ _ z=>z.elim)
 obtain⟨v',H',J',r',q'⟩:=hw
 exact⟨v',H',I.call' (ch:=[]) J'.os J'.base J'.hok J'.bare (λb hb=>absurd hb (by simp)),r',q'⟩
end
noncomputable def lO(mg:Str→Option Value)(base:Heap):Prop:=∃bm ob,mg "__builtins__" = some (.ref bm)∧bm≠builtinsNs∧bm≠mainGlobals∧base.get? bm=some ob∧ob.cls=.type "module" ∧ ob.dict=some builtinsNs∧ob.data=.plain
theorem O7:∀{l:List Value},TriplesOk l->TriplesOk (l++[.int a t,.int b u,c])
 | [],_=>trivial
 |.int _ _ :: .int _ _::_::r,h=>O7 (l:=r) h
theorem O8:∀{l:List Value},TriplesOk l->codeAmong pos (l++[.int a t,.int b u,c])=some v->codeAmong pos l=some v\/v=c
 | [],_,h=>by
  have h:(if _ then some c else none)=some v:=h
  split at h
  .cases h; exact .inr rfl
  .cases h
 |.int x _ :: .int y _::z::r,o,h=>by
  have h:(if(x == pos.line&&y == pos.col)=true then some z else codeAmong pos (r++[.int a t,.int b u,c]))=some v:=h
  show(if(x == pos.line&&y == pos.col)=true then some z else codeAmong pos r)=some v\/_
  split at h
  .rename_i q
   rw[if_pos q]
   exact .inl h
  .rename_i q
   rw[if_neg q]
   exact O8 (l:=r) o h
section
variable {X:Cx}{pins:List (Addr × Obj)}{σ : St}{H:Hp}{s:Shared}{sc scope:Scope}{No Ns:List Str}{src:List (Option Nat)}{x:Str}
structure yK(P:Addr)(q:Str)(H H':Hp):Prop where
 kp:∀b o,H b=some o->b≠P->H' b=some o
 tb:∃ps,H' P=some (.cu ps)/\xQ H' q ps
theorem adY(hsc:X.env.scope=sc)(S:yJ sc No x Ns src scope)(hcode:X.env.code=.ref c)(C:CodeHd X.base c P)(B:lO X.mg X.base)
  (hdef:defaultsOf params X.env=([],[])) (I:Inv X pins σ H s) (hP:H P=some (.cu ps)) (ok:xQ H (X.env.qual++("<lambda>" : Str)) ps)
  (h:∀f c' ctv pm H' s' oc,yK P (X.env.qual++("<lambda>" : Str)) H H'→Inv X ((f,kla_obj "<lambda>" (X.env.qual++("<lambda>" : Str)) params body scope (bY X.env.cells scope.names []) pm c' ctv)::pins) σ H' s'→H' c'=some (.cQ oc (.own 0))→NK oc (X.env.qual++("<lambda>" : Str))→Q (.ref f) s') :
  wpAny (model X.prog X.w) A (eval (.Lambda params body scope pos) X.env) Q E s:=by
 have hcl:closureFor scope X.env=pure (bY X.env.cells scope.names []):=CQ λy hy e=>by
  have k:=S.c.free y hy e
  rw[<-hsc]at k
  obtain⟨c,q⟩:=I.ok.has y.1 k
  rw[q]; rfl
 have oP:s.heap.get? P=some (tabObj ps):=I.hok P _ hP
 have nP:mainGlobals≠P:=λz=>by
  obtain⟨o,es,ep,e,hd,_⟩:=I.ok.mod.glob
  have:=(I.bs _ _ e).2
  rw[z,hP]at this
  cases this
 have hg:s.heap.Ns mainGlobals X.mg:=let⟨o,es,ep,e,r⟩:=I.ok.mod.glob; ⟨o,es,ep,I.bk _ _ e,r⟩
 have hB:s.heap.BuiltinsAt X.mg P:=by
  obtain⟨bm,ob,b1,b2,b3,b4,b5,b6,b7⟩:=B
  refine⟨bm,ob,b1,b2,b3,λz=>?_,I.bk _ _ b4,b5,b6,b7⟩
  have:=(I.bs _ _ b4).2
  rw[z,hP]at this
  cases this
 have C':CodeHd s.heap c P:=C.keeps I.bk
 refine kla_eval hdef ?_
 cases hf:codeAmong pos ps.toList with
 |some cv =>
  obtain⟨c',oc,rfl,e1,e2⟩:=ok.2 pos cv hf
  refine kla_makeFunctionHit (mg:=X.mg) hcl I.ok.glob hg hcode C' oP ok.1 hf hB λctv h' tk keep hsz=>?_
  have I1:Inv X pins σ H {s with heap:=h',toks:=tk }:=I.kept keep
  have I2:Inv X pins σ H {s with heap:=h'.push (kla_obj "<lambda>" (X.env.qual++("<lambda>" : Str)) params body scope (bY X.env.cells scope.names []) ((X.mg "__name__").getD .none) c' ctv),toks:=tk }:=I1.kept (t':=tk) λb o e=>Heap.get?_push_of_some _ e
  refine h _ c' ctv _ H _ oc ⟨λ_ _ q _=>q,ps,hP,ok⟩ (I2.pI (I1.jC (Nat.le_refl _) (I1.hok.fresh (Nat.le_refl _))) (Heap.get?_push_size _ rfl) (λv z=>by cases z)) e1 e2
 |none =>
  refine kla_makeFunction (mg:=X.mg) hcl I.ok.glob hg hcode C' oP ok.1 hf nP hB λc' ctv h' tk ext hge hlt hrec htb=>?_
  obtain⟨c2,oc,vs,t,e2,hoc,hd,hv⟩:=hrec
  cases e2
  have nc:H c'=none:=I.hok.fresh hge
  have cP:c'≠P:=λz=>by rw[z,hP]at nc; cases nc
  have ne:∀b u,H b=some u->b≠c':=λb u q=>iD q nc
  have up:∀b u,H b=some u->b≠P->(upd (upd H P (.cu (ps ++ #[rawInt pos.line,rawInt pos.col,.ref c']))) c' (.cQ oc (.own 0))) b=some u:=λb u q z=>by rw[aM (ne b u q),aM z]; exact q
  have DY:(upd (upd H P (.cu (ps ++ #[rawInt pos.line,rawInt pos.col,.ref c']))) c' (.cQ oc (.own 0))) P=some (.cu (ps ++ #[rawInt pos.line,rawInt pos.col,.ref c'])):=by rw[aM (Ne.symm cP)]; exact bW
  have keep:∀b o,b≠P->s.heap.get? b=some o->h'.get? b=some o:=λb o z e=>ext b o z e
  have hok:cA X.prog X.w (upd (upd H P (.cu (ps ++ #[rawInt pos.line,rawInt pos.col,.ref c']))) c' (.cQ oc (.own 0))) h':=λb u q=>by
   by_cases z1:b=c'
   .subst z1
    rw[bW]at q
    cases q
    exact⟨hoc,oc,hoc⟩
   .by_cases z2:b=P
    .subst z2
     rw[DY]at q
     cases q
     exact htb
    .rw[aM z1,aM z2]at q
     refine(I.hok b u q).stay (λd v hd' e=>keep d v ?_ e) (λd z=>up d _ z ?_) λd ys z=>up d _ z ?_
     .rcases hd' with rfl|hd'
      .exact z2
      .rintro rfl
       rw[hP]at hd'
       cases hd'
     .rintro rfl
      rw[hP]at z
      cases z
     .rintro rfl
      rw[hP]at z
      cases z
  have qm:∀b,H b=none->b≠P:=λb n z=>by rw[z,hP]at n; cases n
  have I1:Inv X pins σ (upd (upd H P (.cu (ps ++ #[rawInt pos.line,rawInt pos.col,.ref c']))) c' (.cQ oc (.own 0))) {s with heap:=h',toks:=tk } :=
   I.step (h':=h') (g':=s.gens) (d':=s.drawn) (t':=tk) (ch:=[]) (λ_ z=>nomatch z) (λb o _ _ _ e n=>keep b o (qm b n) e) (λb o _ _ _ e n=>⟨o.slots,keep b o (qm b n) e⟩)
    (λb o _ e n=>by
     rw[aM (λz=>by rw[z]at e; exact absurd (Heap.lt_size e) (Nat.not_lt.mpr hge)),aM (qm b n)]; exact n)
    (λb o _ e=>by
     by_cases z:b=P
     .subst z; exact⟨_,htb⟩
     .exact⟨o,keep b o z e⟩)
    (λb ys q=>up b _ q (by rintro rfl; rw[hP]at q; cases q)) (λb o u q=>up b _ q (by rintro rfl; rw[hP]at q; cases q))
    (λb qs q=>by
     by_cases z:b=P
     .subst z
      rw[hP]at q
      cases q
      exact⟨_,DY⟩
     .exact⟨#[],by rw[up b _ q z]; simp⟩)
    (λm q=>q.extBut ext (qm _ I.free)) hok I.bare
  have I2:=I1.kept (t':=tk) (h':=h'.push (kla_obj "<lambda>" (X.env.qual++("<lambda>" : Str)) params body scope (bY X.env.cells scope.names []) ((X.mg "__name__").getD .none) c' ctv)) λb o e=>Heap.get?_push_of_some _ e
  refine h _ c' ctv _ _ _ oc ⟨up,_,DY,?_,λpos' v q=>?_⟩ (I2.pI (I1.jC (Nat.le_refl _) (I1.hok.fresh (Nat.le_refl _))) (Heap.get?_push_size _ rfl) (λv z=>by cases z)) bW ⟨vs,t,hd,hv⟩
  .have:(ps ++ #[rawInt pos.line,rawInt pos.col,.ref c']).toList=ps.toList++[rawInt pos.line,rawInt pos.col,.ref c']:=by simp
   rw[this]
   exact O7 ok.1
  .have:(ps ++ #[rawInt pos.line,rawInt pos.col,.ref c']).toList=ps.toList++[rawInt pos.line,rawInt pos.col,.ref c']:=by simp
   rw[this]at q
   rcases O8 ok.1 q with q|q
   .obtain⟨d,o,z1,z2,z3⟩:=ok.2 pos' v q
    exact⟨d,o,z1,up d _ z2 (by rintro rfl; rw[hP]at z2; cases z2),z3⟩
   .exact⟨c',oc,q,bW,vs,t,hd,hv⟩
end
noncomputable abbrev KW:=Hp->V->Int × Int->Prop
noncomputable def yL:KW:=λ_ v k=>v=.int k.1/\k.2=0
noncomputable def O9(Kw:KW)(P:Addr)(q:Str)(src:List (Option Nat))(ta:TA)(te:TE):TE:=λσ H Q=>ta σ H λvs H1=>∃(n:Nat) (kz:Nat->Int × Int),vs=[.int n]/\n<64/\(∃ps,H1 P=some (.cu ps)/\xQ H1 q ps)/\∀H2,yK P q H1 H2 ->
 (∀(i:Nat),i<n->∀H3,Same H2 H3->te (some (.int i)::cX src σ) H3 λv H4=>Kw H4 v (kz i)/\Same H3 H4)/\∀D (ys:List Nat) H3,Same H2 H3->H3 D=none->lN n kz ys->Q (.ref D) (upd H3 D (.lst (ys.map λi:Nat=>V.int i)))
section
variable {X:Cx}{sc scope:Scope}{No Ns:List Str}{src:List (Option Nat)}{x:Str}{Kw:KW}{kd:SortKind}
theorem adZ(T:nj X (λH u k=>∃v,RelV v u/\Kw H v k) kd)(mono:∀{H H':Hp} {v k},Same H H'->Kw H v k->Kw H' v k)(inj:∀{pins:List (Addr × Obj)} {σ : St} {H:Hp} {s:Shared},Inv X pins σ H s->∀u k k',(∃v,RelV v u/\Kw H v k)->(∃v,RelV v u/\Kw H v k')->k=k')
  (hr:cR k X.A) (h1:X.mg "sorted" = none) (h2:X.mg "range" = none) (hsc:X.env.scope=sc) (iJ:X.N=No) (S:yJ sc No x Ns src scope) (hcode:X.env.code=.ref c) (C:CodeHd X.base c P) (B:lO X.mg X.base) (hdef:defaultsOf params X.env=([],[]))
  (ha:PA X [e] ta) (hbind:∀(pm cd ctv u:Value),bindArgs (kla_fn "<lambda>" (X.env.qual++("<lambda>" : Str)) params body scope (bY X.env.cells scope.names []) pm cd ctv) ⟨[u],[]⟩=pure [(x,u)])
  (he:∀A f cd s H,PE (yH X A (x::Ns) (X.env.qual++("<lambda>" : Str)) scope f cd s H) body te)
  (hg:X.env.kindOf "sorted" = some .globalImplicit:=by kernel_rfl) (hg2:X.env.kindOf "range" = some .globalImplicit:=by kernel_rfl) (hs:notStar e=true:=by kernel_rfl) :
  PE X (.Call (.Name "sorted" p) [.Call (.Name "range" p2) [e] [] pos2] [⟨some (Str.ofString "key"),.Lambda params body scope alm,kp⟩] pos) (O9 Kw P (X.env.qual++("<lambda>" : Str)) src ta te):=by
 refine⟨λpins s σ H Q I h=>?_⟩
 refine wpAny_Call_Name_kw (kO I hg h1 (by decide +kernel:bootBuiltins "sorted" = some (.builtin "sorted")) ?_ (by decide +kernel) (by kernel_rfl))
 refine callWith_kw (Calls.spliced_cons (wpAny_Call_Name_kw (kO I hg2 h2 boot_range (PyProof.Rows.callWith_type1 (aH (ha pos2 pins s σ H _ I h) λus s1 ⟨vs,H1,I1,r1,q1⟩=>?_) (gC hs) rfl) (by decide +kernel) (by kernel_rfl))))
 obtain⟨n,kz,rfl,h64,⟨ps,hP,ok⟩,hq⟩:=q1
 obtain⟨u1,rfl,t1,rfl⟩:=vals1 r1
 refine call_range_1 ?_
 have rfp:=I1.jC (Nat.le_refl _) (I1.hok.fresh (Nat.le_refl _))
 have I2:Inv X pins σ H1 {s1 with heap:=s1.heap.push {cls:=.type "range",data:=.fields #[.int 0 s1.toks,.int n t1,.int 1 (s1.toks+1)] },toks:=s1.toks+1+1 }:=I1.kept λb o e=>Heap.get?_push_of_some _ e
 have I3:=I2.pI rfp (Heap.get?_push_size _ rfl) (λv z=>by cases z)
 refine Calls.spliced_nil ?_
 refine kws_cons (adY hsc S hcode C B hdef I3 hP ok λf c' ctv pm H2 s2 oc lh I4 e1 e2=>?_)
 refine kws_nil ?_
 have pr:=I4.pin _ (List.mem_append_right _ (List.mem_cons_of_mem _ (List.mem_cons_self ..)))
 obtain⟨key,fin⟩:=hq H2 lh
 refine adV T (λ{H H' u k} sm ⟨v,a1,a2⟩=>⟨v,a1,mono sm a2⟩) inj I4 hr.hd pr.1 h64 (λmO i t s' H' hi sub sm I'=>?_) λs' D ys H3 sm nD I' hs'=>⟨.ref D,_,I'.sub λp hp=>List.mem_cons_of_mem _ (List.mem_cons_of_mem _ hp),rfl,fin D ys H3 sm nD hs'⟩
 have pf:=I'.pin _ (List.mem_append_right _ (sub _ (List.mem_cons_self ..)))
 have hcd:s'.heap.CodeRec (.ref c') (X.env.qual++("<lambda>" : Str)):=by
  obtain⟨vs,t,a1,a2⟩:=e2
  exact⟨c',oc,vs,t,rfl,(I'.hok c' _ (sm _ _ e1)).1,a1,a2⟩
 refine aH (adX (A:=X.A.in1.in1) (v:=.int i) (te:=te) (Q:=λv H4=>Kw H4 v (kz i)/\Same H' H4) hsc iJ S I.ok.frames hr.hd hr.depth I' pf.1 hcd ⟨t,rfl⟩ (hbind _ _ _ _) (λs H=>he _ _ _ _ _) (key i hi H' sm)) λu s'' ⟨v,H4,DX,rv,q1,q2⟩=>⟨H4,q2,⟨v,rv,q1⟩,DX⟩
theorem ad0:nj X (λH u k=>∃v,RelV v u/\yL H v k) oneType' where
 kind:=λH keys kz h2 hk pins σ s Q E I q=>OD.kind H keys kz h2 (λi v e=>by
  obtain⟨w,r,rfl,z⟩:=hk i v e
  obtain⟨t,rfl⟩:=r
  exact⟨t,rfl,z⟩) I q
 ask:=λa₀ kf I h=>OD.ask a₀ kf I λp hp=>by
  obtain⟨w,r,z1,z⟩:=h p hp
  subst z1
  obtain⟨t,r⟩:=r
  exact⟨t,r,z⟩
theorem ad1(_:Inv X pins σ H s)(u:Value)(k k':Int × Int)(h:∃v,RelV v u/\yL H v k)(h':∃v,RelV v u/\yL H v k'):k=k':=by
 obtain⟨v,r,rfl,z⟩:=h
 obtain⟨v',r',rfl,z'⟩:=h'
 obtain⟨t,rfl⟩:=r
 obtain⟨t',r'⟩:=r'
 injection r' with r' _
 exact Prod.ext r' (z.trans z'.symm)
end
noncomputable def ug(K:PySem.W.Frag)(mg:Str->Option Value)(x:Str)(st:Stmt)(c:Addr):Prop:=∃f fd,lA K x x st f fd/\mg x=some (.ref f)/\fd.code=.ref c
section
variable {P:Program}{w:World}{K:PySem.W.Frag}{mg:Str->Option Value}{base:Heap}
theorem ug.ad2{c:Addr}{k:Nat}{x:Str}{st:Stmt}{N ps:List Str}{sp:Sp}(a:ug K mg x st c)(S:oY N ps (bM st))
  (hb:∀(kV doc pm:Value) (an:Option Addr) (cdv ct:Value) (us:List Value),us.length=ps.length->bindArgs (fnOf x x (jD st) (fQ st) (bM st) .none kV doc pm an cdv ct) ⟨us,[]⟩=pure (ps.zip us))
  (len:∀vs H Q E,sp vs H Q E->vs.length=ps.length)
  (hbody:∀(f:Addr) (A:Around) (outer:List Env) (s:Shared) (H:Hp) (vs:List V) (Q:VK) (E:XK),cR k (A.deeper (envOfC x (bM st) s.heap.objs.size f (.ref c)))->sp vs H Q E ->
   ∃t,dj (gA (gD P w) P w K mg base N x (bM st) f (.ref c) A outer s H E) (fQ st) t/\t {nx:=λ_ H'=>Q .non H',rt:=Q } (start N vs) H):jf P w K mg base (k+1) x ps sp:=by
 obtain⟨f,fd,F,m,hc⟩:=a
 refine⟨f,fd,?_,F.binds hb,F.kp,m⟩
 obtain⟨oc,od,kV,doc,pm,an,cdv,ct,osl,rfl,lk,hcd⟩:=F.ex
 have hc:cdv=.ref c:=hc
 subst hc
 exact Cp lk hcd S len λA outer s H vs Q E hr h=>hbody f A outer s H vs Q E hr h
end
noncomputable def uh(K:PySem.W.Frag)(x:Str):Option (Addr × Addr):=match K.lookup mainGlobals with
 |some o=>if o.cls == .type "list" then none else(match nsIn K mainGlobals x with
  | some (some (.ref f))=>(match K.lookup f with
   |some o=>if o.cls == .type "list" then none else(match o.data with
    | .func fd=>(match fd.code with
     | .ref c=>(match K.lookup c with
      |some o=>if o.cls == .type "list" then none else tabIn K x
      |_=>none)
     |_=>none)
    |_=>none)
   |_=>none)
  |_=>none)
 |_=>none
theorem Ea{o:Obj}(h:(o.cls == .type "list")=false):cg o=o:=by
 unfold cg
 rw[if_neg]
 rintro⟨z,_⟩
 rw[z]at h
 exact absurd h (by decide +kernel)
theorem ad3{K:PySem.W.Frag}{x:Str}{o:Obj}(h:K.lookup mainGlobals=some o)(n:(o.cls == .type "list")=false):nsIn (aA K) mainGlobals x=nsIn K mainGlobals x:=by
 have e:(aA K).lookup mainGlobals=K.lookup mainGlobals:=by
  rw[jg,h]
  show some (cg o)=some o
  rw[Ea n]
 unfold nsIn
 rw[e]
theorem Pa{K:PySem.W.Frag}{x:Str}{z:Addr × Addr}(h:uh K x=some z):tabIn K x=some z/\tabIn (aA K) x=some z:=by
 unfold uh at h
 split at h
 .rename_i o1 h1
  split at h
  .cases h
  .rename_i n1
   split at h
   .rename_i f hf
    split at h
    .rename_i o2 h2
     split at h
     .cases h
     .rename_i n2
      split at h
      .rename_i fd hd
       split at h
       .rename_i c hc
        split at h
        .rename_i o3 h3
         split at h
         .cases h
         .rename_i n3
          refine⟨h,?_⟩
          rw[<-h]
          unfold tabIn
          rw[ad3 h1 (by simpa using n1),hf]
          dsimp only
          rw[jg,h2]
          dsimp only[Option.map]
          rw[Ea (by simpa using n2)]
          obtain⟨a1,a2,a3,a4⟩:=o2
          dsimp only at hd
          subst hd
          dsimp only
          rw[hc]
          dsimp only
          rw[jg,h3]
          dsimp only[Option.map]
          rw[Ea (by simpa using n3)]
        .cases h
       .cases h
      .cases h
    .cases h
   .cases h
 .cases h
theorem Eb{o:Obj}{d:Data}(h:(cg o).data=d)(n:d ≠ .fields #[]):cg o=o:=by
 unfold cg at h ⊢
 split at h
 .exact(n h.symm).elim
 .rename_i q
  rw[if_neg q]
theorem Pb{K:PySem.W.Frag}{x:Str}{z:Addr × Addr}(h:tabIn (aA K) x=some z):tabIn K x=some z:=by
 unfold tabIn at h
 split at h
 .rename_i f hf
  have g1:nsIn K mainGlobals x=some (some (.ref f)):=by
   unfold nsIn at hf
   rw[jg]at hf
   cases e:K.lookup mainGlobals with
   |none=>rw[e]at hf; cases hf
   |some o =>
    rw[e]at hf
    unfold nsIn
    rw[e]
    have q:cg o=o:=by
     dsimp only[Option.map]at hf
     split at hf
     .rename_i a b es ep c eq
      have eq:cg o=⟨a,b,.dict es ep,c⟩:=Option.some.inj eq
      exact Eb (d:=.dict es ep) (by rw[eq]) (by intro z; cases z)
     .cases hf
    dsimp only[Option.map]at hf
    rw[q]at hf
    exact hf
  split at h
  .rename_i a b fd osl hfo
   have g2:K.lookup f=some ⟨a,b,.func fd,osl⟩:=by
    rw[jg]at hfo
    cases e:K.lookup f with
    |none=>rw[e]at hfo; cases hfo
    |some o =>
     rw[e]at hfo
     have eq:cg o=⟨a,b,.func fd,osl⟩:=Option.some.inj hfo
     rw[Eb (d:=.func fd) (by rw[eq]) (by intro z; cases z)]at eq
     rw[eq]
   split at h
   .rename_i c hc
    split at h
    .rename_i a' b' vs Pg hco
     split at h
     .rename_i Pp hv
      cases h
      have g3:K.lookup c=some ⟨a',b',.fields vs,Pg⟩:=by
       rw[jg]at hco
       cases e:K.lookup c with
       |none=>rw[e]at hco; cases hco
       |some o =>
        rw[e]at hco
        have eq:cg o=⟨a',b',.fields vs,Pg⟩:=Option.some.inj hco
        rw[Eb (d:=.fields vs) (by rw[eq]) (by intro z; injection z with z; subst z; simp at hv)]at eq
        rw[eq]
      unfold tabIn
      rw[g1]
      dsimp only
      rw[g2]
      dsimp only
      rw[hc]
      dsimp only
      rw[g3]
      dsimp only
      rw[hv]
     .cases h
    .cases h
   .cases h
  .cases h
 .cases h
structure yM(K:PySem.W.Frag)(mg:Str->Option Value)(base:Heap)(x:Str)(c P:Addr):Prop where
 nm:x∈eN
 hd:CodeHd base c P
 bm:lO mg base
 tab:tabIn (aA K) x=some (c,P)
 un:∀x'∈eN,∀c',tabIn (aA K) x'=some (c',P)->x'=x
theorem ad4{K:PySem.W.Frag}{x:Str}{f c P:Addr}{o1:Obj}{oc:Value}{od:Option Addr}{fd:FuncData}{sl:Array (Option Value)}{cc:Value}{cd:Option Addr}{vs:Array Value}{cs:Array (Option Value)}(a:nsIn K mainGlobals x=some (some (.ref f)))(l1:K.lookup mainGlobals=some o1)(n1:(o1.cls == .type "list")=false)
  (l2:K.lookup f=some ⟨oc,od,.func fd,sl⟩) (n2:(oc == .type "list")=false) (hc:fd.code=.ref c) (l3:K.lookup c=some ⟨cc,cd,.fields vs,cs⟩) (n3:(cc == .type "list")=false) (hv:vs[11]?=some (.ref P)):uh K x=some (c,P):=by
 unfold uh
 rw[l1]
 dsimp only
 rw[if_neg (by rw[n1]; exact Bool.false_ne_true),a]
 dsimp only
 rw[l2]
 dsimp only
 rw[if_neg (by rw[n2]; exact Bool.false_ne_true),hc]
 dsimp only
 rw[l3]
 dsimp only
 rw[if_neg (by rw[n3]; exact Bool.false_ne_true)]
 unfold tabIn
 rw[a]
 dsimp only
 rw[l2]
 dsimp only
 rw[hc]
 dsimp only
 rw[l3]
 dsimp only
 rw[hv]
theorem Ph{K:PySem.W.Frag}{x:Str}(a:nsIn K mainGlobals x=some none):tabIn K x=none:=by
 unfold tabIn
 rw[a]
theorem ad5{K:PySem.W.Frag}{mg:Str->Option Value}{base:Heap}{x:Str}{c P:Addr}(nm:x∈eN)(hc:∀x∈eN,∀c b,tabIn K x=some (c,b)->CodeHd base c b)(bm:lO mg base)(q:uh K x=some (c,P))(ho:∀x'∈eN,x'=x\/∀c',tabIn K x'≠some (c',P)):yM K mg base x c P :=
 ⟨nm,hc x nm c P (Pa q).1,bm,(Pa q).2,λx' hx' c' e=>(ho x' hx').elim id λz=>(z c' (Pb e)).elim⟩
end L2
end
section
namespace L2
open PySem PySem.Spec PyProof.Rows
noncomputable abbrev FP:=List Tr->Rs (Tr × Bool)
abbrev yN:List Value:=[.type "ValueError",.type "Exception",.type "BaseException",.type "object"]
noncomputable abbrev tx(cl:Str->Addr)(E:XK)(X:Cx):Tx:=⟨aA X.K,λc H'=>E (.ref (cl c)) none H'⟩
noncomputable def nq(K:PySem.W.Frag)(cl:Str->Addr)(n:Nat)(f:FP):Sp:=λvs H Q E=>∃G ts,vs.length=n/\au (aA K) G vs ts/\Same G H/\bL (aA K) H/\(∀b,Tb (aA K) b->G b=none) /\
 bG ⟨aA K,λc H'=>E (.ref (cl c)) none H'⟩ H (λ_=>[]) (f ts) λp=>∀v G' H',Gw (aA K) G H G' H'->VN (aA K) H G' H' v p.1 p.2->Q v H'
structure Vw(K:PySem.W.Frag)(R:Addr->Prop)(Hs:Hp)(Fs:Fp)(G H:Hp)(F:Fp)(vs:List V)(Ts:List Tr)(bs:List Addr):Prop where
 nd:bs.Nodup
 al:∀b∈bs,(Hs b=none\/Fn Fs b)/\¬Fn F b/\¬R b/\G b=none
 dr:DR K G H vs Ts bs
noncomputable def yP(K:PySem.W.Frag)(cl:Str->Addr)(n:Nat)(f:FP):Sp:=λvs H Q E=>∃G ts,vs.length=n/\au (aA K) G vs ts/\Same G H/\bL (aA K) H/\(∀b,Tb (aA K) b->G b=none) /\
 bG ⟨aA K,λc H'=>E (.ref (cl c)) none H'⟩ H (λ_=>[]) (f ts) λp=>∀v G' H',Gw (aA K) G H G' H'->(∃bs,Vw (aA K) (λ_=>False) H (λ_=>[]) G' H' (λ_=>[]) [v] [p.1] bs)->Q v H'
noncomputable def Gk(K:PySem.W.Frag)(mg:Str->Option Value)(x:Str)(v:V)(T:Tr):Prop:=∃u,mg x=some u/\RelV v u/\∀H,Rep (aA K) H v T
inductive Ey
 |fn (x:Str) (ps:List Str) (f:FP) (l:Nat)
 |fd (x:Str) (ps:List Str) (f:FP) (l:Nat)
 |gk (x:Str) (T:Tr)
structure Cc where
 P:Program
 w:World
 K:PySem.W.Frag
 mg:Str->Option Value
 base:Heap
 cl:Str->Addr
noncomputable def Ey.jX(c:Cc):Ey->Prop
 |.fn x ps f l=>jf c.P c.w c.K c.mg c.base l x ps (nq c.K c.cl ps.length f)
 |.fd x ps f l=>jf c.P c.w c.K c.mg c.base l x ps (yP c.K c.cl ps.length f)
 |.gk x T=>∃v,Gk c.K c.mg x v T
noncomputable abbrev Ey.ok(cl:Str->Addr)(X:Cx)(y:Ey):Prop:=y.jX ⟨X.prog,X.w,X.K,X.mg,X.base,cl⟩
structure Gx where
 N:List Str
 sc:Scope
 fn:Str->Bool
 B:List Str
 R:List Str
 nx:Bool
 k:Nat
 L:List Str
structure Ox(cl:Str->Addr)(Γ : Gx)(E:XK)(X:Cx):Prop where
 N:X.N = Γ.N
 s:X.env.scope = Γ.sc
 d:X.N.Nodup
 l:X.calm=true
 r:cR Γ.k X.A
 e:Passes (gD X.prog X.w) X E
 B:∀x∈Γ.B,X.mg x=none
 R:∀x∈Γ.R,OwnCls x (cl x) yN "ValueError.__new__" X.mg X.base/\Raises X E
 x:lC X.K
 f:X.fn = Γ.fn
 n : Γ.nx=true->X.xe=λ_ _=>False
 lm:∀x∈Γ.L,∃c P,yM X.K X.mg X.base x c P/\X.env.code=.ref c/\X.env.qual++("<lambda>" : Str)=xP x
structure Vn{τ : Type}(J:(Str->Addr)->XK->Cx -> τ -> Prop) where
 ck:Gx -> τ -> Bool
 cs:List Ey
 ok:∀{cl E Γ X e},(∀y∈cs,y.ok cl X)->Ox cl Γ E X->ck Γ e=true->J cl E X e
noncomputable abbrev VE(f:EF):=Vn λcl E X e=>PE X e (Te (tx cl E X) f)
noncomputable abbrev VT(f:BF):=Vn λcl E X e=>PT X e (Tt (tx cl E X) f)
noncomputable abbrev VO(f:OF):=Vn λcl E X e=>PO X e (To (tx cl E X) f)
noncomputable abbrev VA(f:AF):=Vn λcl E X e=>PA X e (Ta (tx cl E X) f)/\(∀ρ p,f ρ=.ok p->p.1.length=e.length)/\∀x∈e,notStar x=true
theorem an{a b:Bool}:(a&&b)=true↔a=true/\b=true:=by simp
theorem ml{P:Ey->Prop}{l m:List Ey}(h:∀y∈l++m,P y):∀y∈l,P y:=λy q=>h y (List.mem_append_left _ q)
theorem mr{P:Ey->Prop}{l m:List Ey}(h:∀y∈l++m,P y):∀y∈m,P y:=λy q=>h y (List.mem_append_right _ q)
theorem PT.imp(h:PT X e t)(i:∀σ H Q,u σ H Q->t σ H Q):PT X e u:=⟨λpins s σ H Q I q=>h pins s σ H Q I (i σ H Q q)⟩
theorem PO.imp(h:PO X e t)(i:∀σ H Q,u σ H Q->t σ H Q):PO X e u:=λpins s σ H Q I q=>h pins s σ H Q I (i σ H Q q)
noncomputable def iC(i:Nat):EF:=λρ=>match ρ[i]? with
 |some (.sh T)=>.ok (.v T false,ρ)
 |some (.ow _)=>.ok (.s i,ρ)
 |some (.rf _)=>.ok (.s i,ρ)
 |_=>.bad
noncomputable def g8(Γ : Gx)(i:Nat)(x:Str):Bool := Γ.N[i]? == some x&&(Γ.sc.names.lookup x == some .local || Γ.sc.names.lookup x == some .cell || Γ.sc.names.lookup x == some .free) && !(x == ("__debug__" : Str)) && !(x == ("__classdict__" : Str))
theorem jY(o:Ox cl Γ E X)(h:g8 Γ i x=true):PE X (.Name x p) (sJ i):=by
 simp only[g8,an]at h
 obtain⟨⟨⟨h1,h2⟩,h3⟩,h4⟩:=h
 exact KN (by rw[o.N]; exact eq_of_beq h1) (by rw[o.s]; unfold wj; simpa[or_assoc]using h2) (by simpa using h3) (by simpa using h4)
theorem ad6(h:Te t (iC i) σ H Q):sJ i σ H Q:=by
 obtain⟨R,ρ,G,F,e,h⟩:=h
 have z:=e.sl i
 unfold iC at h
 split at h <;> rename_i k <;> (try exact h.elim) <;> rw[k]at z
 .obtain⟨_,v,h1,h2⟩:=z
  exact⟨v,h1,h v G H F e .refl (.low h2)⟩
 all_goals
  obtain⟨a,xs,h1,_⟩:=z
  exact⟨_,h1,h _ G H F e .refl h1⟩
noncomputable def aj(i:Nat):VE (iC i) where
 ck Γ e:=atName e λx _=>g8 Γ i x
 cs:=[]
 ok _ o h:=by
  walk_at "o"
  exact(jY o h).imp λ_ _ _=>ad6
noncomputable def eC(T:Tr):EF:=λρ=>.ok (.v T false,ρ)
theorem um(r:∀H,Rep t.K H v T)(h:Te t (eC T) σ H Q):tC v σ H Q:=by
 obtain⟨R,ρ,G,F,e,h⟩:=h
 exact h v G H F e .refl (.low (r _))
noncomputable def vC(T:Tr):VE (eC T) where
 ck _ e:=match e,T with
  |.Constant (.int i) _ _,.int j=>decide (i=j)
  |.Constant (.str i) _ _,.str j=>i == j
  |.Constant (.bool i) _ _,.bl j=>i == j
  |.Constant .none _ _,.non=>true
  |_,_=>false
 cs:=[]
 ok _ o h:=by
  split at h
  .cases of_decide_eq_true h; exact wJ.imp λ_ _ _=>um λ_=>.int _
  .cases eq_of_beq h; exact KY.imp λ_ _ _=>um λ_=>.str _
  .cases eq_of_beq h; exact KQ.imp λ_ _ _=>um λ_=>.bl _
  .exact KR.imp λ_ _ _=>um λ_=>.non
  .cases h
noncomputable def jZ(Γ : Gx)(x:Str):Bool := Γ.sc.names.lookup x == some .globalImplicit && !(x == ("__debug__" : Str))
theorem dN(o:Ox cl Γ E X)(h:jZ Γ x=true):Gl X x/\(x == ("__debug__" : Str))=false:=by
 simp only[jZ,an]at h
 exact⟨by show X.env.scope.names.lookup _=_; rw[o.s]; exact eq_of_beq h.1,by simpa using h.2⟩
noncomputable def vG(x:Str)(T:Tr):VE (eC T) where
 ck Γ e:=atName e λy _=>x == y&&jZ Γ x
 cs:=[.gk x T]
 ok g o h:=by
  walk_at "o"
  simp only[an]at h
  cases eq_of_beq h.1
  obtain⟨v,u,h1,h2,h3⟩:=g _ (List.mem_singleton.mpr rfl)
  exact(aaq (dN o h.2).1 h1 h2 (dN o h.2).2).imp λ_ _ _=>um h3
section
variable {t:Tx}{R:Addr->Prop}{ρ : En}{σ : St}{G H G0 H0 G' H':Hp}{F F0:Fp}{Q:VK}
theorem Ok.fin(e:Ok t.K R ρ σ G H F)(s:aF t.K G0 H0 F0 G H F)(w:Gw t.K G H G' H')(n:VN t.K H G' H' v T fr)(h:∀v G' H' F',Ok t.K R ρ σ G' H' F'->aF t.K G0 H0 F0 G' H' F'->eO t.K σ H0 G' H' F' v (.v T fr)->Q v H'):Q v H':=by
 obtain⟨e',s'⟩:=e.grow w
 exact h v G' H' F e' (s.trans s') ((n.ok e).back s.dm)
noncomputable def pJ(g:G2)(fa fb:EF):EF:=λρ=>(fa ρ).bind λp=>(fb p.2).bind λq=>(dr q.2 p.1).bind λa=>(dr q.2 q.1).bind λb=>(g a b).bind λz=>.ok (.v z.1 z.2,q.2)
theorem yQ(o:cU t.K r g)(h:Te t (pJ g fa fb) σ H Q):sV r (Te t fa) (Te t fb) σ H Q:=by
 obtain⟨R,ρ,G,F,e,h⟩:=h
 refine dM e .refl h λp h x G1 H1 F1 e1 s1 v1=>dM e1 s1 h λq h y G2 H2 F2 e2 s2 v2=>?_
 obtain⟨a,k1,h⟩:=h.okb (gY _ _)
 obtain⟨b,k2,h⟩:=h.okb (gY _ _)
 obtain⟨z,k3,h⟩:=h.okb (o.nx a b)
 refine o.ok G2 H2 x y a b Q e2.sub (gZ e2 (v1.step e1.tb s2) k1) (gZ e2 v2 k2) (by rw[k3]; exact λv G' H' w vn=>e2.fin (s1.trans s2) w.gw vn h)
noncomputable def v2(o:Operator)(r:PySem.W.Frag->R2)(g:G2)(hp:∀X,bh X (binaryOp o) (r X.K))(hs:∀K,cU (aA K) (r K) g)(a:VE aB)(b:VE bN):VE (pJ g aB bN) where
 ck Γ e:=yc e λx p y _=>decide (p=o)&&a.ck Γ x&&b.ck Γ y
 cs:=a.cs++b.cs
 ok q O h:=by
  walk_at "o"
  simp only[an]at h
  cases of_decide_eq_true h.1.1
  exact(wU (hp _) (a.ok (ml q) O h.1.2) (b.ok (mr q) O h.2)).imp λ_ _ _=>yQ (hs _)
noncomputable def Ec(g:G1)(fa:EF):EF:=λρ=>(fa ρ).bind λp=>(dr p.2 p.1).bind λa=>(g a).bind λz=>.ok (.v z.1 z.2,p.2)
theorem ad7(o:lH t.K r g)(h:Te t (Ec g fa) σ H Q):Lj r (Te t fa) σ H Q:=by
 obtain⟨R,ρ,G,F,e,h⟩:=h
 refine dM e .refl h λp h x G1 H1 F1 e1 s1 v1=>?_
 obtain⟨a,k1,h⟩:=h.okb (gY _ _)
 obtain⟨z,k3,h⟩:=h.okb (o.nx a)
 exact o.ok G1 H1 x a Q e1.sub (gZ e1 v1 k1) (by rw[k3]; exact λv G' H' w vn=>e1.fin s1 w.gw vn h)
noncomputable def Ed(a:VE aB):VE (Ec ql aB) where
 ck Γ e:=pC e λaK x _=>jk aK .USub (a.ck Γ x)
 cs:=a.cs
 ok q O h:=by
  walk_at "o"
  exact(Cd Cg (a.ok q O h)).imp λ_ _ _=>ad7 N8
noncomputable def gJ(fa:EF):BF:=λρ=>(fa ρ).bind λp=>(dr p.2 p.1).bind λa=>(qj a).bind λb=>.ok (b,p.2)
theorem uo{Q:Bool->Hp->Prop}(h:Tt t (gJ fa) σ H Q):mU (Te t fa) σ H Q:=by
 obtain⟨R,ρ,G,F,e,h⟩:=h
 refine dM e .refl h λp h x G1 H1 F1 e1 s1 v1=>?_
 obtain⟨a,k1,h⟩:=h.okb (gY _ _)
 obtain⟨b,k2,h⟩:=h.okb (Oh _)
 exact⟨b,Oi (gZ e1 v1 k1) k2,h G1 H1 F1 e1 s1⟩
noncomputable def Ef(fa:EF):BF:=λρ=>(fa ρ).bind λp=>(dr p.2 p.1).bind λa=>(mH a).bind λb=>.ok (b,p.2)
noncomputable def Eh(f g:BF):BF:=λρ=>(f ρ).bind λp=>if p.1=true then g p.2 else .ok (false,p.2)
noncomputable def Ei(f g:BF):BF:=λρ=>(f ρ).bind λp=>if p.1=true then .ok (true,p.2)else g p.2
noncomputable def yR(f:BF):BF:=λρ=>(f ρ).bind λp=>.ok (!p.1,p.2)
theorem bG.go{α : Type}{r:Rs α}{P P' : α -> Prop}(s:aF t.K G0 H0 F0 G H F)(h:bG t H0 F0 r P)(k:∀a,P a->P' a):bG t H F r P':=by
 cases r with
 |bad=>exact h
 |ex c=>exact λH' f=>h H' (s.back f)
 |ok a=>exact k a h
theorem yS(e:Ok t.K R ρ σ G H F)(s:aF t.K G0 H0 F0 G H F)(h:bG t H0 F0 (f ρ) λp=>∀v G' H' F',Ok t.K R p.2 σ G' H' F'->aF t.K G0 H0 F0 G' H' F'->eO t.K σ H0 G' H' F' v p.1->Q v H'):Te t f σ H Q :=
 ⟨R,ρ,G,F,e,h.go s λp h v G' H' F' e' s' v'=>h v G' H' F' e' (s.trans s') (v'.back s.dm)⟩
theorem Pk{Q:Bool->Hp->Prop}(e:Ok t.K R ρ σ G H F)(s:aF t.K G0 H0 F0 G H F)(h:bG t H0 F0 (f ρ) λp=>∀G' H' F',Ok t.K R p.2 σ G' H' F'->aF t.K G0 H0 F0 G' H' F'->Q p.1 H'):Tt t f σ H Q :=
 ⟨R,ρ,G,F,e,h.go s λp h G' H' F' e' s'=>h G' H' F' e' (s.trans s')⟩
theorem ad8{Q:Bool->Hp->Prop}(h:Tt t (yR f) σ H Q):K3 (Tt t f) σ H Q:=by
 obtain⟨R,ρ,G,F,e,h⟩:=h
 exact lF e .refl h λp h G1 H1 F1 e1 s1=>h G1 H1 F1 e1 s1
theorem ad9{Q:Bool->Hp->Prop}(h:Tt t (Eh f g) σ H Q):KZ (Tt t f) (Tt t g) σ H Q:=by
 obtain⟨R,ρ,G,F,e,h⟩:=h
 refine lF e .refl h λp h G1 H1 F1 e1 s1=>?_
 split at h <;> rename_i c
 .rw[if_pos c]; exact Pk e1 s1 h
 .rw[if_neg c]; exact h G1 H1 F1 e1 s1
theorem aea{Q:Bool->Hp->Prop}(h:Tt t (Ei f g) σ H Q):K1 (Tt t f) (Tt t g) σ H Q:=by
 obtain⟨R,ρ,G,F,e,h⟩:=h
 refine lF e .refl h λp h G1 H1 F1 e1 s1=>?_
 split at h <;> rename_i c
 .rw[if_pos c]; exact h G1 H1 F1 e1 s1
 .rw[if_neg c]; exact Pk e1 s1 h
noncomputable def eB(b:Bool):Rv:=.v (.bl b) false
noncomputable def Ej(f g:EF):EF:=λρ=>(gJ f ρ).bind λp=>if p.1=true then g p.2 else .ok (eB false,p.2)
noncomputable def Ek(f g:EF):EF:=λρ=>(gJ f ρ).bind λp=>if p.1=true then .ok (eB true,p.2)else g p.2
noncomputable def El(f:EF):EF:=λρ=>(gJ f ρ).bind λp=>.ok (eB (!p.1),p.2)
noncomputable def uq(c:BF)(f g:EF):EF:=λρ=>(c ρ).bind λp=>if p.1=true then f p.2 else g p.2
theorem aeb(h:Te t (uq c f g) σ H Q):K7 (Tt t c) (Te t f) (Te t g) σ H Q:=by
 obtain⟨R,ρ,G,F,e,h⟩:=h
 refine lF e .refl h λp h G1 H1 F1 e1 s1=>?_
 split at h <;> rename_i c
 .rw[if_pos c]; exact yS e1 s1 h
 .rw[if_neg c]; exact yS e1 s1 h
theorem aec(h:Te t (Ej f g) σ H Q):K4 (Te t f) (Te t g) σ H Q:=by
 obtain⟨R,ρ,G,F,e,h⟩:=h
 refine uo (lF (f:=gJ f) e .refl h λp h G1 H1 F1 e1 s1=>?_)
 split at h <;> rename_i c
 .rw[if_pos c]; exact yS e1 s1 h
 .rw[if_neg c]; exact h _ G1 H1 F1 e1 s1 (.low (.bl _))
theorem aed(h:Te t (Ek f g) σ H Q):K5 (Te t f) (Te t g) σ H Q:=by
 obtain⟨R,ρ,G,F,e,h⟩:=h
 refine uo (lF (f:=gJ f) e .refl h λp h G1 H1 F1 e1 s1=>?_)
 split at h <;> rename_i c
 .rw[if_pos c]; exact h _ G1 H1 F1 e1 s1 (.low (.bl _))
 .rw[if_neg c]; exact yS e1 s1 h
theorem aee(h:Te t (El f) σ H Q):K6 (Te t f) σ H Q:=by
 obtain⟨R,ρ,G,F,e,h⟩:=h
 exact uo (lF (f:=gJ f) e .refl h λp h G1 H1 F1 e1 s1=>h _ G1 H1 F1 e1 s1 (.low (.bl _)))
end
noncomputable def Pn(a:VE aB):VE (El aB) where
 ck Γ e:=pC e λaK x _=>jk aK .Not (a.ck Γ x)
 cs:=a.cs
 ok q O h:=by
  walk_at "o"
  exact(aaA (a.ok q O h)).imp λ_ _ _=>aee
noncomputable abbrev VQ(f:EF):=Vn λcl E X e=>PE X e (Te (tx cl E X) f)/\PT X e (Tt (tx cl E X) (gJ f))
noncomputable def vK(a:VQ f):VE f:=⟨a.ck,a.cs,λq O h=>(a.ok q O h).1⟩
noncomputable def tK(a:VQ f):VT (gJ f):=⟨a.ck,a.cs,λq O h=>(a.ok q O h).2⟩
theorem mU.imp{a b:TE}(i:∀Q,a σ H Q->b σ H Q)(h:mU a σ H Q):mU b σ H Q:=i _ h
structure Cq(g:G2) where
 o:CmpOp
 r:PySem.W.Frag->R2
 p:∀X:Cx,X.A.units+64<cLine->bh X (compareOp o) (r X.K)
 s:∀K,cU (aA K) (r K) g
theorem qP(o:Ox cl Γ E X):X.A.units+64<cLine:=by have:=o.r.un; lia
noncomputable def aL(z:Cq g)(a:VE aB)(b:VE bN):VQ (pJ g aB bN) where
 ck Γ e:=tV e λx aK bw _=>aP aK λp bD=>aW bD (aP bw λy bO=>aW bO (decide (p=z.o)&&a.ck Γ x&&b.ck Γ y && !behindInMarks p y))
 cs:=a.cs++b.cs
 ok q O h:=by
  walk_at "o"
  simp only[an]at h
  obtain⟨⟨⟨h1,h2⟩,h3⟩,h4⟩:=h
  cases of_decide_eq_true h1
  have pa:=a.ok (ml q) O h2
  have pb:=b.ok (mr q) O h3
  have h4:=(Bool.not_eq_true' _).mp h4
  exact⟨(abk (z.p _ (qP O)) pa pb h4).imp λ_ _ _=>yQ (z.s _),(abl (z.p _ (qP O)) pa pb h4).imp λ_ _ _ h=>mU.imp (λ_=>yQ (z.s _)) (uo h)⟩
noncomputable def Em(g g':G2)(fa fb fc:EF):EF:=λρ=>(fa ρ).bind λp=>(fb p.2).bind λq=>(dr q.2 p.1).bind λa=>(dr q.2 q.1).bind λb=>(g a b).bind λz=>(qj z.1).bind λk =>
 if k=true then(fc q.2).bind λs=>(dr s.2 q.1).bind λb=>(dr s.2 s.1).bind λc=>(g' b c).bind λz=>.ok (.v z.1 z.2,s.2)else .ok (eB false,q.2)
theorem Pq(o:cU t.K r g)(o':cU t.K r' g')(h:Te t (Em g g' fa fb fc) σ H Q):Ci r r' (Te t fa) (Te t fb) (Te t fc) σ H Q:=by
 obtain⟨R,ρ,G,F,e,h⟩:=h
 refine dM e .refl h λp h x G1 H1 F1 e1 s1 v1=>dM e1 s1 h λq h y G2 H2 F2 e2 s2 v2=>?_
 obtain⟨a,k1,h⟩:=h.okb (gY _ _)
 obtain⟨b,k2,h⟩:=h.okb (gY _ _)
 obtain⟨z,k3,h⟩:=h.okb (o.nx a b)
 obtain⟨k,k4,h⟩:=h.okb (Oh _)
 refine o.ok G2 H2 x y a b _ e2.sub (gZ e2 (v1.step e1.tb s2) k1) (gZ e2 v2 k2) (by
  rw[k3]
  refine λv G3 H3 w vn=>?_
  obtain⟨e3,s3⟩:=e2.grow w.gw
  have Eo:=(s1.trans s2).trans s3
  refine⟨k,Oi (K:=t.K) (G:=G3) (H:=H3) (.inl ?_) k4,?_⟩
  .obtain⟨T,fr⟩:=z
   cases fr
   .exact vn
   .obtain⟨_,_,_,_,rfl,_⟩:=vn; cases k4
  split at h <;> rename_i c
  .rw[if_pos c]
   refine dM e3 Eo h λu h w G4 H4 F4 e4 s4 v4=>?_
   obtain⟨b',k5,h⟩:=h.okb (gY _ _)
   obtain⟨c',k6,h⟩:=h.okb (gY _ _)
   obtain⟨z',k7,h⟩:=h.okb (o'.nx b' c')
   exact o'.ok G4 H4 y w b' c' Q e4.sub (gZ e4 ((v2.step e2.tb s3).step e3.tb s4) k5) (gZ e4 v4 k6) (by rw[k7]; exact λv G' H' w vn=>e4.fin (Eo.trans s4) w.gw vn h)
  .rw[if_neg c]
   exact h _ G3 H3 F2 e3 Eo (.low (.bl _)))
noncomputable def qQ(z:Cq g)(z':Cq g')(a:VE aB)(b:VE bN)(d:VE d_f):VQ (Em g g' aB bN d_f) where
 ck Γ e:=tV e λx aK bw _=>aP aK λp bD=>aP bD λp' bO=>aW bO (aP bw λy dw=>aP dw λw fC=>aW fC (decide (p=z.o)&&decide (p'=z'.o)&&a.ck Γ x&&b.ck Γ y&&d.ck Γ w && !lastMarks [p,p'] [y,w]))
 cs:=a.cs++(b.cs++d.cs)
 ok q O h:=by
  walk_at "o"
  simp only[an]at h
  obtain⟨⟨⟨⟨⟨h1,h2⟩,h3⟩,h4⟩,h5⟩,h6⟩:=h
  cases of_decide_eq_true h1
  cases of_decide_eq_true h2
  have pa:=a.ok (ml q) O h3
  have pb:=b.ok (ml (mr q)) O h4
  have pd:=d.ok (mr (mr q)) O h5
  have h6:=(Bool.not_eq_true' _).mp h6
  exact⟨(abm (z.p _ (qP O)) (z'.p _ (qP O)) pa pb pd h6).imp λ_ _ _=>Pq (z.s _) (z'.s _),(abn (z.p _ (qP O)) (z'.p _ (qP O)) pa pb pd h6).imp λ_ _ _ h=>mU.imp (λ_=>Pq (z.s _) (z'.s _)) (uo h)⟩
noncomputable def bR(a:VT aB):VT (yR aB) where
 ck Γ e:=pC e λaK x _=>jk aK .Not (a.ck Γ x)
 cs:=a.cs
 ok q O h:=by
  walk_at "o"
  exact(aaw (a.ok q O h)).imp λ_ _ _=>ad8
noncomputable def Pu:Expr->Bool
 |.UnaryOp .Not _ _=>false
 |.BoolOp .. => false
 |.IfExp .. => false
 |.Compare .. => false
 |_=>true
theorem aef(h:Pu e=true):∀whole,isTrue e env whole=(do let v <-whole; standAt e.pos; holding [v] (truthy v)):=by
 intro w
 cases e <;> try cases h
 all_goals first|rfl|skip
 next o _ _=>cases o <;> first|rfl|cases h
noncomputable def bH(a:VE aB):VT (Ef aB) where
 ck Γ e:=Pu e&&a.ck Γ e
 cs:=a.cs
 ok q O h:=by
  simp only[an]at h
  refine(abp (a.ok q O h.2) (aef h.1)).imp λσ H Q=>bB λR ρ G F e h=>dM e .refl h λp h x G1 H1 F1 e1 s1 v1=>?_
  obtain⟨a,k1,h⟩:=h.okb (gY _ _)
  obtain⟨b,k2,h⟩:=h.okb (adA _)
  exact⟨b,adB e1.sub (gZ e1 v1 k1) k2,h G1 H1 F1 e1 s1⟩
theorem PW.imp(h:PW X e t)(i:∀σ H Q,u σ H Q->t σ H Q):PW X e u:=⟨λwh pins s σ H Q I q=>h.run wh pins s σ H Q I (i σ H Q q)⟩
noncomputable abbrev VW(b:BoolOp)(f:BF):=Vn λcl E X e=>∀p,PW X (.BoolOp b e p) (Tt (tx cl E X) f)
noncomputable def w1(b:BoolOp)(a:VT aB):VW b (aB) where
 ck Γ e:=aP e λx aK=>aW aK (a.ck Γ x)
 cs:=a.cs
 ok q O h:=by
  walk_at "o"
  exact λp=>by cases b <;> first|exact aas (a.ok q O h)|exact aat (a.ok q O h)
noncomputable def wA(a:VT aB)(r:VW .And cV):VW .And (Eh aB cV) where
 ck Γ e:=aP e λx aK=>aP aK λy l=>a.ck Γ x&&r.ck Γ (y::l)
 cs:=a.cs++r.cs
 ok q O h:=by
  walk_at "o"
  simp only[an]at h
  exact λp=>(aau (a.ok (ml q) O h.1) (r.ok (mr q) O h.2 p)).imp λ_ _ _=>ad9
noncomputable def wO(a:VT aB)(r:VW .Or cV):VW .Or (Ei aB cV) where
 ck Γ e:=aP e λx aK=>aP aK λy l=>a.ck Γ x&&r.ck Γ (y::l)
 cs:=a.cs++r.cs
 ok q O h:=by
  walk_at "o"
  simp only[an]at h
  exact λp=>(aav (a.ok (ml q) O h.1) (r.ok (mr q) O h.2 p)).imp λ_ _ _=>aea
noncomputable def tW(b:BoolOp)(r:VW b cV):VT (cV) where
 ck Γ e:=tX e λp l _=>decide (p=b)&&r.ck Γ l
 cs:=r.cs
 ok q O h:=by
  walk_at "o"
  simp only[an]at h
  cases of_decide_eq_true h.1
  exact(r.ok q O h.2 _).pt
noncomputable abbrev VV(b:BoolOp)(f:EF):=Vn λcl E X e=>∀p,PE X (.BoolOp b e p) (Te (tx cl E X) f)
noncomputable def u1(b:BoolOp)(a:VE aB):VV b (aB) where
 ck Γ e:=aP e λx aK=>aW aK (a.ck Γ x)
 cs:=a.cs
 ok q O h:=by
  walk_at "o"
  exact λp=>aax (a.ok q O h)
noncomputable def uA(a:VE aB)(r:VV .And cV):VV .And (Ej aB cV) where
 ck Γ e:=aP e λx aK=>aP aK λy l=>a.ck Γ x&&r.ck Γ (y::l)
 cs:=a.cs++r.cs
 ok q O h:=by
  walk_at "o"
  simp only[an]at h
  exact λp=>(aay (a.ok (ml q) O h.1) (r.ok (mr q) O h.2 p)).imp λ_ _ _=>aec
noncomputable def uO(a:VE aB)(r:VV .Or cV):VV .Or (Ek aB cV) where
 ck Γ e:=aP e λx aK=>aP aK λy l=>a.ck Γ x&&r.ck Γ (y::l)
 cs:=a.cs++r.cs
 ok q O h:=by
  walk_at "o"
  simp only[an]at h
  exact λp=>(aaz (a.ok (ml q) O h.1) (r.ok (mr q) O h.2 p)).imp λ_ _ _=>aed
noncomputable def vV(b:BoolOp)(r:VV b cV):VE (cV) where
 ck Γ e:=tX e λp l _=>decide (p=b)&&r.ck Γ l
 cs:=r.cs
 ok q O h:=by
  walk_at "o"
  simp only[an]at h
  cases of_decide_eq_true h.1
  exact r.ok q O h.2 _
noncomputable def yU(t:VT Ep)(a:VE aB)(b:VE bN):VE (uq Ep aB bN) where
 ck Γ e:=yd e λz x y _=>t.ck Γ z&&a.ck Γ x&&b.ck Γ y
 cs:=t.cs++(a.cs++b.cs)
 ok q O h:=by
  walk_at "o"
  simp only[an]at h
  exact(aaB (t.ok (ml q) O h.1.1) (a.ok (ml (mr q)) O h.1.2) (b.ok (mr (mr q)) O h.2)).imp λ_ _ _=>aeb
noncomputable def qR:Expr->Bool
 |.Slice .. => false
 |_=>true
theorem yV(h:qR b=true):Mx b:=λo i=>by
 cases b <;> first|rfl|cases h
noncomputable def aq(a:VE aB)(b:VE bN):VE (pJ aY aB bN) where
 ck Γ e:=jV e λx y _=>qR y&&a.ck Γ x&&b.ck Γ y
 cs:=a.cs++b.cs
 ok q O h:=by
  walk_at "o"
  simp only[an]at h
  exact(wZ w6 (a.ok (ml q) O h.1.2) (b.ok (mr q) O h.2) (yV h.1.1)).imp λ_ _ _=>yQ N7
section
variable {t:Tx}{K:PySem.W.Frag}{R:Addr->Prop}{ρ : En}{σ : St}{G H G0 H0 G' H':Hp}{F F0:Fp}{Q:VK}
theorem dK.step(tb:bL K H)(s:aF K G H F G' H' F'):∀{vs:List V} {rs:List Rv},dK K σ Hs G H F vs rs->dK K σ Hs G' H' F' vs rs
 |_,_,.nil=>.nil
 |_,_,.cons h r=>.cons (h.step tb s) (dK.step tb s r)
theorem dK.back(d:∀b,H1 b=none->H b=none):∀{vs:List V} {rs:List Rv},dK K σ H1 G' H' F' vs rs->dK K σ H G' H' F' vs rs
 |_,_,.nil=>.nil
 |_,_,.cons h r=>.cons (h.back d) (dK.back d r)
theorem dK.length:∀{vs:List V} {rs:List Rv},dK K σ Hs G H F vs rs->vs.length=rs.length
 |_,_,.nil=>rfl
 |_,_,.cons _ r=>by rw[List.length_cons,List.length_cons,dK.length r]
noncomputable def drs(ρ : En):List Rv->Rs (List Tr)
 | []=>.ok []
 |r::rs=>(dr ρ r).bind λt=>(drs ρ rs).bind λts=>.ok (t::ts)
theorem yW{α β : Type}{r:Rs α}{f : α -> Rs β}(h1:∀c,r ≠ .ex c)(h2:∀a c,f a ≠ .ex c)(c:Str):r.bind f ≠ .ex c:=by
 cases r with
 |bad=>intro z; cases z
 |ex d=>exact(h1 d rfl).elim
 |ok a=>exact h2 a c
theorem dX{α β : Type}{r:Rs α}{f : α -> Rs β}{b : β}(h:r.bind f=.ok b):∃a,r=.ok a/\f a=.ok b:=by
 cases r with
 |bad=>cases h
 |ex c=>cases h
 |ok a=>exact⟨a,rfl,h⟩
theorem ur(ρ : En):∀(rs:List Rv) (c:Str),drs ρ rs ≠ .ex c
 | [],c=>by intro z; cases z
 |r::rs,c=>yW (gY ρ r) (λ_=>yW (ur ρ rs) λ_ _ z=>by cases z) c
theorem uw(e:Ok K R ρ σ G H F):∀{vs:List V} {rs:List Rv} {ts:List Tr},dK K σ Hs G H F vs rs->drs ρ rs=.ok ts->lG K G H vs ts
 |_,_,_,.nil,q=>by cases q; exact .nil
 |_,_,_,.cons h r,q=>by
  obtain⟨t,q1,q⟩:=dX q
  obtain⟨ts,q2,q⟩:=dX q
  cases q
  exact .cons (gZ e h q1) (uw e r q2)
noncomputable def cls:List Rv->Rs (List Tr)
 | []=>.ok []
 |.v t _::rs=>(cls rs).bind λts=>.ok (t::ts)
 |.s _::_=>.bad
theorem qT:∀(rs:List Rv) (c:Str),cls rs ≠ .ex c
 | [],c=>by intro z; cases z
 |.s _::_,c=>by intro z; cases z
 |.v t _::rs,c=>yW (qT rs) (λ_ _ z=>by cases z) c
theorem dK.vis(nR:∀b,Hs b=none->¬R b){rs:List Rv}:∀{vs:List V} {ts:List Tr} {G1:Hp},dK K σ Hs G H F vs rs->cls rs=.ok ts->Same G G1->Ok K R ρ σ G1 H F->(∀b,G1 b≠none->G b≠none\/Hs b=none) ->
  ∃G2,Same G1 G2/\Ok K R ρ σ G2 H F/\(∀b,G2 b≠none->G b≠none\/Hs b=none)/\au K G2 vs ts:=by
 induction rs with
 |nil =>
  intro vs ts G1 h q _ e n
  cases h
  cases q
  exact⟨G1,Same.refl _,e,n,.nil⟩
 |cons r0 rs ih =>
  intro vs ts G1 h q m e n
  cases h with
  |cons h r =>
   cases r0 with
   |s _=>cases q
   |v T fr =>
    obtain⟨ts,q1,q⟩:=dX q
    cases q
    cases fr with
    |false =>
     obtain⟨G2,m2,e2,n2,r2⟩:=ih r q1 m e n
     exact⟨G2,m2,e2,n2,.cons (Rep.mono (m.trans m2) h.1) r2⟩
    |true =>
     obtain⟨⟨a,xs,us,e1,e2,hs,_,ha,ra⟩,f⟩:=h
     obtain⟨e',m'⟩:=e.show ha (f rfl a e1) (nR a hs)
     obtain⟨G2,m2,e3,n2,r2⟩:=ih r q1 (m.trans m') e' λb z=>by
      by_cases y:b=a
      .subst y; exact .inr hs
      .rw[aM y]at z; exact n b z
     subst e1; subst e2
     exact⟨G2,m'.trans m2,e3,n2,.cons (.lst (aG.of (m2 a _ bW)) (ra.mono (m.trans (m'.trans m2)))) r2⟩
theorem Ok.vis(e:Ok K R ρ σ G H F)(e0:Ok K R ρ0 σ0 G0 H0 F0)(s:aF K G0 H0 F0 G H F)(h:dK K σ H0 G H F vs rs)(q:cls rs=.ok ts):∃G2,Ok K R ρ σ G2 H F/\aF K G0 H0 F0 G2 H F/\Same G G2/\au K G2 vs ts:=by
 obtain⟨G2,m,e2,n,r⟩:=h.vis (λb=>e0.rn) q (Same.refl _) e λb z=>.inl z
 exact⟨G2,e2,⟨s.gg.trans m,s.fr,λb z=>(n b z).elim (s.nw b) λz=>.inr (.inl z),s.nf,s.dm⟩,m,r⟩
noncomputable def qU:Rv->Rs Tr
 |.v T _=>.ok T
 |.s _=>.bad
theorem Px(r:Rv)(c:Str):qU r ≠ .ex c:=by cases r <;> (intro z; cases z)
theorem Ok.ux(e:Ok K R ρ σ G H F)(e0:Ok K R ρ0 σ0 G0 H0 F0)(s:aF K G0 H0 F0 G H F)(h:eO K σ H0 G H F v r)(q:qU r=.ok T):∃G2,Ok K R ρ σ G2 H F/\aF K G0 H0 F0 G2 H F/\Same G G2/\Rep K G2 v T:=by
 cases r with
 |s i=>cases q
 |v U fr =>
  cases q
  obtain⟨G2,e2,s2,m,r⟩:=e.vis (vs:=[v]) e0 s (.cons h .nil) rfl
  cases r with
  |cons r _=>exact⟨G2,e2,s2,m,r⟩
noncomputable def kh:AF:=λρ=>.ok ([],ρ)
noncomputable def j4(f:EF)(g:AF):AF:=λρ=>(f ρ).bind λp=>(g p.2).bind λq=>.ok (p.1::q.1,q.2)
end
noncomputable def ao:VA kh where
 ck _ e:=e.isEmpty
 cs:=[]
 ok:=@λ_ _ _ X e _ _ h=>by
  cases e <;> try cases h
  exact⟨sY.imp λσ H Q=>bB λR ρ G F e h=>h [] G H F e .refl .nil,λρ p h=>(by cases h; rfl),λ_ z=>nomatch z⟩
noncomputable def ak(a:VE aB)(r:VA cV):VA (j4 aB cV) where
 ck Γ e:=aP e λx y=>notStar x&&a.ck Γ x&&r.ck Γ y
 cs:=a.cs++r.cs
 ok q O h:=by
  walk_at "o"
  simp only[an]at h
  obtain⟨pb,lb,nb⟩:=r.ok (mr q) O h.2
  exact⟨(qu (a.ok (ml q) O h.1.2) pb (gC h.1.1)).imp λσ H Q=>bB λR ρ G F e h=>dM e .refl h λp h x G1 H1 F1 e1 s1 v1=>jG e1 s1 h λq h xs G2 H2 F2 e2 s2 v2=>h (x::xs) G2 H2 F2 e2 (s1.trans s2) (.cons (v1.step e1.tb s2) (v2.back s1.dm)),λρ p q=>(by
   obtain⟨a,q1,q⟩:=dX q
   obtain⟨b,q2,q⟩:=dX q
   cases q
   rw[List.length_cons,lb _ _ q2,List.length_cons]),List.forall_mem_cons.mpr ⟨h.1.1,nb⟩⟩
theorem nA:∀{es:List Expr},(∀x∈es,notStar x=true)->∀env,(backTo pos (starEach es env)).any (·.1)=false
 | [],_,_=>rfl
 |e::es,h,env=>by
  rw[gC (h e (List.mem_cons_self ..))]
  exact nA (λx q=>h x (List.mem_cons_of_mem _ q)) env
noncomputable def Py(g:AF):EF:=λρ=>(g ρ).bind λp=>(cls p.1).bind λts=>if ts.length<=1000 then .ok (.v (.lst ts) true,p.2)else .bad
noncomputable def PB(g:AF):EF:=λρ=>(g ρ).bind λp=>(cls p.1).bind λts=>if ts.length<=1000 then .ok (.v (.tup ts) false,p.2)else .bad
noncomputable def iK(a:VA aB):VE (PB aB) where
 ck Γ e:=ji e λl _ _=>a.ck Γ l
 cs:=a.cs
 ok q O h:=by
  walk_at "o"
  refine(LC (a.ok q O h).1).imp λσ H Q=>bB λR ρ G F e h=>jG e .refl h λp h vs G1 H1 F1 e1 s1 v1=>?_
  obtain⟨ts,k1,h⟩:=h.okb (qT _)
  obtain⟨G2,e2,s2,_,r⟩:=e1.vis e s1 v1 k1
  split at h
  .exact⟨by rw[r.length]; exact Nat.le_trans ‹_› (by decide),λp hp=>e2.fin s2 (.new e2.sub hp) (.newT e2.sub hp r) h⟩
  .exact h.elim
noncomputable def dI(a:VA aB):VE (Py aB) where
 ck Γ e:=tY e λl _=>a.ck Γ l
 cs:=a.cs
 ok q O h:=by
  walk_at "o"
  refine(LK (a.ok q O h).1).imp λσ H Q=>bB λR ρ G F e h=>jG e .refl h λp h vs G1 H1 F1 e1 s1 v1=>?_
  obtain⟨ts,k1,h⟩:=h.okb (qT _)
  obtain⟨G2,e2,s2,_,r⟩:=e1.vis e s1 v1 k1
  split at h
  .exact⟨by rw[r.length]; exact Nat.le_trans ‹_› (by decide),λp hp=>e2.fin s2 (.flt e2.sub hp) (.flt e2.sub hp r) h⟩
  .exact h.elim
open Classical in
noncomputable def pK(G H0:Hp):Hp->Hp:=λH b=>if H0 b=none then H b else if H b=G b then G b else none
theorem Er(G H0:Hp):Pj (pK G H0) H0:=⟨λs b o h=>(by
  unfold pK at h ⊢
  split at h
  .rw[if_pos ‹_›]; exact s b o h
  .rw[if_neg ‹_›]
   split at h
   .rename_i e
    rw[h]at e ⊢
    rw[if_pos (s b o e)]
   .cases h),λH b o h=>(by
  unfold pK at h
  split at h
  .exact h
  .split at h
   .rw[‹H b=G b›]; exact h
   .cases h),λs h=>by
  unfold pK
  rw[if_pos (s.free h),bW]⟩
theorem PJ{K:PySem.W.Frag}(g:Same G H)(s:Same H H'):Gw K G H (pK G H H') H':=⟨λb o h=>by
  have q:=s b o (g b o h)
  unfold pK
  rw[if_neg (by rw[g b o h]; exact λz=>by cases z),q,h]
  exact if_pos rfl,λb o h _=>s b o h,(Er G H).sub H',λt=>t.fr λb o _ h=>s b o h,λb h=>by
  unfold pK at h
  split at h
  .exact .inr ‹_›
  .split at h
   .exact .inl h
   .exact(h rfl).elim⟩
noncomputable def J5(Ts:List Tr):EF:=λρ=>.ok (.v (.lst Ts) true,ρ)
mutual
noncomputable def PK:Tr->Tr->Bool
 |.non,.non=>true
 |.bl a,.bl b=>a == b
 |.int a,.int b=>decide (a=b)
 |.str a,.str b=>a == b
 |.tup a,.tup b=>uy a b
 |.lst a,.lst b=>uy a b
 |_,_=>false
noncomputable def uy:List Tr->List Tr->Bool
 | [],[]=>true
 |a::l,b::m=>PK a b&&uy l m
 |_,_=>false
end
mutual
theorem aeg:∀{a b:Tr},PK a b=true->a=b
 |.non,b,h=>by cases b <;> first|rfl|cases h
 |.bl a,b,h=>by cases b <;> first|cases h; done|rw[eq_of_beq h]
 |.int a,b,h=>by cases b <;> first|cases h; done|rw[of_decide_eq_true h]
 |.str a,b,h=>by cases b <;> first|cases h; done|rw[eq_of_beq h]
 |.tup a,b,h=>by cases b <;> first|cases h; done|rw[yX h]
 |.lst a,b,h=>by cases b <;> first|cases h; done|rw[yX h]
 |.bQ a,b,h=>by cases h
theorem yX:∀{a b:List Tr},uy a b=true->a=b
 | [],[],_=>rfl
 |a::l,b::m,h=>by
  obtain⟨h1,h2⟩:=an.mp h
  rw[aeg h1,yX h2]
end
noncomputable def Es:Option (List Tr)->List Tr->Bool
 |some Us,Ts=>uy Us Ts
 |none,_=>false
theorem PL(h:Es o Ts=true):o=some Ts:=by
 cases o <;> first|cases h; done|rw[yX h]
noncomputable def lQ(Ts:List Tr):VE (eC (.tup Ts)) where
 ck _ e:=ji e λl _ _=>Es (gG l) Ts
 cs:=[]
 ok:=@λ_ _ _ X e _ _ h=>by
  walk_at "o"
  refine(adM (G:=aA X.K) (PL h)).imp λσ H Q ⟨R,ρ,G,F,e,h⟩ v H' s r=>?_
  exact e.fin .refl (PJ e.sub s) (show VN _ _ _ _ _ _ false from r _ (Er _ _)) h
noncomputable def Et(Ts:List Tr):VE (J5 Ts) where
 ck _ e:=tY e λl _=>Es (gG l) Ts
 cs:=[]
 ok:=@λ_ _ _ X e _ _ h=>by
  walk_at "o"
  refine(adL (G:=aA X.K) (PL h)).imp λσ H Q ⟨R,ρ,G,F,e,h⟩ a xs H1 s ha r _=>?_
  obtain⟨e1,s1⟩:=e.grow (PJ e.sub s)
  exact e1.fin s1 (.flt e1.sub ha) (.flt e1.sub ha (r _ (Er _ _))) h
noncomputable def J4:OF:=λρ=>.ok (none,ρ)
noncomputable def PN(fa:EF):OF:=λρ=>(fa ρ).bind λp=>(dr p.2 p.1).bind λa=>(xZ a).bind λb=>.ok (some b,p.2)
noncomputable def oN:VO J4 where
 ck _ e:=e.isNone
 cs:=[]
 ok:=@λ_ _ _ X e _ _ h=>by
  cases e <;> try cases h
  exact abT.imp λσ H Q=>bB λR ρ G F e h=>h G H F e .refl
noncomputable def oS(a:VE aB):VO (PN aB) where
 ck Γ e:=m9 e λx=>a.ck Γ x
 cs:=a.cs
 ok q O h:=by
  walk_at "o"
  refine(abU (a.ok q O h)).imp λσ H Q=>bB λR ρ G F e h=>dM e .refl h λp h x G1 H1 F1 e1 s1 v1=>?_
  obtain⟨a,k1,h⟩:=h.okb (gY _ _)
  obtain⟨b,k2,h⟩:=h.okb (Oj _)
  exact⟨b,Ol (gZ e1 v1 k1) k2,h G1 H1 F1 e1 s1⟩
noncomputable def cut{α : Type}(xs:List α)(lo hi:Option Int):List α := (xs.drop (HT.aQ xs.length 0 lo)).take (HT.aQ xs.length xs.length hi-HT.aQ xs.length 0 lo)
theorem au.cut{K:PySem.W.Frag}{H:Hp}{xs:List V}{ts:List Tr}(r:au K H xs ts)(lo hi:Option Int):au K H (mW xs lo hi) (L2.cut ts lo hi):=by
 unfold mW L2.cut
 rw[r.length]
 exact(r.drop _).take _
noncomputable def PX(K:PySem.W.Frag):V->Option Int->Option Int->Hp->VK->Prop:=λx lo hi H Q=>MN K x lo hi H Q\/Ms K x lo hi H Q
theorem aeh:lq X (PX X.K):=lq.or ab7 abW
noncomputable def jy(lo hi:Option Int):G1
 |.lst ts=>.ok (.lst (cut ts lo hi),true)
 |.tup ts=>if ¬(HT.aQ ts.length 0 lo=0/\HT.aQ ts.length ts.length hi=ts.length)then .ok (.tup (cut ts lo hi),false)else .bad
 |_=>.bad
theorem P0{K:PySem.W.Frag}(lo hi:Option Int):lH (aA K) (λx H Q=>PX K x lo hi H Q) (jy lo hi):=⟨λa c=>by unfold jy; (repeat' split) <;> (intro z; cases z),λG H x a Q s rx h=>by
 cases a <;> try exact h.elim
 .dsimp only[jy]at h
  split at h
  .obtain⟨b,xs,rfl,q,r⟩:=rx.tup s
   exact .inr ⟨b,xs,rfl,q.toK,by rw[r.length]; assumption,λy hy=>h _ _ _ (.new s hy) (.newT s hy (r.cut _ _))⟩
  .exact h.elim
 .obtain⟨b,xs,rfl,q,r⟩:=rx.lst s
  exact .inl ⟨b,xs,rfl,q.toK,λy hy=>h _ _ _ (.flt s hy) (.flt s hy (r.cut _ _))⟩⟩
noncomputable def Qa(fa:EF)(fl fh:OF):EF:=λρ=>(fa ρ).bind λp=>(fl p.2).bind λl=>(fh l.2).bind λh=>(dr h.2 p.1).bind λa=>(jy l.1 h.1 a).bind λz=>.ok (.v z.1 z.2,h.2)
noncomputable def qW(a:VE aB)(l:VO l_f)(r:VO cV):VE (Qa aB l_f cV) where
 ck Γ e:=jV e λx aK _=>yg aK λy z bw _=>pG bw (a.ck Γ x&&l.ck Γ y&&r.ck Γ z)
 cs:=a.cs++(l.cs++r.cs)
 ok q O h:=by
  walk_at "o"
  simp only[an]at h
  refine(abV aeh (a.ok (ml q) O h.1.1) (l.ok (ml (mr q)) O h.1.2) (r.ok (mr (mr q)) O h.2)).imp λσ H Q=>bB λR ρ G F e h=>dM e .refl h λp h x G1 H1 F1 e1 s1 v1=>NQ e1 s1 h λl h G2 H2 F2 e2 s2=>NQ e2 (s1.trans s2) h λu h G3 H3 F3 e3 s3=>?_
  obtain⟨a,k1,h⟩:=h.okb (gY _ _)
  obtain⟨z,k2,h⟩:=h.okb ((P0 (K:=[]) _ _).nx _)
  exact(P0 l.1 u.1).ok G3 H3 x a Q e3.sub (gZ e3 (v1.step e1.tb (s2.trans s3)) k1) (by rw[k2]; exact λv G' H' w vn=>e3.fin ((s1.trans s2).trans s3) w.gw vn h)
noncomputable def lR(Γ : Gx)(x:Str)(as:VA jm):Expr->Bool
 |.Call (.Name y _) (e::es) [] _=>y == x&&jZ Γ x&&as.ck Γ (e::es)
 |_=>false
theorem pL(h:lR Γ x as e=true):∃p a es q,e=.Call (.Name x p) (a::es) [] q/\jZ Γ x=true/\as.ck Γ (a::es)=true:=by
 unfold lR at h
 split at h
 case h_2=>cases h
 simp only[an]at h
 cases eq_of_beq h.1.1
 exact⟨_,_,_,_,rfl,h.1.2,h.2⟩
noncomputable def qX(g:GN)(fa:AF):EF:=λρ=>(fa ρ).bind λp=>(drs p.2 p.1).bind λas=>(g as).bind λz=>.ok (.v z.1 z.2,p.2)
theorem Qc{t:Tx}(o:Du t.K r g)(h:Te t (qX g fa) σ H Q):wX r (Ta t fa) σ H Q:=by
 obtain⟨R,ρ,G,F,e,h⟩:=h
 refine jG e .refl h λp h xs G1 H1 F1 e1 s1 v1=>?_
 obtain⟨as,k1,h⟩:=h.okb (ur _ _)
 obtain⟨z,k3,h⟩:=h.okb (o.nx as)
 exact o.ok G1 H1 xs as Q e1.sub (uw e1 v1 k1) (by rw[k3]; exact λv G' H' w vn=>e1.fin s1 w.gw vn h)
noncomputable def vB(x:Str)(u:Value)(r:PySem.W.Frag->List V->Hp->VK->Prop)(g:List Tr->Rs (Tr × Bool))(hv:bootBuiltins x=some u/\x ≠ "__name__" /\ ((∃i,u=.builtin i)\/∃i,u=.type i)) (hp:∀{cl Γ E X},Ox cl Γ E X->fP X u (r X.K)) (hs:∀K,Du (aA K) (r K) g) (as:VA jm):VE (qX g jm) where
 ck Γ e := Γ.B.contains x&&lR Γ x as e
 cs:=as.cs
 ok q o h:=by
  obtain⟨h1,h⟩:=an.mp h
  obtain⟨p,a,es,p',rfl,h2,h3⟩:=pL h
  obtain⟨pa,la,na⟩:=as.ok q o h3
  obtain⟨hv1,hv2,⟨i,rfl⟩|⟨i,rfl⟩⟩:=hv
  .exact(Ml (hp o) (dN o h2).1 (o.B x (by simpa using h1)) hv1 pa hv2 (dN o h2).2 (gC (na _ (List.mem_cons_self ..))) (nA (λy m=>na y (List.mem_cons_of_mem _ m)) _)).imp λ_ _ _=>Qc (hs _)
  .exact(abz (hp o) (dN o h2).1 (o.B x (by simpa using h1)) hv1 pa hv2 (dN o h2).2 (gC (na _ (List.mem_cons_self ..))) (nA (λy m=>na y (List.mem_cons_of_mem _ m)) _)).imp λ_ _ _=>Qc (hs _)
noncomputable def Qd(c:Ty)(fa:EF):EF:=λρ=>(fa ρ).bind λp=>(dr p.2 p.1).bind λa=>.ok (eB (mZ a c),p.2)
noncomputable def yZ(x:Str)(ty:Ty)(hb:bootBuiltins x=some (.type ty.name)/\x ≠ "__name__") (a:VE aB):VE (Qd ty aB) where
 ck Γ e:=fW e λaK bw bD _=>atName aK λy _=>aP bw λb bO=>aP bO λdw fC=>atName dw λz _=>aW fC (aW bD (y == ("isinstance" : Str)&&jZ Γ y&&z == x&&jZ Γ z&&Γ.B.contains y&&Γ.B.contains z&&a.ck Γ b&&notStar b))
 cs:=a.cs
 ok q o h:=by
  walk_at "o"
  simp only[an]at h
  obtain⟨⟨⟨⟨⟨⟨⟨h1,h2⟩,h3⟩,h4⟩,h5⟩,h6⟩,h7⟩,h8⟩:=h
  cases eq_of_beq h1
  cases eq_of_beq h3
  refine(acB o.x ty (a.ok q o h7) (o.B _ (by simpa using h5)) (o.B _ (by simpa using h6)) hb.1 (dN o h2).1 (dN o h4).1 hb.2 (dN o h4).2 (gC h8)).imp λσ H Q=>bB λR ρ G F e h=>dM e .refl h λp h x G1 H1 F1 e1 s1 v1=>?_
  obtain⟨a,k1,h⟩:=h.okb (gY _ _)
  exact⟨x,a,ty,rfl,((gZ e1 v1 k1).rep e1.sub).toK,h _ G1 H1 F1 e1 s1 (.low (.bl _))⟩
noncomputable def pN(G G':Hp):Prop:=∀b o,(∀xs,o ≠ .lst xs)->G b=some o->G' b=some o
theorem pN.jE{K:PySem.W.Frag}{G G':Hp}(m:pN G G')(h:bx K G a xs):bx K G' a xs:=by
 rcases h with(h|⟨o,h⟩)|h
 .exact .inl (.inl (m _ _ (λ_ z=>by cases z) h))
 .exact .inl (.inr ⟨o,m _ _ (λ_ z=>by cases z) h⟩)
 .exact .inr h
theorem Qe{K:PySem.W.Frag}{G G':Hp}(m:pN G G'):(∀{v T},Rep K G v T->bK T=true->Rep K G' v T)/\∀{vs Ts},au K G vs Ts->cY Ts=true->au K G' vs Ts:=by
 refine Rep.both (λ_=>.non) (λb _=>.bl b) (λi _=>.int i) (λx _=>.str x) (λa xs ts h q n=>?_) (λa xs ts h q n=>?_) (λa C c h k n _=>.bQ (m _ _ (λ_ z=>by cases z) h) k n) (λ_=>.nil) λx t xs ts p q n=>?_
 .exact .tup (m.jE h) (q (by unfold bK at n; exact n))
 .unfold bK at n; cases n
 .unfold cY at n
  obtain⟨n1,n2⟩:=an.mp n
  exact .cons (p n1) (q n2)
theorem Rep.flat{K:PySem.W.Frag}{G G':Hp}(m:pN G G'){v:V}{T:Tr}(h:Rep K G v T)(n:bK T=true):Rep K G' v T:=(Qe m).1 h n
theorem au.flat{K:PySem.W.Frag}{G G':Hp}(m:pN G G'){v:List V}{T:List Tr}(h:au K G v T)(n:cY T=true):au K G' v T:=(Qe m).2 h n
noncomputable def wL(G H:Hp):Hp:=λb=>match G b with
 |some o=>some o
 |none=>match H b with
  |some (.lst xs)=>some (.lst xs)
  |_=>none
theorem qY(h:G b=some o):wL G H b=some o:=by unfold wL; rw[h]
theorem pO(h:wL G H b=some o):G b=some o\/G b=none/\H b=some o/\∃xs,o=.lst xs:=by
 unfold wL at h
 split at h
 .exact .inl (by rw[<-h]; assumption)
 .split at h <;> cases h
  exact .inr ⟨‹_›,‹_›,_,rfl⟩
theorem Qf(h:H b=some (.lst xs))(n:G b=none):wL G H b=some (.lst xs):=by unfold wL; rw[n,h]
noncomputable def wB(G H G':Hp):Hp:=λb=>match wL G H b with
 |some _=>G b
 |none=>G' b
noncomputable def pP:Rv->Bool
 |.s _=>true
 |_=>false
noncomputable def je(z:Tr × Bool):Bool:=bK z.1 || (z.2&&(match z.1 with
 |.lst us=>cY us
 |_=>false))
section
variable {K:PySem.W.Frag}{G H G' H':Hp}
theorem Qg(s:Same G H)(w:Gw K (wL G H) H G' H'):Gw K G H (wB G H G') H':=by
 have low:Same (wB G H G') G':=λb o h=>by
  unfold wB at h
  split at h
  .exact w.gg b o (qY h)
  .exact h
 refine⟨λb o h=>by unfold wB; rw[qY h]; exact h,w.hh,low.trans w.sub,w.tb,λb h=>?_⟩
 cases q:G b with
 |some o=>exact .inl λz=>by cases z
 |none =>
  unfold wB at h
  split at h
  .exact(h q).elim
  .rename_i z
   exact .inr ((w.nw b h).elim (λy=>(y z).elim) id)
theorem Eu(w:Gw K (wL G H) H G' H'):pN G' (wB G H G'):=λb o n h=>by
 unfold wB
 split
 .rename_i u z
  have y:=w.gg b _ z
  rw[h]at y
  cases y
  rcases pO z with z|⟨_,_,xs,z⟩
  .exact z
  .exact(n xs z).elim
 .exact h
theorem VN.flat(s:Same G H)(w:Gw K (wL G H) H G' H')(h:VN K H G' H' v T fr)(f:je (T,fr)=true):VN K H (wB G H G') H' v T fr:=by
 cases fr with
 |false=>exact Rep.flat (Eu w) h (by simpa[je]using f)
 |true =>
  obtain⟨a,xs,ts,e1,rfl,e3,e4,e5,r⟩:=h
  refine⟨a,xs,ts,e1,rfl,e3,?_,e5,r.flat (Eu w) (by simpa[je,bK]using f)⟩
  unfold wB
  split
  .exact s.free e3
  .exact e4
theorem lG.reps(s:Same G H):∀{vs:List V} {ts:List Tr},lG K G H vs ts->au K (wL G H) vs ts
 |_,_,.nil=>.nil
 |_,_,.cons (.inl h) r=>.cons (h.mono λ_ _=>qY) (lG.reps s r)
 |_,_,.cons (.inr ⟨a,xs,ts,e1,e2,q,r0⟩) r=>by
  subst e1 e2
  refine .cons (.lst (aG.of ?_) (r0.mono λ_ _=>qY)) (lG.reps s r)
  cases z:G a with
  |none=>exact Qf q z
  |some o=>have y:=s a o z; rw[q]at y; cases y; exact qY z
end
theorem Qh:∀{rs:List Rv} {ts:List Tr},drs ρ rs=.ok ts->rs.any pP=false->cls rs=.ok ts
 | [],_,h,_=>h
 |.s _::_,_,_,n=>by simp[pP]at n
 |.v T fr::rs,_,h,n=>by
  obtain⟨ts,q2,q⟩:=dX (show((drs ρ rs).bind _)=_ from h)
  cases q
  unfold cls
  rw[Qh q2 (by simpa[pP]using n)]
  rfl
noncomputable def pQ(f:FP)(fa:AF):EF:=λρ=>(fa ρ).bind λp=>(drs p.2 p.1).bind λas=>(f as).bind λz=>if p.1.any pP=true/\je z=false then .bad else .ok (.v z.1 z.2,p.2)
theorem Fr.none{K:PySem.W.Frag}(h:Fr K H (λ_=>[]) H'):Fr K H F H':=⟨λb o q _=>h.fr b o q λ⟨_,z⟩=>(by cases z),h.tb⟩
theorem aei(hn:∀ρ p,fa ρ=.ok p->p.1.length=n)(h:Te (tx cl E X) (pQ f fa) σ H Q):Cm (nq X.K cl n f) [] E (Ta (tx cl E X) fa) σ H Q:=by
 obtain⟨R,ρ,G,F,e,h⟩:=h
 cases ek:fa ρ with
 |bad=>rw[pQ,ek]at h; exact h.elim
 |ex c=>exact⟨R,ρ,G,F,e,by rw[pQ,ek]at h; rw[ek]; exact h⟩
 |ok p =>
 refine⟨R,ρ,G,F,e,?_⟩
 simp only[pQ,ek,Rs.bind]at h
 rw[ek]
 intro vs G1 H1 F1 e1 s1 v1
 obtain⟨as,k1,h⟩:=h.okb (ur _ _)
 show nq X.K cl n f (vs++[]) H1 Q E
 rw[List.append_nil]
 have fin:∀Gc,au (aA X.K) Gc vs as->Same Gc H1->(∀b,Tb (aA X.K) b->Gc b=none)->(∀z,f as=.ok z->∀v G' H',Gw (aA X.K) Gc H1 G' H'->VN (aA X.K) H1 G' H' v z.1 z.2->Q v H')->nq X.K cl n f vs H1 Q E:=λGc r s tg k=>by
  refine⟨Gc,as,by rw[v1.length,hn ρ p ek],r,s,e1.tb,tg,?_⟩
  cases ef:f as with
  |bad=>rw[ef]at h; exact h.elim
  |ex c=>rw[ef]at h; exact λH' q=>h H' (s1.back q.none)
  |ok z=>exact k z ef
 by_cases a:p.1.any pP=true
 .refine fin (wL G1 H1) ((uw e1 v1 k1).reps e1.sub) (λb o q=>(pO q).elim (e1.sub b o) λq=>q.2.1) (λb t=>?_) λz ef v G' H' w vn=>?_
  .cases q:wL G1 H1 b with
   |none=>rfl
   |some o =>
    rcases pO q with q|⟨_,q,xs,rfl⟩
    .rw[e1.tg b t]at q; cases q
    .exact(e1.tb.nt q t).elim
  .simp only[ef,Rs.bind]at h
   split at h
   .exact h.elim
   .rename_i c
    exact e1.fin s1 (Qg e1.sub w) (vn.flat e1.sub w (by cases q:je z with|true=>rfl|false=>exact(c ⟨a,q⟩).elim)) h
 .obtain⟨G2,e2,s2,_,r⟩:=e1.vis e s1 v1 (Qh k1 (by simpa using a))
  refine fin G2 r e2.sub e2.tg λz ef v G' H' w vn=>?_
  simp only[ef,Rs.bind]at h
  rw[if_neg λy=>a y.1]at h
  exact e2.fin s2 w vn h
noncomputable def vF(x:Str)(ps:List Str)(f:FP)(l:Nat)(as:VA jm):VE (pQ f jm) where
 ck Γ e:=fW e λ_ m _ _=>m.length == ps.length&&decide (l <= Γ.k)&&lR Γ x as e
 cs:=.fn x ps f l::as.cs
 ok q o h:=by
  obtain⟨_,_,_,_,e0,h⟩:=vU h
  subst e0
  simp only[an]at h
  obtain⟨⟨h1,h0⟩,h⟩:=h
  obtain⟨p,a,es,p',e',h2,h3⟩:=pL h
  cases e'
  obtain⟨D,q⟩:=List.forall_mem_cons.mp q
  obtain⟨pa,la,na⟩:=as.ok q o h3
  rw[eq_of_beq h1]at la
  obtain⟨d,fd,d1,d2,d3,d4⟩:=jf.mono D (of_decide_eq_true h0)
  exact(LR d1 o.r (dN o h2).1 d4 d3 d2 .nil o.e pa (dN o h2).2 (gC (na _ (List.mem_cons_self ..))) (nA (λy m=>na y (List.mem_cons_of_mem _ m)) _)).imp λ_ _ _=>aei la
noncomputable def fH(F:Fp)(i:Nat)(f:List Addr):Fp:=λj=>if j=i then f else F j
theorem lU(h:Fn (fH F i f) b):b∈f\/∃j,j≠i/\b∈F j:=by
 obtain⟨j,h⟩:=h
 unfold fH at h
 split at h
 .exact .inl h
 .exact .inr ⟨j,‹_›,h⟩
section
variable {t:Tx}{K:PySem.W.Frag}{R:Addr->Prop}{ρ ρ':En}{σ σ':St}{G H G0 H0 G' H':Hp}{F F0 F':Fp}{Q:VK}
theorem Ok.one(e:Ok K R ρ σ G H F)(i:Nat)(f:List Addr)(len : ρ'.length = σ'.length)(ne:∀j,j≠i -> ρ'[j]?=ρ[j]? /\ σ'[j]?=σ[j]?)(gg:Same G G')(sub:Same G' H')(tb:bL K H')(hG:∀b,G' b≠none->G b≠none\/(∀j,j≠i->b∉F j)/\¬Tb K b/\¬R b)
  (hh:∀j,j≠i->∀b∈F j,∀o,H b=some o->H' b=some o) (hr:∀b,R b->H' b≠none) (hf:∀b∈f,G' b=none/\∀j,j≠i->b∉F j) (si:lE K R G' H' σ'[i]? f ρ'[i]?):Ok K R ρ' σ' G' H' (fH F i f):=by
 have no:∀b,G b=none->(∃j,j≠i/\b∈F j)\/Tb K b\/R b->G' b=none:=λb q c=>by
  cases z:G' b with
  |none=>rfl
  |some o =>
   rcases hG b (by rw[z]; exact λz=>by cases z)with y|⟨y1,y2,y3⟩
   .exact(y q).elim
   .rcases c with⟨j,c1,c2⟩|c|c
    .exact(y1 j c1 c2).elim
    .exact(y2 c).elim
    .exact(y3 c).elim
 refine⟨len,sub,tb,λb t=>no b (e.tg b t) (.inr (.inl t)),λb h=>?_,λb h=>⟨no b (e.rg b h).1 (.inr (.inr h)),hr b h⟩,λj k b h1 h2=>?_,λj=>?_⟩
 .rcases lU h with h|⟨j,n,h⟩
  .exact(hf b h).1
  .exact no b (e.hid b ⟨j,h⟩) (.inl ⟨j,n,h⟩)
 .unfold fH at h1 h2
  split at h1 <;> split at h2
  .rw[‹j=i›,‹k=i›]
  .exact((hf b h1).2 k ‹_› h2).elim
  .exact((hf b h2).2 j ‹_› h1).elim
  .exact e.di j k b h1 h2
 .unfold fH
  split
  .rw[‹j=i›]; exact si
  .rw[(ne j ‹_›).1,(ne j ‹_›).2]
   exact(e.sl j).mono gg (hh j ‹_›)
theorem ig{α : Type}{l:List α}{a : α}(h:j≠i):(l.set i a)[j]?=l[j]? := List.getElem?_set_ne (Ne.symm h)
theorem fX{α : Type}{l:List α}{a : α}(h:i<l.length):(l.set i a)[i]?=some a:=by
 rw[List.getElem?_set_self',List.getElem?_eq_getElem h]
 rfl
theorem qZ{α : Type}{l:List α}{a : α}(h:¬i<l.length):l.set i a=l:=List.set_eq_of_length_le (Nat.le_of_not_lt h)
theorem aF.sub(h:∀b,Fn F' b->Fn F b):aF K G H F G H F':=⟨Same.refl _,λ_ _ h _ _=>h,λ_ h=>.inl h,λb z=>.inr (h b z),λ_ h=>h⟩
theorem Ok.zf(e:Ok K R ρ σ G H F)(i:Nat)(r:Rep K G v T):∃F',Ok K R (ρ.set i (.sh T)) (σ.set i (some v)) G H F'/\∀b,Fn F' b->Fn F b:=by
 by_cases l:i < ρ.length
 .refine⟨fH F i [],e.one i [] (by rw[List.length_set,List.length_set,e.len]) (λj n=>⟨ig n,ig n⟩) (Same.refl _) e.sub e.tb (λb h=>.inl h) (λ_ _ _ _ _ h=>h) (λb h=>(e.rg b h).2) (λb h=>by cases h) ?_,λb h=>?_⟩
  .rw[fX l,fX (e.len▸l)]
   exact⟨rfl,v,rfl,r⟩
  .rcases lU h with h|⟨j,_,h⟩
   .cases h
   .exact⟨j,h⟩
 .rw[qZ l,qZ (e.len▸l)]
  exact⟨F,e,λb h=>h⟩
theorem Ok.aej(e:Ok K R ρ σ G H F)(i:Nat)(h:H a=some (.lst xs))(g:G a=none)(n:¬Fn F a)(nR:¬R a)(r:au K G xs ts):∃F',Ok K R (ρ.set i (.ow ts)) (σ.set i (some (.ref a))) G H F'/\∀b,Fn F' b->b=a\/Fn F b:=by
 by_cases l:i < ρ.length
 .refine⟨fH F i [a],e.one i [a] (by rw[List.length_set,List.length_set,e.len]) (λj n=>⟨ig n,ig n⟩) (Same.refl _) e.sub e.tb (λb h=>.inl h) (λ_ _ _ _ _ h=>h) (λb h=>(e.rg b h).2) (λb h=>?_) ?_,λb h=>?_⟩
  .cases List.mem_singleton.mp h
   exact⟨g,λj _ z=>n ⟨j,z⟩⟩
  .rw[fX l,fX (e.len▸l)]
   exact⟨a,xs,rfl,rfl,nR,h,r⟩
  .rcases lU h with h|⟨j,_,h⟩
   .exact .inl (List.mem_singleton.mp h)
   .exact .inr ⟨j,h⟩
 .rw[qZ l,qZ (e.len▸l)]
  exact⟨F,e,λb h=>.inr h⟩
noncomputable def con(ρ : En)(i:Nat):Rs (List Tr):=match ρ[i]? with
 |some (.ow ts)=>.ok ts
 |some (.rf ts)=>.ok ts
 |_=>.bad
theorem uz(ρ : En)(i:Nat)(c:Str):con ρ i ≠ .ex c:=by
 unfold con
 split <;> (intro z; cases z)
noncomputable def cH(i:Nat)(us:List Tr)(ρ : En):En:=match ρ[i]? with
 |some (.ow _)=>ρ.set i (.ow us)
 |some (.rf _)=>ρ.set i (.rf us)
 |_=>ρ
theorem Ok.con(e:Ok K R ρ σ G H F)(q:con ρ i=.ok ts):∃a xs,σ[i]?=some (some (.ref a))/\F i=[a]/\H a=some (.lst xs)/\au K G xs ts:=by
 have z:=e.sl i
 unfold L2.con at q
 split at q <;> rename_i k <;> cases q <;> (rw[k]at z; obtain⟨a,xs,h1,h2,_,h3,h4⟩:=z; exact⟨a,xs,h1,h2,h3,h4⟩)
theorem Ew(h:j≠i):(cH i ts ρ)[j]?=ρ[j]? := by
 unfold cH
 split
 .exact ig h
 .exact ig h
 .rfl
theorem Ez:(cH i us ρ).length = ρ.length:=by
 unfold cH
 split
 .rw[List.length_set]
 .rw[List.length_set]
 .rfl
theorem Ok.mov(e:Ok K R ρ σ G H F)(q:L2.con ρ i=.ok ts)(f:F i=[a])(g:Gw K G (upd H a (.lst ys)) G' H')(hx:H' a=some (.lst xs))(r:au K G' xs us):Ok K R (cH i us ρ) σ G' H' F/\aF K G H F G' H' F:=by
 have ha:Fn F a:=⟨i,by rw[f]; exact List.mem_singleton.mpr rfl⟩
 obtain⟨zs,hz⟩:=e.fl ha
 have ne:∀b o,H b=some o->b≠a->¬Tb K b->H' b=some o:=λb o h n t=>g.hh b o (by rw[aM n]; exact h) t
 have nn:∀b,upd H a (.lst ys) b=none->H b=none:=λb h=>by
  by_cases z:b=a
  .subst z; rw[bW]at h; cases h
  .rw[aM z]at h; exact h
 have tb:=g.tb (e.tb.upd hz)
 have dm:∀b,H' b=none->H b=none:=λb h=>by
  cases q:H b with
  |none=>rfl
  |some o =>
   by_cases z:b=a
   .subst z; rw[hx]at h; cases h
   .by_cases t:Tb K b
    .obtain⟨ps,y⟩:=tb.cu t; rw[h]at y; cases y
    .rw[ne b o q z t]at h; cases h
 have nw:∀b,G' b≠none->G b≠none\/H b=none:=λb h=>(g.nw b h).imp id (nn b)
 have eF:fH F i [a]=F:=by funext j; unfold fH; split <;> first|rfl|rw[‹j=i›,f]
 refine⟨eF▸e.one i [a] (by rw[Ez,e.len]) (λj n=>⟨Ew n,rfl⟩) g.gg g.sub tb (λb h=>(nw b h).imp id λz=>⟨λj _ y=>e.fs z ⟨j,y⟩,λt=>?_,e.rn z⟩) (λj n b hb o h=>?_) (λb h z=>(e.rg b h).2 (dm b z)) (λb h=>?_) ?_,g.gg,λb o h n t=>ne b o h (λz=>n (z▸ha)) t,λb h=>(nw b h).imp id .inl,λb h=>.inr h,dm⟩
 .obtain⟨ps,y⟩:=e.tb.cu t; rw[z]at y; cases y
 .obtain⟨us,q⟩:=e.fl ⟨j,hb⟩
  exact ne b o h (λz=>n (e.di j i b hb (by rw[f,z]; exact List.mem_singleton.mpr rfl))) (e.tb.nt q)
 .cases List.mem_singleton.mp h
  refine⟨?_,λj n z=>n (e.di j i a z (by rw[f]; exact List.mem_singleton.mpr rfl))⟩
  cases q:G' a with
  |none=>rfl
  |some o=>exact((nw a (by rw[q]; exact λz=>by cases z)).elim (λz=>z (e.hid a ha)) λz=>by rw[hz]at z; cases z).elim
 .have z:=e.sl i
  unfold L2.con at q
  unfold cH
  split at q <;> rename_i k <;> cases q <;>
  .rw[k]at z
   obtain⟨b,_,h1,h2,h3,_⟩:=z
   rw[f]at h2
   cases h2
   rw[fX (List.getElem?_eq_some_iff.mp k).1]
   exact⟨a,xs,h1,rfl,h3,hx,r⟩
theorem Ok.put(e:Ok K R ρ σ G H F)(q:L2.con ρ i=.ok ts)(f:F i=[a])(r:au K G xs us):Ok K R (cH i us ρ) σ G (upd H a (.lst xs)) F/\aF K G H F G (upd H a (.lst xs)) F:=by
 refine e.mov q f (ys:=xs) (.refl λb o h=>?_) bW r
 rw[aM λz=>?_]
 .exact e.sub b o h
 .rw[z,e.hid a ⟨i,by rw[f]; exact List.mem_singleton.mpr rfl⟩]at h
  cases h
end
noncomputable abbrev GM:=List Tr->List Tr->Rs (List Tr × Tr)
structure EY(r:V->List V->Hp->VK->Prop)(m:GM):Prop where
 nx:∀ts as c,m ts as ≠ .ex c
 ok:∀(K:PySem.W.Frag) (G:Hp) a xs ts vs as H Q ts' T,H a=some (.lst xs)->au K G xs ts->au K G vs as->m ts as=.ok (ts',T)->(∀xs' v,au K G xs' ts'->Rep K G v T->Q v (upd H a (.lst xs')))->r (.ref a) vs H Q
noncomputable def zj(i:Nat)(m:GM)(fa:AF):EF:=λρ=>(con ρ i).bind λ_=>(fa ρ).bind λp=>(cls p.1).bind λas=>(con p.2 i).bind λts=>(m ts as).bind λz=>.ok (.v z.2 false,cH i z.1 p.2)
theorem Qi(h:∀x∈e::es,notStar x=true)(l:(e::es).length<30):((backTo p (starEach (e::es) env)).all (λx=>!x.1)&&(backToKw p (keywordEach [] env)).all (λx=>x.1.isSome)&&decide ((e::es).length+([]:List Keyword).length+(if([]:List Keyword).isEmpty then 0 else 1)<30))=true:=by
 have:(backTo p (starEach (e::es) env)).all (λx=>!x.1)=true:=by
  have:=nA (pos:=p) h env
  rw[List.all_eq_not_any_not]
  simpa using this
 rw[this]
 simpa[keywordEach,backToKw]using l
noncomputable def vM(nm:Str)(id:String)(r:V→List V→Hp→VK→Prop)(m:GM)(hp:Slot "list" nm id∧typeOf (.builtin id)=pure (.type "method_descriptor")∧∀X,xg X id r) (hs:EY r m) (i:Nat) (as:VA jm):VE (zj i m jm) where
 ck Γ e:=fW e λaK bw bD q=>qK aK λbO a p=>atName bO λx _=>aP bw λy l=>aW bD (a == nm&&g8 Γ i x&&decide ((y::l).length<30)&&p.endLine == q.line&&as.ck Γ (y::l))
 cs:=as.cs
 ok q o h:=by
  walk_at "o"
  simp only[an]at h
  obtain⟨⟨⟨⟨h1,h2⟩,h3⟩,h4⟩,h5⟩:=h
  cases eq_of_beq h1
  obtain⟨pa,la,na⟩:=as.ok q o h5
  refine(M4 PySem.F.plainAttrs_list hp.1 hp.2.1 (hp.2.2 _) (jY o h2) pa rfl (Qi na (of_decide_eq_true h3)) h4 (gC (na _ (List.mem_cons_self ..))) (nA (λy m=>na y (List.mem_cons_of_mem _ m)) _)).imp λσ H Q=>bB λR ρ G F e h=>?_
  obtain⟨us,k0,h⟩:=h.okb (uz _ _)
  obtain⟨a,xs,hi,_,hx,_⟩:=e.con k0
  refine⟨_,hi,.inl ⟨rfl,xs,aG.of hx⟩,jG e .refl h λp h vs G1 H1 F1 e1 s1 v1=>?_⟩
  obtain⟨as,k1,h⟩:=h.okb (qT _)
  obtain⟨ts,k2,h⟩:=h.okb (uz _ _)
  obtain⟨⟨ts',T⟩,k3,h⟩:=h.okb (hs.nx _ _)
  obtain⟨G2,e2,s2,_,r⟩:=e1.vis e s1 v1 k1
  obtain⟨a',ys,hi',hf,hy,ry⟩:=e2.con k2
  rw[hi]at hi'
  cases hi'
  refine hs.ok _ G2 a ys ts vs as H1 Q ts' T hy ry r k3 λxs' v r' rv=>?_
  obtain⟨e3,s3⟩:=e2.put k2 hf r'
  exact h v G2 _ F1 e3 (s2.trans s3) (.low rv)
noncomputable def pR:GM:=λts as=>match as with
 | [T]=>if ts.length<=100000 then .ok (ts++[T],.non)else .bad
 |_=>.bad
theorem aek:EY CJ pR:=⟨λts as c=>by unfold pR; (repeat' split) <;> (intro z; cases z),λK G a xs ts vs as H Q ts' T hx r ra q h=>by
 unfold pR at q
 (repeat' split at q) <;> cases q
 cases ra with
 |cons h1 r1 =>
  cases r1
  exact⟨a,xs,_,rfl,rfl,hx,Nat.lt_of_le_of_lt (by rw[r.length]; assumption) (by decide),h _ _ (r.app (.cons h1 .nil)) .non⟩⟩
structure Rt(K:PySem.W.Frag)(R:Addr->Prop)(G H:Hp)(F:Fp)(G' H':Hp)(v:V)(T:Tr)(fr:Bool):Prop where
 gg:Same G G'
 fm:Fr K H F H'
 sub:Same G' H'
 nw:∀b,G' b≠none->G b≠none\/H b=none\/Fn F b
 rg:∀b,R b->G' b=none
 vl:match fr with
  |false=>Rep K G' v T
  |true=>∃a xs ts,v=.ref a/\T=.lst ts/\(H a=none\/Fn F a)/\¬R a/\G' a=none/\H' a=some (.lst xs)/\au K G' xs ts
noncomputable def nC(t:Tx)(R:Addr->Prop)(G H:Hp)(F:Fp)(D:Ends)(p:Fl × En):Prop:=match p.1 with
 |.nx=>∀σ' G' H' F',Ok t.K R p.2 σ' G' H' F'->aF t.K G H F G' H' F'->D.nx σ' H'
 |.bk=>∀σ' G' H' F',Ok t.K R p.2 σ' G' H' F'->aF t.K G H F G' H' F'->D.bk σ' H'
 |.ct=>∀σ' G' H' F',Ok t.K R p.2 σ' G' H' F'->aF t.K G H F G' H' F'->D.ct σ' H'
 |.rt T fr=>∀v G' H',Rt t.K R G H F G' H' v T fr->D.rt v H'
noncomputable def Ts(t:Tx)(f:SF):TS:=λD σ H=>∃R ρ G F,Ok t.K R ρ σ G H F/\bG t H F (f ρ) (nC t R G H F D)
theorem Te.imp{t:Tx}(h:Te t f σ H Q)(k:∀v H',Q v H'->Q' v H'):Te t f σ H Q':=by
 obtain⟨R,ρ,G,F,e,h⟩:=h
 exact⟨R,ρ,G,F,e,h.go (aF.refl (G:=G)) λp h v G' H' F' e' s' v'=>k v H' (h v G' H' F' e' s' v')⟩
theorem PS.imp(h:PS X e t)(i:∀D σ H,u D σ H->t D σ H):PS X e u:=⟨λpins s σ H D I q=>h pins s σ H D I (i D σ H q)⟩
theorem dj.imp(h:dj X e t)(i:∀D σ H,u D σ H->t D σ H):dj X e u:=⟨λpins s σ H D I q=>h pins s σ H D I (i D σ H q)⟩
noncomputable abbrev VS(f:SF):=Vn λcl E X e=>PS X e (Ts (tx cl E X) f)
noncomputable abbrev VB(f:SF):=Vn λcl E X e=>dj X e (Ts (tx cl E X) f)
section
variable {t:Tx}{K:PySem.W.Frag}{R:Addr->Prop}{ρ : En}{σ : St}{G H G0 H0 G' H':Hp}{F F0 F':Fp}{D:Ends}
theorem Rt.back(s:aF K G0 H0 F0 G H F)(h:Rt K R G H F G' H' v T fr):Rt K R G0 H0 F0 G' H' v T fr:=by
 have ff:∀b,H b=none\/Fn F b->H0 b=none\/Fn F0 b:=λb=>λz=>z.elim (λz=>.inl (s.dm b z)) (s.nf b)
 refine⟨s.gg.trans h.gg,s.back h.fm,h.sub,λb z=>(h.nw b z).elim (s.nw b) λz=>.inr (ff b z),h.rg,?_⟩
 cases fr with
 |false=>exact h.vl
 |true =>
  obtain⟨a,xs,ts,e1,e2,e3,q⟩:=h.vl
  exact⟨a,xs,ts,e1,e2,ff a e3,q⟩
theorem nC.back(s:aF t.K G0 H0 F0 G H F)(h:nC t R G0 H0 F0 D p):nC t R G H F D p:=by
 obtain⟨fl,ρ⟩:=p
 cases fl with
 |nx=>exact λσ' G' H' F' e u=>h σ' G' H' F' e (s.trans u)
 |bk=>exact λσ' G' H' F' e u=>h σ' G' H' F' e (s.trans u)
 |ct=>exact λσ' G' H' F' e u=>h σ' G' H' F' e (s.trans u)
 |rt T fr=>exact λv G' H' r=>h v G' H' (r.back s)
theorem uD(e:Ok t.K R ρ σ G H F)(s:aF t.K G0 H0 F0 G H F)(h:bG t H0 F0 (f ρ) (nC t R G0 H0 F0 D)):Ts t f D σ H:=⟨R,ρ,G,F,e,h.go s λ_=>nC.back s⟩
end
noncomputable def Qj:SF:=λρ=>.ok (.nx,ρ)
noncomputable def b0:VB Qj where
 ck _ e:=e.isEmpty
 cs:=[]
 ok:=@λ_ _ _ X e _ _ h=>by
  cases e <;> try cases h
  exact aaE.imp λD σ H=>bB λR ρ G F e h=>h σ G H F e .refl
noncomputable def b1(a:VS aB):VB aB where
 ck Γ e:=aP e λx aK=>aW aK (a.ck Γ x)
 cs:=a.cs
 ok q O h:=by
  walk_at "o"
  exact Lb (a.ok q O h)
noncomputable def zm(f g:SF):SF:=λρ=>(f ρ).bind λp=>match p.1 with
 |.nx=>g p.2
 |fl=>.ok (fl,p.2)
theorem ael{t:Tx}(h:Ts t (zm f g) D σ H):K9 (Ts t f) (Ts t g) D σ H:=by
 obtain⟨R,ρ,G,F,e,h⟩:=h
 refine⟨R,ρ,G,F,e,h.run (aF.refl (G:=G)) λp h=>?_⟩
 obtain⟨fl,ρ1⟩:=p
 cases fl with
 |nx=>exact λσ1 G1 H1 F1 e1 s1=>uD e1 s1 h
 |rt T fr=>exact h
 |bk=>exact h
 |ct=>exact h
noncomputable def bC(a:VS aB)(r:VB cV):VB (zm aB cV) where
 ck Γ e:=aP e λx l=>a.ck Γ x&&r.ck Γ l
 cs:=a.cs++r.cs
 ok q O h:=by
  walk_at "o"
  simp only[an]at h
  exact(La (a.ok (ml q) O h.1) (r.ok (mr q) O h.2)).imp λ_ _ _=>ael
noncomputable def lV(K:PySem.W.Frag)(g:GF)(js:List Nat):TG:=λv σ H Q=>∃R ρ G F T,Ok K R ρ σ G H F/\Rep K G v T/\Pz (g T ρ) λρ'=>∀σ' F',Ok K R ρ' σ' G H F'->(∀b,Fn F' b->Fn F b)->(∀k,k∉js -> σ'[k]?=σ[k]?)->Q σ' H
noncomputable def aem(K:PySem.W.Frag)(g:qG)(js:List Nat):oU:=λvs σ H Q=>∃R ρ G F Ts,Ok K R ρ σ G H F/\au K G vs Ts/\Pz (g Ts ρ) λρ'=>∀σ' F',Ok K R ρ' σ' G H F'->(∀b,Fn F' b->Fn F b)->(∀k,k∉js -> σ'[k]?=σ[k]?)->Q σ' H
theorem PG.imp(h:PG X e t)(i:∀v σ H Q,u v σ H Q->t v σ H Q):PG X e u:=λpins s σ H v w Q I r q=>h pins s σ H v w Q I r (i _ σ H Q q)
theorem mR.imp(h:mR X e t)(i:∀v σ H Q,u v σ H Q->t v σ H Q):mR X e u:=λpins s σ H v w Q I r q=>h pins s σ H v w Q I r (i _ σ H Q q)
theorem Pz.ok{α : Type}{r:Rs α}{P : α -> Prop}(h:Pz r P):∃a,r=.ok a/\P a:=by
 cases r with
 |ok a=>exact⟨a,rfl,h⟩
 |_=>exact h.elim
noncomputable abbrev VG(f:GF)(js:List Nat):=Vn λcl E X e=>PG X e (lV (aA X.K) f js)/\(∀T ρ y,f T ρ ≠ .ex y)/\notStar e=true
noncomputable abbrev zq(f:qG)(js:List Nat):=Vn λcl E X e=>mR X e (aem (aA X.K) f js)/\(∀T ρ y,f T ρ ≠ .ex y)/\∀env,(assignEach e env).length=e.length/\(assignEach e env).findIdx? (·.1)=none
noncomputable def uE(Γ : Gx)(i:Nat)(x:Str):Bool := Γ.N[i]? == some x&&(Γ.sc.names.lookup x == some .local || Γ.sc.names.lookup x == some .cell&&Γ.fn x)
noncomputable def Wr(X:Cx)(i:Nat)(x:Str):Prop:=X.N[i]?=some x/\Loc X.env.scope x/\(X.fn x=true\/X.env.scope.names.lookup x=some .local)
theorem zx(o:Ox cl Γ E X)(h:uE Γ i x=true):Wr X i x:=by
 obtain⟨h1,h2⟩:=an.mp h
 refine⟨by rw[o.N]; exact eq_of_beq h1,?_⟩
 unfold Loc
 rw[o.s,o.f]
 rcases(Bool.or_eq_true _ _).mp h2 with h|h
 .exact⟨.inl (eq_of_beq h),.inr (eq_of_beq h)⟩
 .exact⟨.inr (eq_of_beq (an.mp h).1),.inl (an.mp h).2⟩
noncomputable def gN(i:Nat):GF:=λT ρ=>.ok (ρ.set i (.sh T))
theorem Qk(T:Tr)(ρ : En)(c:Str):gN i T ρ ≠ .ex c:=by intro z; cases z
theorem Ql{K:PySem.W.Frag}(h:lV K (gN i) [i] v σ H Q):kW i v σ H Q:=by
 obtain⟨R,ρ,G,F,T,e,r,h⟩:=h
 obtain⟨F',e',s⟩:=e.zf i r
 exact h _ F' e' s λk n=>ig λz=>n (by rw[z]; exact List.mem_singleton.mpr rfl)
noncomputable def gV(i:Nat):VG (gN i) [i] where
 ck Γ e:=atName e λx _=>uE Γ i x
 cs:=[]
 ok q o h:=by
  walk_at "o"
  obtain⟨w1,w2,w3⟩:=zx o h
  exact⟨(aaJ o.d w1 w2 w3).imp λ_ _ _ _=>Ql,Qk,rfl⟩
noncomputable def uF:qG:=λTs ρ=>match Ts with
 | []=>.ok ρ
 |_=>.bad
noncomputable def j5(f:GF)(g:qG):qG:=λTs ρ=>match Ts with
 |T::r=>(f T ρ).bind λρ'=>g r ρ'
 | []=>.bad
noncomputable def iu:zq uF [] where
 ck _ e:=e.isEmpty
 cs:=[]
 ok:=@λ_ _ _ X e _ _ h=>by
  cases e <;> try cases h
  refine⟨aaM.imp λvs σ H Q ⟨R,ρ,G,F,Ts,e,r,h⟩=>?_,λT _ _=>by cases T <;> (intro z; cases z),λ_=>⟨rfl,rfl⟩⟩
  cases r with
  |nil=>exact⟨rfl,h σ F e (λ_ z=>z) λ_ _=>rfl⟩
  |cons _ _=>exact h.elim
theorem Fb(h:notStar e=true):assignEach (e::es) env=(false,assign e env)::assignEach es env:=by
 cases e <;> first|rfl|cases h
noncomputable def cj(a:VG aB a_j)(r:zq cV Fd):zq (j5 aB cV) (a_j++Fd) where
 ck Γ e:=aP e λx y=>a.ck Γ x&&r.ck Γ y
 cs:=a.cs++r.cs
 ok q O h:=by
  walk_at "o"
  simp only[an]at h
  obtain⟨pa,na,ea⟩:=a.ok (ml q) O h.1
  obtain⟨pb,nb,eb⟩:=r.ok (mr q) O h.2
  refine⟨(aaN pa pb (by rw[Fb ea]; rfl)).imp λvs σ H Q ⟨R,ρ,G,F,Ts,e,r,h⟩=>?_,λTs ρ c=>?_,λenv=>?_⟩
  .cases r with
   |nil=>exact h.elim
   | @cons x T xs Ts r1 r2 =>
    obtain⟨ρ2,k,h⟩:=h.ok
    obtain⟨ρ1,k1,k2⟩:=dX k
    refine⟨x,xs,rfl,R,ρ,G,F,T,e,r1,?_⟩
    rw[k1]
    intro σ1 F1 e1 f1 n1
    refine⟨R,ρ1,G,F1,Ts,e1,r2,?_⟩
    rw[k2]
    refine λσ2 F2 e2 f2 n2=>h σ2 F2 e2 (λb z=>f1 b (f2 b z)) λk n=>?_
    rw[List.mem_append,not_or]at n
    rw[n2 k n.2,n1 k n.1]
  .cases Ts with
   |nil=>intro z; cases z
   |cons T r=>exact yW (na T ρ) (λρ'=>nb r ρ') c
  .rw[Fb ea]
   obtain⟨e1,e2⟩:=eb env
   exact⟨by rw[List.length_cons,e1,List.length_cons],by rw[List.findIdx?_cons,e2]; rfl⟩
noncomputable def gT(n:Nat)(f:qG):GF:=λT ρ=>match T with
 |.tup Ts=>if Ts.length=n then f Ts ρ else .bad
 |_=>.bad
noncomputable def iw(n:Nat)(r:zq cV Fd):VG (gT n cV) Fd where
 ck Γ e:=ji e λl _ _=>l.length == n&&r.ck Γ l
 cs:=r.cs
 ok q o h:=by
  walk_at "o"
  simp only[an]at h
  obtain⟨pb,nb,eb⟩:=r.ok q o h.2
  refine⟨(aaP o.l pb ((eb _).1.trans (eq_of_beq h.1)) (eb _).2).imp λv σ H Q ⟨R,ρ,G,F,T,e,r,h⟩=>?_,λT ρ y=>?_,rfl⟩
  .cases T <;> try exact h.elim
   dsimp only[gT]at h
   split at h
   case isFalse=>exact h.elim
   cases r with
   | @tup a xs _ q r=>exact⟨a,xs,rfl,(e.sub.jE q).toK,by rw[r.length]; assumption,R,ρ,G,F,_,e,r,h⟩
  .cases T <;> first|(intro z; cases z; done)|(dsimp only[gT]; split <;> first|exact nb _ _ _|(intro z; cases z))
noncomputable def nF:Expr->Bool
 |.ListComp .. => false
 |.SetComp .. => false
 |.DictComp .. => false
 |_=>true
theorem rm(h:nF e=true):swapsWith e t l env=pure false:=by
 cases e <;> first|rfl|(unfold nF at h; cases h)
noncomputable abbrev VC(f:EF):=Vn λcl E X e=>PE X e (Te (tx cl E X) f)/\∀i y p sp,Wr X i y->PS X (.Assign [.Name y p] e sp) (kY (Te (tx cl E X) f) (kW i))
noncomputable def fJ(a:VC f):VE f:=⟨a.ck,a.cs,λq O h=>(a.ok q O h).1⟩
noncomputable def aE(a:VE aB):VC aB where
 ck Γ e:=nF e&&a.ck Γ e
 cs:=a.cs
 ok q o h:=by
  simp only[an]at h
  have pa:=a.ok q o h.2
  exact⟨pa,λi y p sp w=>BL o.d w.1 w.2.1 pa (rm h.1) w.2.2⟩
noncomputable def zA(Γ : Gx)(i:Nat)(a:VC f):Stmt->Bool
 |.Assign [.Name x _] v _=>uE Γ i x&&a.ck Γ v
 |_=>false
theorem Qm{a:VC f}(q:∀y∈a.cs,y.ok cl X)(o:Ox cl Γ E X)(h:zA Γ i a e=true):PS X e (kY (Te (tx cl E X) f) (kW i)):=by
 unfold zA at h
 split at h
 case h_2=>cases h
 simp only[an]at h
 exact(a.ok q o h.2).2 _ _ _ _ (zx o h.1)
noncomputable def uG(f:EF)(g:GF):SF:=λρ=>(f ρ).bind λp=>match p.1 with
 |.v T _=>(g T p.2).bind λρ'=>.ok (.nx,ρ')
 |.s _=>.bad
theorem Qn{t:Tx}(nx:∀T ρ y,g T ρ ≠ .ex y)(h:Ts t (uG f g) D σ H):kY (Te t f) (lV t.K g js) D σ H:=by
 obtain⟨R,ρ,G,F,e,h⟩:=h
 refine dM e .refl h λp h v G1 H1 F1 e1 s1 v1=>?_
 obtain⟨r,ρ1⟩:=p
 cases r with
 |s i=>exact h.elim
 |v T fr =>
  obtain⟨G2,e2,s2,_,r⟩:=e1.ux e s1 v1 rfl
  obtain⟨ρ',k,h⟩:=h.okb (nx T ρ1)
  exact⟨R,ρ1,G2,F1,T,e2,r,by rw[k]; exact λσ' F' e' hf _=>h σ' G2 H1 F' e' (s2.trans (.sub hf))⟩
noncomputable def sA(i:Nat)(a:VC aB):VS (uG aB (gN i)) where
 ck Γ e:=zA Γ i a e
 cs:=a.cs
 ok q o h:=(Qm q o h).imp λ_ _ _ h=>Te.imp (Qn (js:=[i]) Qk h) λ_ _=>Ql
noncomputable def Qo(i:Nat)(f:EF):SF:=λρ=>(f ρ).bind λp=>match p.1 with
 |.v (.lst ts) true=>.ok (.nx,p.2.set i (.ow ts))
 |_=>.bad
noncomputable def sO(i:Nat)(a:VC aB):VS (Qo i aB) where
 ck Γ e:=zA Γ i a e
 cs:=a.cs
 ok q o h:=by
  refine(Qm q o h).imp λD σ H=>bB λR ρ G F e h=>dM e .refl h λp h v G1 H1 F1 e1 s1 v1=>?_
  obtain⟨r,ρ1⟩:=p
  dsimp only at h
  split at h
  case h_2=>exact h.elim
  obtain⟨⟨a,xs,us,rfl,z,n,g,hx,r⟩,f⟩:=v1
  cases z
  obtain⟨F',e',hf⟩:=e1.aej i hx g (f rfl a rfl) (e.rn n) r
  exact h _ G1 H1 F' e' ⟨s1.gg,s1.fr,s1.nw,λb z=>(hf b z).elim (λz=>.inl (z▸n)) (s1.nf b),s1.dm⟩
noncomputable def Qp:Expr->Bool
 |.Tuple .. => false
 |_=>true
theorem aen(h:Qp v=true):swappedStores [.Tuple l k p] v env=pure none:=by
 cases v <;> first|rfl|cases h
noncomputable def uH(a:VE aB)(g:VG gK jo):VS (uG aB gK) where
 ck Γ e:=lJ e λaK v _=>aP aK λbw bD=>ji bw λl k p=>aW bD (nF v&&Qp v&&a.ck Γ v&&g.ck Γ (.Tuple l k p))
 cs:=a.cs++g.cs
 ok q o h:=by
  walk_at "o"
  simp only[an]at h
  obtain⟨⟨⟨h1,h2⟩,h3⟩,h4⟩:=h
  obtain⟨pg,ng,eg⟩:=g.ok (mr q) o h4
  exact(BK (a.ok (ml q) o h3) pg (by unfold swapsWithSole; exact rm h1) (aen h2) (by rw[Fb eg]; rfl)).imp λ_ _ _=>Qn ng
noncomputable def Fe(Γ : Gx)(i:Nat)(x:Str):Bool := Γ.N[i]? == some x&&Γ.sc.names.lookup x == some .local
theorem rA(o:Ox cl Γ E X)(h:Fe Γ i x=true):X.N[i]?=some x/\X.env.scope.names.lookup x=some .local:=by
 obtain⟨h1,h2⟩:=an.mp h
 exact⟨by rw[o.N]; exact eq_of_beq h1,by rw[o.s]; exact eq_of_beq h2⟩
theorem aeo{env:Env}(n1:notStar u=true)(n2:notStar v=true)(k1:env.scope.names.lookup x=some .local)(k2:env.scope.names.lookup y=some .local)(h4:p.line=p'.line)(e1:(foldedForSure 8 u&&foldedForSure 8 v)=false)(e2:(constantsAlone 8 u&&constantsAlone 8 v)=false)(h8:x≠y)(h9:env.scope.kind=.function):swappedStores [.Tuple [.Name x p,.Name y p'] k q] (.Tuple [u,v] k' q') env=pure (some [x,y]):=by
 have kx:env.kindOf x=some .local:=k1
 have ky:env.kindOf y=some .local:=k2
 have hb:env.blockKind=.function:=by unfold Env.blockKind; rw[h9]; rfl
 unfold swappedStores
 have hy:(y == x)=false:=by simpa using λz=>h8 (z.symm)
 have hx:(x == y)=false:=by simpa using h8
 simp[hb,kx,ky,h4,List.eraseDups,List.filterMap_cons,Expr.pos,List.eraseDupsBy,List.eraseDupsBy.loop,hx,hy]
 rw[if_neg]
 .rw[if_neg λh=>(by rw[h.1,h.2]at e1; cases e1),if_neg λh=>(by rw[h.1,h.2]at e2; cases e2)]
 .rintro(h|h)
  .cases u <;> first|cases h; done|cases n1
  .cases v <;> first|cases h; done|cases n2
noncomputable def Qq(i j:Nat)(fa:AF):SF:=λρ=>(fa ρ).bind λp=>(cls p.1).bind λTs=>match Ts with
 | [T,U]=>.ok (.nx,(p.2.set i (.sh T)).set j (.sh U))
 |_=>.bad
noncomputable def Fg(i j:Nat)(a:VA aB):VS (Qq i j aB) where
 ck Γ e:=lJ e λaK bw _=>aP aK λbD bO=>ji bD λdw _ _=>aP dw λfC jK=>atName fC λx p=>aP jK λuJ uK=>atName uJ λy p'=>aW uK (aW bO (ji bw λFi _ _=>aP Fi λu Fj=>aP Fj λv Fo=>aW Fo (Fe Γ i x&&Fe Γ j y&&decide (i≠j)&&decide (p.line=p'.line)&&a.ck Γ [u,v] && !(foldedForSure 8 u&&foldedForSure 8 v) && !(constantsAlone 8 u&&constantsAlone 8 v)&&decide (x≠y)&&decide (Γ.sc.kind=.function))))
 cs:=a.cs
 ok q o h:=by
  walk_at "o"
  simp only[an]at h
  obtain⟨⟨⟨⟨⟨⟨⟨⟨h1,h2⟩,h3⟩,h4⟩,h5⟩,h6⟩,h7⟩,h8⟩,h9⟩:=h
  obtain⟨pa,_,na⟩:=a.ok q o h5
  refine(aaS o.l o.d (rA o h1).1 (rA o h2).1 (of_decide_eq_true h3) (rA o h1).2 (rA o h2).2 pa (aeo (na _ (List.mem_cons_self ..)) (na _ (List.mem_cons_of_mem _ (List.mem_cons_self ..))) (rA o h1).2 (rA o h2).2 (of_decide_eq_true h4) ((Bool.not_eq_true' _).mp h6) ((Bool.not_eq_true' _).mp h7) (of_decide_eq_true h8) (by rw[o.s]; exact of_decide_eq_true h9)) rfl).imp λD σ H=>bB λR ρ G F e h=>jG e .refl h λp h vs G1 H1 F1 e1 s1 v1=>?_
  obtain⟨Ts,k1,h⟩:=h.okb (qT _)
  obtain⟨G2,e2,s2,_,r⟩:=e1.vis e s1 v1 k1
  split at h
  case h_2=>exact h.elim
  cases r with
  |cons r1 r =>
   cases r with
   |cons r2 r =>
    cases r
    obtain⟨F3,e3,f3⟩:=e2.zf i r1
    obtain⟨F4,e4,f4⟩:=e3.zf j r2
    exact⟨_,_,rfl,h _ G2 H1 F4 e4 (s2.trans (.sub λb z=>f3 b (f4 b z)))⟩
noncomputable def Ft(f:EF):SF:=λρ=>(f ρ).bind λp=>.ok (.nx,p.2)
noncomputable def dY(a:VE aB):VS (Ft aB) where
 ck Γ e:=qL e λx _=>nF x&&a.ck Γ x
 cs:=a.cs
 ok q o h:=by
  walk_at "o"
  simp only[an]at h
  exact(Bx (a.ok q o h.2) (rm h.1)).imp λD σ H=>bB λR ρ G F e h=>dM e .refl h λp h v G1 H1 F1 e1 s1 v1=>h σ G1 H1 F1 e1 s1
noncomputable def Qs(f:EF):SF:=λρ=>(f ρ).bind λp=>match p.1 with
 |.v T fr=>.ok (.rt T fr,p.2)
 |.s i=>match p.2[i]? with
  |some (.ow ts)=>.ok (.rt (.lst ts) true,p.2)
  |_=>.bad
noncomputable def aC(a:VE aB):VS (Qs aB) where
 ck Γ e:=tZ e λaK _=>m9 aK λx=>a.ck Γ x
 cs:=a.cs
 ok q o h:=by
  walk_at "o"
  refine(Ld (a.ok q o h)).imp λD σ H=>bB λR ρ G F e h=>dM e .refl h λp h v G1 H1 F1 e1 s1 v1=>?_
  obtain⟨r,ρ1⟩:=p
  have rg:=λb z=>(e1.rg b z).1
  match r,h,v1 with
  |.v T false,h,v1=>exact h v G1 H1 ⟨s1.gg,⟨s1.fr,e1.tb⟩,e1.sub,s1.nw,rg,v1.1⟩
  |.v T true,h,⟨⟨a,xs,ts,q1,q2,n,g,q3,q4⟩,_⟩=>exact h v G1 H1 ⟨s1.gg,⟨s1.fr,e1.tb⟩,e1.sub,s1.nw,rg,a,xs,ts,q1,q2,.inl n,e.rn n,g,q3,q4⟩
  |.s i,h,v1 =>
   dsimp only at h
   split at h
   case h_2=>exact h.elim
   rename_i ts k
   have z:=e1.sl i
   rw[k]at z
   obtain⟨a,xs,h1,h2,h3,h4,h5⟩:=z
   have f:Fn F1 a:=⟨i,by rw[h2]; exact List.mem_singleton.mpr rfl⟩
   have v1 : σ[i]?=some (some v):=v1
   rw[h1]at v1
   cases v1
   exact h _ G1 H1 ⟨s1.gg,⟨s1.fr,e1.tb⟩,e1.sub,s1.nw,rg,a,xs,ts,rfl,rfl,s1.nf a f,h3,e1.hid a f,h4,h5⟩
noncomputable def Fv(c:BF)(f g:SF):SF:=λρ=>(c ρ).bind λp=>if p.1=true then f p.2 else g p.2
noncomputable def sI(t:VT Ep)(a:VB aB)(b:VB bN):VS (Fv Ep aB bN) where
 ck Γ e:=yj e λz x y _=>t.ck Γ z&&a.ck Γ x&&b.ck Γ y
 cs:=t.cs++(a.cs++b.cs)
 ok q o h:=by
  walk_at "o"
  simp only[an]at h
  refine(aaI (t.ok (ml q) o h.1.1) (a.ok (ml (mr q)) o h.1.2) (b.ok (mr (mr q)) o h.2)).imp λD σ H=>bB λR ρ G F e h=>lF e .refl h λp h G1 H1 F1 e1 s1=>?_
  split at h <;> rename_i c
  .rw[if_pos c]; exact uD e1 s1 h
  .rw[if_neg c]; exact uD e1 s1 h
noncomputable def cQ(i:Nat)(ρ : En):En:=match ρ[i]? with
 |some (.ow ts)=>ρ.set i (.sh (.lst ts))
 |_=>ρ
theorem Ok.cQ{K:PySem.W.Frag}(e:Ok K R ρ σ G H F)(i:Nat):∃G' F',Ok K R (L2.cQ i ρ) σ G' H F'/\aF K G H F G' H F':=by
 unfold L2.cQ
 split
 case h_2=>exact⟨G,F,e,.refl⟩
 rename_i ts k
 have z:=e.sl i
 rw[k]at z
 obtain⟨a,xs,h1,h2,h3,h4,h5⟩:=z
 have f:Fn F a:=⟨i,by rw[h2]; exact List.mem_singleton.mpr rfl⟩
 have g:=e.hid a f
 have m:Same G (upd G a (.lst xs)):=fV g _
 have l:=(List.getElem?_eq_some_iff.mp k).1
 refine⟨_,fH F i [],e.one (G':=upd G a (.lst xs)) i [] (by rw[List.length_set,e.len]) (λj n=>⟨ig n,rfl⟩) m (λb o q=>?_) e.tb (λb q=>?_) (λ_ _ _ _ _ h=>h) (λb h=>(e.rg b h).2) (λb h=>by cases h) ?_,m,λ_ _ h _ _=>h,λb q=>?_,λb z=>?_,λ_ h=>h⟩
 .by_cases z:b=a
  .subst z; rw[bW]at q; rw[h4]; exact q
  .rw[aM z]at q; exact e.sub b o q
 .by_cases z:b=a
  .subst z; exact .inr ⟨λj n z=>n (e.di j i b z (by rw[h2]; exact List.mem_singleton.mpr rfl)),e.tb.nt h4,h3⟩
  .rw[aM z]at q; exact .inl q
 .rw[fX l]
  exact⟨rfl,.ref a,h1,.lst (aG.of bW) (h5.mono m)⟩
 .by_cases z:b=a
  .subst z; exact .inr (.inr f)
  .rw[aM z]at q; exact .inl q
 .rcases lU z with z|⟨j,_,z⟩
  .cases z
  .exact .inr ⟨j,z⟩
noncomputable def Qt(i:Nat)(f:SF):SF:=λρ=>f (cQ i ρ)
noncomputable def sZ(i:Nat)(a:VS aB):VS (Qt i aB) where
 ck:=a.ck
 cs:=a.cs
 ok q o h:=(a.ok q o h).imp λD σ H=>bB λR ρ G F e h=>by
  obtain⟨G',F',e',s'⟩:=e.cQ i
  exact uD e' s' h
noncomputable def aep(c:Str)(f:EF):SF:=λρ=>(f ρ).bind λ_=>.ex c
noncomputable def pU(x:Str)(a:VE aB):VS (aep x aB) where
 ck Γ e:=yp e λaK bw _=>m9 aK λbD=>fW bD λbO dw fC _=>atName bO λy _=>aP dw λv jK=>aW jK (aW fC (pG bw (y == x&&Γ.R.contains y&&jZ Γ y&&notStar v&&a.ck Γ v)))
 cs:=a.cs
 ok q o h:=by
  walk_at "o"
  simp only[an]at h
  obtain⟨⟨⟨⟨h1,h2⟩,h3⟩,h4⟩,h5⟩:=h
  cases eq_of_beq h1
  exact(acG (o.R _ (by simpa using h2)).2 (o.R _ (by simpa using h2)).1 PySem.F.excBase_ValueError o.l (a.ok q o h5) (dN o h3).1 (dN o h3).2 (gC h4)).imp λD σ H=>bB λR ρ G F e h=>dM e .refl h λp h v G1 H1 F1 e1 s1 v1=>⟨rfl,h H1 ⟨s1.fr,e1.tb⟩⟩
noncomputable def dZ{α : Type}:Rs α -> Rs α
 |.bad=>.bad
 |.ex _=>.bad
 |.ok a=>.ok a
theorem PS.iI{X:Cx}{st:Stmt}{t:TS}(h:PS X.iI st t):PS X st t:=⟨λpins s σ H D I hw =>
 wpAny_mono (h pins s σ H D (I.wish _) hw) (λ_ _ q=>q.jB) λ_ _ z=>False.elim z⟩
noncomputable def uL(f:SF):SF:=λρ=>dZ (f ρ)
noncomputable def nG(Γ : Gx):Gx:={Γ with R:=[],nx:=true,L:=[] }
theorem aer(o:Ox cl Γ E X):Ox cl (nG Γ) E0 X.iI:=⟨o.N,o.s,o.d,o.l,o.r,Nu,o.B,(λ_ z=>nomatch z),o.x,o.f,(λ_=>rfl),λ_ z=>nomatch z⟩
noncomputable def sN(a:VS aB):VS (uL aB) where
 ck Γ e:=a.ck (nG Γ) e
 cs:=a.cs
 ok:=@λcl E Γ X e q o h=>(PS.iI (a.ok (X:=X.iI) q (aer o) h)).imp λD σ H=>bB λR ρ G F e h=>⟨R,ρ,G,F,e,by
  unfold uL at h
  cases k:aB ρ <;> rw[k]at h <;> first|exact h|exact h.elim⟩
theorem Qu(o:Ox cl Γ E X)(h : Γ.nx=true):PassesOwn (model X.prog X.w) X.A X.env X.xe:=by
 rw[o.n h]; exact .never
noncomputable def uM(c:BF)(b:SF):Nat->SF
 | 0=>λ_=>.bad
 | n + 1=>λρ => (c ρ).bind λp=>if p.1=true then (b p.2).bind λq=>(match q.1 with
  |.nx=>uM c b n q.2
  |.ct=>uM c b n q.2
  |.bk=>.ok (.nx,q.2)
  |.rt T fr=>.ok (.rt T fr,q.2))else .ok (.nx,p.2)
noncomputable def Qv(fu:En->Nat)(c:BF)(b:SF):SF:=λρ=>uM c b (fu ρ) ρ
noncomputable def sW(fu:En->Nat)(k:VT nH)(b:VB bN):VS (Qv fu nH bN) where
 ck Γ e:=yq e λt l aK _=>aW aK (Γ.nx&&k.ck Γ t&&b.ck Γ l)
 cs:=k.cs++b.cs
 ok:=@λcl E Γ X e q o h=>by
  walk_at "o"
  simp only[an]at h
  refine(aaU (Qu o h.1.1) (k.ok (ml q) o h.1.2) (b.ok (mr q) o h.2)).imp λD σ H=>bB λR ρ G F e h=>?_
  refine⟨λm σ' H'=>∃ρ' G' F',Ok (aA X.K) R ρ' σ' G' H' F'/\aF (aA X.K) G H F G' H' F'/\bG (tx cl E X) H F (uM nH bN m ρ') (nC (tx cl E X) R G H F D),⟨fu ρ,ρ,G,F,e,.refl,h⟩,?_⟩
  rintro m σ1 H1 ⟨ρ1,G1,F1,e1,s1,h1⟩
  cases m with
  |zero=>exact h1.elim
  |succ n =>
   refine lF e1 s1 h1 λp h G2 H2 F2 e2 s2=>?_
   split at h <;> rename_i d
   .rw[if_pos d]
    refine⟨_,λσ' H' q=>⟨n,Nat.lt_succ_self n,q⟩,R,p.2,G2,F2,e2,h.run (s1.trans s2) λq h=>?_⟩
    obtain⟨fl,ρ3⟩:=q
    cases fl with
    |nx=>exact λσ3 G3 H3 F3 e3 s3=>⟨ρ3,G3,F3,e3,(s1.trans s2).trans s3,h⟩
    |ct=>exact λσ3 G3 H3 F3 e3 s3=>⟨ρ3,G3,F3,e3,(s1.trans s2).trans s3,h⟩
    |bk=>exact λσ3 G3 H3 F3 e3 s3=>h σ3 G3 H3 F3 e3 ((s1.trans s2).trans s3)
    |rt T fr=>exact λv G' H' r=>h v G' H' (r.back (s1.trans s2))
   .rw[if_neg d]
    exact h σ1 G2 H2 F2 e2 (s1.trans s2)
noncomputable def zB(K:PySem.W.Frag)(G:Hp)(J:It)(us:List Tr):Prop:=∀G' H',Same G G'->Same G' H'->∀i,(i=us.length->J.stop i H')/\∀u,us[i]?=some u->J.go i H'/\∀x cZ,J.kZ i H' x cZ->∃G'',Gw K G' H' G'' cZ/\Rep K G'' x u
noncomputable def Ti(t:Tx)(f:IF):TI:=λσ H Q=>∃R ρ G F,Ok t.K R ρ σ G H F/\bG t H F (f ρ) λp=>∀J G' H' F',Ok t.K R p.2 σ G' H' F'->aF t.K G H F G' H' F'->zB t.K G' J p.1->Q J H'
theorem PI.imp(h:PI X tg e t)(i:∀σ H Q,u σ H Q->t σ H Q):PI X tg e u:=λpins s σ H Q I q=>h pins s σ H Q I (i σ H Q q)
noncomputable def Fw:Expr->Bool
 |.Set .. => false
 |_=>true
theorem j6(h:Fw e=true)(x:Value):foldedSetIterable e env x=pure x:=by
 cases e <;> first|rfl|cases h
noncomputable abbrev VI(f:IF):=Vn (τ := Expr × Expr) λcl E X e=>PI X e.1 e.2 (Ti (tx cl E X) f)/\Fw e.2=true
noncomputable def jL(g:GF)(b:SF):List Tr->SF
 | []=>λρ=>.ok (.nx,ρ)
 | u :: us=>λρ => (g u ρ).bind λρ1=>(b ρ1).bind λq=>(match q.1 with
  |.nx=>jL g b us q.2
  |.ct=>jL g b us q.2
  |.bk=>.ok (.nx,q.2)
  |.rt T fr=>.ok (.rt T fr,q.2))
noncomputable def Qw(fi:IF)(g:GF)(b:SF):SF:=λρ=>(fi ρ).bind λp=>jL g b p.1 p.2
noncomputable def sF(i:VI lW)(g:VG gK jo)(b:VB bN):VS (Qw lW gK bN) where
 ck Γ e:=yr e λt y l aK _=>aW aK (Γ.nx&&i.ck Γ (t,y)&&g.ck Γ t&&b.ck Γ l)
 cs:=i.cs++(g.cs++b.cs)
 ok:=@λcl E Γ X e q o h=>by
  walk_at "o"
  simp only[an]at h
  obtain⟨⟨⟨h1,h2⟩,h3⟩,h4⟩:=h
  obtain⟨pi,ni⟩:=i.ok (ml q) o h2
  obtain⟨pg,ng,_⟩:=g.ok (ml (mr q)) o h3
  refine(aa5 (Qu o h1) o.l pi pg (b.ok (mr (mr q)) o h4) (j6 ni)).imp λD σ H=>bB λR ρ G F e h=>⟨R,ρ,G,F,e,h.run (aF.refl (G:=G)) λp h J G1 H1 F1 e1 s1 it=>?_⟩
  obtain⟨us,ρ1⟩:=p
  refine⟨λi m σ' H'=>m=us.length-i/\i<=us.length/\∃ρ' G' F',Ok (aA X.K) R ρ' σ' G' H' F'/\aF (aA X.K) G H F G' H' F'/\Same G1 G'/\bG (tx cl E X) H F (jL gK bN (us.drop i) ρ') (nC (tx cl E X) R G H F D),⟨us.length,by simp,Nat.zero_le _,ρ1,G1,F1,e1,s1,Same.refl _,h⟩,?_⟩
  rintro i m σ2 H2 ⟨rfl,hi,ρ2,G2,F2,e2,s2,m2,h2⟩
  have q:=it G2 H2 m2 e2.sub i
  by_cases hlt:i<us.length
  .rw[List.drop_eq_getElem_cons hlt]at h2
   obtain⟨go,y⟩:=q.2 us[i] (by simp[hlt])
   refine .inr ⟨go,_,λσ' H' z=>⟨us.length-(i+1),by omega,rfl,hlt,z⟩,λx H3 yl=>?_⟩
   obtain⟨G3,w3,r3⟩:=y x H3 yl
   obtain⟨e3,s3⟩:=e2.grow w3
   obtain⟨ρ4,k4,h⟩:=h2.okb (ng _ _)
   refine⟨R,ρ2,G3,F2,_,e3,r3,?_⟩
   rw[k4]
   intro σ4 F4 e4 f4 _
   have s4:=s3.trans (aF.sub f4)
   refine⟨R,ρ4,G3,F4,e4,h.run (s2.trans s4) λr h=>?_⟩
   obtain⟨fl,ρ5⟩:=r
   cases fl with
   |nx=>exact λσ5 G5 H5 F5 e5 s5=>⟨ρ5,G5,F5,e5,(s2.trans s4).trans s5,m2.trans (s4.gg.trans s5.gg),h⟩
   |ct=>exact λσ5 G5 H5 F5 e5 s5=>⟨ρ5,G5,F5,e5,(s2.trans s4).trans s5,m2.trans (s4.gg.trans s5.gg),h⟩
   |bk=>exact λσ5 G5 H5 F5 e5 s5=>h σ5 G5 H5 F5 e5 ((s2.trans s4).trans s5)
   |rt T fr=>exact λv G' H' r=>h v G' H' (r.back (s2.trans s4))
  .have z:i=us.length:=by omega
   subst z
   rw[List.drop_length]at h2
   exact .inl ⟨q.1 rfl,h2 σ2 G2 H2 F2 e2 s2⟩
noncomputable def Ite(K:PySem.W.Frag)(l:Addr):It where
 go:=λi H=>∃xs x,aG K H l xs/\xs[i]?=some x
 kZ:=λi H v H'=>∃(T:Addr) (x:V),v=.ref T/\H T=none/\H'=upd H T (.tup [.int (i:Int),x])/\∀xs,aG K H l xs->xs[i]?=some x
 stop:=λi H=>∃xs,aG K H l xs/\i=xs.length
noncomputable def aes(l e it:Addr)(i:Nat)(h:Heap):Prop:=(∃old,IsEnum h e it i old)/\h.IsListIter it l i
section
variable {P:Program}{w:World}{K:PySem.W.Frag}
theorem aeu(l e it:Addr)(hei:e≠it)(hle:l≠e)(hli:l≠it):Turn P w K (.Tuple elts k pos) (Ite K l) [e,it] e (aes l e it) where
 mem:=by simp
 obj:=λi h st b hb=>by
  obtain⟨⟨old,he⟩,⟨o1,e1,_,d1⟩⟩:=st
  have hb':b=e\/b=it:=by simpa using hb
  rcases hb' with rfl|rfl
  .exact⟨_,he,λv q=>nomatch q⟩
  .exact⟨o1,e1,λv q=>by rw[d1]at q; cases q⟩
 keep:=λi h h' st kp=>by
  obtain⟨⟨old,he⟩,h1⟩:=st
  exact⟨⟨old,kp e (by simp) _ he⟩,h1.at λo q=>kp it (by simp) o q⟩
 item:=by
  intro X hP hw hK hc i pins s σ H E I hf st hg
  subst hP hw hK
  obtain⟨xs,x,q1,hx⟩:=hg
  obtain⟨gF,lD,p1,_⟩:=I.list q1
  obtain⟨u,hu,ru⟩:=lD.get hx
  have W:=WalksT.enumerate (prog:=X.prog) (w:=X.w) (A:=X.A) (I.ok.hd hc) e it l hei hle hli gF.toArray
  have lt1:i<gF.length:=(List.getElem?_eq_some_iff.mp hu).1
  refine W.item i s _ E (by simp; lia) ⟨st.1,st.2,p1.isList⟩ λT vals h' tk hp hT ht mid kk=>?_
  obtain⟨t0,u',e1,rfl⟩:=hp
  have eu:u'=u:=by
   have:gF[i]?=some u':=by simpa using e1
   rw[hu]at this; cases this; rfl
  subst eu
  refine⟨.ref T,rfl,?_⟩
  refine W.go elts k pos i T _ _ E mid λh'' st' tM=>?_
  have nT:=W.apart i T _ mid
  have ob:∀b∈[e,it],b<s.heap.objs.size:=λb hb=>by
   obtain⟨⟨old,he⟩,⟨o1,e1,_,d1⟩⟩:=st
   have hb':b=e\/b=it:=by simpa using hb
   rcases hb' with rfl|rfl
   .exact Heap.lt_size he
   .exact Heap.lt_size e1
  have Dp:T∉[e,it]:=λm=>absurd (ob T m) (Nat.not_lt.mpr hT)
  have Dq:IsTup h'' T #[.int i t0,u']:=by
   obtain⟨o,e',r⟩:=ht
   exact⟨o,tM T o nT e',r⟩
  have th:∀b∈[e,it],∃o,h''.get? b=some o:=λb hb=>by
   obtain⟨⟨old,he⟩,⟨o1,e1,_,d1⟩,_⟩:=st'
   have hb':b=e\/b=it:=by simpa using hb
   rcases hb' with rfl|rfl
   .exact⟨_,he⟩
   .exact⟨_,e1⟩
  have I':Inv X pins σ (upd H T (.tup [.int (i:Int),x])) {s with heap:=h'',toks:=tk }:=I.Dm (its:=[.int i t0,u']) hf (λb o n e=>tM b o n (kk b o n e)) th hT Dq (.cons ⟨_,rfl⟩ (.cons ru .nil)) (by show 2<=sizeLine; decide)
  refine⟨.ref T,_,I',rfl,⟨T,x,rfl,I.hok.fresh hT,rfl,λxs' a1=>?_⟩,⟨st'.1,st'.2.1⟩,λb hb=>?_⟩
  .rw[I.mQ a1 q1]
   exact hx
  .have nb:b≠T:=by
    intro e0
    rw[e0]at hb
    exact Dp hb
   rw[aM nb]
   exact(hf b hb).1
 done:=by
  intro X hP hw hK hc i pins s σ H E I hf st hg
  subst hP hw hK
  obtain⟨xs,q1,e1⟩:=hg
  obtain⟨gF,lD,p1,_⟩:=I.list q1
  have W:=WalksT.enumerate (prog:=X.prog) (w:=X.w) (A:=X.A) (I.ok.hd hc) e it l hei hle hli gF.toArray
  have ei:i=gF.toArray.size:=by simp[e1,lD.length]
  subst ei
  exact W.done s _ E ⟨st.1,st.2,p1.isList⟩ λh' tk kk=>⟨rfl,I.Dn hf λb o n e=>kk b o n e⟩
 self:=λA i s Q E st h=>by
  obtain⟨⟨old,he⟩,_⟩:=st
  exact wpAny_pyIter_enum he h
end
section
variable {X:Cx}
noncomputable def aev(K:PySem.W.Frag)(ta:TA):TI:=λσ H R=>ta σ H λvs H1=>∃l,vs=[.ref l]/\(∃xs,aG K H1 l xs)/\R (Ite K l) H1
theorem aew(hm:X.mg "enumerate" = none) (ha:PA X [a] ta) (hg:X.env.kindOf "enumerate" = some .globalImplicit:=by kernel_rfl) (hs:notStar a=true:=by kernel_rfl) :
  PI X (.Tuple elts k tpos) (.Call (.Name "enumerate" p) [a] [] pos) (aev X.K ta):=by
 intro pins s σ H R I h
 refine Call_ (kO I hg hm (show bootBuiltins "enumerate" = some (.type "enumerate") by decide +kernel) (PyProof.Rows.callWith_type1 (aH (ha pos pins s σ H _ I h) λus s1 ⟨vs,H1,I1,r1,q1⟩=>?_) (gC hs) rfl) (by decide +kernel) (by kernel_rfl))
 obtain⟨l,e,⟨xs,h1⟩,q⟩:=q1
 subst e
 cases r1 with
 |cons r rr =>
  cases rr
  cases r
  obtain⟨gF,lD,p1,_⟩:=I1.list h1
  obtain⟨o1,e1,_⟩:=p1.isList
  have lt:=Heap.lt_size e1
  refine call_enumerate_list p1.isList λh' he hit hsz hk=>?_
  refine wpAny_pyIter_enum he ?_
  refine⟨_,[_,_],_,_,H1,rfl,I1.kept (t':=s1.toks) hk,aeu l _ _ (Nat.succ_ne_self _) (Nat.ne_of_lt (Nat.lt_succ_of_lt lt)) (Nat.ne_of_lt lt),⟨⟨_,he⟩,hit⟩,λc hc=>?_,q⟩
  have hc':c=s1.heap.objs.size+1\/c=s1.heap.objs.size:=by simpa using hc
  have hge:s1.heap.objs.size<=c:=by rcases hc' with rfl|rfl <;> lia
  exact I1.jC hge (I1.hok.fresh hge)
end
noncomputable abbrev dz(h:Heap)(T:Addr)(a b c:Value):Prop:=h.get? T=some {cls:=.type "tuple",data:=.seq #[a,b,c] }
structure zE(y I O j1 j2 j3 m1 m2 m3:Addr):Prop where
 nd : [y,I,O,j1,j2,j3].Nodup
 l1:m1∉[y,O,j1,j2,j3]
 l2:m2∉[y,O,j1,j2,j3]
 l3:m3∉[y,O,j1,j2,j3]
section
variable {prog:Program}{w:World}{s:Shared}{A:Around}{E:Value->Shared->Prop}
theorem Fy(t:dz s.heap T a b c)
  (q:∀g,g.get? T=some {cls:=.type "tuple",data:=.seq ((#[a,b,c]:Array Value).setIfInBounds k x) }->Heap.SameBut T s.heap g->Q () {s with heap:=g }):wpAny (model prog w) A (updateSeq T (·.setIfInBounds k x)) Q E s:=by
 refine wpAny_updateSeq t rfl (q _ ?_ (.update ..))
 rw[Heap.get?_update_self _ t rfl]
 simp[Obj.mapSeq]
noncomputable def Qx(y O j1 j2 j3:Addr)(h g:Heap):Prop:=∀c o,c∉[y,O,j1,j2,j3]->h.get? c=some o->g.get? c=some o
theorem aex{n:Nat}{as bs cs:Array Value}{Q:Value->Shared->Prop}(D:zE y I O j1 j2 j3 m1 m2 m3)
  (hy:IsZip s.heap y I O .none) (hI:dz s.heap I (.ref j1) (.ref j2) (.ref j3)) (hO:dz s.heap O p q r) (k1:s.heap.IsListIter j1 m1 n) (k2:s.heap.IsListIter j2 m2 n) (k3:s.heap.IsListIter j3 m3 n)
  (e1:s.heap.IsList m1 as) (e2:s.heap.IsList m2 bs) (e3:s.heap.IsList m3 cs) (ga:as[n]?=some a) (gb:bs[n]?=some b) (gc:cs[n]?=some c)
  (fin:∀g,IsZip g y I O (rawInt s.heap.objs.size)->dz g O a b c->g.IsListIter j1 m1 (n+1)->g.IsListIter j2 m2 (n+1)->g.IsListIter j3 m3 (n+1)->dz g s.heap.objs.size a b c->Qx y O j1 j2 j3 s.heap g->Q (.ref s.heap.objs.size) {s with heap:=g }) :
  wpAny (model prog w) A (Builtin.«zip.__next__» ⟨[.ref y],[]⟩) (λf u=>∃v,f=.done (.ret v)/\Q v u) E s:=by
 have nd:=D.nd
 have d1:=D.l1
 have d2:=D.l2
 have d3:=D.l3
 simp only[List.nodup_cons,List.mem_cons,List.not_mem_nil,or_false,not_or,List.nodup_nil,and_true,not_false_eq_true]at nd d1 d2 d3
 obtain⟨⟨zI,zO,z1,z2,z3⟩,⟨IO,I1,I2,I3⟩,⟨O1,O2,O3⟩,⟨n12,n13⟩,n23⟩:=nd
 obtain⟨x1z,x1O,x11,x12,x13⟩:=d1
 obtain⟨x2z,x2O,x21,x22,x23⟩:=d2
 obtain⟨x3z,Qy,x31,x32,x33⟩:=d3
 show wpAny _ _ (field (.ref y) 2 >>= _) _ _ _
 refine wpAny_bind (wpAny_field hy rfl (x:=.bool false) rfl ?_)
 show wpAny _ _ (field (.ref y) 3 >>= _) _ _ _
 refine wpAny_bind (wpAny_field hy rfl (x:=.ref I) rfl ?_)
 refine wpAny_bind (wpAny_seqItems hI rfl ?_)
 show wpAny _ _ (Builtin.SmallTypes.ownedTupleIsFree (.ref y) >>= _) _ _ _
 refine wpAny_bind ?_; unfold Builtin.SmallTypes.ownedTupleIsFree
 refine wpAny_bind (wpAny_field hy rfl (x:=.none) rfl (wpAny_pure ?_))
 simp only[if_true]
 refine wpAny_bind <| wpAny_rule ?_
 refine wpAny_bind (wpAny_field hy rfl (x:=.ref O) rfl ?_)
 refine wpAny_bind (wpAny_setField_rec hy (by simp) λha za sa=>?_)
 replace za:IsZip ha y I O .ellipsis:=za
 refine wpAny_bind ?_
 simp only[List.forIn_cons,List.forIn_nil,List.zipIdx_nil,List.zipIdx_cons]
 refine wpAny_bind <| wpAny_bind <| wpAny_onRaise ?_
 show wpAny _ _ (Builtin.SmallTypes.nextOf (.ref j1) >>= _) _ _ _
 refine wpAny_bind (wpAny_nextOf_list_item (k1.extBut sa.extBut (Ne.symm z1)) (e1.extBut sa.extBut x1z) ga λhb kb sb=>wpAny_pure ?_)
 have Ob:dz hb O p q r:=sb.extBut _ _ O1 (sa.extBut _ _ (Ne.symm zO) hO)
 refine wpAny_bind (wpAny_seqItems Ob rfl ?_)
 refine wpAny_bind (Fy Ob λhc Oc sc=>?_)
 replace Oc:dz hc O a q r:=Oc
 refine wpAny_bind <| wpAny_letGo <| wpAny_pure ?_
 refine wpAny_bind <| wpAny_bind <| wpAny_onRaise ?_
 show wpAny _ _ (Builtin.SmallTypes.nextOf (.ref j2) >>= _) _ _ _
 refine wpAny_bind (wpAny_nextOf_list_item (((k2.extBut sa.extBut (Ne.symm z2)).extBut sb.extBut (Ne.symm n12)).extBut sc.extBut (Ne.symm O2)) (((e2.extBut sa.extBut x2z).extBut sb.extBut x21).extBut sc.extBut x2O) gb λhd kd sd=>wpAny_pure ?_)
 have Od:dz hd O a q r:=sd.extBut _ _ O2 Oc
 refine wpAny_bind (wpAny_seqItems Od rfl ?_)
 refine wpAny_bind (Fy Od λhe Oe se=>?_)
 replace Oe:dz he O a b r:=Oe
 refine wpAny_bind <| wpAny_letGo <| wpAny_pure ?_
 refine wpAny_bind <| wpAny_bind <| wpAny_onRaise ?_
 show wpAny _ _ (Builtin.SmallTypes.nextOf (.ref j3) >>= _) _ _ _
 refine wpAny_bind (wpAny_nextOf_list_item (((((k3.extBut sa.extBut (Ne.symm z3)).extBut sb.extBut (Ne.symm n13)).extBut sc.extBut (Ne.symm O3)).extBut sd.extBut (Ne.symm n23)).extBut se.extBut (Ne.symm O3)) (((((e3.extBut sa.extBut x3z).extBut sb.extBut x31).extBut sc.extBut Qy).extBut sd.extBut x32).extBut se.extBut Qy) gc λhf kf sf=>wpAny_pure ?_)
 have Of:dz hf O a b r:=sf.extBut _ _ O3 Oe
 refine wpAny_bind (wpAny_seqItems Of rfl ?_)
 refine wpAny_bind (Fy Of λhg Og sg=>?_)
 replace Og:dz hg O a b c:=Og
 refine wpAny_bind <| wpAny_letGo <| wpAny_pure <| wpAny_pure ?_
 refine wpAny_bind (wpAny_seqItems Og rfl ?_)
 refine wpAny_bind <| wpAny_newTuple ?_
 have size:hg.objs.size=s.heap.objs.size:=by rw[sg.1,sf.1,se.1,sd.1,sc.1,sb.1,sa.1]
 have up:∀x o,x∉[y,O,j1,j2,j3]->s.heap.get? x=some o->hg.get? x=some o:=λx o h t=>by
  simp only[List.mem_cons,List.not_mem_nil,or_false,not_or]at h
  obtain⟨u1,u2,u3,u4,u5⟩:=h
  exact sg.extBut _ _ u2 (sf.extBut _ _ u5 (se.extBut _ _ u2 (sd.extBut _ _ u4 (sc.extBut _ _ u2 (sb.extBut _ _ u3 (sa.extBut _ _ u1 t))))))
 have zg:IsZip hg y I O .ellipsis:=sg.extBut _ _ zO (sf.extBut _ _ z3 (se.extBut _ _ zO (sd.extBut _ _ z2 (sc.extBut _ _ zO (sb.extBut _ _ z1 za)))))
 have Fz:hg.IsListIter j1 m1 (n+1):=((((kb.extBut sc.extBut (Ne.symm O1)).extBut sd.extBut n12).extBut se.extBut (Ne.symm O1)).extBut sf.extBut n13).extBut sg.extBut (Ne.symm O1)
 have FJ:hg.IsListIter j2 m2 (n+1):=((kd.extBut se.extBut (Ne.symm O2)).extBut sf.extBut n23).extBut sg.extBut (Ne.symm O2)
 have FN:hg.IsListIter j3 m3 (n+1):=kf.extBut sg.extBut (Ne.symm O3)
 have zl:y<hg.objs.size:=Heap.lt_size zg
 show wpAny _ _ (Builtin.SmallTypes.ownedTupleHandOut (.ref y) (.ref hg.objs.size) >>= _) _ _ _
 refine wpAny_bind ?_; unfold Builtin.SmallTypes.ownedTupleHandOut
 have zp:IsZip (hg.push {cls:=.type "tuple",data:=.seq #[a,b,c] }) y I O .ellipsis:=Heap.get?_push_of_some _ zg
 refine wpAny_bind (wpAny_setField_rec zp (by simp) λhu zu su=>?_)
 replace zu:IsZip hu y I O (rawInt hg.objs.size):=zu
 refine wpAny_setField_rec zu (by simp) λhv zv sv=>?_
 replace zv:IsZip hv y I O (rawInt hg.objs.size):=zv
 have top:∀x o,x≠y->hg.get? x=some o->hv.get? x=some o:=λx o v t=>sv.extBut _ _ v (su.extBut _ _ v (Heap.get?_push_of_some _ t))
 have Tv:dz hv hg.objs.size a b c:=sv.extBut _ _ (Nat.ne_of_gt zl) (su.extBut _ _ (Nat.ne_of_gt zl) (Heap.get?_push_size _ rfl))
 rw[size]at zv Tv
 apply wpAny_pure; refine⟨_,rfl,?_⟩
 show Q (.ref hg.objs.size) _
 rw[size]
 exact fin hv zv (top _ _ (Ne.symm zO) Og) (Fz.at λo t=>top _ o (Ne.symm z1) t) (FJ.at λo t=>top _ o (Ne.symm z2) t) (FN.at λo t=>top _ o (Ne.symm z3) t) Tv λx o h t=>top x o (λv=>h (by simp[v])) (up x o h t)
end
section
variable {prog:Program}{w:World}{s:Shared}{A:Around}{E:Value->Shared->Prop}
theorem aey(hh:A.handled=none)(y1:j1≠y)(FQ:m1≠y)(hy:IsZip s.heap y I O .none)(hI:dz s.heap I (.ref j1) (.ref j2) (.ref j3))(k1:s.heap.IsListIter j1 m1 n)(e1:s.heap.IsList m1 as)(ga:as[n]?=none)
  (fin:∀g x,(∀c o,c≠y->c≠j1->s.heap.get? c=some o->g.get? c=some o)->(∃o,g.get? x=some o/\o.cls=.type "StopIteration")->E (.ref x) {s with heap:=g }):wpAny (model prog w) A (Builtin.«zip.__next__» ⟨[.ref y],[]⟩) Q E s:=by
 show wpAny _ _ (field (.ref y) 2 >>= _) _ _ _
 refine wpAny_bind (wpAny_field hy rfl (x:=.bool false) rfl ?_)
 show wpAny _ _ (field (.ref y) 3 >>= _) _ _ _
 refine wpAny_bind (wpAny_field hy rfl (x:=.ref I) rfl ?_)
 refine wpAny_bind (wpAny_seqItems hI rfl ?_)
 show wpAny _ _ (Builtin.SmallTypes.ownedTupleIsFree (.ref y) >>= _) _ _ _
 refine wpAny_bind ?_; unfold Builtin.SmallTypes.ownedTupleIsFree
 refine wpAny_bind (wpAny_field hy rfl (x:=.none) rfl (wpAny_pure ?_))
 simp only[if_true]
 refine wpAny_bind <| wpAny_rule ?_
 refine wpAny_bind (wpAny_field hy rfl (x:=.ref O) rfl ?_)
 refine wpAny_bind (wpAny_setField_rec hy (by simp) λha za sa=>?_)
 replace za:IsZip ha y I O .ellipsis:=za
 refine wpAny_bind ?_
 simp only[List.forIn_cons,List.forIn_nil,List.zipIdx_nil,List.zipIdx_cons]
 refine wpAny_bind <| wpAny_bind <| wpAny_onRaise ?_
 show wpAny _ _ (Builtin.SmallTypes.nextOf (.ref j1) >>= _) _ _ _
 refine wpAny_bind (wpAny_nextOf_list_end hh (k1.extBut sa.extBut y1) (e1.extBut sa.extBut FQ) ga λhb x sb hx=>?_)
 obtain⟨o,ho,hc⟩:=hx
 have zb:IsZip hb y I O .ellipsis:=sb _ _ (Ne.symm y1) za
 have xy:x≠y:=λv=>by subst v; rw[zb]at ho; cases ho; simp at hc
 exact wpAny_setField_rec zb (by simp) λhd _ sd=>fin hd x (λc o c1 c2 t=>sd.extBut _ _ c1 (sb _ _ c2 (sa.extBut _ _ c1 t))) ⟨o,sd.extBut _ _ xy ho,hc⟩
theorem aez(D:zE y I O j1 j2 j3 m1 m2 m3)
  (hy:IsZip s.heap y I O .none) (hI:dz s.heap I (.ref j1) (.ref j2) (.ref j3)) (hO:dz s.heap O p q r) (k1:s.heap.IsListIter j1 m1 n) (k2:s.heap.IsListIter j2 m2 n) (k3:s.heap.IsListIter j3 m3 n)
  (e1:s.heap.IsList m1 as) (e2:s.heap.IsList m2 bs) (e3:s.heap.IsList m3 cs) (ga:as[n]?=some a) (gb:bs[n]?=some b) (gc:cs[n]?=some c)
  (fin:∀g,IsZip g y I O (rawInt s.heap.objs.size)->dz g O a b c->g.IsListIter j1 m1 (n+1)->g.IsListIter j2 m2 (n+1)->g.IsListIter j3 m3 (n+1)->dz g s.heap.objs.size a b c->Qx y O j1 j2 j3 s.heap g->Q (some (.ref s.heap.objs.size)) {s with heap:=g }) :
  wpAny (model prog w) A (pyNext (.ref y)) Q E s:=by
 have ty:s.TypeIs (.ref y) "zip" := ⟨_,hy,rfl⟩
 unfold pyNext
 exact wpAny_bind (wpAny_attempt (wpAny_callSpecial?_slot (name:=Str.ofString "__next__") ty F.slot_zip_next (wpAny_call_entry F.slot_zip_next ty F.entry_zip_next (aex D hy hI hO k1 k2 k3 e1 e2 e3 ga gb gc λg q1 q2 q3 q4 q5 q6 q7=>wpAny_pure (fin g q1 q2 q3 q4 q5 q6 q7)) (F.args_zip_next_1 _))))
theorem aeA(hh:A.handled=none)(y1:j1≠y)(FQ:m1≠y)(hy:IsZip s.heap y I O .none)(hI:dz s.heap I (.ref j1) (.ref j2) (.ref j3))(k1:s.heap.IsListIter j1 m1 n)(e1:s.heap.IsList m1 as)(ga:as[n]?=none)
  (fin:∀g,(∀c o,c≠y->c≠j1->s.heap.get? c=some o->g.get? c=some o)->Q none {s with heap:=g }):wpAny (model prog w) A (pyNext (.ref y)) Q E s:=by
 have ty:s.TypeIs (.ref y) "zip" := ⟨_,hy,rfl⟩
 unfold pyNext
 refine wpAny_bind (wpAny_attempt (wpAny_callSpecial?_slot (name:=Str.ofString "__next__") ty F.slot_zip_next (wpAny_call_entry F.slot_zip_next ty F.entry_zip_next (aey hh y1 FQ hy hI k1 e1 ga λg x k hx=>?_) (F.args_zip_next_1 _))))
 obtain⟨o,ho,hc⟩:=hx
 exact wpAny_bind (wpAny_isInstance (T := "StopIteration") (b:=true) ⟨o,ho,hc⟩ isSubtype_stop (wpAny_pure (fin _ k)))
end
theorem tc3(a b c:Value):checkTypeCall "zip" ⟨[a,b,c],[]⟩=pure ():=by kernel_rfl
theorem nc3(a b c:Value):checkBuiltinCall "zip.__new__" ⟨[.type "zip",a,b,c],[]⟩=pure ():=by kernel_rfl
noncomputable abbrev uN(h:Heap)(m1:Addr):Heap:=h.push {cls:=.type "list_iterator",data:=.fields #[.ref m1,.int 0 0] }
noncomputable abbrev uP(h:Heap)(m1 m2:Addr):Heap:=(uN h m1).push {cls:=.type "list_iterator",data:=.fields #[.ref m2,.int 0 0] }
noncomputable abbrev zF(h:Heap)(m1 m2 m3:Addr):Heap:=(uP h m1 m2).push {cls:=.type "list_iterator",data:=.fields #[.ref m3,.int 0 0] }
noncomputable abbrev zG(h:Heap)(m1 m2 m3:Addr):Heap:=(zF h m1 m2 m3).push {cls:=.type "tuple",data:=.seq #[.ref h.objs.size,.ref (uN h m1).objs.size,.ref (uP h m1 m2).objs.size] }
noncomputable abbrev zH(h:Heap)(m1 m2 m3:Addr):Heap:=(zG h m1 m2 m3).push {cls:=.type "tuple",data:=.seq #[.none,.none,.none] }
noncomputable abbrev pW(h:Heap)(m1 m2 m3:Addr):Heap:=(zH h m1 m2 m3).push {cls:=.type "zip",data:=.fields #[.none,.bool false,.bool false,.ref (zF h m1 m2 m3).objs.size,.ref (zG h m1 m2 m3).objs.size] }
theorem aeB(m1 m2 m3:Addr)(as bs cs:Array Value):Meets (Builtin.«zip.__new__» ⟨[.type "zip",.ref m1,.ref m2,.ref m3],[]⟩) (λ_ R s=>s.heap.IsList m1 as/\s.heap.IsList m2 bs/\s.heap.IsList m3 cs/\R (.ok (.ret (.ref (zH s.heap m1 m2 m3).objs.size))) {s with heap:=pW s.heap m1 m2 m3 }) :=
 .of_wp λprog w A R s h=>by
  obtain⟨hp,g,d,tk,os⟩:=s; obtain⟨e1,e2,e3,h⟩:=h
  have sub:=sub_zip
  have f1:Heap.IsList (Shared.heap ⟨hp,g,d,tk,os⟩) m1 as:=e1
  have f2:Heap.IsList (Shared.heap ⟨uN hp m1,g,d,tk,os⟩) m2 bs:=Heap.IsList.push e2 _
  have f3:Heap.IsList (Shared.heap ⟨uP hp m1 m2,g,d,tk,os⟩) m3 cs:=Heap.IsList.push (Heap.IsList.push e3 _) _
  wp_walk using wpAny_pyIter_list f1,wpAny_pyIter_list f2,wpAny_pyIter_list f3
  exact⟨_,rfl,h⟩
theorem oi4(a b c d:Value):argsOk "object.__init__" ⟨[a,b,c,d],[]⟩:=by
 unfold argsOk
 rw[signature?_of (id := "object.__init__") (o:=['t','c','e','j','b','o']) (n:=['_','_','t','i','n','i','_','_']) (by kernel_rfl) F.owner_object]
 kernel_rfl
section
variable {prog:Program}{w:World}{s:Shared}{A:Around}{E:Value->Shared->Prop}
theorem aeC(e1:s.heap.IsList m1 as)(e2:s.heap.IsList m2 bs)(e3:s.heap.IsList m3 cs)
  (fin:∀g,IsZip g (s.heap.objs.size+5) (s.heap.objs.size+3) (s.heap.objs.size+4) .none->dz g (s.heap.objs.size+3) (.ref s.heap.objs.size) (.ref (s.heap.objs.size+1)) (.ref (s.heap.objs.size+2)) ->
   dz g (s.heap.objs.size+4) .none .none .none->g.IsListIter s.heap.objs.size m1 0->g.IsListIter (s.heap.objs.size+1) m2 0->g.IsListIter (s.heap.objs.size+2) m3 0->(∀c o,s.heap.get? c=some o->g.get? c=some o)->Q (.ref (s.heap.objs.size+5)) {s with heap:=g }) :
  wpAny (model prog w) A (call (.type "zip") [.ref m1,.ref m2,.ref m3]) Q E s:=by
 refine callType_new F.called_zip (by decide) (tc3 _ _ _) (nc3 _ _ _) (λobj=>oi4 obj _ _ _) F.entry_zip_new (aeB m1 m2 m3 as bs cs) ⟨e1,e2,e3,?_⟩
 have y1:(uN s.heap m1).objs.size=s.heap.objs.size+1:=Heap.size_push ..
 have y2:(uP s.heap m1 m2).objs.size=s.heap.objs.size+2:=by rw[Heap.size_push,y1]
 have y3:(zF s.heap m1 m2 m3).objs.size=s.heap.objs.size+3:=by rw[Heap.size_push,y2]
 have y4:(zG s.heap m1 m2 m3).objs.size=s.heap.objs.size+4:=by rw[Heap.size_push,y3]
 have y5:(zH s.heap m1 m2 m3).objs.size=s.heap.objs.size+5:=by rw[Heap.size_push,y4]
 have up:∀{h:Heap} {o:Obj} {c:Addr} {u:Obj},h.get? c=some u->(h.push o).get? c=some u:=λq=>Heap.get?_push_of_some _ q
 have p6:(pW s.heap m1 m2 m3).get? (zH s.heap m1 m2 m3).objs.size=some _:=Heap.get?_push_size _ rfl
 have p5:(pW s.heap m1 m2 m3).get? (zG s.heap m1 m2 m3).objs.size=some _:=up (Heap.get?_push_size _ rfl)
 have p4:(pW s.heap m1 m2 m3).get? (zF s.heap m1 m2 m3).objs.size=some _:=up (up (Heap.get?_push_size _ rfl))
 have p3:(pW s.heap m1 m2 m3).get? (uP s.heap m1 m2).objs.size=some _:=up (up (up (Heap.get?_push_size _ rfl)))
 have p2:(pW s.heap m1 m2 m3).get? (uN s.heap m1).objs.size=some _:=up (up (up (up (Heap.get?_push_size _ rfl))))
 have p1:(pW s.heap m1 m2 m3).get? s.heap.objs.size=some _:=up (up (up (up (up (Heap.get?_push_size _ rfl)))))
 show _/\_
 rw[y3,y4,y5]at p6
 rw[y1,y2,y3]at p4
 rw[y4]at p5
 rw[y2]at p3
 rw[y1]at p2
 rw[y5]
 exact⟨⟨_,p6,rfl⟩,fin _ p6 p4 p5 ⟨_,p1,rfl,rfl⟩ ⟨_,p2,rfl,rfl⟩ ⟨_,p3,rfl,rfl⟩ λc o q=>up (up (up (up (up (up q)))))⟩
end
noncomputable def Qz(K:PySem.W.Frag)(m1 m2 m3:Addr):It where
 go:=λi H=>∃xs ys ws x y u,aG K H m1 xs/\aG K H m2 ys/\aG K H m3 ws/\xs[i]?=some x/\ys[i]?=some y/\ws[i]?=some u
 kZ:=λi H v H'=>∃T x y u,v=.ref T/\H T=none/\H'=upd H T (.tup [x,y,u])/\∀xs ys ws,aG K H m1 xs->aG K H m2 ys->aG K H m3 ws->xs[i]?=some x/\ys[i]?=some y/\ws[i]?=some u
 stop:=λi H=>∃xs,aG K H m1 xs/\xs.length<=i
noncomputable def zJ(m1 m2 m3 y I O j1 j2 j3:Addr)(i:Nat)(h:Heap):Prop:=IsZip h y I O .none/\dz h I (.ref j1) (.ref j2) (.ref j3)/\(∃a b c,dz h O a b c)/\h.IsListIter j1 m1 i/\h.IsListIter j2 m2 i/\h.IsListIter j3 m3 i
section
variable {P:Program}{w:World}{K:PySem.W.Frag}
theorem zJ.at(st:zJ m1 m2 m3 y I O j1 j2 j3 i h):∀b∈[y,I,O,j1,j2,j3],∃o,h.get? b=some o/\∀v,o.data ≠ .cell v:=λb hb=>by
 obtain⟨hy,hI,⟨a,b',c,hO⟩,⟨o1,e1,_,d1⟩,⟨o2,e2,_,d2⟩,⟨o3,e3,_,d3⟩⟩:=st
 simp only[List.mem_cons,List.not_mem_nil,or_false]at hb
 rcases hb with rfl|rfl|rfl|rfl|rfl|rfl
 .exact⟨_,hy,λv q=>nomatch q⟩
 .exact⟨_,hI,λv q=>nomatch q⟩
 .exact⟨_,hO,λv q=>nomatch q⟩
 .exact⟨o1,e1,λv q=>by rw[d1]at q; cases q⟩
 .exact⟨o2,e2,λv q=>by rw[d2]at q; cases q⟩
 .exact⟨o3,e3,λv q=>by rw[d3]at q; cases q⟩
theorem aeD(m1 m2 m3 y I O j1 j2 j3:Addr)(D:zE y I O j1 j2 j3 m1 m2 m3):Turn P w K (.Tuple elts k pos) (Qz K m1 m2 m3) [y,I,O,j1,j2,j3] y (zJ m1 m2 m3 y I O j1 j2 j3) where
 mem:=by simp
 obj:=λi h st b hb=>st.at b hb
 keep:=λi h h' st kp=>by
  obtain⟨hy,hI,⟨a,b,c,hO⟩,k1,k2,k3⟩:=st
  exact⟨kp y (by simp) _ hy,kp I (by simp) _ hI,⟨a,b,c,kp O (by simp) _ hO⟩,k1.at λo e=>kp j1 (by simp) o e,k2.at λo e=>kp j2 (by simp) o e,k3.at λo e=>kp j3 (by simp) o e⟩
 item:=by
  intro X hP hw' hK hc i pins s σ H E Iv hf st hg
  subst hP hw' hK
  obtain⟨xs,ys,ws,x,v,u,q1,q2,q3,hx,hv,hu⟩:=hg
  obtain⟨t1,r1,p1,_⟩:=Iv.list q1
  obtain⟨t2,r2,p2,_⟩:=Iv.list q2
  obtain⟨t3,r3,p3,_⟩:=Iv.list q3
  obtain⟨x',gx,rx⟩:=r1.get hx
  obtain⟨v',gv,rv⟩:=r2.get hv
  obtain⟨u',gu,ru⟩:=r3.get hu
  obtain⟨hy,hI,⟨a,b,c,hO⟩,k1,k2,k3⟩:=id st
  refine aez D hy hI hO k1 k2 k3 p1.isList p2.isList p3.isList (by simpa using gx) (by simpa using gv) (by simpa using gu) λg zg Og Fz FJ FN Tg ch=>?_
  refine⟨.ref s.heap.objs.size,rfl,?_⟩
  refine wpAny_letOwnedTupleGo_zip zg λg' zg' pX=>?_
  have lt:∀b∈[y,I,O,j1,j2,j3],b<s.heap.objs.size:=λb hb=>by
   obtain⟨o,e,_⟩:=st.at b hb
   exact Heap.lt_size e
  have nT:s.heap.objs.size∉[y,I,O,j1,j2,j3]:=λm=>absurd (lt _ m) (Nat.lt_irrefl _)
  have nTy:s.heap.objs.size≠y:=λz=>nT (by simp[z])
  have nd:=D.nd
  simp only[List.nodup_cons,List.mem_cons,List.not_mem_nil,or_false,not_or,List.nodup_nil,and_true,not_false_eq_true]at nd
  obtain⟨⟨yI,yO,y1,y2,y3⟩,⟨IO,I1,I2,I3⟩,_⟩:=nd
  have hI':dz g' I (.ref j1) (.ref j2) (.ref j3):=pX.extBut _ _ (Ne.symm yI) (ch I _ (by simp only[List.mem_cons,List.not_mem_nil,or_false,not_or]; exact⟨Ne.symm yI,IO,I1,I2,I3⟩) hI)
  have st':zJ m1 m2 m3 y I O j1 j2 j3 (i+1) g':=⟨zg',hI',⟨_,_,_,pX.extBut _ _ (Ne.symm yO) Og⟩,Fz.extBut pX.extBut (Ne.symm y1),FJ.extBut pX.extBut (Ne.symm y2),FN.extBut pX.extBut (Ne.symm y3)⟩
  have kk:∀b o,b∉[y,I,O,j1,j2,j3]->s.heap.get? b=some o->g'.get? b=some o:=λb o n e=>by
   simp only[List.mem_cons,List.not_mem_nil,or_false,not_or]at n
   exact pX.extBut _ _ n.1 (ch b o (by simp only[List.mem_cons,List.not_mem_nil,or_false,not_or]; exact⟨n.1,n.2.2⟩) e)
  have ht:IsTup g' s.heap.objs.size #[x',v',u']:=⟨_,pX.extBut _ _ nTy Tg,rfl,_,rfl⟩
  have I':=Iv.Dm (tk:=s.toks) (xs:=[x,v,u]) (its:=[x',v',u']) hf kk (λb hb=>(st'.at b hb).imp λo q=>q.1) (Nat.le_refl _) ht (.cons rx (.cons rv (.cons ru .nil))) (by show 3<=sizeLine; decide)
  refine⟨.ref s.heap.objs.size,_,I',rfl,⟨s.heap.objs.size,x,v,u,rfl,Iv.hok.fresh (Nat.le_refl _),rfl,λa1 a2 a3 z1 z2 z3=>?_⟩,st',λb hb=>?_⟩
  .rw[Iv.mQ z1 q1,Iv.mQ z2 q2,Iv.mQ z3 q3]
   exact⟨hx,hv,hu⟩
  .have nb:b≠s.heap.objs.size:=λe0=>nT (e0▸hb)
   rw[aM nb]
   exact(hf b hb).1
 done:=by
  intro X hP hw' hK hc i pins s σ H E Iv hf st hg
  subst hP hw' hK
  obtain⟨xs,q1,e⟩:=hg
  obtain⟨t1,r1,p1,_⟩:=Iv.list q1
  obtain⟨hy,hI,_,k1,_,_⟩:=id st
  have nd:=D.nd
  have d1:=D.l1
  simp only[List.nodup_cons,List.mem_cons,List.not_mem_nil,or_false,not_or,List.nodup_nil,and_true,not_false_eq_true]at nd d1
  refine aeA (Iv.ok.hd hc) (Ne.symm nd.1.2.2.1) d1.1 hy hI k1 p1.isList (by simp; rw[<-r1.length]; exact e) λg ch=>⟨rfl,Iv.Dn (tk:=s.toks) hf λb o n t=>?_⟩
  simp only[List.mem_cons,List.not_mem_nil,or_false,not_or]at n
  exact ch b o n.1 n.2.2.2.1 t
 self:=λA i s Q E st h=>wpAny_pyIter_zip st.1 h
end
theorem n5(n m:Nat)(h:m<n):m∉[n+5,n+4,n,n+1,n+2]:=by
 simp only[List.mem_cons,List.not_mem_nil,or_false,not_or]
 lia
theorem n6(n d:Nat)(h:d∈[n+5,n+3,n+4,n,n+1,n+2]):n<=d:=by
 simp only[List.mem_cons,List.not_mem_nil,or_false]at h
 lia
theorem nd6(n:Nat) : [n+5,n+3,n+4,n,n+1,n+2].Nodup:=by simp
section
variable {X:Cx}
noncomputable def aeE(K:PySem.W.Frag)(ta:TA):TI:=λσ H R=>ta σ H λvs H1=>∃m1 m2 m3,vs=[.ref m1,.ref m2,.ref m3]/\(∃xs,aG K H1 m1 xs)/\(∃xs,aG K H1 m2 xs)/\(∃xs,aG K H1 m3 xs)/\R (Qz K m1 m2 m3) H1
theorem aeF(hm:X.mg "zip" = none) (ha:PA X [a,b,c] ta) (hg:Gl X "zip" := by rfl) (hs:starEach [a,b,c] X.env=[(false,eval a X.env),(false,eval b X.env),(false,eval c X.env)]:=by rfl) (hs2:starEach [b,c] X.env=[(false,eval b X.env),(false,eval c X.env)]:=by rfl) :
  PI X (.Tuple elts k tpos) (.Call (.Name "zip" p) [a,b,c] [] pos) (aeE X.K ta):=by
 intro pins s σ H R I h
 refine Call_ (kO I hg hm (show bootBuiltins "zip" = some (.type "zip") by decide +kernel) (PyProof.Rows.callWith_type1 (aH (ha pos pins s σ H _ I h) λus s1 ⟨vs,H1,I1,r1,q1⟩=>?_) (by rw[hs,hs2]) (by rw[hs2]; rfl)))
 obtain⟨m1,m2,m3,e,⟨xs,h1⟩,⟨ys,h2⟩,⟨ws,h3⟩,q⟩:=q1
 subst e
 cases r1 with
 |cons r rr =>
  cases rr with
  |cons r' rr =>
   cases rr with
   |cons r'' rr =>
    cases rr
    cases r
    cases r'
    cases r''
    obtain⟨t1,_,p1,_⟩:=I1.list h1
    obtain⟨t2,_,p2,_⟩:=I1.list h2
    obtain⟨t3,_,p3,_⟩:=I1.list h3
    obtain⟨o1,e1,_⟩:=p1.isList
    obtain⟨o2,e2,_⟩:=p2.isList
    obtain⟨o3,e3,_⟩:=p3.isList
    have l1:=Heap.lt_size e1
    have l2:=Heap.lt_size e2
    have l3:=Heap.lt_size e3
    refine aeC p1.isList p2.isList p3.isList λg zy zI zO k1 k2 k3 ch=>?_
    refine wpAny_pyIter_zip zy ?_
    have D:zE (s1.heap.objs.size+5) (s1.heap.objs.size+3) (s1.heap.objs.size+4) s1.heap.objs.size (s1.heap.objs.size+1) (s1.heap.objs.size+2) m1 m2 m3:=⟨nd6 _,n5 _ _ l1,n5 _ _ l2,n5 _ _ l3⟩
    refine⟨_,[_,_,_,_,_,_],_,_,H1,rfl,I1.kept (t':=s1.toks) ch,aeD m1 m2 m3 _ _ _ _ _ _ D,⟨zy,zI,⟨_,_,_,zO⟩,k1,k2,k3⟩,λd hd=>?_,q⟩
    have ge:s1.heap.objs.size<=d:=n6 _ _ hd
    exact I1.jC ge (I1.hok.fresh ge)
end
noncomputable def zK(K:PySem.W.Frag)(tl:TE):TI:=λσ H R=>Lg K tl σ H R\/Lh K tl σ H R
theorem QB(hl:PE X l tl):PI X tg l (zK X.K tl):=λpins s σ H R I h=>by
 rcases h with h|h
 .exact aaY hl pins s σ H R I h
 .exact aaZ hl pins s σ H R I h
noncomputable def Bs:Rv->Rs (List Tr × Bool)
 |.v (.lst ts) _=>.ok (ts,true)
 |.v (.tup ts) _=>.ok (ts,false)
 |_=>.bad
noncomputable def zL(f:EF):IF:=λρ=>(f ρ).bind λp=>(Bs p.1).bind λz=>.ok (z.1,p.2)
theorem aeG{K:PySem.W.Frag}(q:aG (aA K) G a xs)(r:au (aA K) G xs us):zB (aA K) G (BW K a) us:=λG' H' m s i=>by
 have q':=(s.seq (m.seq q)).toK
 refine⟨λz=>⟨xs,q',by rw[r.length]; lia⟩,λu hu=>?_⟩
 obtain⟨x,hx,rx⟩:=r.jh hu
 refine⟨⟨xs,x,q',hx⟩,λy cZ ⟨e,z⟩=>?_⟩
 have:=z xs q'
 rw[hx]at this
 cases this
 subst e
 exact⟨G',.refl s,rx.mono m⟩
theorem aeH{K:PySem.W.Frag}(q:bx (aA K) G a xs)(r:au (aA K) G xs us):zB (aA K) G (BX K a) us:=λG' H' m s i=>by
 have q':=(s.jE (m.jE q)).toK
 refine⟨λz=>⟨xs,q',by rw[r.length]; lia⟩,λu hu=>?_⟩
 obtain⟨x,hx,rx⟩:=r.jh hu
 refine⟨⟨xs,x,q',hx⟩,λy cZ ⟨e,z⟩=>?_⟩
 have:=z xs q'
 rw[hx]at this
 cases this
 subst e
 exact⟨G',.refl s,rx.mono m⟩
theorem aeI{K:PySem.W.Frag}(h:Ti ⟨aA K,xe⟩ (zL f) σ H Q):zK K (Te ⟨aA K,xe⟩ f) σ H Q:=by
 obtain⟨R,ρ,G,F,e,h⟩:=h
 unfold zL at h
 cases k:f ρ with
 |bad=>rw[k]at h; exact h.elim
 |ex c=>rw[k]at h; exact .inl ⟨R,ρ,G,F,e,by rw[k]; exact h⟩
 |ok p =>
  obtain⟨r,ρ1⟩:=p
  rw[k]at h
  match r,h,k with
  |.v (.lst ts) fr,h,k =>
   refine .inl ⟨R,ρ,G,F,e,?_⟩
   rw[k]
   intro v G1 H1 F1 e1 s1 v1
   obtain⟨G2,e2,s2,_,r⟩:=e1.ux e s1 v1 rfl
   cases r with
   |lst q r=>exact⟨_,rfl,⟨_,(e2.sub.seq q).toK⟩,h _ G2 H1 F1 e2 s2 (aeG q r)⟩
  |.v (.tup ts) fr,h,k =>
   refine .inr ⟨R,ρ,G,F,e,?_⟩
   rw[k]
   intro v G1 H1 F1 e1 s1 v1
   obtain⟨G2,e2,s2,_,r⟩:=e1.ux e s1 v1 rfl
   cases r with
   |tup q r=>exact⟨_,rfl,⟨_,(e2.sub.jE q).toK⟩,h _ G2 H1 F1 e2 s2 (aeH q r)⟩
noncomputable def bZ(a:VE aB):VI (zL aB) where
 ck Γ e:=Fw e.2&&a.ck Γ e.2
 cs:=a.cs
 ok q o h:=⟨(QB (a.ok q o (an.mp h).2)).imp λ_ _ _=>aeI,(an.mp h).1⟩
noncomputable def upTo(lo:Int):Nat->List Tr
 | 0=>[]
 |n+1=>.int lo::upTo (lo+1) n
theorem aeJ(lo:Int):∀n,(upTo lo n).length=n:=λn=>by
 induction n generalizing lo with
 |zero=>rfl
 |succ n ih=>rw[upTo,List.length_cons,ih]
theorem aeK{lo:Int}{n i:Nat}(h:(upTo lo n)[i]?=some u):i<n/\u=.int (lo+i):=by
 induction n generalizing lo i with
 |zero=>simp[upTo]at h
 |succ n ih =>
  rw[upTo]at h
  cases i with
  |zero =>
   simp at h
   subst h
   exact⟨Nat.zero_lt_succ _,by simp⟩
  |succ i =>
   obtain⟨h1,h2⟩:=ih (lo:=lo+1) (i:=i) (by simpa using h)
   refine⟨Nat.succ_lt_succ h1,h2.trans ?_⟩
   congr 1
   lia
theorem aeL{K:PySem.W.Frag}(lo:Int)(n:Nat):zB K G (wN lo n) (upTo lo n):=λG' H' m s i=>by
 refine⟨λz=>?_,λu hu=>?_⟩
 .rw[aeJ]at z
  exact Nat.le_of_eq z.symm
 .obtain⟨h1,rfl⟩:=aeK hu
  refine⟨h1,λx cZ yl=>?_⟩
  obtain⟨rfl,rfl⟩:=yl
  exact⟨G',.refl s,.int _⟩
noncomputable def okR(i:Int):Bool:=decide (-1000000<=i)&&decide (i<=1000000)
theorem aeM(h:okR i=true) : -1000000<=i/\i<=1000000:=by simpa[okR]using h
noncomputable def QC(fa:AF):IF:=λρ=>(fa ρ).bind λp=>(drs p.2 p.1).bind λas=>match as with
 | [.int j]=>if okR j=true then .ok (upTo 0 j.toNat,p.2)else .bad
 |_=>.bad
noncomputable def dJ(a:VA aB):VI (QC aB) where
 ck Γ e:=fW e.2 λ_ aK _ _=>aP aK λ_ bw=>aW bw (Γ.B.contains ("range" : Str)&&lR Γ "range" a e.2)
 cs:=a.cs
 ok:=@λcl E Γ X e q o h=>by
  obtain⟨u,e⟩:=e
  dsimp only at h
  walk_at "O"
  obtain⟨h1,h⟩:=an.mp h
  obtain⟨p,b,es,p',e',h2,h3⟩:=pL h
  cases e'
  obtain⟨pa,la,na⟩:=a.ok q o h3
  refine⟨(aa2 (dN o h2).1 (o.B _ (by simpa using h1)) pa (gC (na _ (List.mem_cons_self ..)))).imp λσ H Q=>bB λR ρ G F e h=>jG e .refl h λp h vs G1 H1 F1 e1 s1 v1=>?_,rfl⟩
  obtain⟨as,k1,h⟩:=h.okb (ur _ _)
  have r:=uw e1 v1 k1
  split at h
  case h_2=>exact h.elim
  split at h
  case isFalse=>exact h.elim
  have c:=aeM ‹_›
  cases r with
  |cons h1 r1 =>
   cases r1
   rw[h1.int]
   exact⟨_,rfl,by lia,by lia,h _ G1 H1 F1 e1 s1 (aeL 0 _)⟩
theorem uQ:∀{es:List Expr},(∀x∈es,notStar x=true)->∀env,starEach es env=es.map λe=>(false,eval e env)
 | [],_,_=>rfl
 |e::es,h,env=>by
  rw[gC (h e (List.mem_cons_self ..)),uQ (λy m=>h y (List.mem_cons_of_mem _ m)) env]; rfl
theorem yT{K:PySem.W.Frag}(s:Same G H)(h:H p=none)(r:au K G xs ts):∃G',Gw K G H G' (upd H p (.tup xs))/\Rep K G' (.ref p) (.tup ts):=⟨_,.new s h,VN.newT s h r⟩
noncomputable def iy(us vs:List Tr):List Tr:=(us.zip vs).map λp=>.tup [p.1,p.2]
noncomputable def QD(fa:AF):IF:=λρ=>(fa ρ).bind λp=>match p.1 with
 | [.v (.lst us) _,.v (.lst vs) _]=>.ok (iy us vs,p.2)
 |_=>.bad
theorem rB{K:PySem.W.Frag}(r:au K G vs (.lst us::ts)):∃a xs vs',vs=.ref a::vs'/\aG K G a xs/\au K G xs us/\au K G vs' ts:=by
 cases r with
 |cons h r=>cases h with
  |lst q p=>exact⟨_,_,_,rfl,q,p,r⟩
noncomputable def iZ(a:VA aB):VI (QD aB) where
 ck Γ e:=ji e.1 λ_ _ _=>fW e.2 λ_ aK _ _=>aP aK λ_ bw=>aP bw λ_ bD=>aW bD (Γ.B.contains ("zip" : Str)&&lR Γ "zip" a e.2)
 cs:=a.cs
 ok:=@λcl E Γ X e q o h=>by
  obtain⟨u,e⟩:=e
  walk_at "O"
  obtain⟨h1,h⟩:=an.mp h
  obtain⟨p,b,es,p',e',h2,h3⟩:=pL h
  cases e'
  obtain⟨pa,la,na⟩:=a.ok q o h3
  refine⟨(acV (o.B _ (by simpa using h1)) pa (dN o h2).1 (uQ na _) (uQ (λy m=>na y (List.mem_cons_of_mem _ m)) _)).imp λσ H Q=>bB λR ρ G F e h=>jG e .refl h λp h vs G1 H1 F1 e1 s1 v1=>?_,rfl⟩
  split at h
  case h_2=>exact h.elim
  rename_i us _ ws _ ep
  rw[ep]at v1
  obtain⟨G2,e2,s2,_,r⟩:=e1.vis e s1 v1 rfl
  obtain⟨_,_,_,rfl,q1,p1,r⟩:=rB r
  obtain⟨_,_,_,rfl,q2,p2,r⟩:=rB r
  cases r
  refine⟨_,_,rfl,⟨_,(e2.sub.seq q1).toK⟩,⟨_,(e2.sub.seq q2).toK⟩,h _ G2 H1 F1 e2 s2 λG' H' m s i=>?_⟩
  have pY:=(s.seq (m.seq q1)).toK
  have FT:=(s.seq (m.seq q2)).toK
  refine⟨λz=>⟨_,_,pY,FT,by rw[p1.length,p2.length,z]; simp[iy]⟩,λu hu=>?_⟩
  unfold iy at hu
  rw[List.getElem?_map]at hu
  obtain⟨p,hp,rfl⟩:=Option.map_eq_some_iff.mp hu
  obtain⟨k1,k2⟩:=List.getElem?_zip_eq_some.mp hp
  obtain⟨x,hx,rx⟩:=p1.jh k1
  obtain⟨y,hy,ry⟩:=p2.jh k2
  refine⟨⟨_,_,x,y,pY,FT,hx,hy⟩,λv cZ yl=>?_⟩
  obtain⟨T,x',y',rfl,fT,rfl,z⟩:=yl
  obtain⟨z1,z2⟩:=z _ _ pY FT
  rw[hx]at z1
  rw[hy]at z2
  cases z1
  cases z2
  exact yT s fT (.cons (rx.mono m) (.cons (ry.mono m) .nil))
noncomputable def zM(us:List Tr):List Tr:=us.zipIdx.map λp=>.tup [.int (p.2:Nat),p.1]
noncomputable def QG(fa:AF):IF:=λρ=>(fa ρ).bind λp=>match p.1 with
 | [.v (.lst us) _]=>.ok (zM us,p.2)
 |_=>.bad
noncomputable def iEn(a:VA aB):VI (QG aB) where
 ck Γ e:=ji e.1 λ_ _ _=>fW e.2 λ_ aK _ _=>aP aK λ_ bw=>aW bw (Γ.B.contains ("enumerate" : Str)&&lR Γ "enumerate" a e.2)
 cs:=a.cs
 ok:=@λcl E Γ X e q o h=>by
  obtain⟨u,e⟩:=e
  walk_at "O"
  obtain⟨h1,h⟩:=an.mp h
  obtain⟨p,b,es,p',e',h2,h3⟩:=pL h
  cases e'
  obtain⟨pa,la,na⟩:=a.ok q o h3
  refine⟨(aew (o.B _ (by simpa using h1)) pa (dN o h2).1 (na _ (List.mem_cons_self ..))).imp λσ H Q=>bB λR ρ G F e h=>jG e .refl h λp h vs G1 H1 F1 e1 s1 v1=>?_,rfl⟩
  split at h
  case h_2=>exact h.elim
  rename_i us _ ep
  rw[ep]at v1
  obtain⟨G2,e2,s2,_,r⟩:=e1.vis e s1 v1 rfl
  obtain⟨_,_,_,rfl,q1,p1,r⟩:=rB r
  cases r
  refine⟨_,rfl,⟨_,(e2.sub.seq q1).toK⟩,h _ G2 H1 F1 e2 s2 λG' H' m s i=>?_⟩
  have pY:=(s.seq (m.seq q1)).toK
  refine⟨λz=>⟨_,pY,by rw[p1.length,z]; simp[zM]⟩,λu hu=>?_⟩
  unfold zM at hu
  rw[List.getElem?_map]at hu
  obtain⟨p,hp,rfl⟩:=Option.map_eq_some_iff.mp hu
  rw[List.getElem?_zipIdx]at hp
  obtain⟨y,hy,rfl⟩:=Option.map_eq_some_iff.mp hp
  obtain⟨x,hx,rx⟩:=p1.jh hy
  refine⟨⟨_,x,pY,hx⟩,λv cZ yl=>?_⟩
  obtain⟨T,x',rfl,fT,rfl,z⟩:=yl
  have z1:=z _ pY
  rw[hx]at z1
  cases z1
  show ∃G'',_/\Rep _ _ (.ref T) (.tup [.int ((0+i:Nat):Int),y])
  rw[Nat.zero_add]
  exact yT s fT (.cons (.int _) (.cons (rx.mono m) .nil))
noncomputable def iM:List Tr->List Tr->List Tr->List Tr
 |u::us,v::vs,w::ws=>.tup [u,v,w]::iM us vs ws
 |_,_,_=>[]
theorem QH:∀{us vs ws:List Tr},us.length<=vs.length->us.length<=ws.length->(iM us vs ws).length=us.length
 | [],_,_,_,_=>rfl
 |_::us,[],_,h,_=>absurd h (by simp)
 |_::us,_::vs,[],_,h=>absurd h (by simp)
 |_::us,_::vs,_::ws,h,h'=>by
  simp only[iM,List.length_cons]
  rw[QH (by simpa using h) (by simpa using h')]
theorem QJ:∀{us vs ws:List Tr} {i:Nat} {d:Tr},(iM us vs ws)[i]?=some d->∃u v w,us[i]?=some u/\vs[i]?=some v/\ws[i]?=some w/\d=.tup [u,v,w]
 | [],_,_,i,d,h=>by simp[iM]at h
 |_::us,[],_,i,d,h=>by simp[iM]at h
 |_::us,_::vs,[],i,d,h=>by simp[iM]at h
 |u::us,v::vs,w::ws,0,d,h=>⟨u,v,w,rfl,rfl,rfl,by simpa[iM,eq_comm]using h⟩
 |_::us,_::vs,_::ws,i+1,d,h=>QJ (us:=us) (vs:=vs) (ws:=ws) (i:=i) (by simpa[iM]using h)
noncomputable def QK(fa:AF):IF:=λρ=>(fa ρ).bind λp=>match p.1 with
 | [.v (.lst us) _,.v (.lst vs) _,.v (.lst ws) _]=>if us.length<=vs.length/\us.length<=ws.length then .ok (iM us vs ws,p.2)else .bad
 |_=>.bad
noncomputable def iZ3(a:VA aB):VI (QK aB) where
 ck Γ e:=ji e.1 λ_ _ _=>fW e.2 λ_ aK _ _=>aP aK λ_ bw=>aP bw λ_ bD=>aP bD λ_ bO=>aW bO (Γ.B.contains ("zip" : Str)&&lR Γ "zip" a e.2)
 cs:=a.cs
 ok:=@λcl E Γ X e q o h=>by
  obtain⟨u,e⟩:=e
  walk_at "O"
  obtain⟨h1,h⟩:=an.mp h
  obtain⟨p,b,es,p',e',h2,h3⟩:=pL h
  cases e'
  obtain⟨pa,la,na⟩:=a.ok q o h3
  refine⟨(aeF (o.B _ (by simpa using h1)) pa (dN o h2).1 (uQ na _) (uQ (λy m=>na y (List.mem_cons_of_mem _ m)) _)).imp λσ H Q=>bB λR ρ G F e h=>jG e .refl h λp h vs G1 H1 F1 e1 s1 v1=>?_,rfl⟩
  split at h
  case h_2=>exact h.elim
  rename_i us _ ws _ zs _ ep
  rw[ep]at v1
  split at h
  case isFalse=>exact h.elim
  rename_i hn
  obtain⟨G2,e2,s2,_,r⟩:=e1.vis e s1 v1 rfl
  obtain⟨_,_,_,rfl,q1,p1,r⟩:=rB r
  obtain⟨_,_,_,rfl,q2,p2,r⟩:=rB r
  obtain⟨_,_,_,rfl,q3,p3,r⟩:=rB r
  cases r
  refine⟨_,_,_,rfl,⟨_,(e2.sub.seq q1).toK⟩,⟨_,(e2.sub.seq q2).toK⟩,⟨_,(e2.sub.seq q3).toK⟩,h _ G2 H1 F1 e2 s2 λG' H' m s i=>?_⟩
  have toK:∀{d:Addr} {ds:List V},aG (aA X.K) G2 d ds->aG X.K H' d ds:=λq=>(s.seq (m.seq q)).toK
  refine⟨λz=>⟨_,toK q1,by rw[z,QH hn.1 hn.2,p1.length]; exact Nat.le_refl _⟩,λd hd=>?_⟩
  obtain⟨u,v,w,g1,g2,g3,rfl⟩:=QJ hd
  obtain⟨x,hx,rx⟩:=p1.jh g1
  obtain⟨y,hy,ry⟩:=p2.jh g2
  obtain⟨z,hz,rz⟩:=p3.jh g3
  refine⟨⟨_,_,_,x,y,z,toK q1,toK q2,toK q3,hx,hy,hz⟩,λo cZ yl=>?_⟩
  obtain⟨T,x',y',z',rfl,fT,rfl,al⟩:=yl
  obtain⟨a1,a2,a3⟩:=al _ _ _ (toK q1) (toK q2) (toK q3)
  rw[hx]at a1
  rw[hy]at a2
  rw[hz]at a3
  cases a1
  cases a2
  cases a3
  exact yT s fT (.cons (rx.mono m) (.cons (ry.mono m) (.cons (rz.mono m) .nil)))
noncomputable def QL(ifs:List Expr)(env:Env):Sem Bool:=forIn ifs true λc r=>if r=true then do let ok <-isTrue c env (eval c env); pure (ForInStep.yield ok)else pure (ForInStep.yield r)
noncomputable def uR(X:Cx)(ifs:List Expr)(tc:TT):Prop:=∀(pins:List (Addr × Obj)) s σ H Q,Inv X pins σ H s->tc σ H Q->wpAny (model X.prog X.w) X.A (QL ifs X.env) (TP X pins σ Q) X.xe s
theorem zN(h:PT X c tc):uR X [c] tc:=λpins s σ H Q I q=>wpAny_tests_one (h pins s σ H Q I q)
theorem uT:uR X [] λ_ H Q=>Q true H:=λpins s σ H Q I q=>wpAny_pure ⟨H,I,q⟩
section
variable {prog:Program}{w:World}{A:Around}{R:Result->Shared->Prop}{s:Shared}
theorem aeN(I:Nat->Shared->Prop)
  (turn:∀n s,I n s->wpAny (model prog w) A (pyNext it) (λr s₁=>match r with
   |none=>R (.ok .next) s₁
   | some v=>wpAny (model prog w) A (letOwnedTupleGo target it v) (λ_ s₁'=>wpAny (model prog w) A (assign target env v) (λ_ s₂ => wpAny (model prog w) A (QL ifs env) (λb s₂'=>if b=true then wpAny (model prog w) A (eval elt env) (λx s₃ =>
     wpAny (model prog w) A (call (.builtin "list.append") [acc,x]) (λ_ s₄=>∃m,m<n/\I m s₄) (λ_ _=>False) s₃) (λ_ _=>False) s₂' else ∃m,m<n/\I m s₂') (λ_ _=>False) s₂) (λ_ _=>False) s₁') (λ_ _=>False) s₁) (λ_ _=>False) s)
  (n:Nat) (h:I n s) :
  codeAny (model prog w) A (.compLoop (.ListComp elt [⟨target,iter,ifs,0⟩] scope pos) 0 it acc env) R s:=by
 refine codeAny_loop rfl I (λn s hI=>?_) n h
 show wpAny _ _ ((compTurn (.ListComp elt [⟨target,iter,ifs,0⟩] scope pos) 0 it acc env).onRaise (λx=>do noteFrame x env; theTreesLotGoes x)) _ _ s
 refine wpAny_noted (wpAny_noRaise ?_)
 rw[compTurn_list]
 refine wpAny_bind (wpAny_standAt (wpAny_bind (wpAny_mono (turn n s hI) (λr s₁ h₁=>?_) λ_ _ h'=>h')))
 cases r with
 |none=>exact wpAny_pure h₁
 |some v =>
  refine wpAny_bind (wpAny_mono h₁ (λ_ s₁' h₁'=>?_) λ_ _ h'=>h')
  refine wpAny_bind (wpAny_mono h₁' (λ_ s₂ h₂=>wpAny_bind (wpAny_mono h₂ (λok s₃ h₃=>?_) λ_ _ h'=>h')) λ_ _ h'=>h')
  cases ok with
  |false=>exact wpAny_pure ⟨rfl,h₃⟩
  |true =>
   exact wpAny_bind (wpAny_bind (wpAny_mono h₃ (λx s₄ h₄=>wpAny_bind (wpAny_mono h₄ (λ_ s₅ h₅=>wpAny_pure (wpAny_pure ⟨rfl,h₅⟩)) λ_ _ h'=>h')) λ_ _ h'=>h'))
end
noncomputable def pZ(wi:TI)(g:TG)(src:List (Option Nat))(tc:TT)(te:TE):TE:=λσ H Q=>wi σ H λJ H1=>∀D,H1 D=none ->
 ∃W:Nat->Nat->St->Hp->Prop,(∃m,W 0 m (cX src σ) (upd H1 D (.lst [])))/\∀i m σ' H',W i m σ' H' ->
  (J.stop i H'/\Nf Q D H')\/(J.go i H'/\∀x cZ,J.kZ i H' x cZ->g x σ' cZ λσ2 H2=>tc σ2 H2 λb uU=>if b=true then te σ2 uU λv H3=>∃xs,H3 D=some (.lst xs)/\xs.length<sizeLine/\∃m',m'<m/\W (i+1) m' σ2 (upd H3 D (.lst (xs++[v])))else ∃m',m'<m/\W (i+1) m' σ2 uU)
section
variable {X:Cx}{elt tg iter:Expr}{ifs:List Expr}{scope sc:Scope}{pos:Pos}{No N:List Str}{src:List (Option Nat)}{wi:TI}{g:TG}{te:TE}{tc:TT}
theorem QM{pins:List (Addr × Obj)}{RR:Value->Addr->Result->Shared->Prop}(hsc:X.env.scope=sc)(iJ:X.N=No)(S:qy sc No N src scope)(hc:X.calm=true)
  (hi:PI X tg iter wi) (hg:∀C s H ex,PG (bV X N scope C s H ex) tg g) (hq:∀C s H ex,uR (bV X N scope C s H ex) ifs tc) (he:∀C s H ex,PE (bV X N scope C s H ex) elt te) (I:Inv X pins σ H s) (h:pZ wi g src tc te σ H Q)
  (hRR:∀D C H' s' m,Inv X pins σ H' s'->H' C=none->C≠X.env.locals->X.s₀.heap.objs.size<=C->(∀x c,X.env.cells.lookup x=some c->c≠C)->(∀p∈X.pn++pins,p.1≠C)->s'.heap.Ns C m->Q (.ref D) H'->RR (.ref D) C (.ok .next) s') :
  wpAny (model X.prog X.w) X.A (eval iter X.env) (λx s₁=>wpAny (model X.prog X.w) X.A (pyIter x) (λit s₂=>wpAny (model X.prog X.w) X.A (newList []) (λacc s₃ =>
   wpAny (model X.prog X.w) X.A (newFunctionEnv scope X.env.globals (bY X.env.cells scope.names []) [] X.env.qual none .none (some X.env)) (λcenv s₄ =>
    codeAny (model X.prog X.w) X.A (.compStart (.ListComp elt [⟨tg,iter,ifs,0⟩] scope pos) 0 it acc {cenv with scope:=relabel scope X.env }) (RR acc cenv.locals) s₄) X.xe s₃) X.xe s₂) X.xe s₁) X.xe s:=by
 refine aH (hi pins s σ H _ I h) λv s1 h1=>aH h1 λitv s2 h2=>?_
 obtain⟨it,fp,tn,J,H2,e,I2,T,st2,f2,hW⟩:=h2
 subst e
 have hD0:H2 s2.heap.objs.size=none:=I2.hok.fresh (Nat.le_refl _)
 obtain⟨W,⟨m0,w0⟩,turn⟩:=hW s2.heap.objs.size hD0
 have QS:∀b∈fp,b<s2.heap.objs.size:=λb hb=>by
  obtain⟨o,e,_⟩:=T.obj 0 _ st2 b hb
  exact Heap.lt_size e
 refine wpAny_newObj_type ?_
 have I3:Inv X pins σ (upd H2 s2.heap.objs.size (.lst [])) {s2 with heap:=s2.heap.push {cls:=.type "list",dict:=none,data:=.seq ([]:List Value).toArray } }:=I2.Cz (t':=s2.toks) (ys:=[]) .nil (Nat.zero_le _)
 have f3:∀b∈fp,cL X pins (upd H2 s2.heap.objs.size (.lst [])) b:=λb hb=>by
  obtain⟨q,r⟩:=f2 b hb
  exact⟨by rw[aM (Nat.ne_of_lt (QS b hb))]; exact q,r⟩
 have st3:tn 0 (s2.heap.push {cls:=.type "list",dict:=none,data:=.seq ([]:List Value).toArray }):=T.keep _ _ _ st2 λb hb o e=>Heap.get?_push_of_some _ e
 have uV:∀b∈fp,b<(s2.heap.push {cls:=.type "list",dict:=none,data:=.seq ([]:List Value).toArray }).objs.size:=λb hb=>by
  rw[Heap.size_push]; exact Nat.lt_succ_of_lt (QS b hb)
 generalize hD:s2.heap.objs.size=D at *
 generalize hh3:s2.heap.push {cls:=.type "list",dict:=none,data:=.seq ([]:List Value).toArray }=h3 at *
 generalize hH3:upd H2 D (.lst [])=H3 at *
 refine acq λh₁ hns old ck=>?_
 dsimp only at hns old ck ⊢
 have I4:Inv (bV X N scope h3.objs.size {s2 with heap:=h3 } H3 fp) [] (cX src σ) H3 {s2 with heap:=h₁,toks:=s2.toks+([]:List (Str × Value)).length }:=acr (s:={s2 with heap:=h3 }) hsc iJ S I3 f3 uV hns old ck
 have vX:tn 0 h₁ := T.keep _ _ _ st3 λb hb o e=>old b o e
 have loop:codeAny (model X.prog X.w) X.A (.compLoop (.ListComp elt [⟨tg,iter,ifs,0⟩] scope pos) 0 (.ref it) (.ref D) (compEnvC scope (cellsFrom (h3.objs.size+1) scope.names (bY X.env.cells scope.names [])) h3.objs.size X.env)) (RR (.ref D) h3.objs.size) {s2 with heap:=h₁,toks:=s2.toks+([]:List (Str × Value)).length }:=by
  have stat:∀{H':Hp},(∀b∈fp,H' b=none)->∀b∈fp,cL (bV X N scope h3.objs.size {s2 with heap:=h3 } H3 fp) [] H' b:=λhn b hb=>by
   obtain⟨g0,g1,g2,g3,g4,g5⟩:=f3 b hb
   refine⟨hn b hb,Nat.ne_of_lt (uV b hb),λz=>?_,.inl hb,λx c e=>?_,λp hp=>absurd (show p∈([]:List (Addr × Obj))from hp) (by simp)⟩
   .rcases List.mem_cons.mp (I3.wz b z)with z|z
    .exact g1 z
    .exact g2 z
   .have e:(cellsFrom (h3.objs.size+1) scope.names (bY X.env.cells scope.names [])).lookup x=some c:=e
    rw[mX,tB]at e
    split at e
    .rename_i z
     cases e
     exact λy=>absurd (Nat.le_trans (ck.empty x c (PySem.mem_of_lookup z)).2 (y▸Nat.le_of_lt (uV b hb))) (Nat.not_succ_le_self _)
    .rcases oZ e with q|q
     .simp at q
     .exact g4 x c q
  refine aeN (λn s'=>∃i σ' H',Inv (bV X N scope h3.objs.size {s2 with heap:=h3 } H3 fp) [] σ' H' s'/\tn i s'.heap/\(∀b∈fp,H' b=none)/\W i n σ' H') ?_ m0 ⟨0,cX src σ,H3,I4,vX,λb hb=>(f3 b hb).1,w0⟩
  rintro n s5 ⟨i,σ5,H5,I5,mJ,wR,w5⟩
  rcases turn i n σ5 H5 w5 with⟨stop,qn⟩|⟨go,step⟩
  .refine aH (T.done (bV X N scope h3.objs.size {s2 with heap:=h3 } H3 fp) rfl rfl rfl hc i [] s5 σ5 H5 (λ_ _=>False) I5 (stat wR) mJ stop) λr s6 ⟨hr,I6⟩=>?_
   subst hr
   obtain⟨mC,hnC,_⟩:=id I6.loc
   have I7:Inv X pins σ H5 s6:=I3.call' (ch:=fp) I6.os I6.base I6.hok I6.bare λb hb=>by
    obtain⟨g0,g1,g2,g3,g4,g5⟩:=f3 b hb
    exact⟨g3,g1,g4,g5⟩
   refine hRR D h3.objs.size H5 s6 mC I7 I6.free (Nat.ne_of_gt I3.lt) I3.sz (λx c e z=>?_) (λp hp z=>?_) hnC qn
   .obtain⟨v,q⟩:=I3.cell x c e
    exact absurd q.lt (by rw[z]; exact Nat.lt_irrefl _)
   .exact absurd (Heap.lt_size (I3.pin p hp).1) (by rw[z]; exact Nat.lt_irrefl _)
  .refine aH (T.item (bV X N scope h3.objs.size {s2 with heap:=h3 } H3 fp) rfl rfl rfl hc i [] s5 σ5 H5 (λ_ _=>False) I5 (stat wR) mJ go) λr s6 ⟨u,hr,h6⟩=>?_
   subst hr
   refine aH h6 λ_ s7 ⟨x,H7,I7,r7,y7,oH,fr7⟩=>?_
   have I7':=I7.pinned (stat fr7) (T.obj _ _ oH)
   refine aH (hg _ _ _ _ _ s7 σ5 H7 x u _ I7' r7 (step x H7 y7)) λ_ s8 ⟨σ8,H8,I8,q8⟩=>?_
   refine aH (hq _ _ _ _ _ s8 σ8 H8 _ I8 q8) λbb s8' ⟨QT,zP,zQ⟩=>?_
   cases bb with
   |false =>
    rw[if_neg (by decide)]at zQ ⊢
    obtain⟨m',hm,w9⟩:=zQ
    refine⟨m',hm,i+1,σ8,QT,zP.sU (pins:=[]),T.keep _ _ _ oH λb hb o e=>(zP.pin (b,o) (List.mem_append_right _ (List.mem_append_right _ (qp hb e)))).1,λb hb=>?_,w9⟩
    obtain⟨o,e,d⟩:=T.obj _ _ oH b hb
    exact(zP.pin (b,o) (List.mem_append_right _ (List.mem_append_right _ (qp hb e)))).2.1
   |true =>
   rw[if_pos rfl]at zQ ⊢
   refine aH (he _ _ _ _ _ s8' σ8 QT _ zP zQ) λyv s9 ⟨y,H9,I9,r9,q9⟩=>?_
   obtain⟨xs,e9,l9,m',hm,w9⟩:=q9
   refine aH (CK (X:=bV X N scope h3.objs.size {s2 with heap:=h3 } H3 fp) _ s9 σ8 H9 (.ref D) [y] (.ref D) [yv] (λ_ H'=>W (i+1) m' σ8 H') I9 rfl (.cons r9 .nil) ⟨D,xs,y,rfl,rfl,e9,l9,w9⟩) λ_ s10 ⟨_,H10,FW,_,q10⟩=>?_
   refine⟨m',hm,i+1,σ8,H10,FW.sU (pins:=[]),T.keep _ _ _ oH λb hb o e=>(FW.pin (b,o) (List.mem_append_right _ (List.mem_append_right _ (qp hb e)))).1,λb hb=>?_,q10⟩
   obtain⟨o,e,d⟩:=T.obj _ _ oH b hb
   exact(FW.pin (b,o) (List.mem_append_right _ (List.mem_append_right _ (qp hb e)))).2.1
 exact codeAny_compStart_list loop (T.self _ _ _ _ _ vX loop)
theorem uW(hsc:X.env.scope=sc)(iJ:X.N=No)(S:qy sc No N src scope)(hc:X.calm=true)
  (hi:PI X tg iter wi) (hg:∀C s H ex,PG (bV X N scope C s H ex) tg g) (hq:∀C s H ex,uR (bV X N scope C s H ex) ifs tc) (he:∀C s H ex,PE (bV X N scope C s H ex) elt te)
  (hs:∀x,foldedSetIterable iter X.env x=pure x:=by intro _; rfl):PE X (.ListComp elt [⟨tg,iter,ifs,0⟩] scope pos) (pZ wi g src tc te):=by
 refine⟨λpins s σ H Q I h=>?_⟩
 rw[eval_ListComp]
 have hcl:closureFor scope X.env=pure (bY X.env.cells scope.names []):=CQ λy hy e=>by
  have k:=S.free y hy e
  rw[<-hsc]at k
  obtain⟨c,q⟩:=I.ok.has y.1 k
  rw[q]; rfl
 refine wpAny_comprehension_free (use:=none) rfl hs hcl S.kind S.names (QM (RR:=λacc C=>compPost (model X.prog X.w) X.A X.xe none (EP X pins σ Q) acc C) hsc iJ S hc hi hg hq he I h ?_)
 intro D C H' s' m I' n1 n2 n3 n4 n5 hn q
 refine⟨m,hn,λh' hs'=>⟨.ref D,H',?_,rfl,q⟩⟩
 exact I'.turned (t':=s'.toks) (λb o hb e=>(hs'.2 b hb).trans e) n1 (Ne.symm (Ne.symm n2)) (.inr n3) n4 n5
theorem zR(hN:X.N.Nodup)(hyi:X.N[i]?=some y)(hy:Loc X.env.scope y)(hsc:X.env.scope=sc)(iJ:X.N=No)(S:qy sc No N src scope)(hc:X.calm=true)
  (hi:PI X tg iter wi) (hg:∀C s H ex,PG (bV X N scope C s H ex) tg g) (hq:∀C s H ex,uR (bV X N scope C s H ex) ifs tc) (he:∀C s H ex,PE (bV X N scope C s H ex) elt te)
  (hsw:swapsWith (.ListComp elt [⟨tg,iter,ifs,0⟩] scope pos) (some (.Name y py)) spos.line X.env=pure true:=by rfl) (hs:∀x,foldedSetIterable iter X.env x=pure x:=by intro _; rfl)
  (hf:X.fn y=true\/X.env.scope.names.lookup y=some .local:=by first|exact .inl rfl|exact .inr rfl|assumption) :
  PS X (.Assign [.Name y py] (.ListComp elt [⟨tg,iter,ifs,0⟩] scope pos) spos) (kY (pZ wi g src tc te) (kW i)):=by
 refine⟨λpins s σ H D I h=>?_⟩
 rw[exec_Assign_Name_used _ _ _ _ hsw]
 have hcl:closureFor scope X.env=pure (bY X.env.cells scope.names []):=CQ λy hy e=>by
  have k:=S.free y hy e
  rw[<-hsc]at k
  obtain⟨c,q⟩:=I.ok.has y.1 k
  rw[q]; rfl
 refine wpAny_bind (wpAny_standAt (wpAny_bind ?_))
 show wpAny _ X.A (do let _ <-comprehension (.ListComp elt [⟨tg,iter,ifs,0⟩] scope pos) scope X.env _ (newList []) false (eval iter X.env) (some (assign (.Name y py) X.env))) _ _ s
 refine wpAny_bind (wpAny_mono (wpAny_comprehension_free (use:=some (assign (.Name y py) X.env)) (Q:=λ_ s'=>SP X pins D .next s') rfl hs hcl S.kind S.names
  (QM (Q:=λv H'=>D.nx (σ.set i (some v)) H') (RR:=λacc C=>compPost (model X.prog X.w) X.A X.xe (some (assign (.Name y py) X.env)) (λ_ s'=>SP X pins D .next s') acc C) hsc iJ S hc hi hg hq he I h ?_)) (λ_ s' hq=>wpAny_pure (wpAny_pure hq)) λ_ _ e=>e)
 intro Da C H' s' m I' n1 n2 n3 n4 n5 hn q
 show wpAny _ X.A (assign (.Name y py) X.env (.ref Da)) _ _ _
 refine wpAny_assign_Name (KH I' hN hyi hy (v:=.ref Da) rfl (λs2 I2 hsame=>?_) hf)
 obtain⟨a,hsb,ha⟩:=hsame
 have hCa:C≠a:=by
  rcases ha with z|z
  .rw[z]; exact n2
  .exact λe=>n4 y a z e.symm
 refine⟨m,hn.sameBut hsb hCa,λh' hs'=>⟨σ.set i (some (.ref Da)),H',?_,q⟩⟩
 exact I2.turned (t':=s2.toks) (λb o hb e=>(hs'.2 b hb).trans e) n1 n2 (.inr n3) n4 n5
end
noncomputable def Mu(ρ : En)(i:Nat):Prop:=∃ts,ρ[i]?=some (Sl.ow ts)\/ρ[i]?=some (Sl.rf ts)
noncomputable def aeO:Sl->Sl
 |.dp _=>.un
 |s=>s
noncomputable def eE(src:List (Option Nat))(ρ : En):En:=src.map λo=>match o with
 |some j=>aeO ((ρ[j]?).getD .un)
 |none=>.un
noncomputable def bJ:List (Option Nat)->En->En->En
 |some j::src,.ow ts::ρi,ρ=>bJ src ρi (cH j ts ρ)
 |some j::src,.rf ts::ρi,ρ=>bJ src ρi (cH j ts ρ)
 |_::src,_::ρi,ρ=>bJ src ρi ρ
 |_,_,ρ=>ρ
noncomputable def jq:Option Sl->Bool
 |some (.ow _)=>true
 |some (.rf _)=>true
 |_=>false
noncomputable def eG:List (Option Nat)->En->En->Bool
 |some j::src,s::ρi,ρ=>(!jq ρ[j]? || jq (some s))&&eG src ρi ρ
 |none::src,_::ρi,ρ=>eG src ρi ρ
 | [],_,_=>true
 |_,[],_=>false
theorem zT:jq ρ[i]?=true↔Mu ρ i:=by
 constructor
 .intro h
  unfold jq at h
  split at h <;> rename_i q
  .exact⟨_,.inl q⟩
  .exact⟨_,.inr q⟩
  .cases h
 .rintro⟨ts,h|h⟩ <;> rw[h] <;> rfl
theorem Ga:∀{src:List (Option Nat)} {ρi ρ : En} {k j:Nat},eG src ρi ρ = true->src[k]?=some (some j)->Mu ρ j->Mu ρi k
 | [],_,_,_,_,_,h,_=>by simp at h
 |some j'::src,s::ρi,ρ,k,j,h,hk,m=>by
  unfold eG at h
  rw[Bool.and_eq_true]at h
  cases k with
  |zero =>
   simp at hk
   subst hk
   have h1:=h.1
   rw[zT.mpr m]at h1
   cases s with
   |un=>cases h1
   |sh _=>cases h1
   |dp _=>cases h1
   |ow ts=>exact⟨ts,.inl rfl⟩
   |rf ts=>exact⟨ts,.inr rfl⟩
  |succ k =>
   obtain⟨ts,q⟩:=Ga (k:=k) h.2 (by simpa using hk) m
   exact⟨ts,by simpa using q⟩
 |none::src,s::ρi,ρ,k,j,h,hk,m=>by
  unfold eG at h
  cases k with
  |zero=>simp at hk
  |succ k =>
   obtain⟨ts,q⟩:=Ga (k:=k) h (by simpa using hk) m
   exact⟨ts,by simpa using q⟩
 |some j'::src,[],ρ,k,j,h,hk,m=>by unfold eG at h; cases h
 |none::src,[],ρ,k,j,h,hk,m=>by unfold eG at h; cases h
noncomputable def Inj(src:List (Option Nat)):Prop:=∀(k k' j:Nat),src[k]?=some (some j)->src[k']?=some (some j)->k=k'
theorem aeP(h:(src.filterMap id).Nodup):Inj src:=by
 induction src with
 |nil=>intro k k' j h1; simp at h1
 |cons o src ih =>
  have tail:Inj src:=by
   cases o with
   |none=>exact ih (by simpa using h)
   |some j=>exact ih (by simpa using(List.nodup_cons.mp (by simpa using h)).2)
  intro k k' j h1 h2
  have no:∀{m:Nat},o=some j->src[m]?=some (some j)->False:=λ{m} e q=>by
   subst e
   have n:=(List.nodup_cons.mp (show(j::src.filterMap id).Nodup by simpa using h)).1
   exact n (List.mem_filterMap.mpr ⟨some j,List.mem_of_getElem? q,rfl⟩)
  cases k with
  |zero =>
   have e1:o=some j:=by simpa using h1
   cases k' with
   |zero=>rfl
   |succ k'=>exact(no e1 (by simpa using h2)).elim
  |succ k =>
   cases k' with
   |zero=>exact(no (by simpa using h2) (by simpa using h1)).elim
   |succ k'=>rw[tail k k' j (by simpa using h1) (by simpa using h2)]
theorem aeQ(h : ρ[i]?=ρ'[i]?):(cH i ts ρ)[i]?=(cH i ts ρ')[i]? := by
 unfold cH
 rw[h]
 cases q : ρ'[i]? with
 |none=>dsimp only; rw[h,q]
 |some s =>
  have l':=(List.getElem?_eq_some_iff.mp q).1
  have l:=(List.getElem?_eq_some_iff.mp (h.trans q)).1
  cases s with
  |un=>dsimp only; rw[h,q]
  |sh _=>dsimp only; rw[h,q]
  |dp _=>dsimp only; rw[h,q]
  |ow _=>dsimp only; rw[fX l,fX l']
  |rf _=>dsimp only; rw[fX l,fX l']
theorem p7:∀(src:List (Option Nat)) (ρi ρ : En),(bJ src ρi ρ).length = ρ.length
 | [],ρi,ρ=>by unfold bJ; rfl
 |o::src,[],ρ=>by cases o <;> (unfold bJ; rfl)
 |none::src,s::ρi,ρ=>by unfold bJ; exact p7 src ρi ρ
 |some j::src,.un::ρi,ρ=>by unfold bJ; exact p7 src ρi ρ
 |some j::src,.sh _::ρi,ρ=>by unfold bJ; exact p7 src ρi ρ
 |some j::src,.dp _::ρi,ρ=>by unfold bJ; exact p7 src ρi ρ
 |some j::src,.ow ts::ρi,ρ=>by unfold bJ; rw[p7 src ρi,Ez]
 |some j::src,.rf ts::ρi,ρ=>by unfold bJ; rw[p7 src ρi,Ez]
theorem Gb:∀{src:List (Option Nat)} {ρi ρ : En} {j:Nat} {s:Option Sl},Inj src->(bJ src ρi ρ)[j]?=s ->
  (∃(k:Nat) (ts:List Tr),src[k]?=some (some j)/\(ρi[k]?=some (.ow ts)\/ρi[k]?=some (.rf ts))/\(cH j ts ρ)[j]?=s)\/((∀k:Nat,src[k]?=some (some j)->¬Mu ρi k)/\ρ[j]?=s)
 | [],ρi,ρ,j,s,_,h=>by
  unfold bJ at h
  exact .inr ⟨λk q=>by simp at q,h⟩
 |o::src,[],ρ,j,s,_,h=>by
  have h : ρ[j]?=s:=by cases o <;> (unfold bJ at h; exact h)
  refine .inr ⟨λk _ m=>?_,h⟩
  obtain⟨_,q|q⟩:=m <;> simp at q
 |o::src,x::ρi,ρ,j,s,I,h=>by
  have It:Inj src:=λk k' j h1 h2=>by
   have:=I (k+1) (k'+1) j (by simpa using h1) (by simpa using h2)
   omega
  have keep:(o=none\/jq (some x)=false)->(bJ src ρi ρ)[j]?=s->(∃(k:Nat) (ts:List Tr),(o::src)[k]?=some (some j)/\((x::ρi)[k]?=some (.ow ts)\/(x::ρi)[k]?=some (.rf ts))/\(cH j ts ρ)[j]?=s)\/((∀k:Nat,(o::src)[k]?=some (some j)->¬Mu (x::ρi) k)/\ρ[j]?=s):=λc h=>by
   rcases Gb It h with⟨k,ts,q1,q2,q3⟩|⟨n,q⟩
   .exact .inl ⟨k+1,ts,by simpa using q1,by simpa using q2,q3⟩
   .refine .inr ⟨λk qk m=>?_,q⟩
    cases k with
    |zero =>
     rcases c with c|c
     .subst c; simp at qk
     .rw[<-zT]at m
      have m:jq (some x)=true:=m
      rw[c]at m
      cases m
    |succ k =>
     obtain⟨ts,m⟩:=m
     exact n k (by simpa using qk) ⟨ts,by simpa using m⟩
  have put:∀(i:Nat) (ts:List Tr),o=some i->(x=.ow ts\/x=.rf ts)->(bJ src ρi (cH i ts ρ))[j]?=s->(∃(k:Nat) (ts:List Tr),(o::src)[k]?=some (some j)/\((x::ρi)[k]?=some (.ow ts)\/(x::ρi)[k]?=some (.rf ts))/\(cH j ts ρ)[j]?=s)\/((∀k:Nat,(o::src)[k]?=some (some j)->¬Mu (x::ρi) k)/\ρ[j]?=s):=λi ts eo ex h=>by
   rcases Gb It h with⟨k,us,q1,q2,q3⟩|⟨n,q⟩
   .have ne:j≠i:=λz=>by
     subst z
     have:=I 0 (k+1) j (by simpa using eo) (by simpa using q1)
     omega
    refine .inl ⟨k+1,us,by simpa using q1,by simpa using q2,?_⟩
    rw[<-aeQ (Ew ne)]
    exact q3
   .by_cases e:j=i
    .subst e
     refine .inl ⟨0,ts,by simpa using eo,?_,q⟩
     rcases ex with rfl|rfl
     .exact .inl rfl
     .exact .inr rfl
    .rw[Ew e]at q
     refine .inr ⟨λk qk m=>?_,q⟩
     cases k with
     |zero =>
      rw[eo]at qk
      simp at qk
      exact e qk.symm
     |succ k =>
      obtain⟨ts,m⟩:=m
      exact n k (by simpa using qk) ⟨ts,by simpa using m⟩
  cases o with
  |none=>unfold bJ at h; exact keep (.inl rfl) h
  |some i =>
   cases x with
   |un=>unfold bJ at h; exact keep (.inr rfl) h
   |sh _=>unfold bJ at h; exact keep (.inr rfl) h
   |dp _=>unfold bJ at h; exact keep (.inr rfl) h
   |ow ts=>unfold bJ at h; exact put i ts rfl (.inl rfl) h
   |rf ts=>unfold bJ at h; exact put i ts rfl (.inr rfl) h
theorem Ge{src:List (Option Nat)}{k j:Nat}(h:src[k]?=some (some j)):(cX src σ)[k]?=some ((σ[j]?).join):=by
 unfold cX
 rw[List.getElem?_map,h]
 rfl
theorem aeR{k j:Nat}(h:src[k]?=some (some j))(q:(cX src σ)[k]?=some (some v)) : σ[j]?=some (some v):=by
 rw[Ge h]at q
 cases z : σ[j]? with
 |none=>rw[z]at q; cases q
 |some o =>
  rw[z]at q
  rw[show o=some v from Option.some.inj q]
noncomputable def inF(src:List (Option Nat))(ρ : En)(F:Fp):Fp:=λk=>match src[k]? with
 |some (some j)=>if jq ρ[j]?=true then F j else []
 |_=>[]
theorem rC(h:b∈inF src ρ F k):∃j,src[k]?=some (some j)/\jq ρ[j]?=true/\b∈F j:=by
 unfold inF at h
 split at h
 .split at h
  .exact⟨_,‹_›,‹_›,h⟩
  .cases h
 .cases h
theorem uX(h:Fn (inF src ρ F) b):Fn F b:=h.elim λ_ h=>(rC h).elim λj h=>⟨j,h.2.2⟩
section
variable {K:PySem.W.Frag}{R:Addr->Prop}{ρ ρ1:En}{σ τ : St}{G H G1 H1 G' H':Hp}{F F1 F':Fp}{src:List (Option Nat)}
theorem Ok.enter(e:Ok K R ρ σ G H F)(I:Inj src):Ok K R (eE src ρ) (cX src σ) G H (inF src ρ F):=by
 refine⟨by simp[eE,cX],e.sub,e.tb,e.tg,λb h=>e.hid b (uX h),e.rg,λk k' b h1 h2=>?_,λk=>?_⟩
 .obtain⟨j,q1,_,q2⟩:=rC h1
  obtain⟨j',q3,_,q4⟩:=rC h2
  cases e.di j j' b q2 q4
  exact I k k' j q1 q3
 .unfold eE inF
  rw[List.getElem?_map]
  cases q:src[k]? with
  |none=>rfl
  |some o =>
   cases o with
   |none=>rfl
   |some j =>
    rw[Ge q]
    have z:=e.sl j
    dsimp only[Option.map]
    cases w : ρ[j]? with
    |none=>rfl
    |some sl =>
     rw[w]at z
     cases sl with
     |un=>rfl
     |dp ts=>rfl
     |sh T =>
      obtain⟨_,u,z1,z2⟩:=z
      rw[z1]
      exact⟨rfl,u,rfl,z2⟩
     |ow ts =>
      obtain⟨a,xs,z1,z2⟩:=z
      rw[z1]
      exact⟨a,xs,rfl,z2⟩
     |rf ts =>
      obtain⟨a,xs,z1,z2⟩:=z
      rw[z1]
      exact⟨a,xs,rfl,z2⟩
theorem Ok.mu(e:Ok K R ρ σ G H F)(m:Mu ρ i):∃a,σ[i]?=some (some (.ref a))/\F i=[a]:=by
 have z:=e.sl i
 obtain⟨ts,q|q⟩:=m <;> (rw[q]at z; obtain⟨a,xs,z1,z2,_⟩:=z; exact⟨a,z1,z2⟩)
theorem Ok.leave(e1:Ok K R ρ1 σ G1 H1 F1)(e:Ok K R ρ τ G' H' F')(s:aF K G1 H1 (inF src ρ1 F1) G' H' F')(I:Inj src)(ag:∀k j:Nat,src[k]?=some (some j) -> τ[k]?=(cX src σ)[k]?)(so:eG src ρ ρ1=true):Ok K R (bJ src ρ ρ1) σ G' H' F1/\aF K G1 H1 F1 G' H' F1:=by
 have inn:∀{k j:Nat},src[k]?=some (some j)->jq ρ1[j]?=true->Mu ρ k/\∃a,F1 j=[a]/\F' k=[a]/\σ[j]?=some (some (.ref a))/\τ[k]?=some (some (.ref a)):=λq m=>by
  have mk:=Ga so q (zT.mp m)
  obtain⟨a,q1,q2⟩:=e.mu mk
  obtain⟨b,q3,q4⟩:=e1.mu (zT.mp m)
  have z:=ag _ _ q
  rw[q1]at z
  have z:=aeR q z.symm
  rw[q3]at z
  cases z
  exact⟨mk,_,q4,q2,q3,q1⟩
 have out:∀j,(∀k,src[k]?=some (some j)->jq ρ1[j]?=true->False)->∀b∈F1 j,∀o,H1 b=some o->H' b=some o:=λj n b hb o h=>by
  refine s.fr b o h (λ⟨k,z⟩=>?_) ?_
  .obtain⟨j',q1,q2,q3⟩:=rC z
   cases e1.di j j' b hb q3
   exact n k q1 q2
  .obtain⟨ys,z⟩:=e1.fl ⟨j,hb⟩
   exact e1.tb.nt z
 refine⟨⟨by rw[p7,e1.len],e.sub,e.tb,e.tg,λb ⟨j,hb⟩=>?_,e.rg,e1.di,λj=>?_⟩,s.gg,λb o h n=>s.fr b o h λz=>n (uX z),λb h=>(s.nw b h).imp id (Or.imp id uX),λb h=>.inr h,s.dm⟩
 .cases z:G' b with
  |none=>rfl
  |some o =>
   rcases s.nw b (by rw[z]; exact λy=>by cases y)with y|y|⟨k,y⟩
   .exact(y (e1.hid b ⟨j,hb⟩)).elim
   .exact(e1.fs y ⟨j,hb⟩).elim
   .obtain⟨j',q1,q2,q3⟩:=rC y
    obtain⟨_,a,h1,h2,_⟩:=inn q1 q2
    rw[h1]at q3
    rw[e.hid b ⟨k,by rw[h2]; exact q3⟩]at z
    cases z
 .rcases Gb I (rfl:(bJ src ρ ρ1)[j]?=_)with⟨k,ts,q1,q2,q3⟩|⟨n,q⟩
  .rw[<-q3]
   cases m:jq ρ1[j]? with
   |false =>
    have:(cH j ts ρ1)[j]?=ρ1[j]? := by
     unfold cH
     split <;> first|rfl|(rename_i y; rw[y]at m; cases m)
    rw[this]
    exact(e1.sl j).mono s.gg (out j λk _ z=>by rw[m]at z; cases z)
   |true =>
    obtain⟨_,a,h1,h2,h3,h4⟩:=inn q1 m
    have z:=e.sl k
    have z1:=e1.sl j
    have y:∃xs,H' a=some (.lst xs)/\au K G' xs ts:=by
     rcases q2 with q2|q2 <;> (rw[q2,h4]at z; obtain⟨b,xs,y1,_,_,y2⟩:=z; cases y1; exact⟨xs,y2⟩)
    obtain⟨xs,y1,y2⟩:=y
    unfold cH
    unfold jq at m
    split at m <;> rename_i w <;> (try cases m) <;>
    .rw[w]at z1
     obtain⟨b,_,y3,_,y4,_⟩:=z1
     rw[h3]at y3
     cases y3
     try simp only[w]
     rw[fX (List.getElem?_eq_some_iff.mp w).1]
     exact⟨a,xs,h3,h1,y4,y1,y2⟩
  .rw[<-q]
   exact(e1.sl j).mono s.gg (out j λk q1 z=>n k q1 (inn q1 z).1)
theorem Ok.aeS(e:Ok K R ρ σ G H F)(h:H D=some (.lst xs))(n:¬Fn F D)(g:G D=none):Ok K R ρ σ G (upd H D (.lst ys)) F:=by
 have ne:∀b,Fn F b->b≠D:=λb z y=>n (y▸z)
 refine⟨e.len,λb o q=>?_,e.tb.upd h,e.tg,e.hid,λb z=>⟨(e.rg b z).1,λy=>?_⟩,e.di,λi=>(e.sl i).mono (Same.refl _) λb hb o q=>?_⟩
 .rw[aM λz=>by rw[z,g]at q; cases q]
  exact e.sub b o q
 .by_cases z:b=D
  .subst z; rw[bW]at y; cases y
  .rw[aM z]at y; exact(e.rg b ‹_›).2 y
 .rw[aM (ne b ⟨i,hb⟩)]; exact q
theorem aF.flt(s:aF K G H F G' H' F')(tb:bL K H)(h:H D=some (.lst xs))(n:¬Fn F D)(g:G D=none):H' D=some (.lst xs)/\¬Fn F' D/\G' D=none:=by
 refine⟨s.fr D _ h n (tb.nt h),s.out h n,?_⟩
 cases k:G' D with
 |none=>rfl
 |some o=>exact((s.nw D (by rw[k]; exact λz=>by cases z)).elim (λz=>z g) λz=>z.elim (λz=>by rw[h]at z; cases z) n).elim
end
noncomputable abbrev Gf:=Hp->Hp->Fp->List V->List Tr->Prop
noncomputable def nJ(cv:Rv->Rs Tr)(g:GF)(c:BF)(f:EF):List Tr->En->Rs (List Tr × En)
 | [],ρ=>.ok ([],ρ)
 |u::us,ρ=>(g u ρ).bind λρ1=>(c ρ1).bind λb=>if b.1=true then(f b.2).bind λp=>(cv p.1).bind λT=>(nJ cv g c f us p.2).bind λz=>.ok (T::z.1,z.2)else nJ cv g c f us b.2
structure Acc(K:PySem.W.Frag)(R:Addr->Prop)(H1:Hp)(D:Addr)(cv:Rv->Rs Tr)(A:Gf):Prop where
 nx:∀r c,cv r ≠ .ex c
 nil:∀G H F,A G H F [] []
 stp:∀{G H F G' H' F' xs ts},bL K H->aF K G H F G' H' F'->A G H F xs ts->A G' H' F' xs ts
 pok:∀{G H F xs ts ys},A G H F xs ts->A G (upd H D ys) F xs ts
 add:∀{ρ ρ0 σ σ0 G H F G0 H0 F0 xs ts v r T},A G0 H0 F0 xs ts->Ok K R ρ0 σ0 G0 H0 F0->(∀b,H0 b=none->H1 b=none/\b≠D)->Ok K R ρ σ G H F->aF K G0 H0 F0 G H F->eO K σ H0 G H F v r->cv r=.ok T->∃G2,Ok K R ρ σ G2 H F/\aF K G0 H0 F0 G2 H F/\A G2 H F (xs++[v]) (ts++[T])
noncomputable abbrev InC(K:PySem.W.Frag)(R:Addr->Prop)(A:Gf)(cv:Rv->Rs Tr)(gf:GF)(cf:BF)(f:EF)(src:List (Option Nat))(σ : St)(D:Addr)(G1 H1:Hp)(F1:Fp)(us:List Tr)(z:List Tr × En):Nat->Nat->St->Hp->Prop:=λi m τ H'=>m=us.length-i/\i<=us.length/\∃ρ' G' F' xs acc,Ok K R ρ' τ G' H' F'/\aF K G1 H1 F1 G' H' F'/\(H' D=some (.lst xs)/\¬Fn F' D/\G' D=none)/\A G' H' F' xs acc/\xs.length<=i/\(∀k j:Nat,src[k]?=some (some j) -> τ[k]?=(cX src σ)[k]?)/\∃y,nJ cv gf cf f (us.drop i) ρ'=.ok y/\z=(acc++y.1,y.2)
theorem zU{K:PySem.W.Frag}{A:Gf}{G1:Hp}{J:It}{tc:TT}(hc:∀σ H Q,Tt ⟨K,λ_ _=>False⟩ cf σ H Q->tc σ H Q)(I:Inj src)(hj:∀k j:Nat,src[k]?=some (some j)->k∉js)(ng:∀T ρ c,gf T ρ ≠ .ex c)(hlen:us.length<=100000)(hD:H1 D=none)(ac:Acc K R H1 D cv A)(e1:Ok K R ρ1 σ G1 H1 F1)
  (it:∀G' H',Same G1 G'->Same G' H'->(∀b o,H1 b=some o->¬Fn (inF src ρ1 F1) b->¬Tb K b->H' b=some o)->∀i,(i=us.length->J.stop i H')/\∀u,us[i]?=some u->J.go i H'/\∀x cZ,J.kZ i H' x cZ->∃G'',Gw K G' H' G'' cZ/\Rep K G'' x u)
  (kz:nJ cv gf cf f us (eE src ρ1)=.ok z) (so:eG src z.2 ρ1=true) (fin:∀G' H' F' xs,Ok K R (bJ src z.2 ρ1) σ G' H' F1->aF K G1 H1 F1 G' H' F1->H' D=some (.lst xs)->G' D=none->(∀b,Fn F' b->H1 b=none\/Fn F1 b)->¬Fn F' D->A G' H' F' xs z.1->Q (.ref D) H') :
  ∃W:Nat->Nat->St->Hp->Prop,(∃m,W 0 m (cX src σ) (upd H1 D (.lst [])))/\∀i m σ' H',W i m σ' H' ->
  (J.stop i H'/\Nf Q D H')\/(J.go i H'/\∀x cZ,J.kZ i H' x cZ->lV K gf js x σ' cZ λσ2 H2=>tc σ2 H2 λb uU=>if b=true then Te ⟨K,λ_ _=>False⟩ f σ2 uU λv H3=>∃xs,H3 D=some (.lst xs)/\xs.length<sizeLine/\∃m',m'<m/\W (i+1) m' σ2 (upd H3 D (.lst (xs++[v])))else ∃m',m'<m/\W (i+1) m' σ2 uU):=by
 refine⟨InC K R A cv gf cf f src σ D G1 H1 (inF src ρ1 F1) us z,⟨us.length,by simp,Nat.zero_le _,eE src ρ1,G1,inF src ρ1 F1,[],[],?_,?_,⟨bW,λh=>e1.fs hD (uX h),e1.sub.free hD⟩,ac.nil _ _ _,Nat.le_refl _,λ_ _ _=>rfl,z,kz,rfl⟩,?_⟩
 .exact((e1.enter I).grow (.flt e1.sub hD)).1
 .exact((e1.enter I).grow (.flt e1.sub hD)).2
 rintro i m τ H2 ⟨rfl,hi,ρ2,G2,F2,xs,acc,e2,s2,d2,a2,l2,g2,y,ky,rfl⟩
 have q:=it G2 H2 s2.gg e2.sub s2.fr i
 have mv:∀{G3 H3 F3},aF K G1 H1 (inF src ρ1 F1) G3 H3 F3->∀ys,aF K G1 H1 (inF src ρ1 F1) G3 (upd H3 D (.lst ys)) F3:=λs ys=>⟨s.gg,λb o h n t=>by rw[aM (iD h hD)]; exact s.fr b o h n t,s.nw,s.nf,λb h=>by
  by_cases z:b=D
  .subst z; exact hD
  .rw[aM z]at h; exact s.dm b h⟩
 by_cases hlt:i<us.length
 .rw[List.drop_eq_getElem_cons hlt]at ky
  obtain⟨go,yl⟩:=q.2 us[i] (by simp[hlt])
  refine .inr ⟨go,λx H3 yy=>?_⟩
  obtain⟨G3,w3,r3⟩:=yl x H3 yy
  obtain⟨e3,s3⟩:=e2.grow w3
  obtain⟨ρ4,k4,ky⟩:=dX ky
  obtain⟨b,k5,ky⟩:=dX ky
  refine⟨R,ρ2,G3,F2,_,e3,r3,?_⟩
  rw[k4]
  intro σ4 F4 e4 f4 a4
  have s4:=s3.trans (aF.sub f4)
  have g4:∀k j:Nat,src[k]?=some (some j) -> σ4[k]?=(cX src σ)[k]? := λk j h=>(a4 k (hj k j h)).trans (g2 k j h)
  refine hc _ _ _ ⟨R,ρ4,G3,F4,e4,?_⟩
  rw[k5]
  intro G5 H5 F5 e5 s5
  have rD:=s4.trans s5
  have d5:=rD.flt e2.tb d2.1 d2.2.1 d2.2.2
  split at ky <;> rename_i c
  .rw[if_pos c]
   obtain⟨p,k6,ky⟩:=dX ky
   obtain⟨T,k7,ky⟩:=dX ky
   obtain⟨y',k8,ky⟩:=dX ky
   cases ky
   refine⟨R,b.2,G5,F5,e5,?_⟩
   rw[k6]
   intro v G6 H6 F6 e6 s6 v6
   obtain⟨G7,e7,s7,a7⟩:=ac.add (ac.stp e2.tb rD a2) e5 (λb h=>⟨(s2.trans rD).dm b h,λz=>by rw[z,d5.1]at h; cases h⟩) e6 s6 v6 k7
   have d7:=s7.flt e5.tb d5.1 d5.2.1 d5.2.2
   refine⟨xs,d7.1,Nat.lt_of_le_of_lt (show xs.length<=100000 by omega) (by decide),us.length-(i+1),by omega,rfl,hlt,p.2,G7,F6,xs++[v],acc++[T],e7.aeS d7.1 d7.2.1 d7.2.2,mv ((s2.trans rD).trans s7) _,⟨bW,d7.2⟩,ac.pok a7,by simp; omega,g4,y',k8,by simp⟩
  .rw[if_neg c]
   exact⟨us.length-(i+1),by omega,rfl,hlt,b.2,G5,F5,xs,acc,e5,s2.trans rD,d5,ac.stp e2.tb rD a2,by omega,g4,y,ky,rfl⟩
 .have z:i=us.length:=by omega
  subst z
  rw[List.drop_length]at ky
  cases ky
  obtain⟨e',s'⟩:=e1.leave e2 s2 I g2 so
  exact .inl ⟨q.1 rfl,fin G2 H2 F2 xs e' s' d2.1 d2.2.2 (λb h=>(s2.nf b h).imp id uX) d2.2.1 (by rw[List.append_nil]; exact a2)⟩
theorem QV{K:PySem.W.Frag}:Acc K R H1 D qU λG _ _ xs ts=>au K G xs ts:=⟨Px,λ_ _ _=>.nil,λ_ s a=>a.mono s.gg,λa=>a,λa e0 _ e s v q=>by
 obtain⟨G2,e2,s2,m,r⟩:=e.ux e0 s v q
 exact⟨G2,e2,s2,(a.mono s2.gg).app (.cons r .nil)⟩⟩
noncomputable def iQ(g:GF)(c:BF)(f:EF):List Tr->En->Rs (List Tr × En)
 | [],ρ=>.ok ([],ρ)
 |u::us,ρ=>(g u ρ).bind λρ1=>(c ρ1).bind λb=>if b.1=true then(f b.2).bind λp=>(qU p.1).bind λT=>(iQ g c f us p.2).bind λz=>.ok (T::z.1,z.2)else iQ g c f us b.2
theorem Gg(g:GF)(c:BF)(f:EF):∀us,iQ g c f us=nJ qU g c f us
 | []=>rfl
 |u::us=>by funext ρ; simp only[iQ,nJ,Gg g c f us]
noncomputable def jc:BF:=λρ=>.ok (true,ρ)
noncomputable def rE(src:List (Option Nat))(fi:IF)(g:GF)(c:BF)(f:EF):EF:=λρ=>(fi ρ).bind λp=>if p.1.length<=100000 then(dZ (iQ g c f p.1 (eE src p.2))).bind λz=>if eG src z.2 p.2=true then .ok (.v (.lst z.1) true,bJ src z.2 p.2)else .bad else .bad
theorem lX{α β : Type}{r:Rs α}{f : α -> Rs β}{t:Tx}{P : β -> Prop}(h:bG t H F ((dZ r).bind f) P):∃a,r=.ok a/\bG t H F (f a) P:=by
 cases r with
 |ok a=>exact⟨a,rfl,h⟩
 |_=>exact h.elim
theorem QW{t:Tx}{tc:TT}(hc:∀σ H Q,Tt ⟨t.K,λ_ _=>False⟩ cf σ H Q->tc σ H Q)(I:Inj src)(hj:∀k j:Nat,src[k]?=some (some j)->k∉js)(ng:∀T ρ c,gf T ρ ≠ .ex c)(h:Te t (rE src fi gf cf f) σ H Q):pZ (Ti t fi) (lV t.K gf js) src tc (Te ⟨t.K,λ_ _=>False⟩ f) σ H Q:=by
 obtain⟨R,ρ,G,F,e,h⟩:=h
 refine⟨R,ρ,G,F,e,h.run (aF.refl (G:=G)) λp h J G1 H1 F1 e1 s1 it D hD=>?_⟩
 split at h
 case isFalse=>exact h.elim
 obtain⟨z,kz,h⟩:=lX h
 split at h
 case isFalse=>exact h.elim
 rw[Gg]at kz
 exact zU hc I hj ng ‹_› hD QV e1 (λG' H' m s _=>it G' H' m s) kz ‹_› λG' H' F' xs e' s' d g _ _ a=>h _ G' H' F1 e' (s1.trans s') ⟨⟨D,xs,_,rfl,rfl,s1.dm D hD,g,d,a⟩,λ_ a q=>by cases q; exact e1.fs hD⟩
noncomputable def cG(Γ : Gx)(N:List Str)(scope:Scope):Gx:=⟨N,M8 scope Γ.sc,λx=>scope.names.lookup x == some .cell,Γ.B,[],true,Γ.k,[]⟩
theorem jr(o:Ox cl Γ E X)(d:N.Nodup):Ox cl (cG Γ N scope) E0 (bV X N scope C s H ex):=⟨rfl,by show M8 scope X.env.scope=_; rw[o.s]; rfl,d,o.l,o.r,Nu,o.B,(λ_ z=>nomatch z),o.x,rfl,(λ_=>rfl),λ_ z=>nomatch z⟩
noncomputable def nO(Γ : Gx)(N:List Str)(src:List (Option Nat))(scope:Scope)(js:List Nat):Bool :=
 decide (scope.kind=.function)&&decide (∀y∈scope.names,y.2=.cell->scope.names.lookup y.1=some .cell)&&decide (∀y∈scope.names,y.2=.local->scope.names.lookup y.1=some .local)&&decide (∀y∈scope.names,y.2=.free -> Γ.sc.names.lookup y.1=some .cell\/Γ.sc.names.lookup y.1=some .free)&&decide (src.length=N.length)&&decide (∀p∈N.zip src,∀j∈p.2,Γ.N[j]?=some p.1/\scope.names.lookup p.1=some .free)&&decide N.Nodup&&decide (src.filterMap id).Nodup&&js.all λk=>(src[k]?).join.isNone
theorem rF(h:nO Γ N src scope js=true):qy Γ.sc Γ.N N src scope/\N.Nodup/\Inj src/\∀k j:Nat,src[k]?=some (some j)->k∉js:=by
 simp only[nO,an]at h
 obtain⟨⟨⟨⟨⟨⟨⟨⟨h1,h2⟩,h3⟩,h4⟩,h5⟩,h6⟩,h7⟩,h8⟩,h9⟩:=h
 refine⟨⟨of_decide_eq_true h1,of_decide_eq_true h2,of_decide_eq_true h3,of_decide_eq_true h4,of_decide_eq_true h5,of_decide_eq_true h6⟩,of_decide_eq_true h7,aeP (of_decide_eq_true h8),λk j e m=>?_⟩
 have:=List.all_eq_true.mp h9 k m
 rw[e]at this
 cases this
noncomputable def zV(v t:Pos)(scope:Scope)(y:Str)(env:Env):Bool:=env.blockKind == .function&&env.kindOf y == some .local&&t.line == v.line && !(scope.names.any λ(n,k)=>n == y&&(k == .local || k == .cell))
theorem zW{te Gh:TE}{b:Str->Pos->Bool}(o:Ox cl Γ E X)(hw:∀y p l,swapsWith e (some (.Name y p)) l X.env=pure (b y p))(hP:PE X e te)(hS:∀i y p sp,Wr X i y->b y p=true->PS X (.Assign [.Name y p] e sp) (kY te (kW i)))(imp:∀σ H Q,Gh σ H Q->te σ H Q):PE X e Gh/\∀i y p sp,Wr X i y->PS X (.Assign [.Name y p] e sp) (kY Gh (kW i)):=by
 refine⟨hP.imp imp,λi y p sp w=>?_⟩
 cases hb:b y p
 .exact BL o.d w.1 w.2.1 (hP.imp imp) ((hw y p _).trans (congrArg pure hb)) w.2.2
 .exact(hS i y p sp w hb).imp λD σ H=>imp σ H _
noncomputable def cC(src:List (Option Nat))(N:List Str)(i:VI lW)(g:VG gK jo)(b:VE bN):VC (rE src lW gK jc bN) where
 ck Γ e:=m7 e λx aK sc _=>aP aK λbw bD=>m8 bw λt y bO dw=>aW bO (jk dw 0 (aW bD (i.ck Γ (t,y)&&g.ck (cG Γ N sc) t&&b.ck (cG Γ N sc) x&&nO Γ N src sc jo)))
 cs:=i.cs++(g.cs++b.cs)
 ok:=@λcl E Γ X e q o h=>by
  walk_at "O"
  rename_i x0 sc pos t0 y0
  simp only[an]at h
  obtain⟨⟨⟨h1,h2⟩,h3⟩,h4⟩:=h
  obtain⟨pi,ni⟩:=i.ok (ml q) o h1
  obtain⟨S,nd,I,hj⟩:=rF h4
  have pg:=λC s H ex=>g.ok (X:=bV X N sc C s H ex) (ml (mr q)) (jr o nd) h2
  have pb:=λC s H ex=>b.ok (X:=bV X N sc C s H ex) (mr (mr q)) (jr o nd) h3
  exact zW o (b:=λy p=>zV pos p sc y X.env) (λ_ _ _=>rfl) (uW o.s o.N S o.l pi (λC s H ex=>(pg C s H ex).1) (λ_ _ _ _=>uT) pb (j6 ni)) (λi y p sp w hb=>zR o.d w.1 w.2.1 o.s o.N S o.l pi (λC s H ex=>(pg C s H ex).1) (λ_ _ _ _=>uT) pb (congrArg pure hb) (j6 ni) w.2.2) λσ H Q h=>by
   exact QW (λσ H Q ⟨R,ρ,G,F,e,h⟩=>h G H F e .refl) I hj (pg 0 X.s₀ X.H₀ []).2.1 h
noncomputable def uY(src:List (Option Nat))(N:List Str)(i:VI lW)(g:VG gK jo)(k:VT nH)(b:VE bN):VC (rE src lW gK nH bN) where
 ck Γ e:=m7 e λx aK sc _=>aP aK λbw bD=>m8 bw λt y bO dw=>aP bO λz fC=>aW fC (jk dw 0 (aW bD (i.ck Γ (t,y)&&g.ck (cG Γ N sc) t&&b.ck (cG Γ N sc) x&&k.ck (cG Γ N sc) z&&nO Γ N src sc jo)))
 cs:=i.cs++(g.cs++(b.cs++k.cs))
 ok:=@λcl E Γ X e q o h=>by
  walk_at "O"
  rename_i x0 sc pos t0 y0 z0
  simp only[an]at h
  obtain⟨⟨⟨⟨h1,h2⟩,h3⟩,h5⟩,h4⟩:=h
  obtain⟨pi,ni⟩:=i.ok (ml q) o h1
  obtain⟨S,nd,I,hj⟩:=rF h4
  have pg:=λC s H ex=>g.ok (X:=bV X N sc C s H ex) (ml (mr q)) (jr o nd) h2
  have pb:=λC s H ex=>b.ok (X:=bV X N sc C s H ex) (ml (mr (mr q))) (jr o nd) h3
  have pk:=λC s H ex=>k.ok (X:=bV X N sc C s H ex) (mr (mr (mr q))) (jr o nd) h5
  exact zW o (b:=λy p=>zV pos p sc y X.env) (λ_ _ _=>rfl) (uW o.s o.N S o.l pi (λC s H ex=>(pg C s H ex).1) (λC s H ex=>zN (pk C s H ex)) pb (j6 ni)) (λi y p sp w hb=>zR o.d w.1 w.2.1 o.s o.N S o.l pi (λC s H ex=>(pg C s H ex).1) (λC s H ex=>zN (pk C s H ex)) pb (congrArg pure hb) (j6 ni) w.2.2) λσ H Q=>QW (λ_ _ _ h=>h) I hj (pg 0 X.s₀ X.H₀ []).2.1
noncomputable def Gi(src:List (Option Nat))(n:Nat)(g:GF)(c:BF)(f:EF):EF:=λρ=>(con ρ n).bind λus=>if us.length<=100000 then(dZ (iQ g c f us (eE src ρ))).bind λz=>if eG src z.2 ρ = true then .ok (.v (.lst z.1) true,bJ src z.2 ρ)else .bad else .bad
theorem aeT{K:PySem.W.Frag}(n:Nat)(hn:∀k:Nat,src[k]? ≠ some (some n))(I:Inj src)(hj:∀k j:Nat,src[k]?=some (some j)->k∉js)(ng:∀T ρ c,gf T ρ ≠ .ex c)(h:Te ⟨aA K,xe⟩ (Gi src n gf cf f) σ H Q):pZ (zK K (sJ n)) (lV (aA K) gf js) src (Tt ⟨aA K,λ_ _=>False⟩ cf) (Te ⟨aA K,λ_ _=>False⟩ f) σ H Q:=by
 obtain⟨R,ρ,G,F,e,h⟩:=h
 obtain⟨us,k0,h⟩:=h.okb (uz _ _)
 obtain⟨a,xs,hi,hf,hx,r⟩:=e.con k0
 refine .inl ⟨_,hi,a,rfl,⟨xs,aG.of hx⟩,λD hD=>?_⟩
 split at h
 case isFalse=>exact h.elim
 obtain⟨z,kz,h⟩:=lX h
 split at h
 case isFalse=>exact h.elim
 rw[Gg]at kz
 have na:¬Fn (inF src ρ F) a:=λ⟨k,z⟩=>by
  obtain⟨j,q1,_,q2⟩:=rC z
  cases e.di n j a (by rw[hf]; exact List.mem_singleton.mpr rfl) q2
  exact hn k q1
 refine zU (λ_ _ _ h=>h) I hj ng ‹_› hD QV e (λG' H' m s fr i=>?_) kz ‹_› λG' H' F' xs e' s' d g _ _ a=>h _ G' H' F e' s' ⟨⟨D,xs,_,rfl,rfl,hD,g,d,a⟩,λ_ a q=>by cases q; exact e.fs hD⟩
 have q':aG K H' a xs:=aG.of (fr a _ hx na (e.tb.nt hx))
 refine⟨λz=>⟨xs,q',by rw[r.length]; lia⟩,λu hu=>?_⟩
 obtain⟨x,hx,rx⟩:=r.jh hu
 refine⟨⟨xs,x,q',hx⟩,λy cZ ⟨e,z⟩=>?_⟩
 have:=z xs q'
 rw[hx]at this
 cases this
 subst e
 exact⟨G',.refl s,rx.mono m⟩
noncomputable def cO(src:List (Option Nat))(N:List Str)(n:Nat)(g:VG gK jo)(k:VT nH)(b:VE bN):VC (Gi src n gK nH bN) where
 ck Γ e:=m7 e λx aK sc _=>aP aK λbw bD=>m8 bw λt bO dw fC=>atName bO λy _=>aP dw λz jK=>aW jK (jk fC 0 (aW bD (g8 Γ n y&&g.ck (cG Γ N sc) t&&b.ck (cG Γ N sc) x&&k.ck (cG Γ N sc) z&&nO Γ N src sc jo&&src.all (λo=>o != some n))))
 cs:=g.cs++(b.cs++k.cs)
 ok:=@λcl E Γ X e q o h=>by
  walk_at "O"
  rename_i x0 sc pos t0 y0 p0 z0
  simp only[an]at h
  obtain⟨⟨⟨⟨⟨h1,h2⟩,h3⟩,h5⟩,h4⟩,h6⟩:=h
  obtain⟨S,nd,I,hj⟩:=rF h4
  have pi:PI X t0 (.Name y0 p0) (zK X.K (sJ n)):=QB (jY o h1)
  have pg:=λC s H ex=>g.ok (X:=bV X N sc C s H ex) (ml q) (jr o nd) h2
  have pb:=λC s H ex=>b.ok (X:=bV X N sc C s H ex) (ml (mr q)) (jr o nd) h3
  have pk:=λC s H ex=>k.ok (X:=bV X N sc C s H ex) (mr (mr q)) (jr o nd) h5
  exact zW o (b:=λy p=>zV pos p sc y X.env) (λ_ _ _=>rfl) (uW o.s o.N S o.l pi (λC s H ex=>(pg C s H ex).1) (λC s H ex=>zN (pk C s H ex)) pb (j6 rfl)) (λi y p sp w hb=>zR o.d w.1 w.2.1 o.s o.N S o.l pi (λC s H ex=>(pg C s H ex).1) (λC s H ex=>zN (pk C s H ex)) pb (congrArg pure hb) (j6 rfl) w.2.2) λσ H Q=>aeT n (λk z=>by
   have:=List.all_eq_true.mp h6 _ (List.mem_of_getElem? z)
   simp at this) I hj (pg 0 X.s₀ X.H₀ []).2.1
noncomputable def rG:Rv->Rs Tr
 |.v (.lst us) true=>if cY us=true then .ok (.lst us)else .bad
 |_=>.bad
noncomputable def j7(g:GF)(c:BF)(f:EF):List Tr->En->Rs (List Tr × En)
 | [],ρ=>.ok ([],ρ)
 |u::us,ρ=>(g u ρ).bind λρ1=>(c ρ1).bind λb=>if b.1=true then(f b.2).bind λp=>(rG p.1).bind λT=>(j7 g c f us p.2).bind λz=>.ok (T::z.1,z.2)else j7 g c f us b.2
theorem Gj(g:GF)(c:BF)(f:EF):∀us,j7 g c f us=nJ rG g c f us
 | []=>rfl
 |u::us=>by funext ρ; simp only[j7,nJ,Gj g c f us]
section
variable {K:PySem.W.Frag}{R:Addr->Prop}{ρ : En}{σ : St}{G H H1 G' H':Hp}{F F':Fp}
structure zX(K:PySem.W.Frag)(R:Addr->Prop)(H1:Hp)(D:Addr)(G H:Hp)(F:Fp)(xs:List V)(ts:List Tr)(bs:List Addr):Prop where
 nd:bs.Nodup
 al:∀b∈bs,H1 b=none/\b≠D/\¬R b/\¬Fn F b/\G b=none
 dr:DR K G H xs ts bs
theorem zX.stp(tb:bL K H)(s:aF K G H F G' H' F')(a:zX K R H1 D G H F xs ts bs):zX K R H1 D G' H' F' xs ts bs:=by
 refine⟨a.nd,λb hb=>?_,a.dr.mono s.gg λb hb o q=>?_⟩ <;> obtain⟨h1,h2,h3,h4,h5⟩:=a.al b hb <;> obtain⟨ys,hy⟩:=a.dr.lst b hb
 .exact⟨h1,h2,h3,(s.flt tb hy h4 h5).2⟩
 .rw[hy]at q
  cases q
  exact(s.flt tb hy h4 h5).1
theorem QX:Acc K R H1 D rG λG H F xs ts=>∃bs,zX K R H1 D G H F xs ts bs:=by
 refine⟨λr c=>(by unfold rG; (repeat' split) <;> (intro z; cases z)),λ_ _ _=>⟨[],.nil,(λ_ h=>by cases h),.nil⟩,λtb s ⟨bs,a⟩=>⟨bs,a.stp tb s⟩,λ⟨bs,a⟩=>⟨bs,a.nd,a.al,a.dr.mono (Same.refl _) λb hb o q=>?_⟩,λ⟨bs,a0⟩ e0 hn e s v q=>?_⟩
 .rw[aM (a.al b hb).2.1]; exact q
 .have a:=a0.stp e0.tb s
  unfold rG at q
  (repeat' split at q) <;> cases q
  rename_i nl
  obtain⟨⟨c,ys,us,rfl,q1,q2,q3,q4,q5⟩,f⟩:=v
  cases q1
  refine⟨_,e,s,bs++[c],List.nodup_append.mpr ⟨a.nd,by simp,λb hb d hd z=>?_⟩,λb hb=>?_,a.dr.app (.rw q4 (.flat q5 nl) .nil)⟩
  .cases List.mem_singleton.mp hd
   obtain⟨zs,hz⟩:=a0.dr.lst b hb
   rw[z,q2]at hz
   cases hz
  .rcases List.mem_append.mp hb with hb|hb
   .exact a.al b hb
   .cases List.mem_singleton.mp hb
    exact⟨(hn _ q2).1,(hn _ q2).2,e0.rn q2,f rfl _ rfl,q3⟩
end
noncomputable def Gm(i:Nat)(src:List (Option Nat))(fi:IF)(g:GF)(c:BF)(f:EF):SF:=λρ=>(fi ρ).bind λp=>if p.1.length<=100000 then(dZ (j7 g c f p.1 (eE src p.2))).bind λz=>if eG src z.2 p.2=true then .ok (.nx,(bJ src z.2 p.2).set i (.dp z.1))else .bad else .bad
theorem Ok.QZ{K:PySem.W.Frag}(e:Ok K R ρ σ G H F)(i:Nat)(n:(a::bs).Nodup)(al:∀b∈a::bs,¬R b/\¬Fn F b/\G b=none)(h:H a=some (.lst xs))(d:DR K G H xs ts bs):∃F',Ok K R (ρ.set i (.dp ts)) (σ.set i (some (.ref a))) G H F'/\∀b,Fn F' b->b∈a::bs\/Fn F b:=by
 by_cases l:i < ρ.length
 .refine⟨fH F i (a::bs),e.one i _ (by rw[List.length_set,List.length_set,e.len]) (λj n=>⟨ig n,ig n⟩) (Same.refl _) e.sub e.tb (λb h=>.inl h) (λ_ _ _ _ _ h=>h) (λb h=>(e.rg b h).2) (λb h=>⟨(al b h).2.2,λj _ z=>(al b h).2.1 ⟨j,z⟩⟩) ?_,λb h=>?_⟩
  .rw[fX l,fX (e.len▸l)]
   exact⟨a,xs,bs,rfl,rfl,n,λb hb=>(al b hb).1,h,d⟩
  .rcases lU h with h|⟨j,_,h⟩
   .exact .inl h
   .exact .inr ⟨j,h⟩
 .rw[qZ l,qZ (e.len▸l)]
  exact⟨F,e,λb h=>.inr h⟩
theorem aeU{t:Tx}{tc:TT}(hc:∀σ H Q,Tt ⟨t.K,λ_ _=>False⟩ cf σ H Q->tc σ H Q)(I:Inj src)(hj:∀k j:Nat,src[k]?=some (some j)->k∉js)(ng:∀T ρ c,gf T ρ ≠ .ex c)(h:Ts t (Gm n src fi gf cf f) D σ H):kY (pZ (Ti t fi) (lV t.K gf js) src tc (Te ⟨t.K,λ_ _=>False⟩ f)) (kW n) D σ H:=by
 obtain⟨R,ρ,G,F,e,h⟩:=h
 refine⟨R,ρ,G,F,e,h.run (aF.refl (G:=G)) λp h J G1 H1 F1 e1 s1 it D hD=>?_⟩
 split at h
 case isFalse=>exact h.elim
 obtain⟨z,kz,h⟩:=lX h
 split at h
 case isFalse=>exact h.elim
 rw[Gj]at kz
 refine zU hc I hj ng ‹_› hD QX e1 (λG' H' m s _=>it G' H' m s) kz ‹_› λG' H' F' xs e' s' d g _ _ ⟨bs,a⟩=>?_
 have al:∀b∈D::bs,H1 b=none/\¬R b/\¬Fn F1 b/\G' b=none:=List.forall_mem_cons.mpr ⟨⟨hD,e1.rn hD,e1.fs hD,g⟩,λb hb=>⟨(a.al b hb).1,(a.al b hb).2.2.1,e1.fs (a.al b hb).1,(a.al b hb).2.2.2.2⟩⟩
 obtain⟨F2,e2,f2⟩:=e'.QZ n (List.nodup_cons.mpr ⟨λz=>(a.al D z).2.1 rfl,a.nd⟩) (λb hb=>(al b hb).2) d a.dr
 have s2:=s1.trans s'
 exact h _ G' H' F2 e2 ⟨s2.gg,s2.fr,s2.nw,λb z=>(f2 b z).elim (λz=>.inl (s1.dm b (al b z).1)) (s2.nf b),s2.dm⟩
noncomputable def sCd(n:Nat)(src:List (Option Nat))(N:List Str)(i:VI lW)(g:VG gK jo)(b:VE bN):VS (Gm n src lW gK jc bN) where
 ck Γ e:=lJ e λaK bw _=>aP aK λbD bO=>atName bD λy p=>aW bO (m7 bw λx dw sc pos=>aP dw λfC jK=>m8 fC λt z uJ uK=>aW uJ (jk uK 0 (aW jK (uE Γ n y&&i.ck Γ (t,z)&&g.ck (cG Γ N sc) t&&b.ck (cG Γ N sc) x&&nO Γ N src sc jo))))
 cs:=i.cs++(g.cs++b.cs)
 ok:=@λcl E Γ X e q o h=>by
  walk_at "O"
  rename_i sp y p x0 sc pos t0 y0
  simp only[an]at h
  obtain⟨⟨⟨⟨hw,h1⟩,h2⟩,h3⟩,h4⟩:=h
  obtain⟨pi,ni⟩:=i.ok (ml q) o h1
  obtain⟨S,nd,I,hj⟩:=rF h4
  have pg:=λC s H ex=>g.ok (X:=bV X N sc C s H ex) (ml (mr q)) (jr o nd) h2
  have pb:∀C s H ex,PE (bV X N sc C s H ex) x0 (Te (tx cl E0 X) bN):=λC s H ex=>b.ok (X:=bV X N sc C s H ex) (mr (mr q)) (jr o nd) h3
  have Q5:∀C s H ex,PG (bV X N sc C s H ex) t0 (lV (aA X.K) gK jo):=λC s H ex=>(pg C s H ex).1
  refine((zW o (b:=λy p=>zV pos p sc y X.env) (λ_ _ _=>rfl) (uW o.s o.N S o.l pi Q5 (λ_ _ _ _=>uT) pb (j6 ni)) (λi y p sp w hb=>zR o.d w.1 w.2.1 o.s o.N S o.l pi Q5 (λ_ _ _ _=>uT) pb (congrArg pure hb) (j6 ni) w.2.2) λσ H Q h=>h).2 _ _ _ _ (zx o hw)).imp λD σ H h=>?_
  exact aeU (λσ H Q ⟨R,ρ,G,F,e,h⟩=>h G H F e .refl) I hj (pg 0 X.s₀ X.H₀ []).2.1 h
noncomputable def rH(i:Nat)(ρ : En):En:=match ρ[i]? with
 |some (.dp ts)=>ρ.set i (.ow ts)
 |_=>ρ
noncomputable def Gn(i:Nat)(f:SF):SF:=λρ=>f (rH i ρ)
open Classical in
theorem Ok.rH{K:PySem.W.Frag}(e:Ok K R ρ σ G H F)(i:Nat):∃G' F',Ok K R (L2.rH i ρ) σ G' H F'/\aF K G H F G' H F':=by
 unfold L2.rH
 split
 case h_2=>exact⟨G,F,e,.refl⟩
 rename_i ts k
 have z:=e.sl i
 rw[k]at z
 obtain⟨a,xs,bs,h1,h2,nd,h3,h4,d⟩:=z
 have Q6:∀b∈bs,b∈F i:=λb hb=>by rw[h2]; exact List.mem_cons_of_mem _ hb
 have nda:=(List.nodup_cons.mp (h2▸nd)).1
 let G':Hp:=λb=>if b∈bs then H b else G b
 have m:Same G G':=λb o q=>by
  show(if b∈bs then H b else G b)=_
  split
  .exact e.sub b o q
  .exact q
 have sp:∀b,G' b≠none->G b≠none\/b∈bs:=λb q=>by
  by_cases z:b∈bs
  .exact .inr z
  .rw[show G' b=G b from if_neg z]at q; exact .inl q
 refine⟨G',fH F i [a],e.one i [a] (by rw[List.length_set,e.len]) (λj n=>⟨ig n,rfl⟩) m (λb o q=>?_) e.tb (λb q=>(sp b q).imp id λz=>⟨λj n y=>n (e.di j i b y (Q6 b z)),?_,h3 b (by rw[h2]; exact List.mem_cons_of_mem _ z)⟩) (λ_ _ _ _ _ h=>h) (λb h=>(e.rg b h).2) (λb h=>?_) ?_,m,λ_ _ h _ _=>h,λb q=>(sp b q).imp id λz=>.inr ⟨i,Q6 b z⟩,λb z=>?_,λ_ h=>h⟩
 .have q:(if b∈bs then H b else G b)=some o:=q
  split at q
  .exact q
  .exact e.sub b o q
 .obtain⟨ys,hy⟩:=d.lst b z
  exact e.tb.nt hy
 .cases List.mem_singleton.mp h
  refine⟨?_,λj n y=>n (e.di j i a y (by rw[h2]; exact List.mem_cons_self ..))⟩
  rw[show G' a=G a from if_neg nda]
  exact e.hid a ⟨i,by rw[h2]; exact List.mem_cons_self ..⟩
 .rw[fX (List.getElem?_eq_some_iff.mp k).1]
  refine⟨a,xs,h1,rfl,h3 a (by rw[h2]; exact List.mem_cons_self ..),h4,d.reps m λb hb=>if_pos hb⟩
 .rcases lU z with z|⟨j,_,z⟩
  .exact .inr ⟨i,by rw[h2,List.mem_singleton.mp z]; exact List.mem_cons_self ..⟩
  .exact .inr ⟨j,z⟩
noncomputable def sD(i:Nat)(a:VS aB):VS (Gn i aB) where
 ck:=a.ck
 cs:=a.cs
 ok q o h:=(a.ok q o h).imp λD σ H=>bB λR ρ G F e h=>by
  obtain⟨G',F',e',s'⟩:=e.rH i
  exact uD e' s' h
open PySem.W
end L2
end
section
namespace L2
open PySem PySem.Spec PyProof.Rows
section
variable {X:Cx}
noncomputable def Gp:V->List V->Hp->VK->Prop:=λx vs H Q=>∃(l:Addr) (xs:List V) (k:Nat) (y:V),x=.ref l/\vs=[.int (k:Int),y]/\H l=some (.lst xs)/\k<=xs.length/\xs.length<=100000/\Q .non (upd H l (.lst (xs.take k++y::xs.drop k)))
theorem aeV:xg X "list.insert" Gp:=by
 intro pins s σ H x vs v us Q I rx rv h
 obtain⟨l,xs,k,y,rfl,rfl,hH,hk,hz,q⟩:=h
 cases rx
 cases rv with
 |cons r1 rv =>
 cases rv with
 |cons ru rv =>
 cases rv
 obtain⟨t,rfl⟩:=r1
 rename_i u
 obtain⟨z,its,n,r,hl,e⟩:=I.CG hH
 have big:100000+1<=sizeLine:=Nat.le_of_lt (show 100001<sizeLine from by unfold sizeLine; lia)
 have hs1:its.toArray.size<=sizeLine:=by rw[List.size_toArray]; lia
 have hk':(if(k:Int)<0 then((k:Int)+(its.toArray.size:Int)).toNat else min (k:Int).toNat its.toArray.size)=k:=by
  rw[if_neg (by lia),Int.toNat_natCast,List.size_toArray]
  lia
 have h1 : -(2 ^ 63)<=(k:Int):=by lia
 have h2:(k:Int)<2 ^ 63:=by lia
 have hfit:¬(!Builtin.List.listFitsIndex (k:Int))=true:=by rw[fitsIndex_both h1 h2]; exact Bool.false_ne_true
 have hlen:(xs.take k++y::xs.drop k).length<=sizeLine:=by
  rw[List.length_append,List.length_cons,List.length_take,List.length_drop]
  lia
 clear h1 h2 big
 generalize (k:Int)=i at *
 refine call_meets F.slot_list_insert ⟨_,e,rfl⟩ F.entry_list_insert (F.args_list_insert_3 _ _ _)
  (AutoSeq1.list_insert_list_int_val_1 l its.toArray n i t u hfit hs1) ⟨e,?_⟩
 refine⟨.non,_,I.Cy (its':=its.take k++u::its.drop k) hH e ?_ (Vals.append (r.take _) (.cons ru (r.drop _))) hlen,rfl,q⟩
 show(its.toArray.extract 0 (if i<0 then(i+(its.toArray.size:Int)).toNat else min i.toNat its.toArray.size)).push u++its.toArray.extract (if i<0 then(i+(its.toArray.size:Int)).toNat else min i.toNat its.toArray.size)=_
 rw[hk']
 exact PySem.W.kl_ins_eq its k u
end
open PySem.W
noncomputable def iR(kz:Nat->Int × Int)(i j:Nat):Prop:=((kz i).1<(kz j).1\/((kz i).1=(kz j).1/\(kz i).2<(kz j).2))\/(((kz i).1=(kz j).1/\(kz i).2=(kz j).2)/\i<j)
noncomputable instance {kz:Nat->Int × Int}{i j:Nat}:Decidable (iR kz i j):=by unfold iR; infer_instance
noncomputable def iU(kz:Nat->Int × Int)(i:Nat):List Nat->List Nat
 | []=>[i]
 |j::r=>if iR kz i j then i::j::r else j::iU kz i r
noncomputable def Gq(n:Nat)(kz:Nat->Int × Int):List Nat:=(List.range n).foldr (iU kz) []
theorem Gu(kz:Nat->Int × Int)(i:Nat):∀l,(iU kz i l).Perm (i::l)
 | []=>.refl _
 |j::r=>by
  unfold iU
  split
  .exact .refl _
  .exact((Gu kz i r).cons j).trans (.swap i j r)
theorem Q7(kz:Nat->Int × Int)(i:Nat):∀l,(∀j∈l,i≠j)->l.Pairwise (iR kz)->(iU kz i l).Pairwise (iR kz)
 | [],_,_=>by simp[iU]
 |j::r,hn,hp=>by
  have hp':=List.pairwise_cons.mp hp
  unfold iU
  split
  .rename_i b
   refine List.pairwise_cons.mpr ⟨λk hk=>?_,hp⟩
   rcases List.mem_cons.mp hk with rfl|hk
   .exact b
   .have:=hp'.1 k hk
    unfold iR at b this ⊢
    lia
  .rename_i b
   refine List.pairwise_cons.mpr ⟨λk hk=>?_,Q7 kz i r (λk hk=>hn k (List.mem_cons_of_mem _ hk)) hp'.2⟩
   rcases List.mem_cons.mp ((Gu kz i r).mem_iff.mp hk)with rfl|hk
   .have:=hn j (List.mem_cons_self ..)
    unfold iR at b ⊢
    lia
   .exact hp'.1 k hk
theorem Q8(kz:Nat->Int × Int):∀l:List Nat,l.Nodup->(l.foldr (iU kz) []).Perm l/\(l.foldr (iU kz) []).Pairwise (iR kz)
 | [],_=>⟨.refl _,.nil⟩
 |i::r,nd=>by
  have nd':=List.nodup_cons.mp nd
  obtain⟨h1,h2⟩:=Q8 kz r nd'.2
  exact⟨(Gu kz i _).trans (h1.cons i),Q7 kz i _ (λj hj z=>nd'.1 (by rw[z]; exact h1.mem_iff.mp hj)) h2⟩
theorem Q9(n:Nat)(kz:Nat->Int × Int):lN n kz (Gq n kz):=Q8 kz _ List.nodup_range
theorem Ra(as:∀a b,R a b->¬R b a):∀{l m:List Nat},l.Perm m->l.Pairwise R->m.Pairwise R->l=m
 | [],m,p,_,_=>by rw[List.nil_perm.mp p]
 |a::l,[],p,_,_=>by simpa using p.length_eq
 |a::l,b::m,p,h1,h2=>by
  have h1':=List.pairwise_cons.mp h1
  have h2':=List.pairwise_cons.mp h2
  have e:a=b:=by
   rcases List.mem_cons.mp (p.mem_iff.mp (List.mem_cons_self ..))with z|z
   .exact z
   .rcases List.mem_cons.mp (p.mem_iff.mpr (List.mem_cons_self (a:=b)))with y|y
    .exact y.symm
    .exact(as _ _ (h1'.1 b y) (h2'.1 a z)).elim
  subst e
  rw[Ra as p.cons_inv h1'.2 h2'.2]
theorem lN.eq(h:lN n kz ys):ys=Gq n kz:=by
 have g:=Q9 n kz
 refine Ra (R:=iR kz) (λa b h1 h2=>?_) (h.1.trans g.1.symm) h.2 g.2
 unfold iR at h1 h2
 lia
theorem Rb{K:PySem.W.Frag}{H:Hp}:∀ns:List Int,au K H (ns.map V.int) (ns.map Tr.int)
 | []=>.nil
 |n::ns=>.cons (.int n) (Rb ns)
theorem aeW{K:PySem.W.Frag}(h:dK K σ Hs G H F vs [.v (.int n) fr]):vs=[.int n]:=by
 cases h with
 |cons h r =>
  cases r
  cases fr with
  |false=>cases h.1; rfl
  |true=>obtain⟨_,_,_,_,z,_⟩:=h.1; cases z
theorem Rf{K:PySem.W.Frag}{H:Hp}:∀l:List Nat,au K H (l.map λi:Nat=>V.int i) (l.map λi:Nat=>Tr.int i)
 | []=>.nil
 |n::l=>.cons (.int n) (Rf l)
noncomputable def eLR(fa:AF):EF:=λρ=>(fa ρ).bind λp=>match p.1 with
 | [.v (.int n) _]=>if 0<=n/\n<=1000 then .ok (.v (.lst ((List.range n.toNat).map λi:Nat=>Tr.int i)) true,p.2)else .bad
 |_=>.bad
noncomputable def uZ:GM:=λts as=>match as with
 | [.int i,T]=>if 0<=i/\i.toNat<=ts.length/\ts.length<=100000 then .ok (ts.take i.toNat++T::ts.drop i.toNat,.non)else .bad
 |_=>.bad
theorem aeX:EY Gp uZ:=⟨λts as c=>(by unfold uZ; (repeat' split) <;> (intro z; cases z)),λK G a xs ts vs as H Q ts' T hx r ra q h=>by
 unfold uZ at q
 split at q
 case h_2=>cases q
 split at q
 case isFalse=>cases q
 rename_i i U c
 cases q
 cases ra with
 |cons h1 r1 =>
  cases r1 with
  |cons h2 r2 =>
   cases r2
   cases h1
   have l:=r.length
   exact⟨a,xs,i.toNat,_,rfl,by rw[Int.toNat_of_nonneg c.1],hx,by lia,by lia,h _ _ ((r.take _).app (.cons h2 (r.drop _))) .non⟩⟩
noncomputable abbrev RF:=List (Option Tr)->Rs Tr
noncomputable def Tq(K:PySem.W.Frag)(f:RF):TE:=λσ H Q=>∃G ts T,Same G H/\(∀(i:Nat) U,ts[i]?=some (some U)->∃v,σ[i]?=some (some v)/\Rp K G H v U)/\f ts=.ok T/\∀v G' H',Same G G'->Same H H'->Same G' H'->Rp K G' H' v T->Q v H'
theorem Rp.up{K:PySem.W.Frag}(h:Rp K G H v T)(m:Same G G')(s:Same H H'):Rp K G' H' v T:=by
 rcases h with h|⟨a,xs,ts,e1,e2,e,r⟩
 .exact .inl (h.mono m)
 .exact .inr ⟨a,xs,ts,e1,e2,s _ _ e,r.mono m⟩
theorem VN.rp{K:PySem.W.Frag}(h:VN K Hs G H v T fr):Rp K G H v T:=by
 cases fr with
 |false=>exact .inl h
 |true=>obtain⟨a,xs,ts,e1,e2,_,_,e,r⟩:=h; exact .inr ⟨a,xs,ts,e1,e2,e,r⟩
structure VL(f:RF) where
 ck:Gx->Expr->Bool
 ok:∀{Γ X e},X.N = Γ.N->X.env.scope = Γ.sc->ck Γ e=true->PE X e (Tq (aA X.K) f)
noncomputable def zY(i:Nat):RF:=λts=>match ts[i]? with
 |some (some U)=>.ok U
 |_=>.bad
noncomputable def Rg(i:Nat):VL (zY i) where
 ck Γ e:=atName e λx _=>g8 Γ i x
 ok hN hs h:=by
  walk_at "O"
  simp only[g8,an]at h
  obtain⟨⟨⟨h1,h2⟩,h3⟩,h4⟩:=h
  refine(KN (i:=i) (by rw[hN]; exact eq_of_beq h1) (by rw[hs]; unfold wj; simpa[or_assoc]using h2) (by simpa using h3) (by simpa using h4)).imp λσ H Q ⟨G,ts,T,s,en,e,k⟩=>?_
  unfold zY at e
  split at e <;> cases e
  obtain⟨v,q1,q2⟩:=en i _ ‹_›
  exact⟨v,q1,k v G H (Same.refl _) (Same.refl _) s q2⟩
noncomputable def Rh(g:G2)(fa fb:RF):RF:=λts=>(fa ts).bind λa=>(fb ts).bind λb=>(g a b).bind λz=>.ok z.1
noncomputable def lIx(a:VL aB)(b:VL bN):VL (Rh aY aB bN) where
 ck Γ e:=jV e λx y _=>qR y&&a.ck Γ x&&b.ck Γ y
 ok hN hs h:=by
  walk_at "O"
  simp only[an]at h
  refine(wZ w6 (a.ok hN hs h.1.2) (b.ok hN hs h.2) (yV h.1.1)).imp λσ H Q ⟨G,ts,T,s,en,e,k⟩=>?_
  obtain⟨a,e1,e⟩:=dX e
  obtain⟨b,e2,e⟩:=dX e
  obtain⟨z,e3,e⟩:=dX e
  cases e
  refine⟨G,ts,a,s,en,e1,λx G1 H1 m1 n1 s1 rx=>⟨G1,ts,b,s1,λi U q=>?_,e2,λy G2 H2 m2 n2 s2 ry=>N7.ok G2 H2 x y a b Q s2 (rx.up m2 n2) ry (by rw[e3]; exact λv G' H' w vn=>k v G' H' (m1.trans (m2.trans w.gw.gg)) (n1.trans (n2.trans w.sm)) w.gw.sub vn.rp)⟩⟩
  obtain⟨v,q1,q2⟩:=en i U q
  exact⟨v,q1,q2.up m1 n1⟩
noncomputable def Ri(g:G1)(fa:RF):RF:=λts=>(fa ts).bind λa=>(g a).bind λz=>.ok z.1
noncomputable def aeY(a:VL aB):VL (Ri ql aB) where
 ck Γ e:=pC e λaK x _=>jk aK .USub (a.ck Γ x)
 ok hN hs h:=by
  walk_at "O"
  refine(Cd Cg (a.ok hN hs h)).imp λσ H Q ⟨G,ts,T,s,en,e,k⟩=>?_
  obtain⟨a,e1,e⟩:=dX e
  obtain⟨z,e3,e⟩:=dX e
  cases e
  exact⟨G,ts,a,s,en,e1,λx G1 H1 m1 n1 s1 rx=>N8.ok G1 H1 x a Q s1 rx (by rw[e3]; exact λv G' H' w vn=>k v G' H' (m1.trans w.gw.gg) (n1.trans w.sm) w.gw.sub vn.rp)⟩
noncomputable def oO(ρ : En)(j:Nat):Option Tr:=match ρ[j]? with
 |some (.sh T)=>some T
 |some (.ow ts)=>some (.lst ts)
 |some (.rf ts)=>some (.lst ts)
 |_=>none
noncomputable def zZ(src:List (Option Nat))(ρ : En):List (Option Tr):=src.map λo=>o.bind (oO ρ)
noncomputable def rJ(kt:Tr->Option (Int × Int))(fb:RF)(ts:List (Option Tr)):List Nat->Rs (List (Int × Int))
 | []=>.ok []
 |i::r=>(fb (some (Tr.int i)::ts)).bind λT=>match kt T with
  |some k=>(rJ kt fb ts r).bind λks=>.ok (k::ks)
  |none=>.bad
theorem Rj:∀{l:List Nat} {ks:List (Int × Int)},rJ kt fb ts l=.ok ks->ks.length=l.length/\∀(j i:Nat),l[j]?=some i->∃T k,fb (some (Tr.int i)::ts)=.ok T/\kt T=some k/\ks[j]?=some k
 | [],ks,h=>by cases h; exact⟨rfl,λj i z=>by simp at z⟩
 |a::l,ks,h=>by
  unfold rJ at h
  obtain⟨T,e1,h⟩:=dX h
  split at h
  .rename_i k e2
   obtain⟨ks',e3,h⟩:=dX h
   cases h
   obtain⟨h1,h2⟩:=Rj e3
   refine⟨by simp[h1],λj i z=>?_⟩
   cases j with
   |zero=>simp at z; subst z; exact⟨T,k,e1,e2,by simp⟩
   |succ j=>simpa using h2 j i (by simpa using z)
  .cases h
noncomputable def Gv(kt:Tr->Option (Int × Int))(src:List (Option Nat))(fa:AF)(fb:RF):EF:=λρ=>(fa ρ).bind λp=>match p.1 with
 | [.v (.int n) _]=>if 0<=n/\n<64 then(dZ (rJ kt fb (zZ src p.2) (List.range n.toNat))).bind λks=>.ok (.v (.lst ((Gq n.toNat λi=>ks.getD i (0,0)).map λi:Nat=>Tr.int i)) true,p.2)else .bad
 |_=>.bad
theorem yK.gw{K:PySem.W.Frag}{P c:Addr}{x:Str}{G H H':Hp}(sg:Same G H)(gp:G P=none)(tb:bL K H)(hx:x∈eN)(ht:tabIn K x=some (c,P))(hu:∀x'∈eN,∀c',tabIn K x'=some (c',P)->x'=x)(l:yK P (xP x) H H'):Gw K G H G H':=by
 refine⟨Same.refl _,λb o q n=>l.kp b o q λz=>n ?_,λb o q=>l.kp b o (sg b o q) λz=>(by rw[z,gp]at q; cases q),λ_ x' hx' c' b e=>?_,λb h=>.inl h⟩
 .subst z
  exact⟨x,hx,c,ht⟩
 .by_cases z:b=P
  .subst z
   have:=hu x' hx' c' e
   subst this
   exact l.tb
  .obtain⟨ps,q,t1,t2⟩:=tb x' hx' c' b e
   refine⟨ps,l.kp _ _ q z,t1,λpos v k=>?_⟩
   obtain⟨d,o,e1,e2,e3⟩:=t2 pos v k
   refine⟨d,o,e1,l.kp _ _ e2 ?_,e3⟩
   rintro rfl
   obtain⟨qs,y,_⟩:=tb x hx c d ht
   rw[y]at e2
   cases e2
theorem aeZ{K:PySem.W.Frag}(e:Ok K R ρ σ G H F)(h:oO ρ j=some U):∃v,σ[j]?=some (some v)/\Rp K G H v U:=by
 have z:=e.sl j
 unfold oO at h
 split at h <;> rename_i k <;> cases h <;> rw[k]at z
 .obtain⟨_,v,h1,h2⟩:=z
  exact⟨v,h1,.inl h2⟩
 all_goals
  obtain⟨a,xs,h1,_,_,h4,h5⟩:=z
  exact⟨_,h1,.inr ⟨a,xs,_,rfl,rfl,h4,h5⟩⟩
theorem ae0{t:Tx}{Kw:KW}(hq:q=xP x)(hx:x∈eN)(ht:tabIn t.K x=some (c,P))(hu:∀x'∈eN,∀c',tabIn t.K x'=some (c',P)->x'=x)
  (hkt:∀G (H:Hp) v T k,Same G H->Rp t.K G H v T->kt T=some k->Kw H v k) (h:Te t (Gv kt src fa fb) σ H Q):O9 Kw P q src (Ta t fa) (Tq t.K fb) σ H Q:=by
 subst hq
 obtain⟨R,ρ,G,F,e,h⟩:=h
 refine jG e .refl h λp h vs G1 H1 F1 e1 s1 v1=>?_
 obtain⟨rs,ρ1⟩:=p
 dsimp only at h
 split at h
 case h_2=>exact h.elim
 rename_i n fr
 split at h
 case isFalse=>exact h.elim
 obtain⟨ks,k1,h⟩:=lX h
 obtain⟨kl,kg⟩:=Rj k1
 have nn:((n.toNat:Nat):Int)=n:=by lia
 refine⟨n.toNat,λi=>ks.getD i (0,0),by rw[aeW v1,nn],by lia,e1.tb x hx c P ht,λH2 lh=>?_⟩
 obtain⟨e2,s2⟩:=e1.grow (lh.gw e1.sub (e1.tg P ⟨x,hx,c,ht⟩) e1.tb hx ht hu)
 refine⟨λi hi H3 s3=>?_,λD ys H3 s3 nD hs=>?_⟩
 .obtain⟨T,k,f1,f2,f3⟩:=kg i i (List.getElem?_range hi)
  refine⟨G1,_,T,e2.sub.trans s3,λj U z=>?_,f1,λv G4 H4 m4 n4 s4 r4=>⟨hkt G4 H4 v T _ s4 r4 ?_,n4⟩⟩
  .cases j with
   |zero=>simp at z; subst z; exact⟨.int i,by simp,.inl (.int i)⟩
   |succ j =>
    have z:(zZ src ρ1)[j]?=some (some U):=z
    unfold zZ at z
    rw[List.getElem?_map]at z
    obtain⟨o,eq,z⟩:=Option.map_eq_some_iff.mp z
    obtain⟨l,rfl,z⟩:=Option.bind_eq_some_iff.mp z
    obtain⟨v,h1,h2⟩:=aeZ e2 z
    refine⟨v,?_,h2.up (Same.refl _) s3⟩
    show(cX src σ)[j]?=some (some v)
    rw[Ge eq,h1]
    rfl
  .rw[f2]
   show some k=some (ks.getD i (0,0))
   rw[List.getD_eq_getElem?_getD,f3]
   rfl
 .obtain⟨e3,s4⟩:=e2.grow (G':=G1) (H':=H3) ⟨Same.refl _,λb o q _=>s3 b o q,e2.sub.trans s3,λt=>t.fr λb o _ q=>s3 b o q,λb h=>.inl h⟩
  rw[hs.eq]
  exact e3.fin ((s1.trans s2).trans s4) (.flt e3.sub nD) (.flt e3.sub nD (Rf _)) h
structure Kt(kt:Tr->Option (Int × Int)) where
 w:PySem.W.Frag->KW
 d:SortKind
 T:∀X:Cx,nj X (λH u k=>∃v,RelV v u/\w X.K H v k) d
 m:∀K {H H':Hp} {v k},Same H H'->w K H v k->w K H' v k
 i:∀{X:Cx} {pins:List (Addr × Obj)} {σ : St} {H:Hp} {s:Shared},Inv X pins σ H s->∀u k k',(∃v,RelV v u/\w X.K H v k)->(∃v,RelV v u/\w X.K H v k')->k=k'
 r:∀K G (H:Hp) v T k,Same G H->Rp (aA K) G H v T->kt T=some k->w K H v k
noncomputable def Gy:Tr->Option (Int × Int)
 |.int i=>some (i,0)
 |_=>none
noncomputable def kyI:Kt Gy:=⟨λ_=>yL,_,λ_=>ad0,λ_ _ _ _ _ _ h=>h,ad1,λK G H v T k s r e=>by
 unfold Gy at e
 split at e <;> cases e
 exact⟨r.int,rfl⟩⟩
theorem ae1{fc:List (Str × Addr)}:bindArgs (kla_fn "<lambda>" q ⟨[],[⟨x,ann,p⟩],none,[],[],none,[]⟩ body scope fc pm cd ctv) ⟨[u],[]⟩=pure [(x,u)]:=by
 simp[bindArgs,seqItems?]
 rfl
noncomputable def Gz(e:Expr)(k:Str->Expr->Bool):Bool:=fW e λfC jK uJ _=>atName fC λr _=>aP jK λa uK=>aW uK (aW uJ (k r a))
theorem ae2(h:Gz e k=true):∃r a p q,e=.Call (.Name r p) [a] [] q/\k r a=true:=by
 unfold Gz at h
 walk_at "O"
 exact⟨_,_,_,_,rfl,h⟩
noncomputable def GC(l:List Keyword)(k:Str->Expr->Bool):Bool:=aP l λFi Fj=>yt Fi λFo v _=>m9 Fo λn=>aW Fj (k n v)
theorem ae3(h:GC l k=true):∃n v p,l=[⟨some n,v,p⟩]/\k n v=true:=by
 unfold GC at h
 walk_at "O"
 exact⟨_,_,_,rfl,h⟩
noncomputable def GD(e:Expr)(k:Str->Expr->Scope->Bool):Bool:=yh e λae4 body sc _=>yw ae4 λae5 ae6 ae7 ae8 ae9 afa afb=>aW ae5 (aP ae6 λafc afd=>yu afc λz _ _=>aW afd (pG ae7 (aW ae8 (aW ae9 (pG afa (aW afb (k z body sc)))))))
theorem afe(h:GD e k=true):∃z body sc t p q,e=.Lambda ⟨[],[⟨z,t,p⟩],none,[],[],none,[]⟩ body sc q/\k z body sc=true:=by
 unfold GD at h
 walk_at "O"
 exact⟨_,_,_,_,_,_,rfl,h⟩
noncomputable def vSK(kt:Kt afg)(y:Str)(x:Str)(Ns:List Str)(src:List (Option Nat))(as:VA jm)(b:VL bN):VE (Gv afg src jm bN) where
 ck Γ e:=fW e λaK bw bD _=>atName aK λf _=>aP bw λbO dw=>aW dw (Gz bO λr a=>GC bD λk v=>GD v λz body sc=>f == ("sorted" : Str)&&r == ("range" : Str)&&k == ("key" : Str)&&z == x&&jZ Γ f&&jZ Γ r&&Γ.B.contains f&&Γ.B.contains r&&Γ.L.contains y&&as.ck Γ [a]&&nO Γ (x::Ns) (none::src) sc []&&decide (∀y∈sc.names,y.2 ≠ .cell)&&decide (sc.names.lookup x=some .local) && !sc.isCoroutine && !sc.isGenerator&&b.ck ⟨x::Ns,sc,Γ.fn,[],[],true,0,[]⟩ body)
 cs:=as.cs
 ok:=@λcl E Γ X e q o h=>by
  walk_at "O"
  replace h:=ae2 h
  obtain⟨r,a,_,_,rfl,h⟩:=h
  replace h:=ae3 h
  obtain⟨k,_,_,rfl,h⟩:=h
  replace h:=afe h
  obtain⟨z,body,sc,_,_,_,rfl,h⟩:=h
  simp only[an]at h
  obtain⟨⟨⟨⟨⟨⟨⟨⟨⟨⟨⟨⟨⟨⟨⟨h1,h2⟩,h3⟩,h4⟩,h5⟩,h6⟩,h7⟩,h8⟩,h9⟩,h10⟩,h11⟩,h12⟩,h13⟩,h14⟩,h15⟩,h16⟩:=h
  cases eq_of_beq h1
  cases eq_of_beq h2
  cases eq_of_beq h3
  cases eq_of_beq h4
  obtain⟨S,nd,_,_⟩:=rF h11
  obtain⟨pa,_,na⟩:=as.ok q o h10
  obtain⟨c,P,L,hc,hq⟩:=o.lm y (by simpa using h9)
  have pb:=λA f cd s H=>b.ok (X:=yH X A (x::Ns) (X.env.qual++("<lambda>" : Str)) _ f cd s H) (Γ := ⟨x::Ns,_,Γ.fn,[],[],true,0,[]⟩) rfl rfl h16
  exact(adZ (te:=Tq (aA X.K) bN) (kt.T X) (kt.m X.K) kt.i o.r (o.B _ (by simpa using h7)) (o.B _ (by simpa using h8)) o.s o.N ⟨S,of_decide_eq_true h12,of_decide_eq_true h13,by simpa using h14,by simpa using h15⟩ hc L.hd L.bm rfl pa (λ_ _ _ _=>ae1) pb (dN o h5).1 (dN o h6).1 (na _ (List.mem_cons_self ..))).imp λσ H Q=>ae0 (c:=c) hq L.nm L.tab L.un (kt.r X.K)
end L2
end
section
namespace L2
open PySem PySem.Spec PyProof.Rows
noncomputable abbrev QF:=En->Rs Tr
noncomputable def z6(i:Nat):QF:=λρ=>match ρ[i]? with
 |some (.sh T)=>.ok T
 |_=>.bad
noncomputable def nQ(ts:List Tr)(k:Tr):Rs (Nat × Tr):=match k with
 | .int i=>(match eH ts.length i with
  | some j=>(match ts[j]? with
   |some u=>.ok (j,u)
   |none=>.bad)
  |none=>.bad)
 |_=>.bad
theorem Rk(h:nQ ts k=.ok (j,u)):∃i,k=.int i/\eH ts.length i=some j/\ts[j]?=some u:=by
 unfold nQ at h
 (repeat' split at h) <;> cases h
 exact⟨_,rfl,‹_›,‹_›⟩
theorem Rm(ts:List Tr)(k:Tr)(c:Str):nQ ts k ≠ .ex c:=by unfold nQ; (repeat' split) <;> (intro z; cases z)
noncomputable def dW(ρ : En)(i:Nat):Rs (List Tr):=match ρ[i]? with
 |some (.dp ts)=>.ok ts
 |_=>.bad
theorem z7(ρ : En)(i:Nat)(c:Str):dW ρ i ≠ .ex c:=by
 unfold dW
 split <;> (intro z; cases z)
section
variable {K:PySem.W.Frag}{R:Addr->Prop}{ρ : En}{σ : St}{G H:Hp}{F:Fp}
theorem DR.set:∀{ts:List Tr} {xs:List V} {bs:List Addr} (m:Nat) {v:V} {T:Tr},DR K G H xs ts bs->bK T=true->(∀U,ts[m]?=some U->bK U=true)->Rep K G v T->DR K G H (xs.set m v) (ts.set m T) bs
 | [],_,_,_,_,_,d,_,_,_=>by cases d; exact .nil
 |t::ts,_,_,m,v,T,d,n,u,r=>by
  obtain⟨w,ys,c,b,rfl,rfl,d1,d2⟩:=d.split
  cases m with
  |zero =>
   have:=d1.nil_of (by show(bK t&&true)=true; rw[u t rfl]; rfl)
   subst this
   exact .cl n r d2
  |succ m=>exact d1.app (DR.set m d2 n (λU h=>u U (by simpa using h)) r)
theorem Ok.putD(e:Ok K R ρ σ G H F)(q:dW ρ i=.ok ts)(hm:ts[m]?=some U):∃a xs v cs,σ[i]?=some (some (.ref a))/\H a=some (.lst xs)/\xs.length=ts.length/\xs[m]?=some v/\a∉cs/\cs.Nodup/\DR K G H [v] [U] cs/\∀b ys ys' U',H b=some (.lst ys)->b∈cs->DR K G (upd H b (.lst ys')) [v] [U'] cs->Ok K R (ρ.set i (.dp (ts.set m U'))) σ G (upd H b (.lst ys')) F/\aF K G H F G (upd H b (.lst ys')) F:=by
 unfold dW at q
 split at q <;> cases q
 rename_i k
 have z:=e.sl i
 rw[k]at z
 obtain⟨a,xs,bs,h1,h2,nd,h3,h4,d⟩:=z
 obtain⟨n1,n2⟩:=List.nodup_cons.mp (h2▸nd)
 obtain⟨v,cs,g1,g2,g3,g4,g5⟩:=d.at n2 hm
 refine⟨a,xs,v,cs,h1,h4,d.length,g1,λz=>n1 (g4 a z),g3,g2,λb ys ys' U' hb bc q=>?_⟩
 have fb:Fn F b:=⟨i,by rw[h2]; exact List.mem_cons_of_mem _ (g4 b bc)⟩
 have nab:a≠b:=λz=>n1 (z▸g4 b bc)
 have gb:=e.hid b fb
 refine⟨?_,Same.refl _,λc o h n t=>by rw[aM (show c≠b from λz=>n (z▸fb))]; exact h,λ_ h=>.inl h,λ_ h=>.inr h,λc h=>?_⟩
 .have eF:fH F i (F i)=F:=by funext j; unfold fH; split <;> first|rfl|rw[‹j=i›]
  refine eF▸e.one i (F i) (by rw[List.length_set,e.len]) (λj n=>⟨ig n,rfl⟩) (Same.refl _) (λc o h=>?_) (e.tb.upd hb) (λc h=>.inl h) (λj n c hc o h=>?_) (λc h z=>?_) (λc h=>⟨e.hid c ⟨i,h⟩,λj n z=>n (e.di j i c z h)⟩) ?_
  .rw[aM λz=>by rw[z,gb]at h; cases h]; exact e.sub c o h
  .rw[aM λz=>n (e.di j i c hc (by rw[h2,z]; exact List.mem_cons_of_mem _ (g4 b bc)))]; exact h
  .by_cases y:c=b
   .subst y; rw[bW]at z; cases z
   .rw[aM y]at z; exact(e.rg c h).2 z
  .rw[fX (List.getElem?_eq_some_iff.mp k).1]
   exact⟨a,xs,bs,h1,h2,nd,h3,by rw[aM nab]; exact h4,g5 _ _ (λc hc n o h=>by rw[aM (show c≠b from λz=>n (z▸bc))]; exact h) q⟩
 .by_cases y:c=b
  .subst y; rw[bW]at h; cases h
  .rw[aM y]at h; exact h
end
theorem au.set{K:PySem.W.Frag}{H:Hp}{v:V}{T:Tr}(h:Rep K H v T):∀{xs:List V} {ts:List Tr} (j:Nat),au K H xs ts->au K H (xs.set j v) (ts.set j T)
 |_,_,_,.nil=>.nil
 |_,_,0,.cons _ r=>.cons h r
 |_,_,j+1,.cons h1 r=>.cons h1 (au.set h j r)
noncomputable def Rn(i:Nat)(fk fj:QF)(fe:EF):SF:=λρ=>(fe ρ).bind λp=>(qU p.1).bind λT=>(dW p.2 i).bind λts=>(dZ (fk p.2)).bind λk=>(nQ ts k).bind λz=>match z.2 with
 |.lst us=>(dZ (fj p.2)).bind λj=>(nQ us j).bind λy=>if(bK T&&bK y.2)=true then .ok (.nx,p.2.set i (.dp (ts.set z.1 (.lst (us.set y.1 T)))))else .bad
 |_=>.bad
theorem Ro{K:PySem.W.Frag}(e:Ok K R ρ σ G H F)(h:z6 k ρ=.ok (.int z)) : σ[k]?=some (some (.int z)):=by
 unfold z6 at h
 split at h <;> cases h
 have y:=e.sl k
 rw[‹ρ[k]?=_›]at y
 obtain⟨_,v,h1,h2⟩:=y
 cases h2
 exact h1
theorem Rq(h:qR y=true)(v:Value):assign (.Subscript o y p) env v=(do let ov <-holding [v] (eval o env); let iv <-holding [v,ov] (eval y env); standAt p; holding [v,ov,iv] (setItem ov iv v); release [v,ov,iv] []):=by
 cases y <;> first|rfl|cases h
noncomputable def Rr(i k j:Nat)(a:VE aB):VS (Rn i (z6 k) (z6 j) aB) where
 ck Γ e:=lJ e λaK v _=>aP aK λbw bD=>jV bw λbO dw _=>jV bO λfC jK _=>atName fC λx _=>atName jK λy _=>atName dw λz _=>aW bD (g8 Γ i x&&g8 Γ k y&&g8 Γ j z&&nF v&&a.ck Γ v)
 cs:=a.cs
 ok q o h:=by
  walk_at "O"
  simp only[an]at h
  obtain⟨⟨⟨⟨h1,h2⟩,h3⟩,h4⟩,h5⟩:=h
  refine(BK (a.ok q o h5) (Lf (wZ w6 (jY o h1) (jY o h2) (yV rfl)) (jY o h3) set_list (Rq rfl)) (by unfold swapsWithSole; exact rm h4) rfl rfl).imp λD σ H=>bB λR ρ G F e h=>dM e .refl h λp h v G1 H1 F1 e1 s1 v1=>?_
  obtain⟨T,kT,h⟩:=h.okb (Px _)
  obtain⟨G2,e2,s2,_,rv⟩:=e1.ux e s1 v1 kT
  obtain⟨ts,k0,h⟩:=h.okb (z7 _ _)
  obtain⟨kk,g1,h⟩:=lX h
  obtain⟨⟨m,u⟩,k2,h⟩:=h.okb (Rm _ _)
  cases u <;> try exact h.elim
  obtain⟨jj,g2,h⟩:=lX h
  obtain⟨⟨m',u'⟩,k3,hf⟩:=h.okb (Rm _ _)
  obtain⟨z,rfl,h5,h6⟩:=Rk k2
  obtain⟨z',rfl,h7,h8⟩:=Rk k3
  dsimp only at hf
  split at hf
  case isFalse=>exact hf.elim
  rename_i nl
  obtain⟨n1,n2⟩:=an.mp nl
  obtain⟨a,xs,v',cs,q1,q2,q3,q4,_,nd,q5,q7⟩:=e2.putD k0 h6
  cases q5 with
  |cl n _ _=>unfold bK at n; cases n
  | @rw b ys _ cs _ _ bs hb dq r0 =>
  cases r0
  have nb:=(List.nodup_cons.mp nd).1
  rw[List.append_nil]at nb
  obtain⟨e3,s3⟩:=q7 b ys (ys.set m' v) (.lst (_root_.List.set _ m' T)) hb (List.mem_cons_self ..) (.rw bW ((dq.set m' n1 (λU h=>by rw[h8]at h; cases h; exact n2) rv).mono (Same.refl _) λc hc o h=>(by rw[aM (show c≠b from λz=>nb (z▸hc))]; exact h)) .nil)
  refine⟨_,q1,_,Ro e2 g1,.inl ⟨a,xs,z,.ref b,rfl,rfl,aG.of q2,?_,_,Ro e2 g2,b,ys,z',m',rfl,rfl,hb,by rw[dq.length]; exact h7,hf σ G2 _ F1 e3 (s2.trans s3)⟩⟩
  unfold cW
  rw[q3,h5]
  exact q4
noncomputable def Ka:Sl->Sl
 |.sh T=>.sh T
 |.ow ts=>.sh (.lst ts)
 |.dp ts=>.sh (.lst ts)
 |_=>.un
noncomputable def vw(ρ : En):En := ρ.map Ka
noncomputable def GJ(c:BF):BF:=λρ=>(dZ (c (vw ρ))).bind λp=>.ok (p.1,ρ)
theorem Ok.view{K:PySem.W.Frag}(e:Ok K R ρ σ G H F):Ok K (λ_=>False) (vw ρ) σ (wL G H) H (λ_=>[]):=by
 have m:Same G (wL G H):=λ_ _=>qY
 have ls:∀{b xs},Fn F b->H b=some (.lst xs)->wL G H b=some (.lst xs):=λf h=>Qf h (e.hid _ f)
 refine⟨by rw[vw,List.length_map,e.len],λb o q=>(pO q).elim (e.sub b o) λq=>q.2.1,e.tb,λb t=>?_,λb ⟨_,z⟩=>(by cases z),λb z=>z.elim,λi j b z=>(by cases z),λi=>?_⟩
 .cases q:wL G H b with
  |none=>rfl
  |some o =>
   rcases pO q with q|⟨_,q,xs,rfl⟩
   .rw[e.tg b t]at q; cases q
   .exact(e.tb.nt q t).elim
 .have z:=e.sl i
  unfold vw
  rw[List.getElem?_map]
  cases k : ρ[i]? with
  |none=>rfl
  |some s =>
   rw[k]at z
   cases s with
   |un=>rfl
   |rf _=>rfl
   |sh T=>obtain⟨_,u,h1,h2⟩:=z; exact⟨rfl,u,h1,h2.mono m⟩
   |ow ts =>
    obtain⟨a,xs,h1,h2,_,h4,h5⟩:=z
    exact⟨rfl,_,h1,.lst (aG.of (ls ⟨i,by rw[h2]; exact List.mem_singleton.mpr rfl⟩ h4)) (h5.mono m)⟩
   |dp ts =>
    obtain⟨a,xs,bs,h1,h2,_,_,h4,d⟩:=z
    refine⟨rfl,_,h1,.lst (aG.of (ls ⟨i,by rw[h2]; exact List.mem_cons_self ..⟩ h4)) (d.reps m λb hb=>?_)⟩
    obtain⟨ys,hy⟩:=d.lst b hb
    rw[hy]
    exact ls ⟨i,by rw[h2]; exact List.mem_cons_of_mem _ hb⟩ hy
noncomputable def z8(a:VT aB):VT (GJ aB) where
 ck:=a.ck
 cs:=a.cs
 ok q o h:=(a.ok q o h).imp λσ H Q=>bB λR ρ G F e h=>by
  obtain⟨p,k,h⟩:=lX h
  refine⟨_,_,_,_,e.view,?_⟩
  rw[k]
  intro G' H' F' e' s'
  obtain⟨e2,s2⟩:=e.grow (G':=G) (H':=H') ⟨Same.refl _,λb o q t=>s'.fr b o q (λ⟨_,z⟩=>by cases z) t,λb o q=>s'.fr b o (e.sub b o q) (λ⟨_,z⟩=>by cases z) λt=>(by rw[e.tg b t]at q; cases q),λ_=>e'.tb,λb h=>.inl h⟩
  exact h G H' F e2 s2
noncomputable def afh(i:Nat)(f:EF):SF:=λρ=>(f ρ).bind λp=>match p.1 with
 |.v (.lst ts) true=>.ok (.nx,p.2.set i (.ow ts))
 |.v T _=>.ok (.nx,p.2.set i (.sh T))
 |_=>.bad
noncomputable def Rw(i:Nat)(ρ : En):Nat:=match ρ[i]? with
 |some (.sh (.int n))=>n.natAbs+1
 |_=>0
noncomputable def gQ(nl:Nat)(ts:List Tr):En:=ts.map Sl.sh++List.replicate (nl-ts.length) Sl.un
noncomputable def aO(nl:Nat)(b:SF):FP:=λts=>(b (gQ nl ts)).bind λq=>match q.1 with
 |.rt T fr=>.ok (T,fr)
 |.nx=>.ok (.non,false)
 |_=>.bad
theorem Ok.init{K:PySem.W.Frag}{N:List Str}(r:au K G vs ts)(hl:vs.length<=N.length)(s:Same G H)(tb:bL K H)(tg:∀b,Tb K b->G b=none):Ok K (λ_=>False) (gQ N.length ts) (start N vs) G H (λ_=>[]):=by
 have l:=r.length
 refine⟨by unfold gQ start; simp only[List.length_append,List.length_map,List.length_replicate]; lia,s,tb,tg,λb ⟨_,z⟩=>(by cases z),λ_ z=>z.elim,λ_ _ _ z=>(by cases z),λi=>?_⟩
 unfold gQ start
 by_cases h:i<vs.length
 .rw[List.getElem?_append_left (by simpa using h),List.getElem?_append_left (by simp; lia),List.getElem?_map,List.getElem?_map,List.getElem?_eq_getElem h,List.getElem?_eq_getElem (show i<ts.length by lia)]
  obtain⟨x,q1,q2⟩:=r.jh (List.getElem?_eq_getElem (show i<ts.length by lia))
  rw[List.getElem?_eq_getElem h]at q1
  cases q1
  exact⟨rfl,_,rfl,q2⟩
 .rw[List.getElem?_append_right (l₁ := ts.map Sl.sh) (by simp; lia),List.getElem?_replicate]
  split <;> rfl
theorem Rx{K:PySem.W.Frag}{N ps:List Str}{b:SF}(hn:ps.length<=N.length)(h:nq K cl ps.length (aO N.length b) vs H Q E):Ts ⟨aA K,λc H'=>E (.ref (cl c)) none H'⟩ b {nx:=λ_ H'=>Q .non H',rt:=Q } (start N vs) H:=by
 obtain⟨G,as,hl,r,sg,tb,tg,h⟩:=h
 refine⟨_,_,G,_,Ok.init r (by lia) sg tb tg,h.run (aF.refl (G:=G)) λq h=>?_⟩
 obtain⟨fl,ρ'⟩:=q
 have nf:∀{b:Addr},¬Fn (λ_=>[]) b:=λ⟨_,z⟩=>by cases z
 cases fl with
 |nx=>exact λσ' G' H' F' e s=>h .non G' H' ⟨s.gg,λb o q t=>s.fr b o q nf t,e.sub,λ_=>e.tb,λb q=>(s.nw b q).imp id λz=>z.resolve_right nf⟩ .non
 |rt T fr =>
  refine λv G' H' r=>h v G' H' ⟨r.gg,λb o q t=>r.fm.fr b o q nf t,r.sub,λ_=>r.fm.tb,λb q=>(r.nw b q).imp id λz=>z.resolve_right nf⟩ ?_
  have z:=r.vl
  cases fr with
  |false=>exact z
  |true =>
   obtain⟨a,xs,ts,e1,e2,e3,_,e4⟩:=z
   exact⟨a,xs,ts,e1,e2,e3.resolve_right nf,e4⟩
 |bk=>exact h.elim
 |ct=>exact h.elim
noncomputable def Ey.nm:Ey->Str
 |.fn x .. => x
 | .fd x .. => ("*" : Str)++x
 |.gk x _=>x
noncomputable def fG(k:Nat)(N:List Str)(st:Stmt)(B R L:List Str):Gx:=⟨N,bM st,λ_=>true,B,R,false,k,L⟩
noncomputable def u0(N ps:List Str)(st:Stmt):Bool :=
 decide ((bM st).kind=.function) && !(bM st).isCoroutine && !(bM st).isGenerator&&decide N.Nodup&&decide (N.take ps.length=ps)&&decide (∀x∈ps,(bM st).names.lookup x=some .local\/(bM st).names.lookup x=some .cell)&&decide (∀y∈(bM st).names,y.2 ≠ .free)&&decide (ps.length<=N.length)
theorem GK{st:Stmt}(h:u0 N ps st=true):oY N ps (bM st)/\ps.length<=N.length:=by
 simp only[u0,an]at h
 obtain⟨⟨⟨⟨⟨⟨⟨h1,h2⟩,h3⟩,h4⟩,h5⟩,h6⟩,h7⟩,h8⟩:=h
 exact⟨⟨of_decide_eq_true h1,by simpa using h2,by simpa using h3,of_decide_eq_true h4,of_decide_eq_true h5,of_decide_eq_true h6,of_decide_eq_true h7⟩,of_decide_eq_true h8⟩
structure Kn(c:Cc)(B R:List Str):Prop where
 B:∀x∈B,c.mg x=none
 R:∀x∈R,OwnCls x (c.cl x) yN "ValueError.__new__" c.mg c.base
 x:lC c.K
noncomputable def clz(mg:Str->Option Value)(x:Str):Addr:=match mg x with
 |some (.ref k)=>k
 |_=>0
theorem Kn.mk'{P:Program}{w:World}{K:PySem.W.Frag}{mg:Str->Option Value}{base:Heap}{B R:List Str}(M:∀x∈B,mg x=none)(O:∀x∈R,∃k,OwnCls x k yN "ValueError.__new__" mg base) (XT:lC K):Kn ⟨P,w,K,mg,base,clz mg⟩ B R:=⟨M,λx m=>by
 obtain⟨k,o⟩:=O x m
 have e:clz mg x=k:=by unfold clz; rw[o.bound]
 subst e
 exact o,XT⟩
noncomputable def z9(x:Str)(st:Stmt)(ps:List Str):Prop:=∀(kV doc pm:Value) (an:Option Addr) (cdv ct:Value) (us:List Value),us.length=ps.length->bindArgs (PySem.W.fnOf x x (jD st) (fQ st) (bM st) .none kV doc pm an cdv ct) ⟨us,[]⟩=pure (ps.zip us)
theorem Ry:∀{ps:List Str} {us:List Value} {n:Str},us.length=ps.length->n∈ps->((ps.zip us).lookup n).isNone=false
 |p::ps,u::us,n,h,m=>by
  rw[List.zip_cons_cons,List.lookup_cons]
  cases e:n == p with
  |true=>rfl
  |false =>
   rcases List.mem_cons.mp m with z|z
   .rw[z]at e; simp at e
   .exact Ry (by simpa using h) z
theorem Rz{α β : Type}{f g : α -> Option β}:∀{l:List α},(∀n∈l,f n=g n)->l.filterMap f=l.filterMap g
 | [],_=>rfl
 |a::l,h=>by rw[List.filterMap_cons,List.filterMap_cons,h a (List.mem_cons_self ..),Rz λn m=>h n (List.mem_cons_of_mem _ m)]
theorem RB:∀{ps:List Str} {us:List Value},ps.Nodup->us.length=ps.length->(ps.filterMap λn=>((ps.zip us).lookup n).map λx=>(n,x))=ps.zip us
 | [],us,_,_=>rfl
 |p::ps,u::us,d,h=>by
  obtain⟨d1,d2⟩:=List.nodup_cons.mp d
  have e:(ps.filterMap λn=>(((p::ps).zip (u::us)).lookup n).map λx=>(n,x))=ps.zip us:=by
   rw[<-RB d2 (by simpa using h)]
   exact Rz λn m=>by rw[List.zip_cons_cons,List.lookup_cons,beq_false_of_ne (show n≠p from λz=>d1 (z▸m))]
  rw[List.filterMap_cons,e]
  simp
noncomputable def u6(ps:List Str)(st:Stmt):Bool:=match jD st with
 |⟨[],as,none,[],[],none,[]⟩=>decide (as.map (·.arg)=ps)
 |_=>false
theorem GP{st:Stmt}(d:ps.Nodup)(h:u6 ps st=true):z9 x st ps:=λkV doc pm an cdv ct us hl=>by
 unfold u6 at h
 split at h
 case h_2=>cases h
 rename_i as e
 have h:=of_decide_eq_true h
 have f:(ps.filter λn=>(List.lookup n (ps.zip us)).isNone)=[]:=List.filter_eq_nil_iff.mpr λn m=>by rw[Ry hl m]; exact Bool.false_ne_true
 simp[bindArgs,PySem.W.fnOf,e,h,seqItems?,hl,List.take_of_length_le,f,RB d hl]
 rfl
noncomputable def Aa(tb:List Ey)(l:List Ey):List Ey:=l.filterMap λy=>tb.find? λz=>z.nm == y.nm
theorem GQ{tb l:List Ey}(h:∀y∈tb,y.jX c)(e:l=Aa tb l):∀y∈l,y.jX c:=λy m=>by
 rw[e]at m
 obtain⟨z,_,q⟩:=List.mem_filterMap.mp m
 exact h y (List.mem_of_find?_eq_some q)
noncomputable def jM(st:Stmt):List Str:=((bM st).names.filter λy=>y.2 == .local || y.2 == .cell).map (·.1)
noncomputable def psz(st:Stmt):List Str:=(jD st).args.map (·.arg)
noncomputable def iV:List Ey->Nat
 |.fn _ _ _ l::r=>max l (iV r)
 |.fd _ _ _ l::r=>max l (iV r)
 |_::r=>iV r
 | []=>0
theorem aU{st:Stmt}{B R:List Str}(T:VB b)(kn:Kn c B R)(h:∀y∈tb,y.jX c)(a:At c.K c.mg x st)(h1:(u0 (jM st) (psz st) st&&u6 (psz st) st&&T.ck (fG (iV T.cs) (jM st) st B R []) (fQ st))=true:=by kernel_rfl)(e:T.cs=Aa tb T.cs:=by kernel_rfl):∀y ∈ .fn x (psz st) (aO (jM st).length b) (iV T.cs+1)::tb,y.jX c:=by
 obtain⟨h1,h2⟩:=an.mp h1
 obtain⟨h1,h3⟩:=an.mp h1
 obtain⟨S,hn⟩:=GK h1
 have hb:z9 x st (psz st):=GP (S.pre▸S.nd.sublist (List.take_sublist ..)) h3
 exact List.forall_mem_cons.mpr ⟨a.Dl S hb (λvs H Q E ⟨_,_,h,_⟩=>h) λf cdv A outer s H vs Q E hr q=>⟨_,T.ok (GQ h e) (⟨rfl,rfl,S.nd,rfl,hr,Dk,kn.B,λx m=>⟨kn.R x m,Dj⟩,kn.x,rfl,(λz=>by cases z),(λ_ z=>nomatch z)⟩:Ox c.cl (fG (iV T.cs) (jM st) st B R []) E (gA (gD c.P c.w) c.P c.w c.K c.mg c.base (jM st) x (bM st) f cdv A outer s H E)) h2,Rx hn q⟩,h⟩
theorem okL{st:Stmt}{B R:List Str}{k P:Addr}(N:List Str)(T:VB b)(kn:Kn c B R)(h:∀y∈tb,y.jX c)(a:ug c.K c.mg x st k)(L:yM c.K c.mg c.base x k P)(h1:(u0 N (psz st) st&&u6 (psz st) st&&T.ck (fG (iV T.cs) N st B R [x]) (fQ st))=true:=by kernel_rfl)(e:T.cs=Aa tb T.cs:=by kernel_rfl):∀y ∈ .fn x (psz st) (aO N.length b) (iV T.cs+1)::tb,y.jX c:=by
 obtain⟨h1,h2⟩:=an.mp h1
 obtain⟨h1,h3⟩:=an.mp h1
 obtain⟨S,hn⟩:=GK h1
 have hb:z9 x st (psz st):=GP (S.pre▸S.nd.sublist (List.take_sublist ..)) h3
 exact List.forall_mem_cons.mpr ⟨a.ad2 S hb (λvs H Q E ⟨_,_,h,_⟩=>h) λf A outer s H vs Q E hr q=>⟨_,T.ok (GQ h e) (⟨rfl,rfl,S.nd,rfl,hr,Dk,kn.B,λx m=>⟨kn.R x m,Dj⟩,kn.x,rfl,(λz=>by cases z),List.forall_mem_cons.mpr ⟨⟨k,P,L,rfl,rfl⟩,(λ_ z=>nomatch z)⟩⟩:Ox c.cl (fG (iV T.cs) N st B R [x]) E (gA (gD c.P c.w) c.P c.w c.K c.mg c.base N x (bM st) f (.ref k) A outer s H E)) h2,Rx hn q⟩,h⟩
theorem fm{tb:List Ey}(x:Str){y:Ey}(h:(tb.find? λz=>z.nm == x)=some y):y∈tb:=List.mem_of_find?_eq_some h
noncomputable def GR:G2:=m6 (λ_ j=>decide (0<=j)) λi j=>i / 2 ^ j.toNat
noncomputable def RD:G2:=gI Builtin.bitAnd
noncomputable abbrev dD{f g:EF}(a:VE f)(b:VE g):=v2 .Add Dw pA (λ_=>ac9) (λ_=>ada) a b
noncomputable abbrev nU{f g:EF}(a:VE f)(b:VE g):=v2 .Sub (λ_=>dH λi j=>.int (i-j)) tO (λ_=>Lr) (λ_=>adl) a b
noncomputable abbrev cJ{f g:EF}(a:VE f)(b:VE g):=v2 .Mult Dy pB (λ_=>adb) (λ_=>adf) a b
noncomputable abbrev fK{f g:EF}(a:VE f)(b:VE g):=v2 .FloorDiv (λ_=>rI xW λi j=>.int (i.fdiv j)) xX (λ_=>ade) (λ_=>adg) a b
noncomputable abbrev d8{f g:EF}(a:VE f)(b:VE g):=v2 .Mod (λ_=>rI (λ_ j=>j≠0) λi j=>.int (i.fmod j)) xY (λ_=>aa8) (λ_=>adh) a b
noncomputable abbrev GX{f g:EF}(a:VE f)(b:VE g):=v2 .Pow (λ_=>rI wW λi j=>.int (i ^ j.toNat)) sy (λ_=>Ls) (λ_=>adk) a b
noncomputable abbrev dg:Cq (jH):=⟨.Eq,CZ,λ_ h=>acw h,λ_=>ac5⟩
noncomputable abbrev fL:Cq (eU):=⟨.NotEq,Ds,λ_ h=>acX h,λ_=>ac6⟩
noncomputable abbrev lY:Cq (qI):=⟨.Lt,DP,λ_ h=>adq h,λ_=>adt⟩
noncomputable abbrev jN:Cq (DK):=⟨.LtE,λ_=>dH λi j=>.bl (decide (i<=j)),λ_ _=>abe,λ_=>ado⟩
noncomputable abbrev rK:Cq (DG):=⟨.Gt,λ_=>dH λi j=>.bl (decide (j<i)),λ_ _=>abf,λ_=>adn⟩
noncomputable abbrev GZ:Cq (DN):=⟨.GtE,λ_=>dH λi j=>.bl (decide (j<=i)),λ_ _=>abg,λ_=>adp⟩
noncomputable abbrev G8:Cq (jJ id):=⟨.In,Dc,λ_ h=>acy h,λ_=>ac7⟩
noncomputable abbrev G9:Cq (jJ not):=⟨.NotIn,Dr,λ_ h=>acW h,λ_=>ac8⟩
noncomputable abbrev nW:Cq (oJ id):=⟨.Is,λ_ x y H Q=>y=.non/\Q (.bl (decide (x=.non))) H,λ_ _=>abh,λ_=>N5 id⟩
noncomputable abbrev afi:Cq (oJ not):=⟨.IsNot,λ_ x y H Q=>y=.non/\Q (.bl (!decide (x=.non))) H,λ_ _=>abj,λ_=>N5 not⟩
noncomputable abbrev afj{f g:EF}(a:VE f)(b:VE g):=v2 .RShift (λ_=>rI (λ_ j=>0<=j) λi j=>.int (i / 2 ^ j.toNat)) GR (λ_=>aa9) (λ_=>xU λ_ _ h=>of_decide_eq_true h) a b
noncomputable abbrev afk{f g:EF}(a:VE f)(b:VE g):=v2 .BitAnd (λ_=>dH λi j=>.int (Builtin.bitAnd i j)) RD (λ_=>abb) (λ_=>NT) a b
theorem bb{x:Str}{i:String}(h:bootBuiltins x=some (.builtin i))(n:x ≠ "__name__"):bootBuiltins x=some (.builtin i)∧x ≠ "__name__" ∧ ((∃j,Value.builtin i=.builtin j)∨∃j,Value.builtin i=.type j):=⟨h,n,.inl ⟨_,rfl⟩⟩
theorem bt{x:Str}{i:String}(h:bootBuiltins x=some (.type i))(n:x ≠ "__name__"):bootBuiltins x=some (.type i)∧x ≠ "__name__" ∧ ((∃j,Value.type i=.builtin j)∨∃j,Value.type i=.type j):=⟨h,n,.inr ⟨_,rfl⟩⟩
noncomputable abbrev aX{f:AF}(a:VA f):=vB "len" (.builtin "len") DQ (g1 fZ) (bb (by decide +kernel) (by decide +kernel)) (λ_=>adu) (λ_=>tQ adv) a
noncomputable abbrev Hf{f:AF}(a:VA f):=vB "abs" (.builtin "abs") (λ_ xs H Q=>∃i,xs=[.int i]/\Q (.int (if i<0 then -i else i)) H) (g1 tR) (bb (by decide +kernel) (by decide +kernel)) (λ_=>abr) (λ_=>tQ adw) a
noncomputable abbrev nY{f:AF}(a:VA f):=vB "all" (.builtin "all") Dd (g1 qJ) (bb (by decide +kernel) (by decide +kernel)) (λo=>acA o.l) (λ_=>tQ adz) a
noncomputable abbrev vInt{f:AF}(a:VA f):=vB "int" (.type "int") (λ_ xs H Q=>(∃i,xs=[.int i]/\Q (.int i) H)\/∃k,xs=[.bl k]/\Q (.int (if k then 1 else 0)) H) (g1 vY) (bt (by decide +kernel) (by decide +kernel)) (λ_=>abt) (λ_=>tQ adx) a
noncomputable abbrev u9{f:AF}(a:VA f):=vB "list" (.type "list") (λK xs H Q=>∃p ys,xs=[.ref p]/\(aG K H p ys\/bx K H p ys)/\∀l,H l=none->Q (.ref l) (upd H l (.lst ys))) (g1 vZ) (bt (by decide +kernel) (by decide +kernel)) (λ_=>acd) (λ_=>tQ ady) a
noncomputable abbrev RG{f:EF}(a:VE f):=yZ "int" .int ⟨by decide +kernel,by decide +kernel⟩ a
noncomputable abbrev RJ{f:EF}(a:VE f):=yZ "bool" .bool ⟨by decide +kernel,by decide +kernel⟩ a
noncomputable abbrev vd{f:EF}(a:VE f):=yZ "tuple" .tuple ⟨by decide +kernel,by decide +kernel⟩ a
noncomputable abbrev nZ{f:EF}(a:VE f):=yZ "list" .list ⟨by decide +kernel,by decide +kernel⟩ a
noncomputable abbrev jt(i:Nat){f:AF}(a:VA f):=vM "append" "list.append" CJ pR ⟨PySem.F.slot_list_append,PySem.F.type_list_append,λ_=>CK⟩ aek i a
noncomputable abbrev RK(i:Nat){f:AF}(a:VA f):=vM "insert" "list.insert" Gp uZ ⟨PySem.F.slot_list_insert,PySem.F.type_list_insert,λ_=>aeV⟩ aeX i a
noncomputable def RL(i:Nat)(fk fe:EF):SF:=λρ=>(fe ρ).bind λp=>(cls [p.1]).bind λTs=>(con p.2 i).bind λ_=>(fk p.2).bind λq=>(dr q.2 q.1).bind λkT=>(xZ kT).bind λk=>(con q.2 i).bind λts=>match Ts,eH ts.length k with
 | [T],some j=>.ok (.nx,cH i (ts.set j T) q.2)
 |_,_=>.bad
noncomputable def sS(i:Nat)(k:VE nH)(a:VE aB):VS (RL i nH aB) where
 ck Γ e:=lJ e λaK v _=>aP aK λbw bD=>jV bw λbO y _=>atName bO λx _=>aW bD (g8 Γ i x&&nF v&&k.ck Γ y&&a.ck Γ v&&qR y)
 cs:=k.cs++a.cs
 ok q o h:=by
  walk_at "O"
  simp only[an]at h
  obtain⟨⟨⟨⟨h1,h2⟩,h3⟩,h4⟩,h5⟩:=h
  refine(BK (a.ok (mr q) o h4) (Lf (jY o h1) (k.ok (ml q) o h3) set_list (Rq h5)) (by unfold swapsWithSole; exact rm h2) rfl rfl).imp λD σ H=>bB λR ρ G F e h=>dM e .refl h λp h v G1 H1 F1 e1 s1 v1=>?_
  obtain⟨Ts,k1,h⟩:=h.okb (qT _)
  obtain⟨us,k2,h⟩:=h.okb (uz _ _)
  obtain⟨G2,e2,s2,_,r⟩:=e1.vis (vs:=[v]) e s1 (.cons v1 .nil) k1
  obtain⟨a,xs,hi,_,_,_⟩:=e2.con k2
  refine⟨_,hi,dM e2 s2 h λq h w G3 H3 F3 e3 s3 v3=>?_⟩
  obtain⟨kT,k3,h⟩:=h.okb (gY _ _)
  obtain⟨k,k4,h⟩:=h.okb (Oj _)
  obtain⟨ts,k5,h⟩:=h.okb (uz _ _)
  obtain⟨a',ys,hi',hf,hy,ry⟩:=e3.con k5
  rw[hi]at hi'
  cases hi'
  split at h
  case h_2=>exact h.elim
  cases r with
  |cons r _ =>
   obtain⟨e4,s4⟩:=e3.put k5 hf (ry.set (r.mono s3.gg) _)
   exact⟨a,ys,k,_,rfl,Ol (gZ e3 v3 k3) k4,hy,by rw[ry.length]; assumption,h σ G3 _ F3 e4 ((s2.trans s3).trans s4)⟩
noncomputable abbrev WF:=En->Rs (Tr × En)
noncomputable abbrev WA:=En->Rs (List Tr × En)
noncomputable def Tw(t:Tx)(f:WF):TE:=λσ H Q=>∃R ρ G F,Ok t.K R ρ σ G H F/\bG t H F (f ρ) λp=>∀v G' H' F' bs,Ok t.K R p.2 σ G' H' F'->aF t.K G H F G' H' F'->Vw t.K R H F G' H' F' [v] [p.1] bs->Q v H'
noncomputable def Twa(t:Tx)(f:WA):TA:=λσ H Q=>∃R ρ G F,Ok t.K R ρ σ G H F/\bG t H F (f ρ) λp=>∀vs G' H' F' bs,Ok t.K R p.2 σ G' H' F'->aF t.K G H F G' H' F'->Vw t.K R H F G' H' F' vs p.1 bs->Q vs H'
noncomputable abbrev VX(f:WF):=Vn λcl E X e=>PE X e (Tw (tx cl E X) f)
noncomputable abbrev Ab(f:WA):=Vn λcl E X e=>PA X e (Twa (tx cl E X) f)/\∀x∈e,notStar x=true
section
variable {t:Tx}{K:PySem.W.Frag}{R:Addr->Prop}{ρ ρ':En}{σ σ':St}{G H G0 H0 G1 H1 G2 H2 G' H' Hs:Hp}{F F0 F1 F2 F' Fs:Fp}{Q:VK}{vs:List V}{Ts:List Tr}{bs cs:List Addr}
theorem Vw.step(tb:bL K H)(s:aF K G H F G' H' F')(h:Vw K R Hs Fs G H F vs Ts bs):Vw K R Hs Fs G' H' F' vs Ts bs:=by
 refine⟨h.nd,λb hb=>?_,h.dr.mono s.gg λb hb o q=>?_⟩ <;> obtain⟨h1,h2,h3,h4⟩:=h.al b hb <;> obtain⟨ys,hy⟩:=h.dr.lst b hb
 .exact⟨h1,(s.flt tb hy h2 h4).2.1,h3,(s.flt tb hy h2 h4).2.2⟩
 .rw[hy]at q
  cases q
  exact(s.flt tb hy h2 h4).1
theorem Vw.back(s:aF K G0 H0 F0 G1 H1 F1)(h:Vw K R H1 F1 G H F vs Ts bs):Vw K R H0 F0 G H F vs Ts bs:=⟨h.nd,λb hb=>⟨(h.al b hb).1.elim (λz=>.inl (s.dm b z)) (s.nf b),(h.al b hb).2⟩,h.dr⟩
theorem Vw.cons(tb:bL K H1)(s0:aF K G0 H0 F0 G1 H1 F1)(s:aF K G1 H1 F1 G2 H2 F2)(h:Vw K R H0 F0 G1 H1 F1 [v] [T] bs)(h':Vw K R H1 F1 G2 H2 F2 vs Ts cs):Vw K R H0 F0 G2 H2 F2 (v::vs) (T::Ts) (bs++cs):=by
 have h2:=h.step tb s
 have h3:=h'.back s0
 refine⟨List.nodup_append.mpr ⟨h.nd,h'.nd,λb hb c hc z=>?_⟩,λb hb=>(List.mem_append.mp hb).elim (h2.al b) (h3.al b),h2.dr.app h3.dr⟩
 subst z
 obtain⟨ys,hy⟩:=h.dr.lst b hb
 rcases(h'.al b hc).1 with z|z
 .rw[hy]at z; cases z
 .exact(h.al b hb).2.1 z
theorem Vw.of(e0:Ok K R ρ σ G H F)(e:Ok K R ρ' σ G' H' F')(s:aF K G H F G' H' F')(v1:eO K σ H G' H' F' v (.v T fr))(n:je (T,fr)=true):∃bs,Vw K R H F G' H' F' [v] [T] bs:=by
 cases fr with
 |false=>exact⟨[],.nil,(λ_ h=>by cases h),.cl (by simpa[je]using n) v1.1 .nil⟩
 |true =>
  obtain⟨⟨a,xs,ts,rfl,rfl,q1,q2,q3,q4⟩,f⟩:=v1
  refine⟨[a],by simp,λb hb=>?_,.rw q3 (.flat q4 (by simpa[je,bK]using n)) .nil⟩
  cases List.mem_singleton.mp hb
  exact⟨.inl q1,f rfl a rfl,e0.rn q1,q2⟩
end
noncomputable def RM(f:EF):WF:=λρ=>(f ρ).bind λp=>match p.1 with
 |.v T fr=>if je (T,fr)=true then .ok (T,p.2)else .bad
 |.s _=>.bad
noncomputable def wE(a:VE aB):VX (RM aB) where
 ck:=a.ck
 cs:=a.cs
 ok q o h:=(a.ok q o h).imp λσ H Q=>bB λR ρ G F e h=>dM e .refl h λp h v G1 H1 F1 e1 s1 v1=>by
  obtain⟨r,ρ1⟩:=p
  cases r with
  |s _=>exact h.elim
  |v T fr =>
   dsimp only at h
   split at h
   case isFalse=>exact h.elim
   obtain⟨bs,z⟩:=Vw.of e e1 s1 v1 ‹_›
   exact h v G1 H1 F1 bs e1 s1 z
theorem Ok.drp{K:PySem.W.Frag}(e:Ok K R ρ σ G H F)(i:Nat):Ok K R (ρ.set i .un) σ G H (fH F i [])/\aF K G H F G H (fH F i []):=by
 refine⟨e.one i [] (by rw[List.length_set,e.len]) (λj n=>⟨ig n,rfl⟩) (Same.refl _) e.sub e.tb (λb h=>.inl h) (λ_ _ _ _ _ h=>h) (λb h=>(e.rg b h).2) (λb h=>by cases h) ?_,.sub λb h=>?_⟩
 .rw[List.getElem?_set_self']
  cases ρ[i]? <;> rfl
 .rcases lU h with h|⟨j,_,h⟩
  .cases h
  .exact⟨j,h⟩
noncomputable def oM(i:Nat):WF:=λρ=>match ρ[i]? with
 |some (.dp ts)=>.ok (.lst ts,ρ.set i .un)
 |some (.ow ts)=>if cY ts=true then .ok (.lst ts,ρ.set i .un)else .bad
 |_=>.bad
noncomputable def wM(i:Nat):VX (oM i) where
 ck Γ e:=atName e λx _=>g8 Γ i x
 cs:=[]
 ok _ o h:=by
  walk_at "o"
  refine(jY o h).imp λσ H Q=>bB λR ρ G F e h=>?_
  have z:=e.sl i
  obtain⟨e1,s1⟩:=e.drp i
  have al:∀b∈F i,(H b=none\/Fn F b)/\¬Fn (fH F i []) b/\G b=none:=λb hb=>⟨.inr ⟨i,hb⟩,λz=>(lU z).elim (λz=>by cases z) λ⟨j,n,z⟩=>n (e.di j i b z hb),e.hid b ⟨i,hb⟩⟩
  unfold oM at h
  split at h <;> rename_i k <;> (try exact h.elim) <;> rw[k]at z
  .obtain⟨a,xs,bs,h1,h2,nd,h3,h4,d⟩:=z
   refine⟨_,h1,h _ G H _ (F i) e1 s1 ⟨h2▸nd,λb hb=>⟨(al b hb).1,(al b hb).2.1,h3 b hb,(al b hb).2.2⟩,?_⟩⟩
   have:=DR.rw h4 d .nil
   rw[List.append_nil]at this
   rw[h2]
   exact this
  .split at h
   case isFalse=>exact h.elim
   obtain⟨a,xs,h1,h2,h3,h4,h5⟩:=z
   refine⟨_,h1,h _ G H _ (F i) e1 s1 ⟨by rw[h2]; simp,λb hb=>⟨(al b hb).1,(al b hb).2.1,?_,(al b hb).2.2⟩,?_⟩⟩
   .rw[h2]at hb
    cases List.mem_singleton.mp hb
    exact h3
   .rw[h2]
    exact .rw h4 (.flat h5 ‹_›) .nil
noncomputable def Kf:WA:=λρ=>.ok ([],ρ)
noncomputable def RN(f:WF)(g:WA):WA:=λρ=>(f ρ).bind λp=>(g p.2).bind λq=>.ok (p.1::q.1,q.2)
noncomputable def afl:Ab Kf where
 ck _ e:=e.isEmpty
 cs:=[]
 ok:=@λ_ _ _ X e _ _ h=>by
  cases e <;> try cases h
  exact⟨sY.imp λσ H Q=>bB λR ρ G F e h=>h [] G H F [] e .refl ⟨.nil,(λ_ h=>by cases h),.nil⟩,λ_ z=>nomatch z⟩
noncomputable def afm(a:VX aB)(r:Ab cV):Ab (RN aB cV) where
 ck Γ e:=aP e λx y=>notStar x&&a.ck Γ x&&r.ck Γ y
 cs:=a.cs++r.cs
 ok q O h:=by
  walk_at "o"
  simp only[an]at h
  obtain⟨pb,nb⟩:=r.ok (mr q) O h.2
  exact⟨(qu (a.ok (ml q) O h.1.2) pb (gC h.1.1)).imp λσ H Q=>bB λR ρ G F e h=>⟨R,ρ,G,F,e,h.run (aF.refl (G:=G)) λp h v G1 H1 F1 bs e1 s1 v1=>⟨R,p.2,G1,F1,e1,h.run s1 λq h vs G2 H2 F2 cs e2 s2 v2=>h (v::vs) G2 H2 F2 (bs++cs) e2 (s1.trans s2) (v1.cons e1.tb s1 s2 v2)⟩⟩,List.forall_mem_cons.mpr ⟨h.1.1,nb⟩⟩
noncomputable def yTu(g:WA):WF:=λρ=>(g ρ).bind λp=>if p.1.length<=1000 then .ok (.tup p.1,p.2)else .bad
noncomputable def yLs(g:WA):WF:=λρ=>(g ρ).bind λp=>if p.1.length<=1000 then .ok (.lst p.1,p.2)else .bad
theorem DR.low{K:PySem.W.Frag}{G G' H:Hp}(m:pN G G'){xs:List V}{ts:List Tr}{bs:List Addr}(h:DR K G H xs ts bs):DR K G' H xs ts bs:=by
 induction h with
 |nil=>exact .nil
 |cl n h _ ih=>exact .cl n (h.flat m n) ih
 |rw h _ _ i1 i2=>exact .rw h i1 i2
 |tp h _ _ i1 i2=>exact .tp (m.jE h) i1 i2
theorem Vw.out{K:PySem.W.Frag}(e:Ok K R ρ σ G H F)(w:Gw K (wL G H) H G' H')(h:Vw K R' H Fs G' H' F' vs Us bs)(nf:∀b,¬Fn Fs b):∃F2,Ok K R ρ σ (wB G H G') H' F2/\aF K G H F (wB G H G') H' F2/\Vw K R H F (wB G H G') H' F2 vs Us bs:=by
 obtain⟨e2,s2⟩:=e.grow (Qg e.sub w)
 refine⟨F,e2,s2,h.nd,λb hb=>?_,h.dr.low (Eu w)⟩
 have n:=(h.al b hb).1.resolve_right (nf b)
 refine⟨.inl n,e.fs n,e.rn n,?_⟩
 unfold wB
 split
 .exact e.sub.free n
 .exact(h.al b hb).2.2.2
noncomputable def rM(f:FP)(fa:AF):WF:=λρ=>(fa ρ).bind λp=>(drs p.2 p.1).bind λas=>(f as).bind λz=>.ok (z.1,p.2)
theorem afn(hn:∀ρ p,fa ρ=.ok p->p.1.length=n)(h:Tw (tx cl E X) (rM f fa) σ H Q):Cm (yP X.K cl n f) [] E (Ta (tx cl E X) fa) σ H Q:=by
 obtain⟨R,ρ,G,F,e,h⟩:=h
 cases ek:fa ρ with
 |bad=>rw[rM,ek]at h; exact h.elim
 |ex c=>exact⟨R,ρ,G,F,e,by rw[rM,ek]at h; rw[ek]; exact h⟩
 |ok p =>
 refine⟨R,ρ,G,F,e,?_⟩
 simp only[rM,ek,Rs.bind]at h
 rw[ek]
 intro vs G1 H1 F1 e1 s1 v1
 obtain⟨as,k1,h⟩:=h.okb (ur _ _)
 show yP X.K cl n f (vs++[]) H1 Q E
 rw[List.append_nil]
 refine⟨wL G1 H1,as,by rw[v1.length,hn ρ p ek],(uw e1 v1 k1).reps e1.sub,λb o q=>(pO q).elim (e1.sub b o) λq=>q.2.1,e1.tb,λb t=>?_,?_⟩
 .cases q:wL G1 H1 b with
  |none=>rfl
  |some o =>
   rcases pO q with q|⟨_,q,xs,rfl⟩
   .rw[e1.tg b t]at q; cases q
   .exact(e1.tb.nt q t).elim
 .cases ef:f as with
  |bad=>rw[ef]at h; exact h.elim
  |ex c=>rw[ef]at h; exact λH' q=>h H' (s1.back q.none)
  |ok z =>
   rw[ef]at h
   refine λv G' H' w ⟨bs,vw⟩=>?_
   obtain⟨F2,e2,s2,v2⟩:=Vw.out e1 w vw λb (z:Fn (λ_=>[]) b)=>z.elim λ_ z=>by cases z
   exact h v _ H' F2 bs e2 (s1.trans s2) (v2.back s1)
noncomputable def Hg(x:Str)(ps:List Str)(f:FP)(l:Nat)(as:VA jm):VX (rM f jm) where
 ck Γ e:=fW e λ_ m _ _=>m.length == ps.length&&decide (l <= Γ.k)&&lR Γ x as e
 cs:=.fd x ps f l::as.cs
 ok q o h:=by
  obtain⟨_,_,_,_,e0,h⟩:=vU h
  subst e0
  simp only[an]at h
  obtain⟨⟨h1,h0⟩,h⟩:=h
  obtain⟨p,a,es,p',e',h2,h3⟩:=pL h
  cases e'
  obtain⟨D,q⟩:=List.forall_mem_cons.mp q
  obtain⟨pa,la,na⟩:=as.ok q o h3
  rw[eq_of_beq h1]at la
  obtain⟨d,fd,d1,d2,d3,d4⟩:=jf.mono D (of_decide_eq_true h0)
  exact(LR d1 o.r (dN o h2).1 d4 d3 d2 .nil o.e pa (dN o h2).2 (gC (na _ (List.mem_cons_self ..))) (nA (λy m=>na y (List.mem_cons_of_mem _ m)) _)).imp λ_ _ _=>afn la
noncomputable def Hh(f:WF):WF:=λρ=>(dZ (f (vw ρ))).bind λp=>.ok (p.1,ρ)
noncomputable def wVw(a:VX aB):VX (Hh aB) where
 ck:=a.ck
 cs:=a.cs
 ok q o h:=(a.ok q o h).imp λσ H Q=>bB λR ρ G F e h=>by
  obtain⟨p,k,h⟩:=lX h
  refine⟨_,_,_,_,e.view,?_⟩
  rw[k]
  intro v G' H' F' bs e' s' v'
  have nf:∀b,¬Fn (λ_=>[]) b:=λb ⟨_,z⟩=>by cases z
  obtain⟨F2,e2,s2,v2⟩:=Vw.out e ⟨s'.gg,λb o q t=>s'.fr b o q (nf b) t,e'.sub,λ_=>e'.tb,λb q=>(s'.nw b q).imp id λz=>z.resolve_right (nf b)⟩ v' nf
  exact h v _ H' F2 bs e2 s2 v2
theorem Vw.rep{K:PySem.W.Frag}(h:Vw K R Hs Fs G H F [v] [T] bs)(n:bK T=true):Rep K G v T:=by
 have d:=h.dr
 cases d.nil_of (by show(bK T&&true)=true; rw[n]; rfl)
 cases d.reps (Same.refl _) (λ_ z=>by cases z)
 assumption
noncomputable def mK(i:Nat)(T:Tr)(ρ : En):Rs En:=match T with
 |.lst ts=>.ok (ρ.set i (.dp ts))
 |T=>if bK T=true then .ok (ρ.set i (.sh T))else .bad
noncomputable def RP(i:Nat)(f:WF):SF:=λρ=>(f ρ).bind λp=>(mK i p.1 p.2).bind λρ'=>.ok (.nx,ρ')
noncomputable def Hi(i:Nat)(a:VX aB):VS (RP i aB) where
 ck Γ e:=lJ e λaK v _=>aP aK λbw bD=>atName bw λx _=>aW bD (uE Γ i x&&nF v&&a.ck Γ v)
 cs:=a.cs
 ok q o h:=by
  walk_at "o"
  simp only[an]at h
  obtain⟨⟨h1,h2⟩,h3⟩:=h
  obtain⟨w1,w2,w3⟩:=zx o h1
  refine(BL o.d w1 w2 (a.ok q o h3) (rm h2) w3).imp λD σ H=>bB λR ρ G F e h=>⟨R,ρ,G,F,e,h.run (aF.refl (G:=G)) λp h v G1 H1 F1 bs e1 s1 v1=>?_⟩
  obtain⟨T,ρ1⟩:=p
  obtain⟨ρ2,k,h⟩:=h.okb (λc=>by dsimp only[mK]; (repeat' split) <;> (intro z; cases z))
  dsimp only[mK]at k
  split at k
  .cases k
   have d:=v1.dr
   rename_i ts
   cases d with
   |cl n _ _=>unfold bK at n; cases n
   | @rw b ys _ cs _ _ bs hb dq r0 =>
   cases r0
   have nd:=v1.nd
   have al:=v1.al
   rw[List.append_nil]at nd al
   obtain⟨F',e',hf⟩:=e1.QZ i nd (λb hb=>⟨(al b hb).2.2.1,(al b hb).2.1,(al b hb).2.2.2⟩) hb dq
   exact h _ G1 H1 F' e' ⟨s1.gg,s1.fr,s1.nw,λb z=>(hf b z).elim (λz=>(al b z).1) (s1.nf b),s1.dm⟩
  .split at k <;> cases k
   obtain⟨F',e',hf⟩:=e1.zf i (v1.rep ‹_›)
   exact h _ G1 H1 F' e' (s1.trans (.sub hf))
noncomputable def RQ(i:Nat)(f:WA):SF:=λρ=>(dW ρ i).bind λ_=>(f ρ).bind λp=>(dW p.2 i).bind λts=>match p.1 with
 | [T]=>if ts.length<=100000 then .ok (.nx,p.2.set i (.dp (ts++[T])))else .bad
 |_=>.bad
theorem Ok.dW{K:PySem.W.Frag}(e:Ok K R ρ σ G H F)(q:L2.dW ρ i=.ok ts):∃a xs bs,σ[i]?=some (some (.ref a))/\ρ[i]?=some (.dp ts)/\F i=a::bs/\(F i).Nodup/\(∀b∈F i,¬R b)/\H a=some (.lst xs)/\DR K G H xs ts bs:=by
 unfold L2.dW at q
 split at q <;> cases q
 have z:=e.sl i
 rw[‹ρ[i]?=_›]at z
 obtain⟨a,xs,bs,z1,z⟩:=z
 exact⟨a,xs,bs,z1,‹_›,z⟩
noncomputable def sWa(i:Nat)(as:Ab jm):VS (RQ i jm) where
 ck Γ e:=qL e λHj _=>fW Hj λaK bw bD q=>qK aK λbO a p=>atName bO λx _=>aP bw λy l=>aW l (aW bD (a == ("append" : Str)&&g8 Γ i x&&p.endLine == q.line&&as.ck Γ [y]))
 cs:=as.cs
 ok q o h:=by
  walk_at "O"
  simp only[an]at h
  obtain⟨⟨⟨h1,h2⟩,h4⟩,h5⟩:=h
  cases eq_of_beq h1
  obtain⟨pa,na⟩:=as.ok q o h5
  refine(Bx (M4 PySem.F.plainAttrs_list PySem.F.slot_list_append PySem.F.type_list_append CK (jY o h2) pa rfl (Qi na (by show 1<30; decide)) h4 (gC (na _ (List.mem_cons_self ..))) (nA (λy m=>na y (List.mem_cons_of_mem _ m)) _)) rfl).imp λD σ H=>bB λR ρ G F e h=>?_
  obtain⟨us,k0,h⟩:=h.okb (z7 _ _)
  obtain⟨a,xs,_,hi,_,_,_,_,hx,_⟩:=e.dW k0
  refine⟨_,hi,.inl ⟨rfl,xs,aG.of hx⟩,R,ρ,G,F,e,h.run (aF.refl (G:=G)) λp h vs G1 H1 F1 cs e1 s1 v1=>?_⟩
  obtain⟨ts,k2,h⟩:=h.okb (z7 _ _)
  obtain⟨Ts,ρ1⟩:=p
  dsimp only at h e1 v1 k2
  cases Ts with
  |nil=>exact h.elim
  |cons T r =>
  cases r with
  |cons _ _=>exact h.elim
  |nil =>
  dsimp only at h
  split at h
  case isFalse=>exact h.elim
  obtain⟨a',ys,bs,hi',kr,f1,nd,nr,hy,d⟩:=e1.dW k2
  rw[hi]at hi'
  cases hi'
  obtain⟨y,zs,_,_,rfl,_,_,d0⟩:=v1.dr.split
  cases d0
  have fa:Fn F1 a:=⟨i,by rw[f1]; exact List.mem_cons_self ..⟩
  have ga:=e1.hid a fa
  have RT:a∉cs:=λz=>(v1.al a z).2.1 fa
  have nab:a∉bs:=(List.nodup_cons.mp (f1▸nd)).1
  have kp:∀b,b≠a->∀o,H1 b=some o->upd H1 a (.lst (ys++[y])) b=some o:=λb n o q=>by rw[aM n]; exact q
  have bF:∀b∈bs,Fn F1 b:=λb hb=>⟨i,by rw[f1]; exact List.mem_cons_of_mem _ hb⟩
  have e2:=e1.one (ρ' := ρ1.set i (.dp (ts++[T]))) (σ' := σ) (H':=upd H1 a (.lst (ys++[y]))) i (a::(bs++cs)) (by rw[List.length_set,e1.len]) (λj n=>⟨ig n,rfl⟩) (Same.refl _) (λb o q=>kp b (λz=>by rw[z,ga]at q; cases q) o (e1.sub b o q)) (e1.tb.upd hy) (λb h=>.inl h) (λj n b hb o q=>kp b (λz=>n (e1.di j i b hb (by rw[f1,z]; exact List.mem_cons_self ..))) o q) (λb h z=>(e1.rg b h).2 (by
   by_cases w:b=a
   .rw[w,bW]at z; cases z
   .rw[aM w]at z; exact z)) (λb hb=>?_) ?_
  .refine⟨a,ys,y,rfl,rfl,hy,Nat.lt_of_le_of_lt (by rw[d.length]; assumption) (by decide),h σ G1 _ _ e2 ⟨s1.gg,λb o q n t=>kp b (λz=>s1.out q n (z▸fa)) o (s1.fr b o q n t),s1.nw,λb z=>?_,λb z=>s1.dm b ?_⟩⟩
   .rcases lU z with z|⟨j,_,z⟩
    .rcases List.mem_cons.mp z with rfl|z
     .exact s1.nf b fa
     .exact(List.mem_append.mp z).elim (λz=>s1.nf b (bF b z)) λz=>(v1.al b z).1
    .exact s1.nf b ⟨j,z⟩
   .by_cases w:b=a
    .rw[w,bW]at z; cases z
    .rw[aM w]at z; exact z
  .rcases List.mem_cons.mp hb with rfl|hb
   .exact⟨ga,λj n z=>n (e1.di j i b z (by rw[f1]; exact List.mem_cons_self ..))⟩
   .rcases List.mem_append.mp hb with hb|hb
    .exact⟨e1.hid b (bF b hb),λj n z=>n (e1.di j i b z (by rw[f1]; exact List.mem_cons_of_mem _ hb))⟩
    .exact⟨(v1.al b hb).2.2.2,λj _ z=>(v1.al b hb).2.1 ⟨j,z⟩⟩
  .rw[fX (List.getElem?_eq_some_iff.mp kr).1]
   refine⟨a,_,bs++cs,hi,rfl,List.nodup_cons.mpr ⟨λz=>(List.mem_append.mp z).elim nab RT,List.nodup_append.mpr ⟨(List.nodup_cons.mp (f1▸nd)).2,v1.nd,λb hb c hc z=>(v1.al c hc).2.1 (z▸bF b hb)⟩⟩,λb hb=>?_,bW,(d.mono (Same.refl _) λb hb o q=>kp b (λz=>nab (z▸hb)) o q).app (v1.dr.mono (Same.refl _) λb hb o q=>kp b (λz=>RT (z▸hb)) o q)⟩
   rcases List.mem_cons.mp hb with rfl|hb
   .exact nr b (by rw[f1]; exact List.mem_cons_self ..)
   .exact(List.mem_append.mp hb).elim (λhb=>nr b (by rw[f1]; exact List.mem_cons_of_mem _ hb)) λhb=>(v1.al b hb).2.2.1
noncomputable def RV(i m:Nat):SF:=λρ=>(dW ρ i).bind λts=>match ts[m]? with
 |some (.lst us)=>if cY us=true then .ok (.nx,ρ.set i (.dp (ts.set m (.lst []))))else .bad
 |_=>.bad
noncomputable def sCl(i m:Nat):VS (RV i m) where
 ck Γ e:=qL e λHj _=>fW Hj λaK bw bD q=>qK aK λbO a p=>jV bO λdw y _=>atName dw λx _=>aW bw (aW bD (a == ("clear" : Str)&&g8 Γ i x&&p.endLine == q.line&&(vC (.int m)).ck Γ y&&qR y))
 cs:=[]
 ok q o h:=by
  walk_at "O"
  simp only[an]at h
  obtain⟨⟨⟨⟨h1,h2⟩,h4⟩,h5⟩,h6⟩:=h
  cases eq_of_beq h1
  dsimp only[vC]at h5
  split at h5 <;> (try cases h5; done) <;> rename_i em <;> cases em
  cases of_decide_eq_true h5
  refine(Bx (acf PySem.F.plainAttrs_list PySem.F.slot_list_clear PySem.F.type_list_clear aci (wZ w6 (jY o h2) wJ (yV h6)) rfl h4) rfl).imp λD σ H=>bB λR ρ G F e h=>?_
  obtain⟨ts,k0,h⟩:=h.okb (z7 _ _)
  split at h
  case h_2=>exact h.elim
  rename_i us hm
  split at h
  case isFalse=>exact h.elim
  obtain⟨a,xs,v,cs,q1,q2,q3,q4,_,nd,q5,q7⟩:=e.putD k0 hm
  cases q5 with
  |cl n _ _=>unfold bK at n; cases n
  | @rw b ys _ cs _ _ bs hb dq r0 =>
  cases r0
  cases dq.nil_of ‹_›
  obtain⟨e3,s3⟩:=q7 b ys [] (.lst []) hb (List.mem_cons_self ..) (.rw bW .nil .nil)
  refine⟨_,q1,.inl ⟨a,xs,m,.ref b,rfl,rfl,aG.of q2,?_,.inl ⟨rfl,ys,aG.of hb⟩,b,ys,rfl,rfl,hb,h σ G _ F e3 s3⟩⟩
  unfold cW eH
  have:=(List.getElem?_eq_some_iff.mp q4).1
  rw[if_pos (by lia),if_pos (by lia)]
  exact q4
noncomputable abbrev DF:=En->Rs Tr
structure rN(K:PySem.W.Frag)(R:Addr->Prop)(G H:Hp)(F:Fp)(G' H':Hp)(v:V)(T:Tr):Prop where
 gg:Same G G'
 fm:Fr K H F H'
 sub:Same G' H'
 nw:∀b,G' b≠none->G b≠none\/H b=none\/Fn F b
 vl:∃bs,bs.Nodup/\(∀b∈bs,(H b=none\/Fn F b)/\G' b=none)/\DR K G' H' [v] [T] bs
noncomputable def Hl(t:Tx)(g:DF):TS:=λD σ H=>∃R ρ G F,Ok t.K R ρ σ G H F/\bG t H F (g ρ) λT=>∀v G' H',rN t.K R G H F G' H' v T->D.rt v H'
theorem rN.back{K:PySem.W.Frag}(s:aF K G0 H0 F0 G H F)(h:rN K R G H F G' H' v T):rN K R G0 H0 F0 G' H' v T:=by
 have ff:∀b,H b=none\/Fn F b->H0 b=none\/Fn F0 b:=λb=>λz=>z.elim (λz=>.inl (s.dm b z)) (s.nf b)
 obtain⟨bs,nd,al,d⟩:=h.vl
 exact⟨s.gg.trans h.gg,s.back h.fm,h.sub,λb z=>(h.nw b z).elim (s.nw b) λz=>.inr (ff b z),bs,nd,λb hb=>⟨ff b (al b hb).1,(al b hb).2⟩,d⟩
noncomputable abbrev VD(g:DF):=Vn λcl E X e=>dj X e (Hl (tx cl E X) g)
noncomputable abbrev Ho{g:DF}(_:VD g):DF:=g
noncomputable def RW(f:WF):DF:=λρ=>(f ρ).bind λp=>.ok p.1
noncomputable def dR(a:VX aB):VD (RW aB) where
 ck Γ e:=aP e λz l=>aW l (tZ z λy _=>m9 y λx=>a.ck Γ x)
 cs:=a.cs
 ok q o h:=by
  walk_at "O"
  exact(Lb (Ld (a.ok q o h))).imp λD σ H=>bB λR ρ G F e h=>⟨R,ρ,G,F,e,h.run (aF.refl (G:=G)) λp h v G1 H1 F1 bs e1 s1 v1=>h v G1 H1 ⟨s1.gg,⟨s1.fr,e1.tb⟩,e1.sub,s1.nw,bs,v1.nd,λb hb=>⟨(v1.al b hb).1,(v1.al b hb).2.2.2⟩,v1.dr⟩⟩
noncomputable def RX(f:SF)(g:DF):DF:=λρ=>(f ρ).bind λp=>match p.1 with
 |.nx=>g p.2
 |.rt T false=>if bK T=true then .ok T else .bad
 |_=>.bad
noncomputable def dC(a:VS aB)(r:VD cV):VD (RX aB cV) where
 ck Γ e:=aP e λx l=>a.ck Γ x&&r.ck Γ l
 cs:=a.cs++r.cs
 ok q O h:=by
  walk_at "o"
  simp only[an]at h
  refine(La (a.ok (ml q) O h.1) (r.ok (mr q) O h.2)).imp λD σ H=>bB λR ρ G F e h=>⟨R,ρ,G,F,e,h.run (aF.refl (G:=G)) λp h=>?_⟩
  obtain⟨fl,ρ1⟩:=p
  cases fl with
  |nx=>exact λσ1 G1 H1 F1 e1 s1=>⟨R,ρ1,G1,F1,e1,h.go s1 λT h v G' H' r=>h v G' H' (r.back s1)⟩
  |bk=>exact h.elim
  |ct=>exact h.elim
  |rt T fr =>
   cases fr with
   |true=>exact h.elim
   |false =>
    dsimp only at h
    split at h
    case isFalse=>exact h.elim
    exact λv G' H' r=>h v G' H' ⟨r.gg,r.fm,r.sub,r.nw,[],.nil,(λ_ z=>by cases z),.cl ‹_› r.vl .nil⟩
noncomputable def lZ(nl:Nat)(g:DF):FP:=λts=>(g (gQ nl ts)).bind λT=>.ok (T,pq T)
section
variable {K:PySem.W.Frag}{G H G' H':Hp}{F:Fp}{N ps:List Str}{g:DF}{Q:VK}{E:XK}
theorem rN.gw{R:Addr->Prop}(r:rN K R G H (λ_=>[]) G' H' v T):Gw K G H G' H':=by
 have nf:∀{b:Addr},¬Fn (λ_=>[]) b:=λ⟨_,z⟩=>by cases z
 exact⟨r.gg,λb o q t=>r.fm.fr b o q nf t,r.sub,λ_=>r.fm.tb,λb q=>(r.nw b q).imp id λz=>z.resolve_right nf⟩
theorem afo(hn:ps.length<=N.length)(h:yP K cl ps.length (lZ N.length g) vs H Q E):Hl ⟨aA K,λc H'=>E (.ref (cl c)) none H'⟩ g {nx:=λ_ H'=>Q .non H',rt:=Q } (start N vs) H:=by
 obtain⟨G,as,hl,r,sg,tb,tg,h⟩:=h
 refine⟨_,_,G,_,Ok.init r (by lia) sg tb tg,h.run (aF.refl (G:=G)) λT h v G' H' r=>?_⟩
 obtain⟨bs,nd,al,d⟩:=r.vl
 exact h v G' H' r.gw ⟨bs,nd,λb hb=>⟨(al b hb).1,(λ⟨_,z⟩=>by cases z),id,(al b hb).2⟩,d⟩
open Classical in
theorem Gw.RZ(s:Same G H)(w:Gw K G H G' H')(cs:List Addr)(n:∀b∈cs,H b=none):∃G2,Gw K G H G2 H'/\Same G' G2/\(∀b∈cs,G2 b=H' b)/\∀b,b∉cs->G2 b=G' b:=by
 have i1:∀b,b∈cs->(if b∈cs then H' b else G' b)=H' b:=λb h=>if_pos h
 have i2:∀b,b∉cs->(if b∈cs then H' b else G' b)=G' b:=λb h=>if_neg h
 have m:Same G' λb=>if b∈cs then H' b else G' b:=λb o q=>by
  by_cases h:b∈cs
  .exact(i1 b h).trans (w.sub b o q)
  .exact(i2 b h).trans q
 refine⟨λb=>if b∈cs then H' b else G' b,⟨w.gg.trans m,w.hh,λb o q=>?_,w.tb,λb q=>?_⟩,m,i1,i2⟩ <;> by_cases h:b∈cs
 .rw[i1 b h]at q; exact q
 .rw[i2 b h]at q; exact w.sub b o q
 .exact .inr (n b h)
 .rw[i2 b h]at q; exact w.nw b q
theorem afp(hn:ps.length<=N.length)(h:nq K cl ps.length (lZ N.length g) vs H Q E):Hl ⟨aA K,λc H'=>E (.ref (cl c)) none H'⟩ g {nx:=λ_ H'=>Q .non H',rt:=Q } (start N vs) H:=by
 obtain⟨G,as,hl,r,sg,tb,tg,h⟩:=h
 refine⟨_,_,G,_,Ok.init r (by lia) sg tb tg,h.run (aF.refl (G:=G)) λT h v G' H' r=>?_⟩
 obtain⟨bs,nd,al,d⟩:=r.vl
 have fr:∀b∈bs,H b=none:=λb hb=>(al b hb).1.resolve_right λ⟨_,z⟩=>by cases z
 cases k:pq T with
 |false =>
  obtain⟨G2,w,m,i1,_⟩:=r.gw.RZ sg bs fr
  rw[k]at h
  refine h v G2 H' w ?_
  cases d.reps m i1
  assumption
 |true =>
  rw[k]at h
  unfold pq at k
  split at k <;> cases k
  cases d with
  |cl n _ _=>unfold bK at n; cases n
  | @rw b ys _ cs _ _ bs hb dq r0 =>
  cases r0
  rw[List.append_nil]at nd al fr
  obtain⟨n1,_⟩:=List.nodup_cons.mp nd
  obtain⟨G2,w,m,i1,i2⟩:=r.gw.RZ sg cs λb hb=>fr b (List.mem_cons_of_mem _ hb)
  exact h _ G2 H' w ⟨b,ys,_,rfl,rfl,fr b (List.mem_cons_self ..),(i2 b n1).trans (al b (List.mem_cons_self ..)).2,hb,dq.reps m i1⟩
end
theorem Hq{st:Stmt}{B R:List Str}(T:VD g)(kn:Kn c B R)(h:∀y∈tb,y.jX c)(a:At c.K c.mg x st)(h1:(u0 (jM st) (psz st) st&&u6 (psz st) st&&T.ck (fG (iV T.cs) (jM st) st B R []) (fQ st))=true:=by kernel_rfl)(e:T.cs=Aa tb T.cs:=by kernel_rfl):∀y ∈ .fd x (psz st) (lZ (jM st).length g) (iV T.cs+1) :: .fn x (psz st) (lZ (jM st).length g) (iV T.cs+1)::tb,y.jX c:=by
 obtain⟨h1,h2⟩:=an.mp h1
 obtain⟨h1,h3⟩:=an.mp h1
 obtain⟨S,hn⟩:=GK h1
 have hb:z9 x st (psz st):=GP (S.pre▸S.nd.sublist (List.take_sublist ..)) h3
 have ox:=λf cdv A outer s H E hr=>T.ok (GQ h e) (⟨rfl,rfl,S.nd,rfl,hr,Dk,kn.B,λx m=>⟨kn.R x m,Dj⟩,kn.x,rfl,(λz=>by cases z),(λ_ z=>nomatch z)⟩:Ox c.cl (fG (iV T.cs) (jM st) st B R []) E (gA (gD c.P c.w) c.P c.w c.K c.mg c.base (jM st) x (bM st) f cdv A outer s H E)) h2
 exact List.forall_mem_cons.mpr ⟨a.Dl S hb (λvs H Q E ⟨_,_,h,_⟩=>h) λf cdv A outer s H vs Q E hr q=>⟨_,ox f cdv A outer s H E hr,afo hn q⟩,List.forall_mem_cons.mpr ⟨a.Dl S hb (λvs H Q E ⟨_,_,h,_⟩=>h) λf cdv A outer s H vs Q E hr q=>⟨_,ox f cdv A outer s H E hr,afp hn q⟩,h⟩⟩
noncomputable def Hr(src:List (Option Nat))(fi:IF)(g:GF)(f:EF):WF:=λρ=>(fi ρ).bind λp=>if p.1.length<=100000 then(dZ (j7 g jc f p.1 (eE src p.2))).bind λz=>if eG src z.2 p.2=true then .ok (.lst z.1,bJ src z.2 p.2)else .bad else .bad
theorem afq{t:Tx}{tc:TT}(hc:∀σ H Q,Tt ⟨t.K,λ_ _=>False⟩ jc σ H Q->tc σ H Q)(I:Inj src)(hj:∀k j:Nat,src[k]?=some (some j)->k∉js)(ng:∀T ρ c,gf T ρ ≠ .ex c)(h:Tw t (Hr src fi gf f) σ H Q):pZ (Ti t fi) (lV t.K gf js) src tc (Te ⟨t.K,λ_ _=>False⟩ f) σ H Q:=by
 obtain⟨R,ρ,G,F,e,h⟩:=h
 refine⟨R,ρ,G,F,e,h.run (aF.refl (G:=G)) λp h J G1 H1 F1 e1 s1 it D hD=>?_⟩
 split at h
 case isFalse=>exact h.elim
 obtain⟨z,kz,h⟩:=lX h
 split at h
 case isFalse=>exact h.elim
 rw[Gj]at kz
 refine zU hc I hj ng ‹_› hD QX e1 (λG' H' m s _=>it G' H' m s) kz ‹_› λG' H' F' xs e' s' d g _ _ ⟨bs,a⟩=>?_
 have dd:=DR.rw d a.dr .nil
 rw[List.append_nil]at dd
 exact h _ G' H' F1 (D::bs) e' (s1.trans s') ⟨List.nodup_cons.mpr ⟨λz=>(a.al D z).2.1 rfl,a.nd⟩,List.forall_mem_cons.mpr ⟨⟨.inl (s1.dm D hD),e1.fs hD,e1.rn hD,g⟩,λb hb=>⟨.inl (s1.dm b (a.al b hb).1),e1.fs (a.al b hb).1,(a.al b hb).2.2.1,(a.al b hb).2.2.2.2⟩⟩,dd⟩
noncomputable def wCo(src:List (Option Nat))(N:List Str)(i:VI lW)(g:VG gK jo)(b:VE bN):VX (Hr src lW gK bN) where
 ck Γ e:=m7 e λx aK sc _=>aP aK λbw bD=>m8 bw λt y bO dw=>aW bO (jk dw 0 (aW bD (i.ck Γ (t,y)&&g.ck (cG Γ N sc) t&&b.ck (cG Γ N sc) x&&nO Γ N src sc jo)))
 cs:=i.cs++(g.cs++b.cs)
 ok:=@λcl E Γ X e q o h=>by
  walk_at "O"
  rename_i x0 sc pos t0 y0
  simp only[an]at h
  obtain⟨⟨⟨h1,h2⟩,h3⟩,h4⟩:=h
  obtain⟨pi,ni⟩:=i.ok (ml q) o h1
  obtain⟨S,nd,I,hj⟩:=rF h4
  have pg:=λC s H ex=>g.ok (X:=bV X N sc C s H ex) (ml (mr q)) (jr o nd) h2
  have pb:=λC s H ex=>b.ok (X:=bV X N sc C s H ex) (mr (mr q)) (jr o nd) h3
  exact(uW o.s o.N S o.l pi (λC s H ex=>(pg C s H ex).1) (λ_ _ _ _=>uT) pb (j6 ni)).imp λσ H Q=>afq (λσ H Q ⟨R,ρ,G,F,e,h⟩=>h G H F e .refl) I hj (pg 0 X.s₀ X.H₀ []).2.1
end L2
end
section
namespace L2
open PySem
section
variable {α β : Type}
theorem bk{r:Rs α}{f : α -> Rs β}{a : α}{s:Rs β}(h:r=.ok a)(k:f a=s):r.bind f=s:=by subst h; exact k
end
section
variable {ρ ρ1 ρ2 ρ3:En}{f g:SF}{fa fb:EF}{aa:AF}{T U:Tr}{b b':Bool}{r:Rs (Fl × En)}{i:Nat}{ps:List Rv}{as ts:List Tr}{z:Tr × Bool}{F:FP}{c d:BF}{x y:Rv}
theorem sq_(h:f ρ=.ok (.nx,ρ1))(k:g ρ1=r):zm f g ρ = r:=bk h k
theorem ex_(h:fa ρ=.ok (x,ρ1)):Ft fa ρ=.ok (.nx,ρ1):=bk h rfl
theorem iF_(h:c ρ=.ok (false,ρ1))(k:g ρ1=r):Fv c f g ρ = r:=bk h ((if_neg Bool.false_ne_true).trans k)
theorem nx_(h:f ρ=.ok q):uL f ρ=.ok q:=by unfold uL; rw[h]; rfl
theorem afr(h:f (gQ n as)=.ok (.nx,ρ1)):aO n f as=.ok (.non,false):=bk h rfl
theorem Ht(h:fa ρ=.ok (x,ρ1))(k:aa ρ1=.ok (ps,ρ2)):j4 fa aa ρ=.ok (x::ps,ρ2):=bk h (bk k rfl)
theorem R0(h:aa ρ=.ok (ps,ρ1))(k:drs ρ1 ps=.ok as)(n:ps.any pP=false)(e:F as=.ok z):pQ F aa ρ=.ok (.v z.1 z.2,ρ1):=bk h (bk k (bk e (if_neg λq=>by rw[n]at q; exact Bool.false_ne_true q.1)))
theorem cb_(h:aa ρ=.ok (ps,ρ1))(k:drs ρ1 ps=.ok as)(e:G as=.ok z):qX G aa ρ=.ok (.v z.1 z.2,ρ1):=bk h (bk k (bk e rfl))
theorem tr_(h:fa ρ=.ok (x,ρ1))(k:dr ρ1 x=.ok T)(e:mH T=.ok b):Ef fa ρ=.ok (b,ρ1):=bk h (bk k (bk e rfl))
theorem no_(h:c ρ=.ok (b,ρ1)):yR c ρ=.ok (!b,ρ1):=bk h rfl
theorem ap_(h:fa ρ=.ok (.v T b,ρ1))(n:con ρ i=.ok as)(k:con ρ1 i=.ok ts)(l:ts.length<=100000):zj i pR (j4 fa kh) ρ=.ok (.v .non false,cH i (ts++[T]) ρ1):=bk n (bk (Ht h rfl) (bk rfl (bk k (bk (by unfold pR; exact if_pos l) rfl))))
end
noncomputable def cS(fl:Fl)(g:SF)(ρ : En):Rs (Fl × En):=match fl with
 |.nx=>g ρ
 |fl=>.ok (fl,ρ)
noncomputable def cB{α : Type}(b:Bool)(f g:En->Rs α)(ρ : En):Rs α := if b=true then f ρ else g ρ
noncomputable def W(r:Rs (Fl × En))(Q:Fl->En->Prop):Prop:=∃fl ρ,r=.ok (fl,ρ)/\Q fl ρ
noncomputable def Bq(x:Rv)(ρ : En):Rs (Tr × Bool):=match x with
 |.v T fr=>.ok (T,fr)
 |.s i=>match ρ[i]? with
  |some (.ow ts)=>.ok (.lst ts,true)
  |_=>.bad
noncomputable def Br:Fl->Rs (Tr × Bool)
 |.rt T fr=>.ok (T,fr)
 |.nx=>.ok (.non,false)
 |_=>.bad
section
variable {α : Type}{ρ ρ1 ρ2 ρ3:En}{f g:SF}{fa fb:EF}{aa:AF}{T U V:Tr}{b b':Bool}{r:Rs (Fl × En)}{i j n:Nat}{ps:List Rv}{as ts us:List Tr}{F:FP}{c d:BF}{x y:Rv}{q:Rs (Bool × En)}{s:Rs (Rv × En)}{fl:Fl}{z:Tr × Bool}{u v:En->Rs α}{w:Rs α}{S:Sl}{Q Q0:Fl->En->Prop}{gf:GF}{fi:IF}
theorem Yv(h:W (f ρ) λfl ρ1=>W (cS fl g ρ1) Q):W (zm f g ρ) Q:=by
 obtain⟨fl,ρ1,e,xK,ρ2,e',q⟩:=h
 refine⟨xK,ρ2,bk e ?_,q⟩
 cases fl <;> exact e'
theorem Yw(k:W (g ρ) Q):W (cS .nx g ρ) Q:=k
theorem YW(k:Q (.rt T b) ρ):W (cS (.rt T b) g ρ) Q:=⟨_,_,rfl,k⟩
theorem YX(k:Q .ct ρ):W (cS .ct g ρ) Q:=⟨_,_,rfl,k⟩
theorem YZ(k:Q .nx ρ):W (Qj ρ) Q:=⟨_,_,rfl,k⟩
theorem xT(h:b=true)(k:u ρ = w):cB b u v ρ = w:=(if_pos h).trans k
theorem xF(h:b=false)(k:v ρ = w):cB b u v ρ = w:=(if_neg (by rw[h]; exact Bool.false_ne_true)).trans k
theorem wT(h:b=true)(k:W (f ρ) Q):W (cB b f g ρ) Q:=by unfold cB; rw[if_pos h]; exact k
theorem wF(h:b=false)(k:W (g ρ) Q):W (cB b f g ρ) Q:=by unfold cB; rw[if_neg (by rw[h]; exact Bool.false_ne_true)]; exact k
theorem Y0(h:c ρ=.ok (b,ρ1))(k:W (cB b f g ρ1) Q):W (Fv c f g ρ) Q:=k.elim λfl k=>k.elim λρ2 k=>⟨fl,ρ2,bk h k.1,k.2⟩
theorem Zm(h:c ρ=.ok (b,ρ1))(k:cB b fa fb ρ1=s):uq c fa fb ρ = s:=bk h k
theorem xBA(h:c ρ=.ok (b,ρ1))(k:cB b d (λρ=>.ok (false,ρ)) ρ1=q):Eh c d ρ = q:=bk h k
theorem Y7(h:c ρ=.ok (b,ρ1))(k:cB b (λρ=>.ok (true,ρ)) d ρ1=q):Ei c d ρ = q:=bk h k
theorem xEA(h:gJ fa ρ=.ok (b,ρ1))(k:cB b fb (λρ=>.ok (eB false,ρ)) ρ1=s):Ej fa fb ρ = s:=bk h k
theorem Zn(h:gJ fa ρ=.ok (b,ρ1))(k:cB b (λρ=>.ok (eB true,ρ)) fb ρ1=s):Ek fa fb ρ = s:=bk h k
theorem ZW(h:d ρ=.ok (b',ρ)):cB b (λρ=>.ok (true,ρ)) d ρ=.ok (b || b',ρ):=by cases b <;> first|exact h|rfl
theorem ZX(h:d ρ=.ok (b',ρ)):cB b d (λρ=>.ok (false,ρ)) ρ=.ok (b&&b',ρ):=by cases b <;> first|exact h|rfl
theorem Z0(h:fb ρ=.ok (.v (.bl b') false,ρ)):cB b (λρ=>.ok (eB true,ρ)) fb ρ=.ok (.v (.bl (b || b')) false,ρ):=by cases b <;> first|exact h|rfl
theorem Z1(h:fb ρ=.ok (.v (.bl b') false,ρ)):cB b fb (λρ=>.ok (eB false,ρ)) ρ=.ok (.v (.bl (b&&b')) false,ρ):=by cases b <;> first|exact h|rfl
theorem Zo(h:gJ fa ρ=.ok (b,ρ1)):El fa ρ=.ok (.v (.bl (!b)) false,ρ1):=bk h rfl
theorem Y6(h:c ρ=.ok (b,ρ1)):yR c ρ=.ok (!b,ρ1):=bk h rfl
theorem Y4(h:fa ρ=.ok (x,ρ1))(k:dr ρ1 x=.ok T)(e:qj T=.ok b):gJ fa ρ=.ok (b,ρ1):=bk h (bk k (bk e rfl))
theorem Y5(h:fa ρ=.ok (x,ρ1))(k:dr ρ1 x=.ok T)(e:mH T=.ok b):Ef fa ρ=.ok (b,ρ1):=bk h (bk k (bk e rfl))
theorem Yx(h:fa ρ=.ok (.v T b,ρ1))(e : ρ1.set i (.sh T) = ρ2)(k:Q .nx ρ2):W (uG fa (gN i) ρ) Q:=⟨_,_,e▸bk h rfl,k⟩
theorem ZV(h:fa ρ=.ok (.v T b,ρ1))(k:gf T ρ1=.ok ρ2)(q:Q .nx ρ2):W (uG fa gf ρ) Q:=⟨_,_,bk h (bk k rfl),q⟩
theorem ZQ(e:T=.tup [U,V])(h : ρ.set i (.sh U) = ρ1)(k : ρ1.set j (.sh V) = ρ2):gT 2 (j5 (gN i) (j5 (gN j) uF)) T ρ=.ok ρ2:=by subst e h k; rfl
theorem ZR{k':Nat}{W:Tr}(e:T=.tup [U,V,W])(h : ρ.set i (.sh U) = ρ1)(k : ρ1.set j (.sh V) = ρ2)(l : ρ2.set k' (.sh W) = ρ3):gT 3 (j5 (gN i) (j5 (gN j) (j5 (gN k') uF))) T ρ=.ok ρ3:=by subst e h k l; rfl
theorem ZS(e : ρ.set i (.sh T) = ρ1):gN i T ρ=.ok ρ1:=by subst e; rfl
theorem Zh(h:fa ρ=.ok (.v T true,ρ1))(l:T=.lst ts)(e : ρ1.set i (.ow ts) = ρ2)(k:Q .nx ρ2):W (Qo i fa ρ) Q:=by subst l e; exact⟨_,_,bk h rfl,k⟩
noncomputable def Hu(i:Nat)(T:Tr)(b:Bool)(ρ : En):En:=match b,T with
 |true,.lst ts=>ρ.set i (.ow ts)
 |_,T=>ρ.set i (.sh T)
theorem Zj(l:T=.lst ts)(e : ρ.set i (.ow ts) = ρ1):Hu i T true ρ = ρ1:=by subst l; exact e
theorem Zk(e : ρ.set i (.sh T) = ρ1):Hu i T false ρ = ρ1:=e
theorem Zi(h:fa ρ=.ok (.v T b,ρ1))(e:Hu i T b ρ1 = ρ2)(k:Q .nx ρ2):W (afh i fa ρ) Q:=⟨_,_,bk h (by subst e; cases b <;> cases T <;> rfl),k⟩
theorem Y9(h:fa ρ=.ok (x,ρ1))(k:Q .nx ρ1):W (Ft fa ρ) Q:=⟨_,_,bk h rfl,k⟩
theorem Y8(h:fa ρ=.ok (x,ρ1))(k:Bq x ρ1=.ok (T,b))(q:Q (.rt T b) ρ1):W (Qs fa ρ) Q:=⟨_,_,bk h (by
 cases x with
 |v T fr=>cases k; rfl
 |s i =>
  show(match ρ1[i]? with|some (.ow ts)=>_|_=>_)=_
  unfold Bq at k
  dsimp only at k ⊢
  split at k <;> cases k
  rfl),q⟩
theorem Zu(h:aa ρ=.ok (ps,ρ1))(k:cls ps=.ok [T,U])(e : ρ1.set i (.sh T) = ρ2)(e' : ρ2.set j (.sh U) = ρ3)(q:Q .nx ρ3):W (Qq i j aa ρ) Q:=by subst e e'; exact⟨_,_,bk h (bk k rfl),q⟩
theorem vW(h:fa ρ=.ok (x,ρ1))(k:aa ρ1=.ok (ps,ρ2)):j4 fa aa ρ=.ok (x::ps,ρ2):=bk h (bk k rfl)
theorem rZ{G:G2}(h:fa ρ=.ok (x,ρ1))(k:fb ρ1=.ok (y,ρ2))(u:dr ρ2 x=.ok T)(v:dr ρ2 y=.ok U)(e:G T U=.ok (V,b)):pJ G fa fb ρ=.ok (.v V b,ρ2):=bk h (bk k (bk u (bk v (bk e rfl))))
theorem Zq{G:G1}(h:fa ρ=.ok (x,ρ1))(u:dr ρ1 x=.ok T)(e:G T=.ok (V,b)):Ec G fa ρ=.ok (.v V b,ρ1):=bk h (bk u (bk e rfl))
theorem Zr{G G':G2}{fc:EF}{b1:Bool}(h:fa ρ=.ok (x,ρ1))(k:fb ρ1=.ok (y,ρ2))(u:dr ρ2 x=.ok T)(v:dr ρ2 y=.ok U)(e:G T U=.ok (.bl b,b1))(l:cB b (λρ=>(fc ρ).bind λs=>(dr s.2 y).bind λb=>(dr s.2 s.1).bind λc=>(G' b c).bind λz=>.ok (Rv.v z.1 z.2,s.2)) (λρ=>.ok (eB false,ρ)) ρ2=s):Em G G' fa fb fc ρ = s:=bk h (bk k (bk u (bk v (bk e (bk rfl l)))))
theorem Zt{G':G2}{fc:EF}(h:fc ρ=.ok (x,ρ1))(u:dr ρ1 y=.ok T)(v:dr ρ1 x=.ok U)(e:G' T U=.ok (V,b)):((fc ρ).bind λs=>(dr s.2 y).bind λb=>(dr s.2 s.1).bind λc=>(G' b c).bind λz=>.ok (Rv.v z.1 z.2,s.2))=.ok (Rv.v V b,ρ1):=bk h (bk u (bk v (bk e rfl)))
theorem xC1{G:G1}(h:fa ρ=.ok (x,ρ1))(k:dr ρ1 x=.ok U)(e:G U=.ok (T,b)):qX (g1 G) (j4 fa kh) ρ=.ok (.v T b,ρ1):=bk (bk h rfl) (bk (bk k rfl) (bk e rfl))
theorem xC2{G:G2}(h:aa ρ=.ok (ps,ρ1))(k:drs ρ1 ps=.ok [U,V])(e:G U V=.ok (T,b)):qX (g2 G) aa ρ=.ok (.v T b,ρ1):=bk h (bk k (bk e rfl))
theorem J3(h:aa ρ=.ok (ps,ρ1))(k:drs ρ1 ps=.ok as)(e:F as=.ok (T,b))(n:(ps.any pP && !je (T,b))=false):pQ F aa ρ=.ok (.v T b,ρ1):=bk h (bk k (bk e (if_neg λq=>by rw[q.1,q.2]at n; cases n)))
theorem Zd(h:fa ρ=.ok (x,ρ1))(k:dr ρ1 x=.ok T):Qd ty fa ρ=.ok (.v (.bl (mZ T ty)) false,ρ1):=bk h (bk k rfl)
theorem Ze(h:aa ρ=.ok (ps,ρ1))(k:cls ps=.ok ts)(l:ts.length<=1000):Py aa ρ=.ok (.v (.lst ts) true,ρ1):=bk h (bk k (if_pos l))
theorem Zf(h:aa ρ=.ok (ps,ρ1))(k:cls ps=.ok ts)(l:ts.length<=1000):PB aa ρ=.ok (.v (.tup ts) false,ρ1):=bk h (bk k (if_pos l))
theorem Zg(h:fa ρ=.ok (.v T b,ρ1))(n:con ρ i=.ok as)(k : ρ1[i]?=some (.ow ts))(l:ts.length<=100000)(e : ρ1.set i (.ow (ts++[T])) = ρ2):zj i pR (j4 fa kh) ρ=.ok (.v .non false,ρ2):=by
 have c:con ρ1 i=.ok ts:=by unfold con; rw[k]
 have u:cH i (ts++[T]) ρ1 = ρ2:=by unfold cH; rw[k]; exact e
 exact u▸ap_ h n c l
theorem Za(h:W (f ρ) Q):W (uL f ρ) Q:=h.elim λ_ h=>h.elim λ_ h=>⟨_,_,nx_ h.1,h.2⟩
theorem Zb(h:fi ρ=.ok (us,ρ1))(k:W (jL gf f us ρ1) Q):W (Qw fi gf f ρ) Q:=k.elim λ_ k=>k.elim λ_ k=>⟨_,_,bk h k.1,k.2⟩
theorem wLp{β : Type}{t : β -> Tr}{xs:List β}(P:Nat->En->Prop)(h0:P 0 ρ)(hs:∀k x ρ,xs[k]?=some x->P k ρ -> ∃ρ1,gf (t x) ρ=.ok ρ1/\W (f ρ1) λfl ρ2=>match fl with
  |.nx=>P (k+1) ρ2
  |.ct=>P (k+1) ρ2
  |.bk=>Q .nx ρ2
  |.rt T b=>Q (.rt T b) ρ2) (hk:∀ρ,P xs.length ρ -> Q .nx ρ):W (jL gf f (xs.map t) ρ) Q:=by
 have go:∀(ys:List β) (k:Nat) (ρ : En),k<=xs.length->xs.drop k=ys->P k ρ -> W (jL gf f (ys.map t) ρ) Q:=λys=>by
  induction ys with
  |nil =>
   intro k ρ l e p
   obtain rfl:k=xs.length:=Nat.le_antisymm l (List.drop_eq_nil_iff.mp e)
   exact⟨_,_,rfl,hk _ p⟩
  |cons x ys ih =>
   intro k ρ l e p
   have g:xs[k]?=some x:=by rw[<-List.head?_drop,e]; rfl
   have d:xs.drop (k+1)=ys:=by rw[<-List.tail_drop,e]; rfl
   have l':k+1<=xs.length:=(List.getElem?_eq_some_iff.mp g).1
   obtain⟨ρ1,e1,fl,ρ2,e2,q⟩:=hs k x ρ g p
   have st:jL gf f ((x::ys).map t) ρ = _:=bk e1 (bk e2 rfl)
   cases fl with
   |nx=>obtain⟨a,b,h,q⟩:=ih (k+1) ρ2 l' d q; exact⟨a,b,st.trans h,q⟩
   |ct=>obtain⟨a,b,h,q⟩:=ih (k+1) ρ2 l' d q; exact⟨a,b,st.trans h,q⟩
   |bk=>exact⟨_,_,st,q⟩
   |rt T b=>exact⟨_,_,st,q⟩
 exact go xs 0 ρ (Nat.zero_le _) rfl h0
noncomputable def pt(ρ : En):List (Nat × Sl)->En
 | []=>ρ
 |(i,s)::r=>pt (ρ.set i s) r
theorem wG{t:Tr}(h:gf t ρ=.ok ρ1)(k:W (f ρ1) Q):∃ρ1,gf t ρ=.ok ρ1/\W (f ρ1) Q:=⟨_,h,k⟩
theorem jO{σ β : Type}{t : β -> Tr}{xs:List β}(js:List Nat)(A : σ -> List (Nat × Sl))(I:Nat -> σ -> Prop)(s0 : σ)(i0:I 0 s0)(h0 : ρ = pt (pt ρ (js.map λj=>(j,ρ.getD j .un))) (A s0))(hs:∀k x (v:Nat->Sl) s,xs[k]?=some x->I k s->∃ρ1,gf (t x) (pt (pt ρ (js.map λj=>(j,v j))) (A s))=.ok ρ1/\W (f ρ1) λfl ρ2=>match fl with
  |.nx=>∃s,I (k+1) s/\∃v:Nat->Sl,ρ2=pt (pt ρ (js.map λj=>(j,v j))) (A s)
  |.ct=>∃s,I (k+1) s/\∃v:Nat->Sl,ρ2=pt (pt ρ (js.map λj=>(j,v j))) (A s)
  |.bk=>Q .nx ρ2
  |.rt T b=>Q (.rt T b) ρ2) (hk:∀(v:Nat->Sl) s,I xs.length s->Q .nx (pt (pt ρ (js.map λj=>(j,v j))) (A s))):W (jL gf f (xs.map t) ρ) Q :=
 wLp (λk ρ'=>∃s,I k s/\∃v:Nat->Sl,ρ'=pt (pt ρ (js.map λj=>(j,v j))) (A s)) ⟨s0,i0,λj=>ρ.getD j .un,h0⟩ (λk x _ g h=>h.elim λs h=>h.2.elim λv q=>by subst q; exact hs k x v s g h.1) λ_ h=>h.elim λs h=>h.2.elim λv q=>by subst q; exact hk v s h.1
theorem ju{σ : Type}{n:Nat}{t:Nat->Tr}(js:List Nat)(A : σ -> List (Nat × Sl))(I:Nat -> σ -> Prop)(s0 : σ)(i0:I 0 s0)(h0 : ρ = pt (pt ρ (js.map λj=>(j,ρ.getD j .un))) (A s0))(hs:∀k (v:Nat->Sl) s,k<n->I k s->∃ρ1,gf (t k) (pt (pt ρ (js.map λj=>(j,v j))) (A s))=.ok ρ1/\W (f ρ1) λfl ρ2=>match fl with
  |.nx=>∃s,I (k+1) s/\∃v:Nat->Sl,ρ2=pt (pt ρ (js.map λj=>(j,v j))) (A s)
  |.ct=>∃s,I (k+1) s/\∃v:Nat->Sl,ρ2=pt (pt ρ (js.map λj=>(j,v j))) (A s)
  |.bk=>Q .nx ρ2
  |.rt T b=>Q (.rt T b) ρ2) (hk:∀(v:Nat->Sl) s,I n s->Q .nx (pt (pt ρ (js.map λj=>(j,v j))) (A s))):W (jL gf f ((List.range n).map t) ρ) Q :=
 jO js A I s0 i0 h0 (λk x v s g=>by
  obtain⟨l,rfl⟩:=List.getElem?_eq_some_iff.mp g
  rw[List.getElem_range]
  exact hs k v s (by simpa using l)) (by rw[List.length_range]; exact hk)
theorem j8{n:Nat}{t:Nat->Tr}(js:List Nat)(A:Nat->List (Nat × Sl))(h0 : ρ = pt (pt ρ (js.map λj=>(j,ρ.getD j .un))) (A 0))(hs:∀k (v:Nat->Sl),k<n->∃ρ1,gf (t k) (pt (pt ρ (js.map λj=>(j,v j))) (A k))=.ok ρ1/\W (f ρ1) λfl ρ2=>match fl with
  |.nx=>∃v:Nat->Sl,ρ2=pt (pt ρ (js.map λj=>(j,v j))) (A (k+1))
  |.ct=>∃v:Nat->Sl,ρ2=pt (pt ρ (js.map λj=>(j,v j))) (A (k+1))
  |.bk=>Q .nx ρ2
  |.rt T b=>Q (.rt T b) ρ2) (hk:∀v:Nat->Sl,Q .nx (pt (pt ρ (js.map λj=>(j,v j))) (A n))):W (jL gf f ((List.range n).map t) ρ) Q :=
 ju js A (λk s=>s=k) 0 rfl h0 (λk v s l e=>by
  subst e
  obtain⟨ρ1,e,fl,ρ2,h,q⟩:=hs s v l
  refine⟨ρ1,e,fl,ρ2,h,?_⟩
  cases fl
  .exact⟨_,rfl,q⟩
  .exact q
  .exact q
  .exact⟨_,rfl,q⟩) λv s e=>by subst e; exact hk v
theorem R3{σ : Type}{fu:En->Nat}(js:List Nat)(A : σ -> List (Nat × Sl))(I : σ -> Prop)(μ : σ -> Nat)(s0 : σ)(i0:I s0)(h0 : ρ = pt (pt ρ (js.map λj=>(j,ρ.getD j .un))) (A s0))(hm : μ s0<fu ρ)(hs:∀(v:Nat->Sl) s,I s->∃b ρ1,c (pt (pt ρ (js.map λj=>(j,v j))) (A s))=.ok (b,ρ1)/\if b=true then W (f ρ1) (λfl ρ2=>match fl with
  |.nx=>∃s',I s'/\μ s' < μ s/\∃v:Nat->Sl,ρ2=pt (pt ρ (js.map λj=>(j,v j))) (A s')
  |.rt T b=>Q (.rt T b) ρ2
  |_=>False)else Q .nx ρ1):W (Qv fu c f ρ) Q:=by
 have go:∀(n:Nat) (v:Nat->Sl) (s : σ),I s -> μ s<n->W (uM c f n (pt (pt ρ (js.map λj=>(j,v j))) (A s))) Q:=λn=>by
  induction n with
  |zero=>exact λ_ _ _ h=>absurd h (Nat.not_lt_zero _)
  |succ n ih =>
   intro v s i h
   obtain⟨b,ρ1,e,q⟩:=hs v s i
   cases b with
   |false=>exact⟨_,_,bk e (if_neg Bool.false_ne_true),by simpa using q⟩
   |true =>
    rw[if_pos rfl]at q
    obtain⟨fl,ρ2,e2,q⟩:=q
    cases fl with
    |nx =>
     obtain⟨s',i',l,v',rfl⟩:=q
     obtain⟨a,b,h,q⟩:=ih v' s' i' (by omega)
     exact⟨a,b,bk e ((if_pos rfl).trans (bk e2 h)),q⟩
    |rt T b=>exact⟨_,_,bk e ((if_pos rfl).trans (bk e2 rfl)),q⟩
    |bk=>exact q.elim
    |ct=>exact q.elim
 have z:=go (fu ρ) (λj=>ρ.getD j .un) s0 i0 hm
 rw[<-h0]at z
 exact z
theorem pT{P R:Prop}(h:b=true)(k:P):if b=true then P else R:=by rw[if_pos h]; exact k
theorem pF{P R:Prop}(h:b=false)(k:R):if b=true then P else R:=by rw[if_neg (by rw[h]; exact Bool.false_ne_true)]; exact k
theorem R4{P R : α -> Prop}{a : α}(h:P a)(k:R a):∃a,P a/\R a:=⟨_,h,k⟩
theorem Ac(h:c ρ=.ok (b,ρ1)){P:Bool->En->Prop}(k:P b ρ1):∃b ρ1,c ρ=.ok (b,ρ1)/\P b ρ1:=⟨_,_,h,k⟩
theorem Yu{l l':En}{S':Sl}(h:S=S')(k:l=l'):S::l=S'::l':=h▸k▸rfl
theorem exV{R:(Nat->Sl)->En}(e : ρ = R λj=>ρ.getD j .un):∃v,ρ = R v:=⟨_,e⟩
theorem Ad{σ : Type}(A : σ -> List (Nat × Sl))(I : σ -> Prop)(h:W (f ρ) λfl ρ'=>fl=.nx/\∃s,I s/\ρ'=pt ρ (A s))(k:∀s,I s->Q .nx (pt ρ (A s))):W (f ρ) Q:=by
 obtain⟨fl,ρ',e,rfl,s,i,rfl⟩:=h
 exact⟨_,_,e,k s i⟩
theorem Zc(h:fa ρ=.ok (x,ρ1))(u:Bs x=.ok (us,b)):zL fa ρ=.ok (us,ρ1):=bk h (bk u rfl)
theorem Zv(e:cQ i ρ = ρ1)(k:W (f ρ1) Q):W (Qt i f ρ) Q:=by subst e; exact k
theorem Zw(h : ρ[i]?=some (.ow ts))(e : ρ.set i (.sh (.lst ts)) = ρ1):cQ i ρ = ρ1:=by unfold cQ; rw[h]; exact e
theorem Zx(h : ρ[i]?=some (.dp ts))(e : ρ.set i (.ow ts) = ρ1)(k:W (f ρ1) Q):W (Gn i f ρ) Q:=by subst e; unfold Gn rH; rw[h]; exact k
theorem Zy{c:BF}(e:vw ρ = ρ2)(h:c ρ2=.ok (b,ρ1)):GJ c ρ=.ok (b,ρ):=by subst e; unfold GJ; rw[h]; rfl
theorem Zz{l h:OF}{lo hi:Option Int}(e:fa ρ=.ok (x,ρ1))(k:l ρ1=.ok (lo,ρ2))(k':h ρ2=.ok (hi,ρ3))(u:dr ρ3 x=.ok T)(q:jy lo hi T=.ok (V,b)):Qa fa l h ρ=.ok (.v V b,ρ3):=bk e (bk k (bk k' (bk u (bk q rfl))))
theorem ZC{m:Int}(h:fa ρ=.ok (x,ρ1))(k:dr ρ1 x=.ok (.int m)):PN fa ρ=.ok (some m,ρ1):=bk h (bk k rfl)
theorem Kd(e:gQ n as = ρ)(h:W (f ρ) λfl _=>Br fl=.ok z):aO n f as=.ok z:=by
 subst e
 obtain⟨fl,ρ1,h,k⟩:=h
 refine bk h ?_
 cases fl <;> first|exact k|(cases k; done)
theorem Z8{R:Tr × Bool->Prop}(e:gQ n as = ρ)(h:W (f ρ) λfl _=>∃z,Br fl=.ok z/\R z):∃z,aO n f as=.ok z/\R z:=by
 obtain⟨fl,ρ1,h,z,k,q⟩:=h
 exact⟨z,Kd e ⟨fl,ρ1,h,k⟩,q⟩
theorem ZD{n:Nat}(h:fa ρ=.ok (x,ρ1))(d:dr ρ1 x=.ok (.int (n:Int)))(hn:n<=1000):QC (j4 fa kh) ρ=.ok ((List.range n).map λi:Nat=>Tr.int i,ρ1):=by
 have u:∀(m:Nat) (lo:Nat),L2.upTo (lo:Int) m=(List.range' lo m).map λi:Nat=>Tr.int i:=λm=>by
  induction m with
  |zero=>exact λ_=>rfl
  |succ m ih=>exact λlo=>congrArg (Tr.int lo :: ·) (ih (lo+1))
 have u:=u n 0
 rw[<-List.range_eq_range']at u
 exact bk (vW h rfl) (bk (show drs ρ1 [x]=.ok [.int (n:Int)]from bk d rfl) ((if_pos (by unfold okR; simp; omega)).trans (by rw[Int.toNat_natCast]; exact congrArg (λl=>Rs.ok (l,ρ1)) u)))
theorem R5{α : Type}{r h : α -> Tr}{fr : α -> Bool}{τ : En}{fe:EF}:∀(xs:List α) (s:Sl),(∀x∈xs,fe (.sh (r x)::τ)=.ok (.v (h x) (fr x),.sh (r x)::τ))->∃s',iQ (gN 0) jc fe (xs.map r) (s::τ)=.ok (xs.map h,s'::τ)
 | [],s,_=>⟨s,rfl⟩
 |x::xs,s,q=>by
  obtain⟨s',e'⟩:=R5 xs (.sh (r x)) λv hv=>q v (List.mem_cons_of_mem _ hv)
  exact⟨s',bk (a:=.sh (r x)::τ) rfl (bk rfl ((if_pos rfl).trans (bk (q x (List.mem_cons_self ..)) (bk rfl (bk e' rfl)))))⟩
theorem ZF{β : Type}{t h : β -> Tr}{fr : β -> Bool}{xs:List β}{rest:List (Option Nat)}{fe:EF}{τ : En}(hi:fi ρ=.ok (us,ρ))(hu:us=xs.map t)(hτ : eE rest ρ = τ)(hs:∀s,eG (none::rest) (s::τ) ρ = true)(hd:∀s,bJ (none::rest) (s::τ) ρ = ρ)
  (hf:∀x∈xs,fe (.sh (t x)::τ)=.ok (.v (h x) (fr x),.sh (t x)::τ)) (hl:xs.length<=100000):rE (none::rest) fi (gN 0) jc fe ρ=.ok (.v (.lst (xs.map h)) true,ρ):=by
 subst hu hτ
 obtain⟨s,e⟩:=R5 xs .un hf
 refine bk hi ((if_pos (by rw[List.length_map]; exact hl)).trans ?_)
 show(dZ (iQ _ _ _ _ (Sl.un::eE rest ρ))).bind _=_
 rw[e]
 refine bk rfl ((if_pos (hs s)).trans ?_)
 rw[hd s]
theorem Hv{α : Type}{r : α -> Tr}{p : α -> Bool}{τ : En}:∀(xs:List α) (s:Sl),(∀x∈xs,c (.sh (r x)::τ)=.ok (p x,.sh (r x)::τ))->∃s',iQ (gN 0) c (iC 0) (xs.map r) (s::τ)=.ok ((xs.filter p).map r,s'::τ)
 | [],s,_=>⟨s,rfl⟩
 |x::xs,s,q=>by
  obtain⟨s',e'⟩:=Hv xs (.sh (r x)) λv hv=>q v (List.mem_cons_of_mem _ hv)
  refine⟨s',bk (a:=.sh (r x)::τ) rfl (bk (q x (List.mem_cons_self ..)) ?_)⟩
  rw[List.filter_cons]
  cases p x
  .exact(if_neg Bool.false_ne_true).trans e'
  .exact(if_pos rfl).trans (bk rfl (bk rfl (bk e' rfl)))
theorem ZK{β : Type}{t : β -> Tr}{p : β -> Bool}{xs:List β}{rest:List (Option Nat)}{τ : En}(hi:fi ρ=.ok (us,ρ))(hu:us=xs.map t)(hτ : eE rest ρ = τ)(hs:∀s,eG (none::rest) (s::τ) ρ = true)(hd:∀s,bJ (none::rest) (s::τ) ρ = ρ)
  (hf:∀x∈xs,c (.sh (t x)::τ)=.ok (p x,.sh (t x)::τ)) (hl:xs.length<=100000):rE (none::rest) fi (gN 0) c (iC 0) ρ=.ok (.v (.lst ((xs.filter p).map t)) true,ρ):=by
 subst hu hτ
 obtain⟨s,e⟩:=Hv xs .un hf
 refine bk hi ((if_pos (by rw[List.length_map]; exact hl)).trans ?_)
 show(dZ (iQ _ _ _ _ (Sl.un::eE rest ρ))).bind _=_
 rw[e]
 refine bk rfl ((if_pos (hs s)).trans ?_)
 rw[hd s]
theorem ZM{β : Type}{t : β -> Tr}{p : β -> Bool}{xs:List β}{rest:List (Option Nat)}{τ : En}(hi:con ρ n=.ok us)(hu:us=xs.map t)(hτ : eE rest ρ = τ)(hs:∀s,eG (none::rest) (s::τ) ρ = true)(hd:∀s,bJ (none::rest) (s::τ) ρ = ρ)
  (hf:∀x∈xs,c (.sh (t x)::τ)=.ok (p x,.sh (t x)::τ)) (hl:xs.length<=100000):Gi (none::rest) n (gN 0) c (iC 0) ρ=.ok (.v (.lst ((xs.filter p).map t)) true,ρ):=by
 subst hu hτ
 obtain⟨s,e⟩:=Hv xs .un hf
 refine bk hi ((if_pos (by rw[List.length_map]; exact hl)).trans ?_)
 show(dZ (iQ _ _ _ _ (Sl.un::eE rest ρ))).bind _=_
 rw[e]
 refine bk rfl ((if_pos (hs s)).trans ?_)
 rw[hd s]
theorem ZP{m:Nat}(h:aa ρ=.ok (ps,ρ1))(k:cls ps=.ok [.int m,T])(n:con ρ i=.ok as)(q : ρ1[i]?=some (.ow ts))(l:m<=ts.length)(l':ts.length<=100000)(e : ρ1.set i (.ow (ts.take m++T::ts.drop m)) = ρ2):zj i uZ aa ρ=.ok (.v .non false,ρ2):=by
 have c:con ρ1 i=.ok ts:=by unfold con; rw[q]
 have u:cH i (ts.take m++T::ts.drop m) ρ1 = ρ2:=by unfold cH; rw[q]; exact e
 exact u▸bk n (bk h (bk k (bk c (bk (a:=(ts.take m++T::ts.drop m,Tr.non)) (if_pos ⟨Int.natCast_nonneg m,l,l'⟩) rfl))))
theorem ZL{m:Nat}(h:fa ρ=.ok (.v T b,ρ1))(k:T=.int (m:Int))(l:m<=1000):eLR (j4 fa kh) ρ=.ok (.v (.lst ((List.range m).map λi:Nat=>Tr.int i)) true,ρ1):=by
 subst k
 exact bk (vW h rfl) ((if_pos ⟨Int.natCast_nonneg m,by omega⟩).trans (by rw[Int.toNat_natCast]))
theorem R6{α : Type}{a b h : α -> Tr}{fr : α -> Bool}{τ : En}{fe:EF}:∀(xs:List α) (s s':Sl),(∀x∈xs,fe (.sh (a x) :: .sh (b x)::τ)=.ok (.v (h x) (fr x),.sh (a x) :: .sh (b x)::τ))->∃t t',iQ (gT 2 (j5 (gN 0) (j5 (gN 1) uF))) jc fe (xs.map λx=>.tup [a x,b x]) (s::s'::τ)=.ok (xs.map h,t::t'::τ)
 | [],s,s',_=>⟨s,s',rfl⟩
 |x::xs,s,s',q=>by
  obtain⟨t,t',e⟩:=R6 xs (.sh (a x)) (.sh (b x)) λv hv=>q v (List.mem_cons_of_mem _ hv)
  exact⟨t,t',bk (a:=.sh (a x) :: .sh (b x)::τ) rfl (bk rfl ((if_pos rfl).trans (bk (q x (List.mem_cons_self ..)) (bk rfl (bk e rfl)))))⟩
theorem ZG{β : Type}{a b h : β -> Tr}{fr : β -> Bool}{xs:List β}{rest:List (Option Nat)}{fe:EF}{τ : En}(hi:fi ρ=.ok (us,ρ))(hu:us=xs.map λx=>.tup [a x,b x])(hτ : eE rest ρ = τ)(hs:∀s s',eG (none::none::rest) (s::s'::τ) ρ = true)(hd:∀s s',bJ (none::none::rest) (s::s'::τ) ρ = ρ)
  (hf:∀x∈xs,fe (.sh (a x) :: .sh (b x)::τ)=.ok (.v (h x) (fr x),.sh (a x) :: .sh (b x)::τ)) (hl:xs.length<=100000):rE (none::none::rest) fi (gT 2 (j5 (gN 0) (j5 (gN 1) uF))) jc fe ρ=.ok (.v (.lst (xs.map h)) true,ρ):=by
 subst hu hτ
 obtain⟨s,s',e⟩:=R6 xs .un .un hf
 refine bk hi ((if_pos (by rw[List.length_map]; exact hl)).trans ?_)
 show(dZ (iQ _ _ _ _ (Sl.un::Sl.un::eE rest ρ))).bind _=_
 rw[e]
 refine bk rfl ((if_pos (hs s s')).trans ?_)
 rw[hd s s']
theorem ZJ{aa:AF}{T U:Tr}{us vs:List Tr}{b b':Bool}{ρ ρ1:En}(h:aa ρ=.ok ([.v T b,.v U b'],ρ1))(e:T=.lst us)(e':U=.lst vs):QD aa ρ=.ok (iy us vs,ρ1):=by subst e e'; exact bk h rfl
theorem YB{a b:Int}:pA (.int a) (.int b)=.ok (.int (a+b),false):=rfl
theorem YQ(h:ts.length+us.length<=100000):pA (.lst ts) (.lst us)=.ok (.lst (ts++us),true):=if_pos h
theorem YC{a b:Int}:tO (.int a) (.int b)=.ok (.int (a-b),false):=rfl
theorem YD{a b:Int}:qI (.int a) (.int b)=.ok (.bl (decide (a<b)),false):=rfl
theorem YF{a b:Int}:DG (.int a) (.int b)=.ok (.bl (decide (b<a)),false):=rfl
theorem YG{a b:Int}:DK (.int a) (.int b)=.ok (.bl (decide (a<=b)),false):=rfl
theorem YH{a b:Int}:DN (.int a) (.int b)=.ok (.bl (decide (b<=a)),false):=rfl
theorem YT{a b:Int}(h:cM a b=true):pB (.int a) (.int b)=.ok (.int (a*b),false):=if_pos h
theorem Z6{a b:Int}(h : -18446744073709551616<b/\b<18446744073709551616):cM a b=true:=by
 have h:tiny b=true:=by unfold tiny; rw[decide_eq_true h.1,decide_eq_true h.2]; rfl
 unfold cM
 rw[h,Bool.or_true]
theorem Z7{a b:Int}(h : -18446744073709551616<a/\a<18446744073709551616):cM a b=true:=by
 have h:tiny a=true:=by unfold tiny; rw[decide_eq_true h.1,decide_eq_true h.2]; rfl
 unfold cM
 rw[h,Bool.or_true,Bool.true_or]
theorem Kc{a b:Int}(h:0<b)(k:b<2 ^ 64):gO a b=true:=by
 unfold gO
 rw[decide_eq_true (show b≠0 by omega),Bool.true_and,decide_eq_true_eq]
 have:=(Nat.log2_lt (n:=b.natAbs) (k:=64) (by omega)).mpr (by omega)
 omega
theorem J9{a b:Int}(h:gO a b=true):xX (.int a) (.int b)=.ok (.int (a.fdiv b),false):=if_pos h
theorem J8{a b:Int}(h:b≠0):xY (.int a) (.int b)=.ok (.int (a.fmod b),false):=if_pos (decide_eq_true h)
theorem YJ{a b:Int}:jH (.int a) (.int b)=.ok (.bl (decide (a=b)),false):=by
 have d:∀i,dep (.int i)=0:=λi=>by unfold dep; rfl
 refine(if_pos ⟨by rw[d]; omega,by rw[d]; omega⟩).trans ?_
 unfold eqT
 rfl
theorem J6{a b:Int}:eU (.int a) (.int b)=.ok (.bl (!decide (a=b)),false):=by
 have d:∀i,dep (.int i)=0:=λi=>by unfold dep; rfl
 refine(if_pos ⟨by rw[d]; omega,by rw[d]; omega⟩).trans ?_
 unfold eqT
 rfl
theorem YS{a:Int}(h:0<=a):tR (.int a)=.ok (.int a,false):=by
 show Rs.ok (Tr.int (if a<0 then -a else a),false)=_
 rw[if_neg (by omega)]
theorem jz{a b:Str}(h:(a == b)=false):jH (.str a) (.str b)=.ok (.bl false,false):=by
 have d:∀i,dep (.str i)=0:=λi=>by unfold dep; rfl
 refine(if_pos ⟨by rw[d]; omega,by rw[d]; omega⟩).trans ?_
 unfold eqT
 rw[h]
theorem Bt{a:Str}:jH (.str a) (.str a)=.ok (.bl true,false):=by
 have d:∀i,dep (.str i)=0:=λi=>by unfold dep; rfl
 refine(if_pos ⟨by rw[d]; omega,by rw[d]; omega⟩).trans ?_
 unfold eqT
 rw[beq_self_eq_true]
theorem Z5{a b:Str}(h:(a == b)=false):eU (.str a) (.str b)=.ok (.bl true,false):=by
 have d:∀i,dep (.str i)=0:=λi=>by unfold dep; rfl
 refine(if_pos ⟨by rw[d]; omega,by rw[d]; omega⟩).trans ?_
 unfold eqT
 rw[h]
 rfl
theorem YK{a:Str}:eU (.str a) (.str a)=.ok (.bl false,false):=by
 have d:∀i,dep (.str i)=0:=λi=>by unfold dep; rfl
 refine(if_pos ⟨by rw[d]; omega,by rw[d]; omega⟩).trans ?_
 unfold eqT
 rw[beq_self_eq_true]
 rfl
theorem YL:fZ (.lst ts)=.ok (.int ts.length,false):=rfl
theorem J7{β : Type}{h : β -> Tr}{l:List β}:fZ (.lst (l.map h))=.ok (.int l.length,false):=by rw[<-List.length_map (as:=l) h]; rfl
theorem YM:fZ (.tup ts)=.ok (.int ts.length,false):=rfl
theorem Ys(h:b=false):(!b)=true:=by rw[h]; rfl
theorem Yt(h:b=true):(!b)=false:=by rw[h]; rfl
section
variable {a0 a1 a2 a3 a4 a5 a6 a7 a8 a9 a10 a11 a12 a13 a14:Sl}{l:En}
theorem st0:(a0::l).set 0 S=S::l:=rfl
theorem st1:(a0::a1::l).set 1 S=a0::S::l:=rfl
theorem st2:(a0::a1::a2::l).set 2 S=a0::a1::S::l:=rfl
theorem st3:(a0::a1::a2::a3::l).set 3 S=a0::a1::a2::S::l:=rfl
theorem vX:(a0::a1::a2::a3::a4::l).set 4 S=a0::a1::a2::a3::S::l:=rfl
theorem mJ:(a0::a1::a2::a3::a4::a5::l).set 5 S=a0::a1::a2::a3::a4::S::l:=rfl
theorem Yy:(a0::a1::a2::a3::a4::a5::a6::l).set 6 S=a0::a1::a2::a3::a4::a5::S::l:=rfl
theorem oH:(a0::a1::a2::a3::a4::a5::a6::a7::l).set 7 S=a0::a1::a2::a3::a4::a5::a6::S::l:=rfl
theorem Yz{m:Nat}{l':En}(h:l.set m S=l'):(a0::a1::a2::a3::a4::a5::a6::a7::l).set (m+8) S=a0::a1::a2::a3::a4::a5::a6::a7::l':=h▸rfl
end
end
end L2
end
section
namespace BH
open PySem L2
noncomputable abbrev R7:=(bC (sN (sW (Rw 1) (tK (aL fL (aj 1) (vC (.int 0)))) (b1 (Fg 0 1 (ak (aj 1) (ak (d8 (aj 0) (aj 1)) ao)))))) (b1 (aC (Hf (ak (aj 0) ao)))))
noncomputable abbrev afs:SF:=by exists R7
noncomputable def R8:FP:=aO 2 afs
noncomputable abbrev Hw{f:AF}(a:VA f):=vF "common_divisor" ["one", "other"] R8 1 a
noncomputable abbrev R9:=(bC (sI (tK (aL dg (aj 1) (vC (.int 0)))) (b1 (pU "NoBottom" (vC (.str "a fraction has no bottom of 0")))) b0) (bC (sA 2 (aE (Hw (ak (aj 0) (ak (aj 1) ao))))) (bC (sI (tK (aL lY (aj 1) (vC (.int 0)))) (b1 (sA 2 (aE (Ed (aj 2))))) b0) (b1 (aC (iK (ak (fK (aj 0) (aj 2)) (ak (fK (aj 1) (aj 2)) ao))))))))
noncomputable abbrev aft:SF:=by exists R9
noncomputable def Sd:FP:=aO 3 aft
noncomputable abbrev Ae{f:AF}(a:VA f):=vF "fraction_of" ["top", "bottom"] Sd 2 a
noncomputable abbrev Sg:=(b1 (aC (Ae (ak (dD (cJ (aq (aj 0) (vC (.int 0))) (aq (aj 1) (vC (.int 1)))) (cJ (aq (aj 1) (vC (.int 0))) (aq (aj 0) (vC (.int 1))))) (ak (cJ (aq (aj 0) (vC (.int 1))) (aq (aj 1) (vC (.int 1)))) ao)))))
noncomputable abbrev afu:SF:=by exists Sg
noncomputable def Sh:FP:=aO 2 afu
noncomputable abbrev afv{f:AF}(a:VA f):=vF "frac_sum" ["one", "other"] Sh 3 a
noncomputable abbrev Sq:=(b1 (aC (Ae (ak (nU (cJ (aq (aj 0) (vC (.int 0))) (aq (aj 1) (vC (.int 1)))) (cJ (aq (aj 1) (vC (.int 0))) (aq (aj 0) (vC (.int 1))))) (ak (cJ (aq (aj 0) (vC (.int 1))) (aq (aj 1) (vC (.int 1)))) ao)))))
noncomputable abbrev afw:SF:=by exists Sq
noncomputable def Ss:FP:=aO 2 afw
noncomputable abbrev afx{f:AF}(a:VA f):=vF "frac_less" ["one", "other"] Ss 3 a
noncomputable abbrev Sv:=(b1 (aC (Ae (ak (cJ (aq (aj 0) (vC (.int 0))) (aq (aj 1) (vC (.int 0)))) (ak (cJ (aq (aj 0) (vC (.int 1))) (aq (aj 1) (vC (.int 1)))) ao)))))
noncomputable abbrev afy:SF:=by exists Sv
noncomputable def Af:FP:=aO 2 afy
noncomputable abbrev Ag{f:AF}(a:VA f):=vF "frac_times" ["one", "other"] Af 3 a
noncomputable abbrev Sw:=(b1 (aC (Ae (ak (cJ (aq (aj 0) (vC (.int 0))) (aq (aj 1) (vC (.int 1)))) (ak (cJ (aq (aj 0) (vC (.int 1))) (aq (aj 1) (vC (.int 0)))) ao)))))
noncomputable abbrev afz:SF:=by exists Sw
noncomputable def Sy:FP:=aO 2 afz
noncomputable abbrev afA{f:AF}(a:VA f):=vF "frac_by" ["one", "other"] Sy 3 a
noncomputable abbrev SJ:=(b1 (aC (vK (aL lY (cJ (aq (aj 0) (vC (.int 0))) (aq (aj 1) (vC (.int 1)))) (cJ (aq (aj 1) (vC (.int 0))) (aq (aj 0) (vC (.int 1))))))))
noncomputable abbrev afB:SF:=by exists SJ
noncomputable def SM:FP:=aO 2 afB
noncomputable abbrev afC{f:AF}(a:VA f):=vF "frac_below" ["one", "other"] SM 1 a
noncomputable abbrev SN:=(b1 (aC (vV .And (uA (RG (aj 0)) (u1 .And (Pn (RJ (aj 0))))))))
noncomputable abbrev afD:SF:=by exists SN
noncomputable def SQ:FP:=aO 1 afD
noncomputable abbrev vf{f:AF}(a:VA f):=vF "is_whole" ["thing"] SQ 1 a
noncomputable abbrev SX:=(bC (sI (tW .Or (wO (bR (bH (vd (aj 0)))) (w1 .Or (tK (aL fL (aX (ak (aj 0) ao)) (vC (.int 2))))))) (b1 (aC (vC (.bl false)))) b0) (bC (uH (aj 0) (iw 2 (cj (gV 1) (cj (gV 2) iu)))) (bC (sI (tW .Or (wO (bR (bH (vf (ak (aj 1) ao)))) (w1 .Or (bR (bH (vf (ak (aj 2) ao))))))) (b1 (aC (vC (.bl false)))) b0) (b1 (aC (vV .And (uA (vK (aL GZ (aj 2) (vC (.int 1)))) (u1 .And (vK (aL dg (Hw (ak (aj 1) (ak (aj 2) ao))) (vC (.int 1))))))))))))
noncomputable abbrev afE:SF:=by exists SX
noncomputable def S5:FP:=aO 3 afE
noncomputable abbrev S6{f:AF}(a:VA f):=vF "is_fraction" ["thing"] S5 2 a
noncomputable abbrev S7:=(b1 (aC (vV .And (uA (S6 (ak (aj 0) ao)) (u1 .And (vK (qQ jN jN (vC (.int 0)) (aq (aj 0) (vC (.int 0))) (aq (aj 0) (vC (.int 1))))))))))
noncomputable abbrev afF:SF:=by exists S7
noncomputable def S8:FP:=aO 1 afF
noncomputable abbrev afG{f:AF}(a:VA f):=vF "is_worth" ["thing"] S8 3 a
noncomputable abbrev S9:=(bC (sI (tW .Or (wO (bR (bH (nZ (aj 0)))) (w1 .Or (bR (tK (qQ jN jN (vC (.int 1)) (aX (ak (aj 0) ao)) (aj 1))))))) (b1 (aC (vC (.bl false)))) b0) (b1 (aC (nY (ak (fJ (cC [none] ["part"] (bZ (aj 0)) (gV 0) (afG (ak (aj 0) ao)))) ao)))))
noncomputable abbrev afH:SF:=by exists S9
noncomputable def Tc:FP:=aO 2 afH
noncomputable abbrev afI{f:AF}(a:VA f):=vF "are_worths" ["thing", "most"] Tc 4 a
noncomputable abbrev Td:=(bC (sI (tW .Or (wO (bR (bH (nZ (aj 0)))) (w1 .Or (bR (tK (qQ jN jN (vC (.int 1)) (aX (ak (aj 0) ao)) (vG "MOST_LISTS" (.int 4)))))))) (b1 (aC (vC (.bl false)))) b0) (bC (sI (bR (bH (nY (ak (fJ (cC [none] ["row"] (bZ (aj 0)) (gV 0) (afI (ak (aj 0) (ak (vG "MOST_THINGS" (.int 12)) ao))))) ao)))) (b1 (aC (vC (.bl false)))) b0) (b1 (aC (nY (ak (fJ (cC [none,some 0] ["row", "thing"] (bZ (aj 0)) (gV 0) (vK (aL dg (aX (ak (aj 0) ao)) (aX (ak (aq (aj 1) (vC (.int 0))) ao)))))) ao))))))
noncomputable abbrev afJ:SF:=by exists Td
noncomputable def Tf:FP:=aO 1 afJ
noncomputable abbrev afK{f:AF}(a:VA f):=vF "is_book" ["thing"] Tf 5 a
noncomputable abbrev Tj:=(bC (sA 1 (aE (vC (.int 1)))) (bC (sN (sF (bZ (aj 0)) (iw 2 (cj (gV 2) (cj (gV 3) iu))) (b1 (sA 1 (aE (fK (cJ (aj 1) (aj 3)) (Hw (ak (aj 1) (ak (aj 3) ao))))))))) (b1 (aC (aj 1)))))
noncomputable abbrev afL:SF:=by exists Tj
noncomputable def Tn:FP:=aO 4 afL
noncomputable abbrev afM{f:AF}(a:VA f):=vF "common_bottom" ["fractions"] Tn 2 a
noncomputable abbrev Tp:=(bC (sA 1 (aE (afM (ak (aj 0) ao)))) (b1 (aC (fJ (cC [none,none,some 1] ["top", "own", "bottom"] (bZ (aj 0)) (iw 2 (cj (gV 0) (cj (gV 1) iu))) (cJ (aj 0) (fK (aj 2) (aj 1))))))))
noncomputable abbrev afN:SF:=by exists Tp
noncomputable def Tz:FP:=aO 2 afN
noncomputable abbrev afO{f:AF}(a:VA f):=vF "tops_on_one_bottom" ["fractions"] Tz 3 a
noncomputable abbrev TF:=(bC (sA 1 (aE (afO (ak (aj 0) ao)))) (b1 (aC (vSK kyI "falling_places" "place" ["tops"] [some 1] (ak (aX (ak (aj 1) ao)) ao) (aeY (lIx (Rg 1) (Rg 0)))))))
noncomputable abbrev afP:SF:=by exists TF
noncomputable def rO:FP:=aO 2 afP
noncomputable abbrev n8{f:AF}(a:VA f):=vF "falling_places" ["fractions"] rO 4 a
noncomputable abbrev TJ:=(b1 (aC (vV .And (uA (vf (ak (aj 0) ao)) (u1 .And (vK (qQ jN lY (vC (.int 0)) (aj 0) (aj 1))))))))
noncomputable abbrev afQ:SF:=by exists TJ
noncomputable def TQ:FP:=aO 2 afQ
noncomputable abbrev Ah{f:AF}(a:VA f):=vF "is_place" ["thing", "many"] TQ 2 a
noncomputable abbrev TV:=(b1 (sI (bR (bH (afK (ak (aj 0) ao)))) (b1 (pU "NoBook" (vC (.str "this is no book")))) b0))
noncomputable abbrev afR:SF:=by exists TV
noncomputable def TY:FP:=aO 1 afR
noncomputable abbrev T3{f:AF}(a:VA f):=vF "need_book" ["book"] TY 6 a
noncomputable abbrev afS:=(b1 (sI (bR (bH (Ah (ak (aj 1) (ak (aX (ak (aj 0) ao)) ao))))) (b1 (pU "NoList" (vC (.str "the book has no list of this number")))) b0))
noncomputable abbrev afT:SF:=by exists afS
noncomputable def T4:FP:=aO 2 afT
noncomputable abbrev afU{f:AF}(a:VA f):=vF "need_list" ["book", "place"] T4 3 a
noncomputable abbrev afV:=(bC (dY (T3 (ak (aj 0) ao))) (bC (dY (afU (ak (aj 0) (ak (aj 1) ao)))) (b1 (aC (n8 (ak (aq (aj 0) (aj 1)) ao))))))
noncomputable abbrev afW:SF:=by exists afV
noncomputable def afX:FP:=aO 2 afW
noncomputable abbrev T5:=(bC (sI (tW .Or (wO (bR (bH (nZ (aj 0)))) (w1 .Or (tK (aL fL (aX (ak (aj 0) ao)) (aj 1)))))) (b1 (aC (vC (.bl false)))) b0) (b1 (aC (nY (ak (fJ (cC [none] ["part"] (bZ (aj 0)) (gV 0) (vV .And (uA (S6 (ak (aj 0) ao)) (u1 .And (vK (aL GZ (aq (aj 0) (vC (.int 0))) (vC (.int 0))))))))) ao)))))
noncomputable abbrev afY:SF:=by exists T5
noncomputable def T6:FP:=aO 2 afY
noncomputable abbrev afZ{f:AF}(a:VA f):=vF "are_weights" ["thing", "many"] T6 3 a
noncomputable abbrev T7:=(bC (sI (bR (bH (vd (aj 0)))) (b1 (aC (vC (.bl false)))) b0) (bC (sI (tK (aL fL (aX (ak (aj 0) ao)) (vC (.int 2)))) (b1 (aC (vK (aL G8 (aj 0) (vG "BARE_RULES" (.tup [(.tup [(.str "least")]),(.tup [(.str "greatest")]),(.tup [(.str "product")])])))))) b0) (bC (uH (aj 0) (iw 2 (cj (gV 2) (cj (gV 3) iu)))) (bC (sI (tK (aL dg (aj 2) (vC (.str "shares")))) (b1 (aC (afZ (ak (aj 3) (ak (aj 1) ao))))) b0) (b1 (aC (vV .And (uA (vK (aL dg (aj 2) (vC (.str "middle")))) (uA (vf (ak (aj 3) ao)) (u1 .And (vK (qQ jN jN (vC (.int 1)) (aj 3) (aj 1)))))))))))))
noncomputable abbrev af0:SF:=by exists T7
noncomputable def T8:FP:=aO 4 af0
noncomputable abbrev af2{f:AF}(a:VA f):=vF "is_rule" ["thing", "many"] T8 4 a
noncomputable abbrev T9:=(bC (sA 2 (aE (lQ [.int 0,.int 1]))) (bC (sN (sF (iZ (ak (aj 0) (ak (aj 1) ao))) (iw 2 (cj (gV 3) (cj (gV 4) iu))) (b1 (sA 2 (aE (afv (ak (aj 2) (ak (Ag (ak (aj 3) (ak (aj 4) ao))) ao)))))))) (b1 (aC (aj 2)))))
noncomputable abbrev af3:SF:=by exists T9
noncomputable def Ua:FP:=aO 5 af3
noncomputable abbrev af4{f:AF}(a:VA f):=vF "shares_worth" ["weights", "worths"] Ua 4 a
noncomputable abbrev Ub:=(bC (sA 1 (aE (lQ [.int 1,.int 1]))) (bC (sN (sF (bZ (aj 0)) (gV 2) (b1 (sA 1 (aE (Ag (ak (aj 1) (ak (aj 2) ao)))))))) (b1 (aC (aj 1)))))
noncomputable abbrev af5:SF:=by exists Ub
noncomputable def Uc:FP:=aO 3 af5
noncomputable abbrev af6{f:AF}(a:VA f):=vF "product_worth" ["worths"] Uc 4 a
noncomputable abbrev Ud:=(bC (sI (tK (aL dg (aq (aj 0) (vC (.int 0))) (vC (.str "greatest")))) (b1 (aC (vC (.int 1)))) b0) (bC (sI (tK (aL dg (aq (aj 0) (vC (.int 0))) (vC (.str "least")))) (b1 (aC (aj 1))) b0) (b1 (aC (aq (aj 0) (vC (.int 1)))))))
noncomputable abbrev af7:SF:=by exists Ud
noncomputable def Ue:FP:=aO 2 af7
noncomputable abbrev af8{f:AF}(a:VA f):=vF "place_of" ["rule", "many"] Ue 1 a
noncomputable abbrev Ug:=(bC (sI (tK (aL dg (aq (aj 0) (vC (.int 0))) (vC (.str "shares")))) (b1 (aC (af4 (ak (aq (aj 0) (vC (.int 1))) (ak (aj 1) ao))))) b0) (bC (sI (tK (aL dg (aq (aj 0) (vC (.int 0))) (vC (.str "product")))) (b1 (aC (af6 (ak (aj 1) ao)))) b0) (b1 (aC (aq (aj 1) (aq (n8 (ak (aj 1) ao)) (nU (af8 (ak (aj 0) (ak (aX (ak (aj 1) ao)) ao))) (vC (.int 1)))))))))
noncomputable abbrev af9:SF:=by exists Ug
noncomputable def mj:FP:=aO 2 af9
noncomputable abbrev Uh{f:AF}(a:VA f):=vF "worth_by" ["rule", "worths"] mj 5 a
noncomputable abbrev Ui:=(bC (dY (T3 (ak (aj 0) ao))) (b1 (sI (bR (bH (af2 (ak (aj 1) (ak (aX (ak (aj 0) ao)) ao))))) (b1 (pU "NoRule" (vC (.str "this is no rule for the book's lists")))) b0)))
noncomputable abbrev aga:SF:=by exists Ui
noncomputable def Uj:FP:=aO 2 aga
noncomputable abbrev agb{f:AF}(a:VA f):=vF "need_book_and_rule" ["book", "rule"] Uj 7 a
noncomputable abbrev Uk:=(b1 (aC (fJ (cC [none,some 1] ["row", "thing"] (bZ (aj 0)) (gV 0) (aq (aj 0) (aj 1))))))
noncomputable abbrev agc:SF:=by exists Uk
noncomputable def Ul:FP:=aO 2 agc
noncomputable abbrev agd{f:AF}(a:VA f):=vF "worths_of" ["book", "thing"] Ul 1 a
noncomputable abbrev Um:=(b1 (aC (vV .And (uA (vf (ak (aj 0) ao)) (u1 .And (vK (qQ jN jN (vC (.int 0)) (aj 0) (aj 1))))))))
noncomputable abbrev agf:SF:=by exists Um
noncomputable def Uo:FP:=aO 2 agf
noncomputable abbrev agg{f:AF}(a:VA f):=vF "is_count" ["thing", "many"] Uo 2 a
noncomputable abbrev Uq:=(b1 (aC (nY (ak (fJ (cC [none,none] ["one", "other"] (iZ (ak (aj 0) (ak (qW (aj 0) (oS (vC (.int 1))) oN) ao))) (iw 2 (cj (gV 0) (cj (gV 1) iu))) (vK (aL lY (aj 0) (aj 1))))) ao))))
noncomputable abbrev agh:SF:=by exists Uq
noncomputable def Hx:FP:=aO 1 agh
noncomputable abbrev Ur{f:AF}(a:VA f):=vF "are_rising" ["parts"] Hx 1 a
noncomputable abbrev Ut:=(b1 (aC (fJ (cC [none] ["row"] (bZ (aj 0)) (gV 0) (n8 (ak (aj 0) ao))))))
noncomputable abbrev agi:SF:=by exists Ut
noncomputable def Uu:FP:=aO 1 agi
noncomputable abbrev Uv{f:AF}(a:VA f):=vF "read_orders" ["book"] Uu 5 a
noncomputable abbrev Uw:=(bC (sI (tW .Or (wO (bR (bH (nZ (aj 0)))) (w1 .Or (tK (aL fL (aX (ak (aj 0) ao)) (aj 1)))))) (b1 (aC (vC (.bl false)))) b0) (b1 (aC (nY (ak (fJ (cC [none,some 2] ["part", "many"] (bZ (aj 0)) (gV 0) (agg (ak (aj 0) (ak (aj 1) ao))))) ao)))))
noncomputable abbrev agj:SF:=by exists Uw
noncomputable def Ux:FP:=aO 3 agj
noncomputable abbrev agk{f:AF}(a:VA f):=vF "are_depths" ["thing", "lists", "many"] Ux 3 a
noncomputable abbrev Uy:=(bC (sI (tW .Or (wO (bR (bH (vd (aj 0)))) (w1 .Or (tK (aL fL (aX (ak (aj 0) ao)) (vC (.int 2))))))) (b1 (aC (vC (.bl false)))) b0) (b1 (aC (vV .And (uA (Ah (ak (aq (aj 0) (vC (.int 0))) (ak (aj 1) ao))) (u1 .And (Ah (ak (aq (aj 0) (vC (.int 1))) (ak (aj 2) ao)))))))))
noncomputable abbrev agl:SF:=by exists Uy
noncomputable def Uz:FP:=aO 3 agl
noncomputable abbrev agm{f:AF}(a:VA f):=vF "is_ask" ["thing", "lists", "many"] Uz 3 a
noncomputable abbrev UG:=(bC (sI (tW .Or (wO (bR (bH (nZ (aj 0)))) (w1 .Or (bR (bH (nY (ak (fJ (cC [none,some 1,some 2] ["part", "lists", "many"] (bZ (aj 0)) (gV 0) (agm (ak (aj 0) (ak (aj 1) (ak (aj 2) ao)))))) ao))))))) (b1 (aC (vC (.bl false)))) b0) (b1 (aC (Ur (ak (aj 0) ao)))))
noncomputable abbrev agn:SF:=by exists UG
noncomputable def UJ:FP:=aO 3 agn
noncomputable abbrev ago{f:AF}(a:VA f):=vF "are_asked" ["thing", "lists", "many"] UJ 4 a
noncomputable abbrev UL:=(bC (Fg 2 3 (ak (aX (ak (aj 0) ao)) (ak (aX (ak (aq (aj 0) (vC (.int 0))) ao)) ao))) (bC (sI (tW .Or (wO (bR (bH (vd (aj 1)))) (w1 .Or (tK (aL fL (aX (ak (aj 1) ao)) (vC (.int 2))))))) (b1 (pU "NoLooks" (vC (.str "looks are a tuple of depths and what is asked")))) b0) (b1 (sI (tW .Or (wO (bR (bH (agk (ak (aq (aj 1) (vC (.int 0))) (ak (aj 2) (ak (aj 3) ao)))))) (w1 .Or (bR (bH (ago (ak (aq (aj 1) (vC (.int 1))) (ak (aj 2) (ak (aj 3) ao))))))))) (b1 (pU "NoLooks" (vC (.str "these are no looks of the book")))) b0))))
noncomputable abbrev agp:SF:=by exists UL
noncomputable def UW:FP:=aO 4 agp
noncomputable abbrev agq{f:AF}(a:VA f):=vF "need_looks" ["book", "looks"] UW 5 a
noncomputable abbrev U0:=(bC (uH (aj 1) (iw 2 (cj (gV 2) (cj (gV 3) iu)))) (bC (sCd 4 [none] ["row"] (bZ (aj 0)) (gV 0) (cJ (Et [.non]) (aX (ak (aj 0) ao)))) (bC (sN (sF (iEn (ak (Uv (ak (aj 0) ao)) ao)) (iw 2 (cj (gV 5) (cj (gV 6) iu))) (b1 (sF (bZ (qW (aj 6) oN (oS (aq (aj 2) (aj 5))))) (gV 7) (b1 (Rr 4 5 7 (aq (aq (aj 0) (aj 5)) (aj 7)))))))) (bC (sN (sF (bZ (aj 3)) (iw 2 (cj (gV 5) (cj (gV 7) iu))) (b1 (Rr 4 5 7 (aq (aq (aj 0) (aj 5)) (aj 7)))))) (b1 (sD 4 (aC (aj 4))))))))
noncomputable abbrev agr:SF:=by exists U0
noncomputable def U3:FP:=aO 8 agr
noncomputable abbrev ags{f:AF}(a:VA f):=vF "seen_by" ["book", "looks"] U3 6 a
noncomputable abbrev U4:=(bC (sO 3 (aE (dI ao))) (bC (sN (sF (dJ (ak (aX (ak (aq (aj 1) (vC (.int 0))) ao)) ao)) (gV 4) (bC (sA 5 (aE (agd (ak (aj 1) (ak (aj 4) ao))))) (bC (sA 6 (cC [none] ["worth"] (bZ (aj 5)) (gV 0) (yU (tK (aL nW (aj 0) (vC .non))) (vG "NOTHING" (.tup [(.int 0),(.int 1)])) (aj 0)))) (bC (sA 7 (cC [none,none] ["worth", "last"] (iZ (ak (aj 5) (ak (aj 2) ao))) (iw 2 (cj (gV 0) (cj (gV 1) iu))) (yU (tK (aL nW (aj 0) (vC .non))) (aj 1) (aj 0)))) (b1 (dY (jt 3 (ak (iK (ak (Uh (ak (aj 0) (ak (aj 6) ao))) (ak (Uh (ak (aj 0) (ak (aj 7) ao))) ao))) ao))))))))) (b1 (aC (aj 3)))))
noncomputable abbrev agt:SF:=by exists U4
noncomputable def U5:FP:=aO 8 agt
noncomputable abbrev agu{f:AF}(a:VA f):=vF "bounds_by" ["rule", "seen", "lasts"] U5 6 a
noncomputable abbrev U6:=(bC (sA 2 (uY [none,some 1] ["thing", "things"] (dJ (ak (aX (ak (aj 0) ao)) ao)) (gV 0) (tK (aL G9 (aj 0) (aj 1))) (aj 0))) (bC (sI (tW .Or (wO (bR (bH (aj 1))) (w1 .Or (bR (bH (aj 2)))))) (b1 (aC (vC .non))) b0) (bC (sA 3 (cC [none,some 0] ["thing", "bounds"] (bZ (aj 1)) (gV 0) (aq (aq (aj 1) (aj 0)) (vC (.int 0))))) (bC (sA 4 (cC [none,some 0] ["thing", "bounds"] (bZ (aj 2)) (gV 0) (aq (aq (aj 1) (aj 0)) (vC (.int 1))))) (b1 (aC (iK (ak (aq (aj 1) (aq (n8 (ak (aj 3) ao)) (Ed (vC (.int 1))))) (ak (aq (aj 2) (aq (n8 (ak (aj 4) ao)) (vC (.int 0)))) ao)))))))))
noncomputable abbrev agv:SF:=by exists U6
noncomputable def U7:FP:=aO 5 agv
noncomputable abbrev U8{f:AF}(a:VA f):=vF "weakest_and_rival" ["bounds", "things"] U7 5 a
noncomputable abbrev U9:=(bC (sA 2 (aE (U8 (ak (aj 0) (ak (aj 1) ao))))) (bC (sI (tK (aL nW (aj 2) (vC .non))) (b1 (aC (vC (.bl true)))) b0) (bC (uH (aj 2) (iw 2 (cj (gV 3) (cj (gV 4) iu)))) (b1 (aC (Pn (afC (ak (aq (aq (aj 0) (aj 3)) (vC (.int 0))) (ak (aq (aq (aj 0) (aj 4)) (vC (.int 1))) ao)))))))))
noncomputable abbrev agw:SF:=by exists U9
noncomputable def Va:FP:=aO 5 agw
noncomputable abbrev agx{f:AF}(a:VA f):=vF "are_sure" ["bounds", "things"] Va 6 a
noncomputable abbrev Vb:=(bC (sI (tW .Or (wO (bR (bH (nZ (aj 0)))) (w1 .Or (bR (bH (nY (ak (fJ (cC [none,some 1] ["part", "many"] (bZ (aj 0)) (gV 0) (Ah (ak (aj 0) (ak (aj 1) ao))))) ao))))))) (b1 (aC (vC (.bl false)))) b0) (b1 (aC (Ur (ak (aj 0) ao)))))
noncomputable abbrev agy:SF:=by exists Vb
noncomputable def Vc:FP:=aO 2 agy
noncomputable abbrev agz{f:AF}(a:VA f):=vF "are_things" ["thing", "many"] Vc 3 a
noncomputable abbrev Vd:=(bC (sA 3 (aE (afA (ak (Ag (ak (iK (ak (aj 2) (ak (vC (.int 1)) ao))) (ak (aj 1) ao))) (ak (afx (ak (aj 1) (ak (aj 0) ao))) ao))))) (bC (sA 4 (aE (dD (fK (aq (aj 3) (vC (.int 0))) (aq (aj 3) (vC (.int 1)))) (vC (.int 1))))) (b1 (aC (iK (ak (nU (aj 4) (vC (.int 1))) (ak (aj 4) ao)))))))
noncomputable abbrev agA:SF:=by exists Vd
noncomputable def Ve:FP:=aO 5 agA
noncomputable abbrev agB{f:AF}(a:VA f):=vF "shrink_between" ["low", "high", "lists"] Ve 4 a
noncomputable abbrev Vf:=(dC (Hi 4 (wE (dI ao))) (dC (sN (sF (iZ (ak (aj 0) (ak (aj 1) ao))) (iw 2 (cj (gV 5) (cj (gV 6) iu))) (bC (sO 7 (cC [none] ["worth"] (bZ (aj 5)) (gV 0) (yU (tK (aL nW (aj 0) (vC .non))) (vG "NOTHING" (.tup [(.int 0),(.int 1)])) (aj 0)))) (bC (sI (tK (aL nW (aq (aj 5) (aj 2)) (vC .non))) (b1 (sS 7 (aj 2) (Ag (ak (aj 6) (ak (aj 3) ao))))) b0) (b1 (sWa 4 (afm (wM 7) afl))))))) (dR (wM 4))))
noncomputable abbrev agC:DF:=Ho Vf
noncomputable def Vg:FP:=lZ 8 agC
noncomputable abbrev agD{f:AF}(a:VA f):=Hg "raised_book" ["seen", "lasts", "rival", "shrink"] Vg 4 a
noncomputable def fT(x:Int × Int):Tr:=.tup [.int x.1,.int x.2]
noncomputable def aJ(l:List (Int × Int)):Tr:=.lst (l.map fT)
noncomputable def aZ(ls:List (List (Int × Int))):Tr:=.lst (ls.map aJ)
noncomputable def Wo(x:Int × Int):Prop:=0<=x.1/\x.1<=x.2/\1<=x.2/\x.2<=1000000000000/\Int.gcd x.1 x.2=1
noncomputable instance (x:Int × Int):Decidable (Wo x):=by unfold Wo; infer_instance
noncomputable def Shp(c:Nat)(ls:List (List (Int × Int))):Prop:=∀l∈ls,l.length=c/\∀x∈l,Wo x
noncomputable def Bk(c:Nat)(ls:List (List (Int × Int))):Prop:=1<=ls.length/\ls.length<=4/\1<=c/\c<=12/\Shp c ls
theorem Vh{k:Int}{M:Nat}(h:k.natAbs<2 ^ M)(hM:M<=8900):k.natAbs.log2<9000:=by
 by_cases z:k.natAbs=0
 .rw[z]; decide
 .have:=(Nat.log2_lt (n:=k.natAbs) (k:=M) z).mpr h
  lia
theorem Vi(h:k.natAbs<2 ^ M)(hM:M<=8900):fit k=true:=by
 have:=Vh h hM
 unfold fit
 rw[decide_eq_true_eq]
 lia
theorem jw(h1:i.natAbs<2 ^ M)(hM:M<=8900)(h2:j.natAbs<2 ^ N)(hN:N<=8900):cM i j=true:=by
 unfold cM
 rw[Vi h1 hM,Vi h2 hN]
 rfl
theorem vg(h0:j≠0)(h:j.natAbs<2 ^ M)(hM:M<=8900):gO i j=true:=by
 unfold gO
 rw[Bool.and_eq_true,decide_eq_true_eq,decide_eq_true_eq]
 exact⟨h0,Vh h hM⟩
theorem iz(M:Nat):((2 ^ M:Nat):Int)=2 ^ M:=by push_cast; rfl
theorem oh{xs:List Tr}{i:Nat}(h:xs[i]?=some T):aY (.lst xs) (.int i)=.ok (T,false):=by
 obtain⟨hi,e⟩:=List.getElem?_eq_some_iff.mp h
 show(match cW xs i with
  |some t=>Rs.ok (t,false)
  |none=>.bad)=_
 have:cW xs (i:Int)=some T:=by
  unfold cW eH
  simp[hi,e]
 rw[this]
theorem j9{xs:List Tr}{i:Nat}(h:xs[i]?=some T):aY (.lst xs) (.int i)=.ok (T,false):=oh h
theorem oK{l:List (Int × Int)}{i:Nat}(h:i<l.length):aY (aJ l) (.int i)=.ok (fT (l.getD i (0,1)),false):=oh (by simp[h])
theorem jR(rows:List (List (Int × Int))):fZ (aZ rows)=.ok (.int (rows.length:Nat),false):=by
 show Rs.ok (Tr.int ((rows.map aJ).length:Int),false)=_
 rw[List.length_map]
theorem Hy(h:rows[k]?=some l):aY (aZ rows) (.int (k:Nat))=.ok (aJ l,false):=j9 (by rw[List.getElem?_map,h]; rfl)
theorem jd(l:List (Int × Int)):fZ (aJ l)=.ok (.int (l.length:Nat),false):=by
 show Rs.ok (Tr.int ((l.map fT).length:Int),false)=_
 rw[List.length_map]
theorem Vj{α : Type}{p : α -> Bool}:∀xs:List α,tU (xs.map λx=>.bl (p x))=some (xs.map p)
 | []=>rfl
 |x::xs=>by simp[tU,Vj xs]
theorem all_true{α : Type}(xs:List α):qJ (.lst (xs.map λ_=>Tr.bl true))=.ok (.bl true,false):=by
 have e:=Vj (p:=λ_=>true) xs
 unfold qJ
 simp -dsimp[e]
theorem Hz(a b:Int):R8 [.int a,.int b]=.ok (.int (Int.gcd a b:Nat),false):=by
 walk_at "d"
 refine R3 [] (λs:Int × Int=>[(0,.sh (.int s.1)),(1,.sh (.int s.2))]) (λs=>Int.gcd s.1 s.2=Int.gcd a b) (λs=>s.2.natAbs) (a,b) rfl rfl (by show b.natAbs<b.natAbs+1; lia) ?_
 rintro v ⟨x,y⟩ h
 dsimp only[pt,List.map,List.set]at *
 by_cases z:y=0
 .subst z
  have e:tR (.int x)=.ok (.int (Int.gcd a b:Nat),false):=by
   rw[<-h]
   exact congrArg (λi=>Rs.ok (Tr.int i,false)) (acP x)
  apply Ac
  walk_at "r"
 .have e:eU (.int y) (.int 0)=.ok (.bl true,false):=by rw[J6,decide_eq_false z]; rfl
  apply Ac
  walk_at "r"
  exact⟨(y,x.fmod y),by rw[<-h]; exact Nt ..,Nr x y z,λ_=>.un,rfl⟩
theorem vh{i:Int}:SQ [.int i]=.ok (.bl true,false):=rfl
theorem Vk{x:Int × Int}(h1:1<=x.2)(h2:Int.gcd x.1 x.2=1):S5 [fT x]=.ok (.bl true,false):=by
 have e:=Hz x.1 x.2
 rw[h2]at e
 have w1:=vh (i:=x.1)
 have w2:=vh (i:=x.2)
 walk_at "d"
theorem agE{x:Int × Int}(h:Wo x):S8 [fT x]=.ok (.bl true,false):=by
 obtain⟨h1,h2,h3,h4,h5⟩:=h
 have e:=Vk h3 h5
 walk_at "d"
 exact congrArg (λb=>Rs.ok (Tr.bl b,false)) (decide_eq_true h2)
theorem agF{l:List (Int × Int)}{m:Int}(h:∀x∈l,Wo x)(h1:1<=l.length)(h2:l.length<=m)(hm:m<=1000):Tc [aJ l,.int m]=.ok (.bl true,false):=by
 have e:=jd l
 have t:mZ (aJ l) .list=true:=rfl
 walk_at "d"
 exact agE (h x hx)
 walk_at "r"
 exact all_true l
 walk_at "r"
theorem agG{m:Nat}{rows:List (List (Int × Int))}(hB:Bk m rows):Tf [aZ rows]=.ok (.bl true,false):=by
 obtain⟨b1,b2,b3,b4,b5⟩:=hB
 have e:=jR rows
 have hl:rows[0]?=some rows[0]:=List.getElem?_eq_getElem b1
 have e0:aY (aZ rows) (.int 0)=.ok (aJ rows[0],false):=Hy hl
 have HB:=jd rows[0]
 rw[(b5 _ (List.mem_of_getElem? hl)).1]at HB
 walk_at "d"
 exact agF (b5 x hx).2 (by rw[(b5 x hx).1]; exact b3) (by rw[(b5 x hx).1]; lia) (by lia)
 walk_at "r"
 exact all_true rows
 walk_at "r"
 rw[List.map_congr_left (g:=λ_=>Tr.bl true) λx hx=>by(try rw[List.length_map]); rw[(b5 x hx).1,decide_eq_true rfl]]
 exact all_true rows
 walk_at "r"
theorem Vl{m:Nat}{rows:List (List (Int × Int))}(hB:Bk m rows):TY [aZ rows]=.ok (.non,false):=by
 have e:=agG hB
 walk_at "d"
theorem Ai(k n:Int):TQ [.int k,.int n]=.ok (.bl (decide (0<=k)&&decide (k<n)),false):=by
 have w:=vh (i:=k)
 by_cases h:0<=k
 .rw[decide_eq_true h]
  walk_at "d"
 .rw[decide_eq_false h]
  walk_at "d"
theorem agH{rows:List (List (Int × Int))}{k:Nat}(h:k<rows.length):T4 [aZ rows,.int k]=.ok (.non,false):=by
 have l:=jR rows
 have e:=Ai k rows.length
 rw[decide_eq_true (by lia),decide_eq_true (by lia)]at e
 walk_at "d"
noncomputable def Frs(N:Nat)(l:List (Int × Int)):Prop:=∀x∈l,1<=x.2/\x.2<2 ^ N/\x.1.natAbs<2 ^ N
theorem agI{B q:Int}(hB:1<=B)(hq:1<=q):let B':=(B*q).fdiv ((Int.gcd B q:Nat):Int); 1<=B'/\B∣B'/\q∣B'/\B'<=B*q/\∀D,B∣D->q∣D->B'∣D:=by
 have g0:0<Int.gcd B q:=Int.gcd_pos_of_ne_zero_left _ (by lia)
 have p:=Int.mul_pos (a:=B) (b:=q) (by lia) (by lia)
 have m:=Int.gcd_mul_lcm B q
 rw[<-Int.natAbs_mul]at m
 have e:B*q=((Int.gcd B q:Nat):Int)*(Int.lcm B q:Nat):=by rw[<-Int.natCast_mul,m]; lia
 have f:(B*q).fdiv ((Int.gcd B q:Nat):Int)=(Int.lcm B q:Nat):=by
  rw[Int.fdiv_eq_ediv_of_nonneg _ (by lia),e]
  exact Int.mul_ediv_cancel_left _ (by lia)
 dsimp only
 rw[f]
 have:=Int.lcm_pos (m:=B) (n:=q) (by lia) (by lia)
 refine⟨by lia,Int.dvd_lcm_left ..,Int.dvd_lcm_right ..,?_,λD=>Int.coe_lcm_dvd⟩
 rw[<-f,Int.fdiv_eq_ediv_of_nonneg _ (by lia)]
 exact Int.ediv_le_self _ (by lia)
theorem agJ{N:Nat}(l:List (Int × Int))(h:Frs N l)(hl:1+N*l.length<=8900)(hN:N<=8900):∃z,Tn [.lst (l.map fT)]=.ok z/\∃B:Int,(1<=B/\B<2 ^ (1+N*l.length)/\(∀x∈l,x.2∣B)/\∀D,(∀x∈l,x.2∣D)->B∣D)/\z=(.int B,false):=by
 walk_at "e"
 refine jO [2,3] (λB:Int=>[(1,.sh (.int B))]) (λk B=>1<=B/\B<2 ^ (1+N*k)/\(∀x∈l.take k,x.2∣B)/\∀D,(∀x∈l.take k,x.2∣D)->B∣D) 1 ⟨Int.le_refl _,by rw[Nat.mul_zero]; decide,λx hx=>(by cases hx),λD _=>Int.one_dvd _⟩ rfl (λk x v B hx hB=>?_) λv B hB=>?_
 .obtain⟨h1,h2,h3,h4⟩:=hB
  have hk:=(List.getElem?_eq_some_iff.mp hx).1
  obtain⟨a1,a2,_⟩:=h x (List.mem_of_getElem? hx)
  obtain⟨b1,b2,b3,b4,b5⟩:=agI h1 a1
  have tk:l.take (k+1)=l.take k++[x]:=by rw[List.take_add_one,hx]; rfl
  have hle:1+N*k<=8900:=by
   have:=Nat.mul_le_mul_left N (Nat.le_of_lt hk)
   lia
  have n1:=iz (1+N*k)
  have n2:=iz N
  have g:=Hz B x.2
  have c1:cM B x.2=true:=jw (M:=1+N*k) (N:=N) (by lia) hle (by lia) hN
  have c2:∀i,gO i ((Int.gcd B x.2:Nat):Int)=true:=λi=>by
   have:=Int.gcd_pos_of_ne_zero_left (a:=B) x.2 (by lia)
   have:=Int.gcd_le_right (a:=B) (b:=x.2) (by lia)
   exact vg (M:=N) (by lia) (by lia) hN
  walk_at "p"
  refine⟨(B*x.2).fdiv ((Int.gcd B x.2:Nat):Int),⟨b1,?_,λy hy=>?_,λD d=>?_⟩,exV rfl⟩
  .have:=Int.mul_lt_mul_of_pos_right h2 (show 0<(2:Int) ^ N by lia)
   have:=Int.mul_le_mul_of_nonneg_left (show x.2<=2 ^ N by lia) (show 0<=B by lia)
   rw[Nat.mul_succ,<-Nat.add_assoc,Int.pow_add]
   lia
  .rw[tk]at hy
   rcases List.mem_append.mp hy with hy|hy
   .exact Int.dvd_trans (h3 y hy) b2
   .rw[List.mem_singleton.mp hy]
    exact b3
  .rw[tk]at d
   exact b5 D (h4 D λy hy=>d y (List.mem_append_left _ hy)) (d x (List.mem_append_right _ (List.mem_singleton.mpr rfl)))
 .rw[List.take_length]at hB
  walk_at "r"
  exact⟨_,rfl,B,hB,rfl⟩
theorem agK{N:Nat}(l:List (Int × Int))(h:Frs N l)(hl:1+N*l.length<=8900)(hN:N<=8900)(hl2:l.length<=1000):∃B:Int,Tz [.lst (l.map fT)]=.ok (.lst (l.map λx=>.int (x.1*B.fdiv x.2)),true)/\1<=B/\∀x∈l,x.2∣B:=by
 obtain⟨_,e,B,⟨h1,h2,h3,_⟩,rfl⟩:=agJ l h hl hN
 have q:∀x∈l,gO B x.2=true/\cM x.1 (B.fdiv x.2)=true:=λx hx=>by
  obtain⟨a1,a2,a3⟩:=h x hx
  have d0:=Int.ediv_nonneg (a:=B) (b:=x.2) (by lia) (by lia)
  have d1:=Int.ediv_le_self (a:=B) x.2 (by lia)
  have nB:=iz (1+N*l.length)
  have nN:=iz N
  rw[<-Int.fdiv_eq_ediv_of_nonneg B (b:=x.2) (by lia)]at d0 d1
  exact⟨vg (M:=N) (by lia) (by lia) hN,jw (M:=N) (N:=1+N*l.length) a3 hN (by lia) hl⟩
 refine⟨B,?_,h1,h3⟩
 walk_at "d"
 exact(q x hx).1
 walk_at "r"
 exact(q x hx).2
 walk_at "r"
noncomputable def eX(l:List (Int × Int))(i j:Nat):Prop:=(l.getD j (0,1)).1*(l.getD i (0,1)).2<(l.getD i (0,1)).1*(l.getD j (0,1)).2\/((l.getD j (0,1)).1*(l.getD i (0,1)).2=(l.getD i (0,1)).1*(l.getD j (0,1)).2/\i<j)
noncomputable def Fall(l:List (Int × Int))(ys:List Nat):Prop:=ys.Perm (List.range l.length)/\ys.Pairwise (eX l)
theorem keysOk{kt:Tr->Option (Int × Int)}{fb:RF}{ts:List (Option Tr)}{κ : Nat->Int × Int}:∀(is:List Nat),(∀i∈is,∃t,fb (some (.int (i:Int))::ts)=.ok t/\kt t=some (κ i))->rJ kt fb ts is=.ok (is.map κ)
 | [],_=>rfl
 |i::is,h=>by
  obtain⟨t,e,k⟩:=h i (List.mem_cons_self ..)
  have r:=keysOk is λj hj=>h j (List.mem_cons_of_mem _ hj)
  unfold rJ
  rw[e,r]
  dsimp only[Rs.bind]
  rw[k]
  rfl
theorem xSK{kt:Tr->Option (Int × Int)}{src:List (Option Nat)}{fa:AF}{fb:RF}{n:Nat}{b:Bool}(κ : Nat->Int × Int)(h:fa ρ=.ok ([.v (.int (n:Int)) b],ρ1))(hn:n<64)(hk:∀i,i<n->∃t,fb (some (.int (i:Int))::zZ src ρ1)=.ok t/\kt t=some (κ i)):∃ys:List Nat,Gv kt src fa fb ρ=.ok (.v (.lst (ys.map λi:Nat=>Tr.int i)) true,ρ1)/\ys.Perm (List.range n)/\ys.Pairwise (iR κ):=by
 have e:=keysOk (List.range n) λi hi=>hk i (List.mem_range.mp hi)
 have hs:=Q9 n λi=>((List.range n).map κ).getD i (0,0)
 refine⟨_,bk h ((if_pos ⟨Int.natCast_nonneg n,by lia⟩).trans (by rw[Int.toNat_natCast,e]; rfl)),hs.1,hs.2.imp_of_mem λ{i j} hi hj hb=>?_⟩
 have hi:=List.mem_range.mp (hs.1.mem_iff.mp hi)
 have hj:=List.mem_range.mp (hs.1.mem_iff.mp hj)
 have g:∀i,i<n->((List.range n).map κ).getD i (0,0) = κ i:=λi hi=>by simp[hi]
 unfold iR at hb ⊢
 dsimp only at hb
 rw[g i hi,g j hj]at hb
 exact hb
theorem top_lt{B p q r s:Int}(hB:1<=B)(hq:1<=q)(hs:1<=s)(dq:q∣B)(ds:s∣B):(p*B.fdiv q<r*B.fdiv s↔p*s<r*q)/\(p*B.fdiv q=r*B.fdiv s↔p*s=r*q):=by
 obtain⟨a,ha⟩:=dq
 obtain⟨b,hb⟩:=ds
 have e1:B.fdiv q=a:=by rw[ha]; exact Int.mul_fdiv_cancel_left _ (by lia)
 have e2:B.fdiv s=b:=by rw[hb]; exact Int.mul_fdiv_cancel_left _ (by lia)
 rw[e1,e2]
 have x1:(p*a)*(q*s)=(p*s)*B:=by rw[ha]; ac_rfl
 have x2:(r*b)*(q*s)=(r*q)*B:=by rw[hb]; ac_rfl
 have qs:0<q*s:=Int.mul_pos (by lia) (by lia)
 refine⟨?_,?_⟩
 .rw[<-Int.mul_lt_mul_right qs,x1,x2,Int.mul_lt_mul_right (show 0<B by lia)]
 .rw[<-Int.mul_eq_mul_right_iff (c:=q*s) (by lia),x1,x2,Int.mul_eq_mul_right_iff (show B≠0 by lia)]
theorem HD{N:Nat}(l:List (Int × Int))(h:Frs N l)(hl:1+N*l.length<=8900)(hN:N<=8900)(h64:l.length<64):∃ys,rO [aJ l]=.ok (.lst (ys.map λi:Nat=>Tr.int i),true)/\Fall l ys:=by
 obtain⟨B,e,h1,h3⟩:=agK l h hl hN (by lia)
 have g:∀i,i<l.length->l.getD i (0,1)∈l:=λi hi=>by simp[hi]
 obtain⟨ys,e2,p,q⟩:=xSK (ρ:=[.sh (.lst (l.map fT)),.sh (.lst (l.map λx=>.int (x.1*B.fdiv x.2)))]) (kt:=Gy) (src:=[some 1]) (fa:=j4 (qX (g1 fZ) (j4 (iC 1) kh)) kh) (fb:=Ri ql (Rh aY (zY 1) (zY 0))) (λi=>(-((l.getD i (0,1)).1*B.fdiv (l.getD i (0,1)).2),0)) (vW (xC1 rfl rfl J7) rfl) h64 λi hi=>by
  have ix:aY (.lst (l.map λx=>.int (x.1*B.fdiv x.2))) (.int (i:Int))=.ok (.int ((l.getD i (0,1)).1*B.fdiv (l.getD i (0,1)).2),false):=oh (by simp[hi])
  exact⟨.int (-((l.getD i (0,1)).1*B.fdiv (l.getD i (0,1)).2)),bk (bk rfl (bk rfl (bk ix rfl))) rfl,rfl⟩
 refine⟨ys,?_,p,q.imp_of_mem λ{i j} hi hj hb=>?_⟩
 .unfold aJ
  walk_at "d"
 .have m1:=g i (List.mem_range.mp (p.mem_iff.mp hi))
  have m2:=g j (List.mem_range.mp (p.mem_iff.mp hj))
  have t:=top_lt (p:=(l.getD j (0,1)).1) (r:=(l.getD i (0,1)).1) h1 (h _ m2).1 (h _ m1).1 (h3 _ m2) (h3 _ m1)
  unfold iR at hb
  dsimp only at hb
  unfold eX
  rw[<-t.1,<-t.2]
  simp only[Int.neg_lt_neg_iff,Int.neg_inj]at hb
  rcases hb with(h|⟨_,h⟩)|⟨⟨h1,_⟩,h3⟩
  .exact .inl h
  .exact absurd h (Int.lt_irrefl 0)
  .exact .inr ⟨h1.symm,h3⟩
theorem Wo.frs(h:∀x∈l,Wo x):Frs 40 l:=λx hx=>by
 obtain⟨h1,h2,h3,h4,h5⟩:=h x hx
 exact⟨h3,by lia,by lia⟩
theorem order_eq{c:Nat}{ls:List (List (Int × Int))}(h:Bk c ls){k:Nat}{l:List (Int × Int)}(hk:ls[k]?=some l):∃ys,afX [aZ ls,.int k]=.ok (.lst (ys.map λi:Nat=>Tr.int i),true)/\Fall l ys:=by
 have hl:=h.2.2.2.2 l (List.mem_of_getElem? hk)
 have:=h.2.2.2.1
 obtain⟨ys,e,hf⟩:=HD (N:=40) l (Wo.frs hl.2) (by rw[hl.1]; lia) (by lia) (by rw[hl.1]; lia)
 have e1:=Hy hk
 have e2:=agH (List.getElem?_eq_some_iff.mp hk).1
 have e3:=Vl h
 refine⟨ys,?_,hf⟩
 walk_at "d"
theorem Vm{α : Type}(xs:List α)(k:Nat):L2.cut xs (some (k:Int)) none=xs.drop k:=by
 unfold L2.cut HT.aQ
 by_cases h:(k:Int)<0
 .lia
 .simp only[h,if_false,Int.toNat_natCast]
  by_cases z:k<=xs.length
  .rw[Nat.min_eq_left z]
   exact List.take_of_length_le (by simp)
  .rw[Nat.min_eq_right (by lia),List.drop_eq_nil_of_le (by lia),List.drop_eq_nil_of_le (by lia)]
   simp
theorem Vo{α : Type}(xs:List α)(k:Nat):L2.cut xs none (some (k:Int))=xs.take k:=by
 unfold L2.cut HT.aQ
 by_cases h:(k:Int)<0
 .lia
 .simp only[h,if_false,Int.toNat_natCast,Nat.sub_zero,List.drop_zero]
  by_cases z:k<=xs.length
  .rw[Nat.min_eq_left z]
  .rw[Nat.min_eq_right (by lia),List.take_of_length_le (by lia),List.take_of_length_le (by lia)]
noncomputable def nT(ys:List Nat):Tr:=.lst (ys.map λi:Nat=>Tr.int i)
theorem Vp(i:Int):dep (.int i)=0:=rfl
theorem agL(ts:List Tr):dep (.tup ts)=deps ts+1:=by simp only[dep]
theorem Aj(ts:List Tr):dep (.lst ts)=deps ts+1:=by simp only[dep]
theorem HF:deps []=0:=rfl
theorem vm(t:Tr)(ts:List Tr):deps (t::ts)=max (dep t) (deps ts):=by simp only[deps]
theorem HJ:∀{ts:List Tr},(∀t∈ts,dep t<=n)->deps ts<=n
 | [],_=>by rw[HF]; lia
 |t::ts,h=>by
  rw[vm]
  have h1:=h t (by simp)
  have h2:=HJ (ts:=ts) λu hu=>h u (by simp[hu])
  lia
theorem Vq(x:Int × Int):dep (fT x)=1:=by unfold fT; rw[agL,vm,vm,Vp,Vp,HF]; rfl
theorem agM(l:List (Int × Int)):dep (aJ l)<=2:=by
 unfold aJ
 rw[Aj]
 have:=HJ (n:=1) (ts:=l.map fT) λt ht=>by
  obtain⟨x,_,rfl⟩:=List.mem_map.mp ht
  rw[Vq]; lia
 lia
theorem Vr(ls:List (List (Int × Int))):dep (aZ ls)<=3:=by
 unfold aZ
 rw[Aj]
 have:=HJ (n:=2) (ts:=ls.map aJ) λt ht=>by
  obtain⟨x,_,rfl⟩:=List.mem_map.mp ht
  exact agM x
 lia
theorem vo(h:dep T<=40):eU T T=.ok (.bl false,false):=by
 unfold eU
 rw[if_pos ⟨h,h⟩,xu]
 rfl
noncomputable def aN(x y:Int × Int):Bool:=decide (x.1*y.2<y.1*x.2)
noncomputable def at2(l:List (Int × Int))(i:Nat):Int × Int:=l.getD i (0,1)
theorem iW(n k:Int)(h:0<k):0<=n.fmod k/\n.fmod k<k:=⟨Int.fmod_nonneg_of_pos n h,Int.fmod_lt_of_pos n h⟩
noncomputable def red(a b:Int):Int × Int:=(a / ((Int.gcd a b:Nat):Int),b / ((Int.gcd a b:Nat):Int))
noncomputable def Fq(M:Nat)(x:Int × Int):Prop:=0<=x.1/\x.1<2 ^ M/\1<=x.2/\x.2<2 ^ M/\Int.gcd x.1 x.2=1
theorem vp(ha:0<=a)(ha2:a<2 ^ M)(hb:1<=b)(hb2:b<2 ^ M):Fq M (red a b):=by
 obtain⟨g1,g2,g3,g4,g5,g6,g7⟩:=o9 (a:=a) (b:=b) (by lia)
 have d1:=Int.ediv_le_self (a:=a) ((Int.gcd a b:Nat):Int) ha
 have d2:=Int.ediv_le_self (a:=b) ((Int.gcd a b:Nat):Int) (by lia)
 exact⟨g5 ha,by unfold red; dsimp only; lia,g3,by unfold red; dsimp only; lia,g4⟩
theorem fM(hb:1<=b):a*(red a b).2=(red a b).1*b/\1<=(red a b).2/\Int.gcd (red a b).1 (red a b).2=1:=by
 obtain⟨g1,g2,g3,g4,g5,g6,g7⟩:=o9 (a:=a) (b:=b) (by lia)
 refine⟨?_,g3,g4⟩
 show a*(b / ((Int.gcd a b:Nat):Int))=(a / ((Int.gcd a b:Nat):Int))*b
 generalize ((Int.gcd a b:Nat):Int)=g at *
 generalize b / g=q,a / g=p at *
 rw[g6,g7]
 ac_rfl
noncomputable def le2(x y:Int × Int):Prop:=x.1*y.2<=y.1*x.2
theorem jx:aN x y=false↔le2 y x:=by
 unfold aN le2
 rw[decide_eq_false_iff_not,Int.not_lt]
theorem p8(x:Int × Int):le2 x x:=Int.le_refl _
theorem rP(hx:1<=x.2)(hy:1<=y.2)(hz:1<=z.2)(h1:le2 x y)(h2:le2 y z):le2 x z:=by
 unfold le2 at *
 have a1:=Int.mul_le_mul_of_nonneg_right h1 (show 0<=z.2 by lia)
 have a2:=Int.mul_le_mul_of_nonneg_right h2 (show 0<=x.2 by lia)
 have e1:x.1*y.2*z.2=(x.1*z.2)*y.2:=by ac_rfl
 have e2:y.1*x.2*z.2=y.1*z.2*x.2:=by ac_rfl
 have e3:z.1*y.2*x.2=(z.1*x.2)*y.2:=by ac_rfl
 rw[e1,e2]at a1
 rw[e3]at a2
 exact Int.le_of_mul_le_mul_right (Int.le_trans a1 a2) (by lia)
theorem agN(hx:1<=x.2)(hy:1<=y.2)(gx:Int.gcd x.1 x.2=1)(gy:Int.gcd y.1 y.2=1)(h1:le2 x y)(h2:le2 y x):x=y:=by
 unfold le2 at *
 have:=acQ hx hy gx gy (Int.le_antisymm h1 h2)
 exact Prod.ext this.1 this.2
theorem HN(hb:1<=b)(hd:1<=d)(h:a*d<=c*b):le2 (red a b) (red c d):=by
 obtain⟨e1,p1,_⟩:=fM (a:=a) hb
 obtain⟨e2,p2,_⟩:=fM (a:=c) hd
 generalize red c d=y,red a b=x at *
 unfold le2
 have a1:=Int.mul_le_mul_of_nonneg_right h (Int.mul_nonneg (show 0<=x.2 by lia) (show 0<=y.2 by lia))
 have e3:a*d*(x.2*y.2)=(a*x.2)*(d*y.2):=by ac_rfl
 have e4:c*b*(x.2*y.2)=(c*y.2)*(b*x.2):=by ac_rfl
 rw[e3,e4,e1,e2]at a1
 have e5:x.1*b*(d*y.2)=(x.1*y.2)*(b*d):=by ac_rfl
 have e6:y.1*d*(b*x.2)=(y.1*x.2)*(b*d):=by ac_rfl
 rw[e5,e6]at a1
 exact Int.le_of_mul_le_mul_right a1 (Int.mul_pos (by lia) (by lia))
noncomputable def sumF(x y:Int × Int):Int × Int:=red (x.1*y.2+y.1*x.2) (x.2*y.2)
noncomputable def aV(x y:Int × Int):Int × Int:=red (x.1*y.1) (x.2*y.2)
theorem gM{a b:Int}{M N:Nat}(ha:0<=a)(ha2:a<2 ^ M)(hb:0<=b)(hb2:b<2 ^ N):a*b<2 ^ (M+N):=by
 have p1:(0:Int)<2 ^ N:=Int.pow_pos (by lia)
 have q1:a*b<=a*2 ^ N:=Int.mul_le_mul_of_nonneg_left (by lia) ha
 have q2:a*2 ^ N<2 ^ M*2 ^ N:=Int.mul_lt_mul_of_pos_right ha2 p1
 rw[Int.pow_add]
 lia
theorem mD{x y:Int × Int}{M N:Nat}(hx:Fq M x)(hy:Fq N y):Fq (M+N) (aV x y) :=
 vp (Int.mul_nonneg hx.1 hy.1) (gM hx.1 hx.2.1 hy.1 hy.2.1) (by have:=Int.mul_pos (a:=x.2) (b:=y.2) (by have:=hx.2.2.1; lia) (by have:=hy.2.2.1; lia); lia) (gM (by have:=hx.2.2.1; lia) hx.2.2.2.1 (by have:=hy.2.2.1; lia) hy.2.2.2.1)
theorem HS{x y:Int × Int}{M N:Nat}(hx:Fq M x)(hy:Fq N y):Fq (M+N+1) (sumF x y):=by
 obtain⟨x1,x2,x3,x4,_⟩:=hx
 obtain⟨y1,y2,y3,y4,_⟩:=hy
 have m1:=gM x1 x2 (by lia) y4
 have m2:=gM y1 y2 (by lia) x4
 have m3:=gM (by lia) x4 (by lia) y4
 rw[Nat.add_comm N M]at m2
 have p:=Int.mul_pos (a:=x.2) (b:=y.2) (by lia) (by lia)
 have n1:=Int.mul_nonneg x1 (show 0<=y.2 by lia)
 have n2:=Int.mul_nonneg y1 (show 0<=x.2 by lia)
 have e:(2:Int) ^ (M+N+1)=2 ^ (M+N)*2:=Int.pow_succ ..
 exact vp (by lia) (by rw[e]; lia) (by lia) (by rw[e]; lia)
theorem agO(hw:0<=w.1)(hw2:1<=w.2)(hx:1<=x.2)(hy:1<=y.2)(h:le2 x y):le2 (aV w x) (aV w y):=by
 have p1:=Int.mul_pos (a:=w.2) (b:=x.2) (by lia) (by lia)
 have p2:=Int.mul_pos (a:=w.2) (b:=y.2) (by lia) (by lia)
 refine HN (by lia) (by lia) ?_
 unfold le2 at h
 have a1:=Int.mul_le_mul_of_nonneg_left h (Int.mul_nonneg hw (show 0<=w.2 by lia))
 have e1:w.1*x.1*(w.2*y.2)=w.1*w.2*(x.1*y.2):=by ac_rfl
 have e2:w.1*y.1*(w.2*x.2)=w.1*w.2*(y.1*x.2):=by ac_rfl
 rw[e1,e2]
 exact a1
theorem Vs(hw:0<=w.1)(hw2:1<=w.2)(hv:0<=v.1)(hv2:1<=v.2)(hx0:0<=x.1)(hy0:0<=y.1)(hx:1<=x.2)(hy:1<=y.2)(h:le2 w v)(h':le2 x y):le2 (aV w x) (aV v y):=by
 have p1:=Int.mul_pos (a:=w.2) (b:=x.2) (by lia) (by lia)
 have p2:=Int.mul_pos (a:=v.2) (b:=y.2) (by lia) (by lia)
 refine HN (by lia) (by lia) ?_
 unfold le2 at h h'
 have e1:w.1*x.1*(v.2*y.2)=(w.1*v.2)*(x.1*y.2):=by ac_rfl
 have e2:v.1*y.1*(w.2*x.2)=(v.1*w.2)*(y.1*x.2):=by ac_rfl
 rw[e1,e2]
 exact Int.mul_le_mul h h' (Int.mul_nonneg hx0 (by lia)) (Int.mul_nonneg hv (by lia))
theorem Vt(hw2:1<=w.2)(hv2:1<=v.2)(hx:1<=x.2)(hy:1<=y.2)(h:le2 w v)(h':le2 x y):le2 (sumF w x) (sumF v y):=by
 have p1:=Int.mul_pos (a:=w.2) (b:=x.2) (by lia) (by lia)
 have p2:=Int.mul_pos (a:=v.2) (b:=y.2) (by lia) (by lia)
 refine HN (by lia) (by lia) ?_
 unfold le2 at h h'
 have a1:=Int.mul_le_mul_of_nonneg_right h (Int.mul_nonneg (show 0<=x.2 by lia) (show 0<=y.2 by lia))
 have a2:=Int.mul_le_mul_of_nonneg_right h' (Int.mul_nonneg (show 0<=w.2 by lia) (show 0<=v.2 by lia))
 have e1:(w.1*x.2+x.1*w.2)*(v.2*y.2)=w.1*v.2*(x.2*y.2)+x.1*y.2*(w.2*v.2):=by rw[Int.add_mul]; ac_rfl
 have e2:(v.1*y.2+y.1*v.2)*(w.2*x.2)=v.1*w.2*(x.2*y.2)+y.1*x.2*(w.2*v.2):=by rw[Int.add_mul]; ac_rfl
 rw[e1,e2]
 lia
theorem mulC{x y:Int × Int}{M N:Nat}(hx:Fq M x)(hy:Fq N y)(hM:M+N<=8900):cM x.1 y.1=true/\cM x.1 y.2=true/\cM y.1 x.2=true/\cM x.2 y.2=true:=by
 obtain⟨x1,x2,x3,x4,_⟩:=hx
 obtain⟨y1,y2,y3,y4,_⟩:=hy
 have nM:=iz M
 have nN:=iz N
 exact⟨jw (M:=M) (N:=N) (by lia) (by lia) (by lia) (by lia),jw (M:=M) (N:=N) (by lia) (by lia) (by lia) (by lia),jw (M:=N) (N:=M) (by lia) (by lia) (by lia) (by lia),jw (M:=M) (N:=N) (by lia) (by lia) (by lia) (by lia)⟩
theorem Al(hb:1<=b)(hb2:b<2 ^ M)(hM:M<=8900):Sd [.int a,.int b]=.ok (fT (red a b),false):=by
 have g:=Hz a b
 have np:=iz M
 obtain⟨g1,g2,_⟩:=o9 (a:=a) (b:=b) (by lia)
 have c1:∀n,gO n ((Int.gcd a b:Nat):Int)=true:=λn=>vg (M:=M) (by lia) (by lia) hM
 walk_at "d"
 unfold fT red
 rw[Int.fdiv_eq_ediv_of_nonneg _ (by lia),Int.fdiv_eq_ediv_of_nonneg _ (by lia)]
 rfl
theorem Am{x y:Int × Int}{M N:Nat}(hx:Fq M x)(hy:Fq N y)(hM:M+N<=8900):Af [fT x,fT y]=.ok (fT (aV x y),false):=by
 obtain⟨c1,_,_,c2⟩:=mulC hx hy hM
 have p:=Int.mul_pos (a:=x.2) (b:=y.2) (by have:=hx.2.2.1; lia) (by have:=hy.2.2.1; lia)
 have e:=Al (a:=x.1*y.1) (b:=x.2*y.2) (M:=M+N) (by lia) (gM (by have:=hx.2.2.1; lia) hx.2.2.2.1 (by have:=hy.2.2.1; lia) hy.2.2.2.1) hM
 walk_at "d"
theorem agP{x y:Int × Int}{M N:Nat}(hx:Fq M x)(hy:Fq N y)(hM:M+N<=8900):Sh [fT x,fT y]=.ok (fT (sumF x y),false):=by
 obtain⟨_,c1,c2,c3⟩:=mulC hx hy hM
 have p:=Int.mul_pos (a:=x.2) (b:=y.2) (by have:=hx.2.2.1; lia) (by have:=hy.2.2.1; lia)
 have e:=Al (a:=x.1*y.2+y.1*x.2) (b:=x.2*y.2) (M:=M+N) (by lia) (gM (by have:=hx.2.2.1; lia) hx.2.2.2.1 (by have:=hy.2.2.1; lia) hy.2.2.2.1) hM
 walk_at "d"
noncomputable def dh(ps:List ((Int × Int) × (Int × Int)))(t:Int × Int):Int × Int:=ps.foldl (λt p=>sumF t (aV p.1 p.2)) t
noncomputable def dF(xs:List (Int × Int))(t:Int × Int):Int × Int:=xs.foldl aV t
theorem HW:∀(ps:List ((Int × Int) × (Int × Int))) (t:Int × Int) (M:Nat),Fq M t->(∀p∈ps,Fq 45 p.1/\Fq 45 p.2)->Fq (M+91*ps.length) (dh ps t)
 | [],t,M,h,_=>h
 |p::ps,t,M,h,hp=>by
  have h1:=mD (hp p (by simp)).1 (hp p (by simp)).2
  have h2:=HS h h1
  have:=HW ps _ _ h2 λq hq=>hp q (by simp[hq])
  rw[show M+91*(p::ps).length=M+(45+45)+1+91*ps.length by rw[List.length_cons]; lia]
  exact this
theorem HX:∀(ps:List (Int × Int)) (t:Int × Int) (M:Nat),Fq M t->(∀p∈ps,Fq 45 p)->Fq (M+45*ps.length) (dF ps t)
 | [],t,M,h,_=>h
 |p::ps,t,M,h,hp=>by
  have h2:=mD h (hp p (by simp))
  have:=HX ps _ _ h2 λq hq=>hp q (by simp[hq])
  rw[show M+45*(p::ps).length=M+45+45*ps.length by rw[List.length_cons]; lia]
  exact this
theorem Wo.fq(h:Wo x):Fq 45 x:=by
 obtain⟨h1,h2,h3,h4,h5⟩:=h
 exact⟨h1,by lia,h3,by lia,h5⟩
theorem agQ(ws xs:List (Int × Int)):iy (ws.map fT) (xs.map fT)=(ws.zip xs).map λp=>Tr.tup [fT p.1,fT p.2]:=by
 unfold iy
 rw[List.zip_map,List.map_map]
 rfl
theorem vq:Fq 1 (0,1):=by unfold Fq; decide
theorem Ao:Fq 1 (1,1):=by unfold Fq; decide
theorem Vu{ws xs:List (Int × Int)}(hw:∀w∈ws,Fq 45 w)(hx:∀x∈xs,Fq 45 x):∀p∈ws.zip xs,Fq 45 p.1/\Fq 45 p.2:=λp hp=>⟨hw _ (List.of_mem_zip hp).1,hx _ (List.of_mem_zip hp).2⟩
theorem agR{ws xs:List (Int × Int)}(hw:∀w∈ws,Fq 45 w)(hx:∀x∈xs,Fq 45 x)(hl:xs.length<=12):Ua [aJ ws,aJ xs]=.ok (fT (dh (ws.zip xs) (0,1)),false):=by
 have hz:(ws.zip xs).length<=12:=by rw[List.length_zip]; lia
 have hq:=Vu hw hx
 walk_at "d"
 rw[agQ]
 refine jO [3,4] (λs:Int × Int=>[(2,.sh (fT s))]) (λk s=>s=dh ((ws.zip xs).take k) (0,1)) (0,1) rfl rfl (λk p v s hp hs=>?_) λv s hs=>?_
 .subst hs
  have hk:=(List.getElem?_eq_some_iff.mp hp).1
  obtain⟨p1,p2⟩:=hq p (List.mem_of_getElem? hp)
  have f:=HW ((ws.zip xs).take k) (0,1) 1 vq λq m=>hq q (List.mem_of_mem_take m)
  rw[List.length_take]at f
  have e1:=Am p1 p2 (by lia)
  have e2:=agP f (mD p1 p2) (by lia)
  walk_at "p"
  exact⟨_,by rw[List.take_add_one,hp]; unfold dh; rw[List.foldl_append]; rfl,exV rfl⟩
 .rw[List.take_length]at hs
  subst hs
  walk_at "p"
theorem agS(hx:∀x∈xs,Fq 45 x)(hl:xs.length<=12):Uc [aJ xs]=.ok (fT (dF xs (1,1)),false):=by
 unfold aJ
 walk_at "d"
 refine jO [2] (λs:Int × Int=>[(1,.sh (fT s))]) (λk s=>s=dF (xs.take k) (1,1)) (1,1) rfl rfl (λk p v s hp hs=>?_) λv s hs=>?_
 .subst hs
  have hk:=(List.getElem?_eq_some_iff.mp hp).1
  have f:=HX (xs.take k) (1,1) 1 Ao λq m=>hx q (List.mem_of_mem_take m)
  rw[List.length_take]at f
  have e:=Am f (hx p (List.mem_of_getElem? hp)) (by lia)
  walk_at "p"
  exact⟨_,by rw[List.take_add_one,hp]; unfold dF; rw[List.foldl_append]; rfl,exV rfl⟩
 .rw[List.take_length]at hs
  subst hs
  walk_at "p"
noncomputable def cF(xs zs:List (Int × Int)):Prop:=zs.Perm xs/\zs.Pairwise λa b=>le2 b a
noncomputable def LT(xs:List (Int × Int)):Prop:=∀x∈xs,1<=x.2/\Int.gcd x.1 x.2=1
theorem Vv:∀{l m:List (Int × Int)},LT l->l.Perm m->l.Pairwise (λa b=>le2 b a)->m.Pairwise (λa b=>le2 b a)->l=m
 | [],m,_,p,_,_=>by rw[List.nil_perm.mp p]
 |a::l,[],_,p,_,_=>by simpa using p.length_eq
 |a::l,b::m,hl,p,h1,h2=>by
  have h1':=List.pairwise_cons.mp h1
  have h2':=List.pairwise_cons.mp h2
  have e:a=b:=by
   rcases List.mem_cons.mp (p.mem_iff.mp (List.mem_cons_self ..))with z|z
   .exact z
   .rcases List.mem_cons.mp (p.mem_iff.mpr (List.mem_cons_self (a:=b)))with y|y
    .exact y.symm
    .have a1:=h1'.1 b y
     have a2:=h2'.1 a z
     have la:=hl a (by simp)
     have lb:=hl b (by simp[y])
     exact agN la.1 lb.1 la.2 lb.2 a2 a1
  subst e
  rw[Vv (λx hx=>hl x (by simp[hx])) p.cons_inv h1'.2 h2'.2]
theorem cF.uniq(h:LT xs)(a:cF xs l)(b:cF xs m):l=m:=Vv (λx hx=>h x (a.1.mem_iff.mp hx)) (a.1.trans b.1.symm) a.2 b.2
theorem agT(xs:List (Int × Int)):(List.range xs.length).map (λi=>xs.getD i (0,1))=xs:=by
 apply List.ext_getElem
 .simp
 .intro i h1 h2
  simp[List.getD_eq_getElem?_getD,h2]
theorem Fall.dsc(h:Fall xs ys):cF xs (ys.map λi=>xs.getD i (0,1)):=by
 refine⟨?_,?_⟩
 .have:=h.1.map λi=>xs.getD i (0,1)
  rw[agT]at this
  exact this
 .rw[List.pairwise_map]
  refine h.2.imp λ{i j} hb=>?_
  unfold eX at hb
  unfold le2
  lia
theorem Vx:∀(xs:List (Int × Int)) (i:Nat) (v:Int × Int),(∀x,xs[i]?=some x->p x=true->p v=true)->xs.countP p<=(xs.set i v).countP p
 | [],i,v,_=>by simp
 |x::xs,0,v,h=>by
  have:=h x (by simp)
  simp only[List.set_cons_zero,List.countP_cons]
  cases e:p x with
  |false=>simp
  |true=>rw[this e]; simp
 |x::xs,i+1,v,h=>by
  have:=Vx xs i v λy hy=>h y (by simpa using hy)
  simp only[List.set_cons_succ,List.countP_cons]
  lia
theorem cF.mono{xs zs zs':List (Int × Int)}{i:Nat}{v:Int × Int}(hx:LT xs)(hv:1<=v.2)(hi:∀x,xs[i]?=some x->le2 x v)(a:cF xs zs)(b:cF (xs.set i v) zs'){k:Nat}{z z':Int × Int}(hz:zs[k]?=some z)(hz':zs'[k]?=some z'):le2 z z':=by
 refine Classical.byContradiction λhn=>?_
 have hx':∀x∈xs.set i v,1<=x.2:=λx m=>by
  rcases List.mem_or_eq_of_mem_set m with m|rfl
  .exact(hx x m).1
  .exact hv
 have pz:1<=z.2:=(hx z (a.1.mem_iff.mp (List.mem_of_getElem? hz))).1
 have pz':1<=z'.2:=hx' z' (b.1.mem_iff.mp (List.mem_of_getElem? hz'))
 have hlt:aN z' z=true:=by
  cases e:aN z' z with
  |true=>rfl
  |false=>exact absurd (jx.mp e) hn
 obtain⟨hk,ek⟩:=List.getElem?_eq_some_iff.mp hz
 obtain⟨hk',ek'⟩:=List.getElem?_eq_some_iff.mp hz'
 have pw:=List.pairwise_iff_getElem.mp a.2
 have pw':=List.pairwise_iff_getElem.mp b.2
 have up:∀x:Int × Int,1<=x.2->le2 z x->aN z' x=true:=λx px h=>by
  cases e:aN z' x with
  |true=>rfl
  |false=>exact absurd (rP pz px pz' h (jx.mp e)) hn
 have c1:k+1<=zs.countP (aN z'):=by
  rw[<-List.take_append_drop (k+1) zs,List.countP_append]
  have:(zs.take (k+1)).countP (aN z')=(zs.take (k+1)).length:=by
   rw[List.countP_eq_length]
   intro x m
   obtain⟨j,hj,rfl⟩:=List.getElem_of_mem m
   rw[List.getElem_take]
   have hj':j<k+1:=by rw[List.length_take]at hj; lia
   have jl:j<zs.length:=by lia
   refine up _ (hx _ (a.1.mem_iff.mp (List.getElem_mem jl))).1 ?_
   by_cases q:j=k
   .subst q; rw[ek]; exact p8 _
   .have:=pw j k jl hk (by lia)
    rw[ek]at this
    exact this
  rw[this,List.length_take]
  lia
 have c2:zs'.countP (aN z')<=k:=by
  rw[<-List.take_append_drop k zs',List.countP_append]
  have:(zs'.drop k).countP (aN z')=0:=by
   rw[List.countP_eq_zero]
   intro x m hp
   obtain⟨j,hj,rfl⟩:=List.getElem_of_mem m
   rw[List.getElem_drop]at hp
   have jl:k+j<zs'.length:=by rw[List.length_drop]at hj; lia
   have:le2 zs'[k+j] z':=by
    by_cases q:j=0
    .subst q
     have:zs'[k+0]=z':=ek'
     rw[this]; exact p8 _
    .have:=pw' k (k+j) hk' jl (by lia)
     rw[ek']at this
     exact this
   rw[jx.mpr this]at hp
   cases hp
  rw[this]
  have:=List.countP_le_length (p:=aN z') (l:=zs'.take k)
  rw[List.length_take]at this
  lia
 rw[a.1.countP_eq]at c1
 rw[b.1.countP_eq]at c2
 have:=Vx (p:=aN z') xs i v λx hxi hp=>by
  cases e:aN z' v with
  |true=>rfl
  |false =>
   have px:=(hx x (List.mem_of_getElem? hxi)).1
   have:=rP px hv pz' (hi x hxi) (jx.mp e)
   rw[jx.mpr this]at hp
   cases hp
 lia
theorem HY:∀(ws xs:List (Int × Int)) (i:Nat) (v t t':Int × Int),(∀w∈ws,Fq 45 w)->(∀x∈xs,1<=x.2)->1<=v.2->(∀x,xs[i]?=some x->le2 x v)->1<=t.2->1<=t'.2->le2 t t'->le2 (dh (ws.zip xs) t) (dh (ws.zip (xs.set i v)) t')
 | [],xs,i,v,t,t',_,_,_,_,_,_,h=>by simpa[dh]using h
 |w::ws,[],i,v,t,t',_,_,_,_,_,_,h=>by simpa[dh]using h
 |w::ws,x::xs,i,v,t,t',hw,hx,hv,hi,ht,ht',h=>by
  have fw:=hw w (by simp)
  have px:=hx x (by simp)
  have rp:∀y:Int × Int,1<=y.2->1<=(aV w y).2:=λy py=>(fM (a:=w.1*y.1) (by have:=Int.mul_pos (a:=w.2) (b:=y.2) (by have:=fw.2.2.1; lia) (by lia); lia)).2.1
  have sp:∀s y:Int × Int,1<=s.2->1<=y.2->1<=(sumF s y).2:=λs y ps py=>(fM (a:=s.1*y.2+y.1*s.2) (by have:=Int.mul_pos (a:=s.2) (b:=y.2) (by lia) (by lia); lia)).2.1
  cases i with
  |zero =>
   have lx:=hi x (by simp)
   show le2 (dh (ws.zip xs) (sumF t (aV w x))) (dh (ws.zip xs) (sumF t' (aV w v)))
   have:=HY ws xs xs.length v (sumF t (aV w x)) (sumF t' (aV w v)) (λy hy=>hw y (by simp[hy])) (λy hy=>hx y (by simp[hy])) hv (λy hy=>by simp at hy) (sp _ _ ht (rp x px)) (sp _ _ ht' (rp v hv)) (Vt ht ht' (rp x px) (rp v hv) h (agO fw.1 fw.2.2.1 px hv lx))
   rw[List.set_eq_of_length_le (by lia)]at this
   exact this
  |succ i =>
   show le2 (dh (ws.zip xs) (sumF t (aV w x))) (dh (ws.zip (xs.set i v)) (sumF t' (aV w x)))
   exact HY ws xs i v _ _ (λy hy=>hw y (by simp[hy])) (λy hy=>hx y (by simp[hy])) hv (λy hy=>hi y (by simpa using hy)) (sp _ _ ht (rp x px)) (sp _ _ ht' (rp x px)) (Vt ht ht' (rp x px) (rp x px) h (p8 _))
theorem Ia:∀(xs:List (Int × Int)) (i:Nat) (v t t':Int × Int),(∀x∈xs,1<=x.2/\0<=x.1)->1<=v.2->0<=v.1->(∀x,xs[i]?=some x->le2 x v)->1<=t.2->0<=t.1->1<=t'.2->0<=t'.1->le2 t t'->le2 (dF xs t) (dF (xs.set i v) t')
 | [],i,v,t,t',_,_,_,_,_,_,_,_,h=>by simpa[dF]using h
 |x::xs,i,v,t,t',hx,hv,hv0,hi,ht,ht0,ht',Aq,h=>by
  obtain⟨px,rQ⟩:=hx x (by simp)
  have rp:∀s y:Int × Int,1<=s.2->0<=s.1->1<=y.2->0<=y.1->1<=(aV s y).2/\0<=(aV s y).1:=λs y ps ps0 py py0=>by
   have m:=Int.mul_pos (a:=s.2) (b:=y.2) (by lia) (by lia)
   refine⟨(fM (a:=s.1*y.1) (by lia)).2.1,?_⟩
   exact Int.ediv_nonneg (Int.mul_nonneg ps0 py0) (by lia)
  cases i with
  |zero =>
   have lx:=hi x (by simp)
   show le2 (dF xs (aV t x)) (dF xs (aV t' v))
   have a:=rp t x ht ht0 px rQ
   have b:=rp t' v ht' Aq hv hv0
   have:=Ia xs xs.length v (aV t x) (aV t' v) (λy hy=>hx y (by simp[hy])) hv hv0 (λy hy=>by simp at hy) a.1 a.2 b.1 b.2 (Vs ht0 ht Aq ht' rQ hv0 px hv h lx)
   rw[List.set_eq_of_length_le (by lia)]at this
   exact this
  |succ i =>
   have a:=rp t x ht ht0 px rQ
   have b:=rp t' x ht' Aq px rQ
   show le2 (dF xs (aV t x)) (dF (xs.set i v) (aV t' x))
   exact Ia xs i v _ _ (λy hy=>hx y (by simp[hy])) hv hv0 (λy hy=>hi y (by simpa using hy)) a.1 a.2 b.1 b.2 (Vs ht0 ht Aq ht' rQ rQ px px h (p8 _))
inductive Ru where
 |sh (ws:List (Int × Int))|mid (k:Nat)|least|greatest|product
noncomputable def bT:Ru->Tr
 |.sh ws=>.tup [.str "shares",aJ ws]
 |.mid k=>.tup [.str "middle",.int k]
 |.least=>.tup [.str "least"]
 |.greatest=>.tup [.str "greatest"]
 |.product=>.tup [.str "product"]
noncomputable def cN(n:Nat):Ru->Prop
 |.sh ws=>ws.length=n/\∀w∈ws,Fq 45 w
 |.mid k=>1<=k/\k<=n
 |_=>True
theorem agU{M:Nat}{ws:List (Int × Int)}(hw:∀w∈ws,Fq M w)(hl:ws.length<=12):T6 [aJ ws,.int ws.length]=.ok (.bl true,false):=by
 have ty:mZ (aJ ws) .list=true:=rfl
 walk_at "d"
 exact Vk (hw x hx).2.2.1 (hw x hx).2.2.2.2
 walk_at "r"
 rw[List.map_congr_left (g:=λ_=>Tr.bl true) λx hx=>by rw[decide_eq_true (hw x hx).1]]
 exact all_true ws
 walk_at "r"
theorem Ib(h:T=.tup [.str "least"]∨T=.tup [.str "greatest"]∨T=.tup [.str "product"]):jJ id T (.tup [(.tup [(.str "least")]),(.tup [(.str "greatest")]),(.tup [(.str "product")])])=.ok (.bl true,false):=by
 rcases h with rfl|rfl|rfl <;> kernel_rfl
theorem agV(h:cN n r)(hn:n<=12):T8 [bT r,.int n]=.ok (.bl true,false):=by
 have e1:=Ib (.inl rfl)
 have e2:=Ib (.inr (.inl rfl))
 have e3:=Ib (.inr (.inr rfl))
 cases r <;> dsimp only[bT,cN]at *
 case sh ws =>
  obtain⟨h1,h2⟩:=h
  subst h1
  have e:=agU h2 hn
  walk_at "d"
 case mid k =>
  have w:=vh (i:=k)
  walk_at "d"
  exact congrArg (λb=>Rs.ok (Tr.bl b,false)) (decide_eq_true (by lia))
 all_goals walk_at "d"
noncomputable def dG(n:Nat):Ru->Nat
 |.mid k=>k
 |.least=>n
 |.greatest=>1
 |_=>0
noncomputable def Wv(r:Ru)(xs:List (Int × Int))(v:Int × Int):Prop:=match r with
 |.sh ws=>v=dh (ws.zip xs) (0,1)
 |.product=>v=dF xs (1,1)
 |r=>∃zs,cF xs zs/\zs[dG xs.length r-1]?=some v
noncomputable def placed:Ru->Bool
 |.mid _=>true
 |.least=>true
 |.greatest=>true
 |_=>false
theorem agW{n:Nat}(h:placed r=true):Ue [bT r,.int n]=.ok (.int (dG n r:Nat),false):=by
 cases r <;> first|cases h; done|(dsimp only[bT,dG]; walk_at "d"; done)
theorem Ie(h:placed r=true)(ho:cN n r)(hn:1<=n):1<=dG n r/\dG n r<=n:=by
 cases r with
 |sh ws=>cases h
 |product=>cases h
 |least=>exact⟨hn,Nat.le_refl _⟩
 |greatest=>exact⟨Nat.le_refl _,hn⟩
 |mid k=>exact ho
theorem Fq.frs(h:∀x∈l,Fq 45 x):Frs 45 l:=λx hx=>by
 obtain⟨h1,h2,h3,h4,_⟩:=h x hx
 have:=iz 45
 exact⟨h3,h4,by lia⟩
theorem agX{xs:List (Int × Int)}(hq:∀x∈xs,Fq 45 x)(h1:1<=xs.length)(h2:xs.length<=12)(ho:cN xs.length r):∃v,mj [bT r,aJ xs]=.ok (fT v,false)/\Wv r xs v:=by
 have pl:placed r=true->∃v,mj [bT r,aJ xs]=.ok (fT v,false)/\∃zs,cF xs zs/\zs[dG xs.length r-1]?=some v:=λhp=>by
  obtain⟨ys,ef,hf⟩:=HD (N:=45) xs (Fq.frs hq) (by lia) (by lia) (by lia)
  have pr:=Ie hp ho h1
  have ep:=agW (n:=xs.length) hp
  have ly:ys.length=xs.length:=by have:=hf.1.length_eq; simpa using this
  obtain⟨i,hi⟩:∃i,ys[dG xs.length r-1]?=some i:=⟨_,List.getElem?_eq_getElem (by lia)⟩
  have il:i<xs.length:=by simpa using hf.1.mem_iff.mp (List.mem_of_getElem? hi)
  refine⟨xs.getD i (0,1),?_,_,hf.dsc,by rw[List.getElem?_map,hi]; rfl⟩
  have g:aY (.lst (ys.map λi:Nat=>Tr.int i)) (.int ((dG xs.length r:Nat)-1:Int))=.ok (.int (i:Int),false):=by
   rw[show((dG xs.length r:Nat)-1:Int)=((dG xs.length r-1:Nat):Int) by lia]
   exact oh (by rw[List.getElem?_map,hi]; rfl)
  cases r <;> first|cases hp; done|(dsimp only[bT]at *; walk_at "d"; done)
 cases r with
 |sh ws =>
  have e:=agR ho.2 hq h2
  refine⟨_,?_,rfl⟩
  dsimp only[bT]
  walk_at "d"
 |product =>
  have e:=agS hq h2
  refine⟨_,?_,rfl⟩
  dsimp only[bT]
  walk_at "d"
 |least=>exact pl rfl
 |greatest=>exact pl rfl
 |mid k=>exact pl rfl
theorem agY(hx:∀x∈xs,Wo x)(h1:1<=xs.length)(h2:xs.length<=12)(ho:cN xs.length r):∃v,mj [bT r,aJ xs]=.ok (fT v,false)/\Wv r xs v:=agX (λx m=>(hx x m).fq) h1 h2 ho
theorem agZ(hx:∀x∈xs,Wo x):LT xs:=λx m=>⟨(hx x m).2.2.1,(hx x m).2.2.2.2⟩
theorem Wv.uniq(hx:LT xs)(a:Wv r xs v)(b:Wv r xs v'):v=v':=by
 cases r with
 |sh ws=>exact a.trans b.symm
 |product=>exact a.trans b.symm
 |least =>
  obtain⟨z,d,e⟩:=a
  obtain⟨z',d',e'⟩:=b
  rw[d.uniq hx d',e']at e
  exact(Option.some.inj e).symm
 |greatest =>
  obtain⟨z,d,e⟩:=a
  obtain⟨z',d',e'⟩:=b
  rw[d.uniq hx d',e']at e
  exact(Option.some.inj e).symm
 |mid k =>
  obtain⟨z,d,e⟩:=a
  obtain⟨z',d',e'⟩:=b
  rw[d.uniq hx d',e']at e
  exact(Option.some.inj e).symm
theorem Fq.up(h:Fq M x)(hl:M<=N):Fq N x:=by
 obtain⟨h1,h2,h3,h4,h5⟩:=h
 have:(2:Int) ^ M<=2 ^ N:=by
  have:=Nat.pow_le_pow_right (n:=2) (by lia) hl
  have a:=iz M
  have b:=iz N
  lia
 exact⟨h1,by lia,h3,by lia,h5⟩
theorem Wv.fqF(hq:∀x∈xs,Fq 45 x)(hl:xs.length<=4)(ho:cN xs.length r)(a:Wv r xs v):Fq 400 v:=by
 have pl:(∃zs,cF xs zs/\zs[dG xs.length r-1]?=some v)->Fq 400 v:=λ⟨z,d,e⟩=>(hq v (d.1.mem_iff.mp (List.mem_of_getElem? e))).up (by lia)
 cases r with
 |sh ws =>
  have a:v=dh (ws.zip xs) (0,1):=a
  rw[a]
  exact(HW _ _ 1 vq (Vu ho.2 hq)).up (by rw[List.length_zip]; lia)
 |product =>
  have a:v=dF xs (1,1):=a
  rw[a]
  exact(HX _ _ 1 Ao hq).up (by lia)
 |least=>exact pl a
 |greatest=>exact pl a
 |mid k=>exact pl a
theorem Wv.fq(hx:∀x∈xs,Wo x)(hl:xs.length<=4)(ho:cN xs.length r)(a:Wv r xs v):Fq 400 v:=Wv.fqF (λx m=>(hx x m).fq) hl ho a
noncomputable def Fx(x:Int × Int):Prop:=0<=x.1/\1<=x.2/\Int.gcd x.1 x.2=1
theorem Fq.fx(h:Fq M x):Fx x:=⟨h.1,h.2.2.1,h.2.2.2.2⟩
theorem Wo.fx(h:Wo x):Fx x:=⟨h.1,h.2.2.1,h.2.2.2.2⟩
theorem Vy(ha:0<=a)(hb:1<=b):Fx (red a b):=by
 obtain⟨_,_,g3,g4,g5,_⟩:=o9 (a:=a) (b:=b) (by lia)
 exact⟨g5 ha,g3,g4⟩
theorem jP{a b:Int}(ha:1<=a)(hb:1<=b):1<=a*b:=Int.mul_pos (by lia) (by lia)
theorem Ig(hx:Fx x)(hy:Fx y):Fx (aV x y):=Vy (Int.mul_nonneg hx.1 hy.1) (jP hx.2.1 hy.2.1)
theorem ag0(hx:Fx x)(hy:Fx y):Fx (sumF x y):=Vy (Int.add_nonneg (Int.mul_nonneg hx.1 (by have:=hy.2.1; lia)) (Int.mul_nonneg hy.1 (by have:=hx.2.1; lia))) (jP hx.2.1 hy.2.1)
theorem Ih(hx:∀x∈xs,Fx x):LT xs:=λx m=>⟨(hx x m).2.1,(hx x m).2.2⟩
theorem Wv.mono(hx:∀x∈xs,Fx x)(hu:Fx u)(hi:∀x,xs[i]?=some x->le2 x u)(ho:cN xs.length r)(a:Wv r xs v)(b:Wv r (xs.set i u) v'):le2 v v':=by
 have pl:(∃zs,cF xs zs/\zs[dG xs.length r-1]?=some v)->(∃zs,cF (xs.set i u) zs/\zs[dG (xs.set i u).length r-1]?=some v')->le2 v v':=λ⟨z,d,e⟩ ⟨z',d',e'⟩=>by
  rw[List.length_set]at e'
  exact d.mono (Ih hx) hu.2.1 hi d' e e'
 cases r with
 |sh ws =>
  have a:v=dh (ws.zip xs) (0,1):=a
  have b:v'=dh (ws.zip (xs.set i u)) (0,1):=b
  rw[a,b]
  exact HY ws xs i u _ _ ho.2 (λx m=>(hx x m).2.1) hu.2.1 hi (by decide) (by decide) (p8 _)
 |product =>
  have a:v=dF xs (1,1):=a
  have b:v'=dF (xs.set i u) (1,1):=b
  rw[a,b]
  exact Ia xs i u _ _ (λx m=>⟨(hx x m).2.1,(hx x m).1⟩) hu.2.1 hu.1 hi (by decide) (by decide) (by decide) (by decide) (p8 _)
 |least=>exact pl a b
 |greatest=>exact pl a b
 |mid k=>exact pl a b
noncomputable def isG:Ru->Bool
 |.greatest=>true
 |_=>false
noncomputable def isL:Ru->Bool
 |.least=>true
 |_=>false
theorem ag1(hp:placed r=true):∃w:Str,aY (bT r) (.int 0)=.ok (.str w,false)∧jH (.str w) (.str "shares")=.ok (.bl false,false)∧jH (.str w) (.str "product")=.ok (.bl false,false)∧jH (.str w) (.str "greatest")=.ok (.bl (isG r),false)∧jH (.str w) (.str "least")=.ok (.bl (isL r),false):=by
 cases r with
 |sh ws=>cases hp
 |product=>cases hp
 |least=>exact⟨"least",rfl,jz (by decide +kernel),jz (by decide +kernel),jz (by decide +kernel),Bt⟩
 |greatest=>exact⟨"greatest",rfl,jz (by decide +kernel),jz (by decide +kernel),Bt,jz (by decide +kernel)⟩
 |mid k=>exact⟨"middle",rfl,jz (by decide +kernel),jz (by decide +kernel),jz (by decide +kernel),jz (by decide +kernel)⟩
noncomputable abbrev Vz:=(bC (sO 3 (aE (dI ao))) (bC (sN (sF (iZ3 (ak (aj 0) (ak (Uv (ak (aj 0) ao)) (ak (aj 1) ao)))) (iw 3 (cj (gV 4) (cj (gV 5) (cj (gV 6) iu)))) (b1 (dY (jt 3 (ak (yU (tK (aL rK (aj 6) (vC (.int 0)))) (aq (aj 4) (aq (aj 5) (nU (aj 6) (vC (.int 1))))) (aj 2)) ao)))))) (b1 (aC (aj 3)))))
noncomputable abbrev ag2:SF:=by exists Vz
noncomputable def Ii:FP:=aO 7 ag2
noncomputable abbrev ag3{f:AF}(a:VA f):=vF "last_worths" ["book", "depths", "one"] Ii 6 a
noncomputable abbrev iT(i:Nat):Tr:=.int (i:Nat)
noncomputable def pT(p:Nat × Nat):Tr:=.tup [iT p.1,iT p.2]
noncomputable def Lx(p q:Nat × Nat):Prop:=p.1<q.1\/(p.1=q.1/\p.2<q.2)
noncomputable def eY(ds:List Nat)(as:List (Nat × Nat)):Tr:=.tup [.lst (ds.map iT),.lst (as.map pT)]
noncomputable def Lk(n m:Nat)(ds:List Nat)(as:List (Nat × Nat)):Prop:=ds.length=n/\(∀d∈ds,d<=m)/\as.Pairwise Lx/\as.length<=48/\∀p∈as,p.1<n/\p.2<m
theorem count_eq(h:d<=m):Uo [iT d,.int (m:Nat)]=.ok (.bl true,false):=by
 have e:=vh (i:=d)
 walk_at "d"
 exact congrArg (λb=>Rs.ok (Tr.bl b,false)) (decide_eq_true (by lia))
theorem ag4{n m:Nat}{ds:List Nat}(h1:ds.length=n)(hd:∀d∈ds,d<=m)(hn:n<=1000):Ux [.lst (ds.map iT),.int (n:Nat),.int (m:Nat)]=.ok (.bl true,false):=by
 subst h1
 walk_at "d"
 exact count_eq (hd x hx)
 walk_at "r"
 exact all_true ds
 walk_at "r"
theorem ag5(h:Lx p q):qI (pT p) (pT q)=.ok (.bl true,false):=by
 show Rs.ok (Tr.bl (HT.lexLt [((p.1:Nat):Int),((p.2:Nat):Int)] [((q.1:Nat):Int),((q.2:Nat):Int)]),false)=_
 have:HT.lexLt [((p.1:Nat):Int),((p.2:Nat):Int)] [((q.1:Nat):Int),((q.2:Nat):Int)]=true:=by
  unfold Lx at h
  unfold HT.lexLt
  rcases h with h|⟨h,h'⟩
  .have:(p.1:Int)<q.1:=by lia
   have n:¬(p.1:Int)=q.1:=by lia
   simp[this,n]
  .rw[h]
   have:(p.2:Int)<q.2:=by lia
   have n:¬(p.2:Int)=q.2:=by lia
   simp[HT.lexLt,this,n]
 rw[this]
theorem ag6(h1:p.1<n)(h2:p.2<m):Uz [pT p,.int (n:Nat),.int (m:Nat)]=.ok (.bl true,false):=by
 have e1:=Ai p.1 n
 have e2:=Ai p.2 m
 rw[show(decide ((0:Int)<=p.1)&&decide ((p.1:Int)<n))=true by simp; lia]at e1
 rw[show(decide ((0:Int)<=p.2)&&decide ((p.2:Int)<m))=true by simp; lia]at e2
 walk_at "d"
theorem VF:∀{as:List (Nat × Nat)},as.Pairwise Lx->∀z∈as.zip (as.drop 1),Lx z.1 z.2
 | [],_,z,hz=>by cases hz
 | [a],_,z,hz=>by cases hz
 |a::b::as,h,z,hz=>by
  rw[List.drop_one,List.tail_cons,List.zip_cons_cons]at hz
  rcases List.mem_cons.mp hz with rfl|hz
  .exact(List.pairwise_cons.mp h).1 b (List.mem_cons_self ..)
  .exact VF (as:=b::as) (List.pairwise_cons.mp h).2 z (by rw[List.drop_one,List.tail_cons]; exact hz)
theorem ag7{as:List (Nat × Nat)}(h:as.Pairwise Lx)(hl:as.length<=48):Hx [.lst (as.map pT)]=.ok (.bl true,false):=by
 have ez:iy (as.map pT) ((as.map pT).drop 1)=(as.zip (as.drop 1)).map λz=>Tr.tup [pT z.1,pT z.2]:=by
  unfold iy
  rw[<-List.map_drop,List.zip_map,List.map_map]
  rfl
 have ec:jy (some 1) none (.lst (as.map pT))=.ok (.lst ((as.map pT).drop 1),true):=congrArg (λL=>Rs.ok (Tr.lst L,true)) (Vm (as.map pT) 1)
 walk_at "d"
 exact ag5 (VF h x hx)
 rw[List.length_zip]; lia
 walk_at "r"
 exact all_true _
 walk_at "r"
theorem ag8{n m:Nat}{as:List (Nat × Nat)}(h:as.Pairwise Lx)(hl:as.length<=48)(hp:∀p∈as,p.1<n/\p.2<m):UJ [.lst (as.map pT),.int (n:Nat),.int (m:Nat)]=.ok (.bl true,false):=by
 have e:=ag7 h hl
 walk_at "d"
 exact ag6 (hp x hx).1 (hp x hx).2
 walk_at "r"
 exact all_true as
 walk_at "r"
theorem ag9{m:Nat}{rows:List (List (Int × Int))}{ds:List Nat}{as:List (Nat × Nat)}(hB:Bk m rows)(hL:Lk rows.length m ds as):UW [aZ rows,eY ds as]=.ok (.non,false):=by
 obtain⟨b1,b2,b3,b4,b5⟩:=hB
 obtain⟨l1,l2,l3,l4,l5⟩:=hL
 have e1:=ag4 l1 l2 (by lia)
 have e2:=ag8 l3 l4 l5
 have el:=jR rows
 have hl:rows[0]?=some rows[0]:=List.getElem?_eq_getElem b1
 have e0:aY (aZ rows) (.int 0)=.ok (aJ rows[0],false):=Hy hl
 have HB:=jd rows[0]
 rw[(b5 _ (List.mem_of_getElem? hl)).1]at HB
 walk_at "d"
theorem Ij(a b:Nat):eqT (iT a) (iT b)=decide (a=b):=by
 unfold iT eqT
 by_cases h:a=b
 .subst h; simp
 .have:¬(a:Int)=b:=by lia
  simp[h,this]
theorem aha(p q:Nat × Nat):eqT (pT p) (pT q)=decide (p=q):=by
 unfold pT
 rw[show eqT (.tup [iT p.1,iT p.2]) (.tup [iT q.1,iT q.2])=(eqT (iT p.1) (iT q.1)&&(eqT (iT p.2) (iT q.2)&&true)) by simp only[eqT,jF],Ij,Ij]
 obtain⟨a,b⟩:=p
 obtain⟨c,d⟩:=q
 by_cases h:a=c <;> by_cases h':b=d <;> simp[h,h']
theorem Ar:∀zs:List Nat,deps (zs.map iT)=0
 | []=>rfl
 |z::zs=>by
  rw[List.map_cons]
  unfold deps
  rw[Ar zs]
  rfl
theorem VH(p:Nat × Nat):dep (pT p)=1:=rfl
theorem Ik:∀zs:List (Nat × Nat),deps (zs.map pT)<=1
 | []=>Nat.zero_le _
 |z::zs=>by
  rw[List.map_cons]
  unfold deps
  rw[VH]
  have:=Ik zs
  lia
theorem VJ{α : Type} [DecidableEq α](t : α):∀zs:List α,(zs.any λz=>decide (z=t))=decide (t∈zs)
 | []=>rfl
 |z::zs=>by
  rw[List.any_cons,VJ t zs]
  by_cases h:z=t
  .subst h; simp
  .have:t≠z:=λe=>h e.symm
   simp[h,this]
theorem Bu(f:Bool->Bool)(t:Nat)(zs:List Nat):jJ f (iT t) (.lst (zs.map iT))=.ok (.bl (f (decide (t∈zs))),false):=by
 show(if deps (zs.map iT)<=40/\dep (iT t)<=40 then Rs.ok (Tr.bl (f (jU (iT t) (zs.map iT))),false)else .bad)=_
 rw[if_pos ⟨by rw[Ar]; lia,by show 0<=40; lia⟩]
 unfold jU
 rw[List.any_map,<-VJ]
 simp only[Function.comp_def,Ij]
theorem ahb(f:Bool->Bool)(t:Nat × Nat)(zs:List (Nat × Nat)):jJ f (pT t) (.lst (zs.map pT))=.ok (.bl (f (decide (t∈zs))),false):=by
 show(if deps (zs.map pT)<=40/\dep (pT t)<=40 then Rs.ok (Tr.bl (f (jU (pT t) (zs.map pT))),false)else .bad)=_
 rw[if_pos ⟨by have:=Ik zs; lia,by rw[VH]; lia⟩]
 have e:jU (pT t) (zs.map pT)=decide (t∈zs):=by
  unfold jU
  rw[List.any_map,Bool.eq_iff_iff,List.any_eq_true,decide_eq_true_eq]
  refine⟨λ⟨z,hz,e⟩=>?_,λh=>⟨t,h,xu _⟩⟩
  have e:eqT (pT z) (pT t)=true:=e
  rw[aha,decide_eq_true_eq]at e
  exact e▸hz
 rw[e]
noncomputable def dU(b:Bool)(x:Int × Int):Tr:=if b=true then fT x else .non
noncomputable def gr(l:List (Int × Int))(s:Nat->Bool):List Tr:=(List.range l.length).map λt=>dU (s t) (l.getD t (0,1))
noncomputable def gs(rows:List (List (Int × Int)))(s:Nat->Nat->Bool):List Tr:=(List.range rows.length).map λk=>.lst (gr (rows.getD k []) (s k))
theorem ahc:(gr l s).set t (fT (l.getD t (0,1)))=gr l λt'=>s t' || decide (t'=t):=by
 refine List.ext_getElem? λi=>?_
 unfold gr
 rw[List.getElem?_set,List.getElem?_map,List.getElem?_map]
 by_cases h:t=i
 .subst h
  by_cases z:t<l.length <;> simp[z,dU]
 .have h':¬i=t:=λe=>h e.symm
  by_cases z:i<l.length <;> simp[h,h',z]
theorem VP:(gs rows s).set k (.lst ((gr (rows.getD k []) (s k)).set t (fT ((rows.getD k []).getD t (0,1)))))=gs rows λk' t'=>s k' t' || (decide (k'=k)&&decide (t'=t)):=by
 rw[ahc]
 refine List.ext_getElem? λi=>?_
 unfold gs
 rw[List.getElem?_set,List.getElem?_map,List.getElem?_map]
 by_cases h:k=i
 .subst h
  by_cases z:k<rows.length <;> simp[z]
 .have h':¬i=k:=λe=>h e.symm
  by_cases z:i<rows.length <;> simp[h,h',z]
end BH
end
section
namespace L2
open PySem
noncomputable def WD(r:Rs Tr)(Q:Tr->Prop):Prop:=∃T,r=.ok T/\Q T
noncomputable def cD(fl:Fl)(g:DF)(ρ : En):Rs Tr:=match fl with
 |.nx=>g ρ
 |.rt T false=>if bK T=true then .ok T else .bad
 |_=>.bad
section
variable {ρ ρ1 ρ2:En}{fa fe:EF}{aa:AF}{fi:IF}{f:WF}{ga:WA}{s:SF}{g:DF}{T:Tr}{us ts as Ts:List Tr}{ps:List Rv}{b:Bool}{i m n:Nat}{Q:Fl->En->Prop}{P:Tr->Prop}{F:FP}{z:Tr × Bool}
theorem VR{β : Type}{t : β -> Tr}{h : β -> List Tr}{xs:List β}(hf:∀x∈xs,fe [.sh (t x)]=.ok (.v (.lst (h x)) true,[.sh (t x)]))(hn:∀x∈xs,cY (h x)=true):∃s',j7 (gN 0) jc fe (xs.map t) [.un]=.ok (xs.map λx=>.lst (h x),[s']):=by
 have go:∀(ys:List β) (s:Sl),(∀x∈ys,x∈xs)->∃s',j7 (gN 0) jc fe (ys.map t) [s]=.ok (ys.map λx=>.lst (h x),[s']):=λys=>by
  induction ys with
  |nil=>exact λs _=>⟨s,rfl⟩
  |cons y ys ih =>
   intro s m
   obtain⟨s',e'⟩:=ih (.sh (t y)) λx hx=>m x (List.mem_cons_of_mem _ hx)
   exact⟨s',bk (a:=[.sh (t y)]) rfl (bk rfl ((if_pos rfl).trans (bk (hf y (m y (List.mem_cons_self ..))) (bk (show rG (.v (.lst (h y)) true)=.ok (.lst (h y))from if_pos (hn y (m y (List.mem_cons_self ..)))) (bk e' rfl)))))⟩
 exact go xs .un λ_ h=>h
theorem xWE(h:fa ρ=.ok (.v T b,ρ1))(n:je (T,b)=true):RM fa ρ=.ok (T,ρ1):=bk h (if_pos n)
theorem xMd(h : ρ[i]?=some (.dp ts))(e : ρ.set i .un = ρ1):oM i ρ=.ok (.lst ts,ρ1):=by subst e; unfold oM; rw[h]
theorem xMo(h : ρ[i]?=some (.ow ts))(n:cY ts=true)(e : ρ.set i .un = ρ1):oM i ρ=.ok (.lst ts,ρ1):=by subst e; unfold oM; rw[h]; exact if_pos n
theorem xYc(h:f ρ=.ok (T,ρ1))(k:ga ρ1=.ok (Ts,ρ2)):RN f ga ρ=.ok (T::Ts,ρ2):=bk h (bk k rfl)
theorem xYt(h:ga ρ=.ok (Ts,ρ1))(l:Ts.length<=1000):yTu ga ρ=.ok (.tup Ts,ρ1):=bk h (if_pos l)
theorem xYl(h:ga ρ=.ok (Ts,ρ1))(l:Ts.length<=1000):yLs ga ρ=.ok (.lst Ts,ρ1):=bk h (if_pos l)
theorem xCD(h:aa ρ=.ok (ps,ρ1))(k:drs ρ1 ps=.ok as)(e:F as=.ok (T,b)):rM F aa ρ=.ok (T,ρ1):=bk h (bk k (bk e rfl))
theorem xYv(e:vw ρ = ρ2)(h:f ρ2=.ok (T,ρ1)):Hh f ρ=.ok (T,ρ):=by subst e; unfold Hh; rw[h]; rfl
theorem xYm{β : Type}{t : β -> Tr}{h : β -> List Tr}{xs:List β}(hi:fi ρ=.ok (us,ρ))(hu:us=xs.map t)(hf:∀x∈xs,fe [.sh (t x)]=.ok (.v (.lst (h x)) true,[.sh (t x)]))(hn:∀x∈xs,cY (h x)=true)(hl:xs.length<=100000):Hr [none] fi (gN 0) fe ρ=.ok (.lst (xs.map λx=>.lst (h x)),ρ):=by
 subst hu
 obtain⟨s',e'⟩:=VR hf hn
 exact bk hi ((if_pos (by rw[List.length_map]; exact hl)).trans (bk (show dZ (j7 _ _ _ _ [.un])=_ by rw[e']; rfl) (if_pos rfl)))
theorem wYd(h:f ρ=.ok (T,ρ1))(e:mK i T ρ1=.ok ρ2)(k:Q .nx ρ2):W (RP i f ρ) Q:=⟨_,_,bk h (bk e rfl),k⟩
theorem dV1(l:T=.lst ts)(e : ρ.set i (.dp ts) = ρ1):mK i T ρ=.ok ρ1:=by subst l e; rfl
theorem dV2(l:pq T=false)(n:bK T=true)(e : ρ.set i (.sh T) = ρ1):mK i T ρ=.ok ρ1:=by
 subst e
 unfold mK
 cases T <;> first|(cases l; done)|(dsimp only; rw[if_pos n])
theorem wYa(c:dW ρ i=.ok us)(h:ga ρ=.ok ([T],ρ1))(k : ρ1[i]?=some (.dp ts))(l:ts.length<=100000)(e : ρ1.set i (.dp (ts++[T])) = ρ2)(q:Q .nx ρ2):W (RQ i ga ρ) Q:=by
 subst e
 exact⟨_,_,bk c (bk h (bk (a:=ts) (by unfold dW; rw[k]) (if_pos l))),q⟩
theorem wYc(c : ρ[i]?=some (.dp ts))(l:ts[m]?=some (.lst us))(n:cY us=true)(e : ρ.set i (.dp (ts.set m (.lst []))) = ρ1)(k:Q .nx ρ1):W (RV i m ρ) Q:=by
 subst e
 refine⟨_,_,bk (a:=ts) (by unfold dW; rw[c]) ?_,k⟩
 rw[l]
 exact if_pos n
theorem Z9(h:W (s ρ) λfl ρ1=>WD (cD fl g ρ1) P):WD (RX s g ρ) P:=by
 obtain⟨fl,ρ1,e,T,e',q⟩:=h
 exact⟨T,bk e e',q⟩
theorem dSn(k:WD (g ρ) P):WD (cD .nx g ρ) P:=k
theorem dSr(n:bK T=true)(k:P T):WD (cD (.rt T false) g ρ) P:=⟨_,if_pos n,k⟩
theorem dRt(h:f ρ=.ok (T,ρ1))(k:P T):WD (RW f ρ) P:=⟨_,bk h rfl,k⟩
theorem dFn(e:gQ n as = ρ)(h:WD (g ρ) λT=>Rs.ok (T,pq T)=.ok z):lZ n g as=.ok z:=by
 subst e
 obtain⟨T,h,k⟩:=h
 exact bk h k
theorem dFe{R:Tr × Bool->Prop}(e:gQ n as = ρ)(h:WD (g ρ) λT=>R (T,pq T)):∃z,lZ n g as=.ok z/\R z:=by
 subst e
 obtain⟨T,h,k⟩:=h
 exact⟨_,bk h rfl,k⟩
end
section
variable {ρ ρ1 ρ2:En}{fa fe:EF}{aa:AF}{fi:IF}{T:Tr}{us ts vs:List Tr}{b:Bool}{i j k:Nat}{fk fj:QF}{Q:Fl->En->Prop}
theorem V0(h:ts[k]?=some T):nQ ts (.int (k:Nat))=.ok (k,T):=by
 have lt:=(List.getElem?_eq_some_iff.mp h).1
 have e:eH ts.length (k:Int)=some k:=by
  unfold eH
  rw[if_pos (by lia),if_pos (by lia)]
  rfl
 unfold nQ
 simp only[e,h]
theorem V1{m n:Nat}(h:fe ρ=.ok (.v T b,ρ))(c : ρ[i]?=some (.dp ts))(q:fk ρ=.ok (.int (m:Nat)))(l:ts[m]?=some (.lst us))(q':fj ρ=.ok (.int (n:Nat)))(l':n<us.length)(fl:bK T=true)(fu:∀t∈us,bK t=true)(e : ρ.set i (.dp (ts.set m (.lst (us.set n T)))) = ρ2)(k:Q .nx ρ2):W (Rn i fk fj fe ρ) Q:=by
 subst e
 have cd:dW ρ i=.ok ts:=by unfold dW; rw[c]
 have n1:dZ (fk ρ)=.ok (.int m):=by rw[q]; rfl
 have n2:dZ (fj ρ)=.ok (.int n):=by rw[q']; rfl
 have n3:(bK T&&bK us[n])=true:=by rw[fl,fu _ (List.getElem_mem _)]; rfl
 refine⟨_,_,bk h (bk (a:=T) rfl (bk cd (bk n1 (bk (V0 l) ?_)))),k⟩
 exact bk n2 (bk (V0 (List.getElem?_eq_getElem l')) (if_pos n3))
theorem wCD{β : Type}{t : β -> Tr}{h : β -> List Tr}{xs:List β}(hi:fi ρ=.ok (us,ρ))(hu:us=xs.map t)(hf:∀x∈xs,fe [.sh (t x)]=.ok (.v (.lst (h x)) true,[.sh (t x)]))(hn:∀x∈xs,cY (h x)=true)(hl:xs.length<=100000)(e : ρ.set i (.dp (xs.map λx=>.lst (h x))) = ρ1)(k:Q .nx ρ1):W (Gm i [none] fi (gN 0) jc fe ρ) Q:=by
 subst hu e
 obtain⟨s',e'⟩:=VR hf hn
 exact⟨_,_,bk hi ((if_pos (by rw[List.length_map]; exact hl)).trans (bk (show dZ (j7 _ _ _ _ [.un])=_ by rw[e']; rfl) (if_pos rfl))),k⟩
theorem xEn{α : Type}{g : α -> Tr}{l:List α}(d : α)(h:aa ρ=.ok ([.v T b],ρ1))(e:T=.lst (l.map g)):QG aa ρ=.ok ((List.range l.length).map λk:Nat=>.tup [.int k,g (l.getD k d)],ρ1):=by
 subst e
 refine bk h (congrArg (λl=>Rs.ok (l,ρ1)) (List.ext_getElem? λi=>?_))
 unfold zM
 by_cases z:i<l.length
 .simp[z]
 .simp[z]
end
end L2
namespace BH
open PySem L2
structure Od(od:List (Int × Int)->List Nat)(m:Nat)(rows:List (List (Int × Int))):Prop where
 n1:1<=rows.length
 n4:rows.length<=4
 m1:1<=m
 m12:m<=12
 len:∀l∈rows,l.length=m
 fall:∀l∈rows,rO [aJ l]=.ok (.lst ((od l).map iT),true)
 lt:∀l∈rows,∀t∈od l,t<m
 ln:∀l∈rows,(od l).length=m
section
variable {od:List (Int × Int)->List Nat}{m:Nat}{rows:List (List (Int × Int))}{ds:List Nat}{as:List (Nat × Nat)}
noncomputable def sn(od:List (Int × Int)->List Nat)(l:List (Int × Int))(d:Nat)(as:List (Nat × Nat))(k t:Nat):Bool:=decide (t∈(od l).take d) || decide ((k,t)∈as)
noncomputable def sA(od:List (Int × Int)->List Nat)(rows:List (List (Int × Int)))(ds:List Nat)(as:List (Nat × Nat))(k:Nat):Nat->Bool:=sn od (rows.getD k []) (ds.getD k 0) as k
theorem V2(hO:Od od m rows):Uu [aZ rows]=.ok (.lst (rows.map λl=>.lst ((od l).map iT)),true):=by
 have:=hO.n4
 unfold aZ
 walk_at "d"
 exact hO.fall x hx
 walk_at "r"
theorem getM{α : Type}{l:List α}{k:Nat}{d : α}(h:k<l.length):l.getD k d∈l:=by rw[List.getD_eq_getElem?_getD,List.getElem?_eq_getElem h]; exact List.getElem_mem _
theorem kE{α : Type}{f : α -> Tr}{l:List α}{k:Nat}(d : α)(h:k<l.length):aY (.lst (l.map f)) (.int k)=.ok (f (l.getD k d),false):=oh (by simp[h])
theorem Lk.ok(hO:Od od m rows)(hL:Lk rows.length m ds as):∀p∈as,p.1<rows.length/\p.2<(rows.getD p.1 []).length:=λp mp=>by
 have h:=hL.2.2.2.2 p mp
 exact⟨h.1,by rw[hO.len _ (getM h.1)]; exact h.2⟩
theorem V3{s:Nat->Nat->Bool}(h:k<rows.length):(gs rows s)[k]?=some (.lst (gr (rows.getD k []) (s k))):=by unfold gs; simp[h]
theorem kj{rows:List (List (Int × Int))}{k:Nat}(h:k<rows.length):aY (aZ rows) (.int k)=.ok (aJ (rows.getD k []),false):=oh (by simp[h])
theorem V4{l:List (Int × Int)}{s:Nat->Bool}:(gr l s).length=l.length:=by unfold gr; simp
theorem V5{l:List (Int × Int)}{s:Nat->Bool}:∀t∈gr l s,bK t=true:=λt ht=>by
 unfold gr at ht
 obtain⟨k,_,rfl⟩:=List.mem_map.mp ht
 unfold dU
 split <;> rfl
theorem ahd(hO:Od od m rows)(hL:Lk rows.length m ds as):U3 [aZ rows,eY ds as]=.ok (.lst (gs rows (sA od rows ds as)),true):=by
 have h4:=hO.n4
 have h12:=hO.m12
 have er:=V2 hO
 have eb:aZ rows=.lst (rows.map aJ):=rfl
 have ed:eY ds as=.tup [.lst (ds.map iT),.lst (as.map pT)]:=rfl
 walk_at "d"
 refine wCD (t:=aJ) (h:=λl=>List.replicate l.length Tr.non) (xs:=rows) rfl rfl (λl ml=>?_) (λl _=>xR λt ht=>by rw[List.eq_of_mem_replicate ht]; rfl) (by lia) rfl ?_
 .have e2:pB (.lst [.non]) (.int (l.length:Nat))=.ok (.lst (List.replicate l.length Tr.non),true):=by
   have hl:=hO.len l ml
   unfold pB
   have h1:(0:Int)<=l.length:=by lia
   simp[h1]
   lia
  walk_at "r"
 have e0:(rows.map λl=>Tr.lst (List.replicate l.length Tr.non))=gs rows λ_ _=>false:=by
  refine List.ext_getElem? λi=>?_
  unfold gs gr dU
  by_cases z:i<rows.length
  .simp[z]
   refine List.ext_getElem? λj=>?_
   by_cases y:j<rows[i].length <;> simp[y]
  .simp[z]
 rw[e0]
 walk_at "p"
 apply xEn ([]:List (Int × Int))
 walk_at "r"
 refine ju [5,6,7] (λs=>[(4,.dp (gs rows s))]) (λk s=>∀k' t',s k' t'=(decide (k'<k)&&decide (t'∈(od (rows.getD k' [])).take (ds.getD k' 0)))) (λ_ _=>false) (λk' t'=>by simp) rfl (λk v s hk hs=>?_) λv s hs=>?_
 .have hd:k<ds.length:=by rw[hL.1]; exact hk
  have id:=kE (f:=iT) 0 hd
  have ec:jy none (some (ds.getD k 0:Nat)) (.lst ((od (rows.getD k [])).map iT))=.ok (.lst (((od (rows.getD k [])).take (ds.getD k 0)).map iT),true):=by
   show Rs.ok (Tr.lst (cut ((od (rows.getD k [])).map iT) none (some (ds.getD k 0:Nat))),true)=_
   rw[Vo,<-List.map_take]
  have hl:=hO.len _ (getM (d:=[]) hk)
  walk_at "p"
  refine jO [7] (λs=>[(4,.dp (gs rows s))]) (λj s'=>∀k' t',s' k' t'=(s k' t' || (decide (k'=k)&&decide (t'∈((od (rows.getD k [])).take (ds.getD k 0)).take j)))) s (λk' t'=>by simp) rfl (λj t v s' ht hs'=>?_) λv s' hs'=>?_
  .have lt:t<(rows.getD k []).length:=by rw[hl]; exact hO.lt _ (getM hk) t (List.mem_of_mem_take (List.mem_of_getElem? ht))
   have gk:=kj hk
   have gt:=oK lt
   walk_at "p"
   refine V1 (m:=k) (n:=t) (rZ (rZ rfl rfl rfl rfl gk) rfl rfl rfl gt) rfl rfl (V3 hk) rfl (by rw[V4]; exact lt) rfl V5 rfl ?_
   rw[VP]
   refine⟨_,λk' t'=>?_,exV rfl⟩
   rw[hs' k' t',List.take_add_one,ht]
   by_cases h1:k'=k <;> by_cases h2:t'=t <;> simp[h1,h2]
  .rw[List.take_of_length_le (Nat.le_refl _)]at hs'
   walk_at "p"
   refine⟨s',λk' t'=>?_,exV rfl⟩
   rw[hs' k' t',hs k' t']
   by_cases h1:k'=k
   .subst h1; simp
   .have:k'<k+1↔k'<k:=by lia
    simp[h1,this]
 .walk_at "p"
  refine jO [5,7] (λs=>[(4,.dp (gs rows s))]) (λj s'=>∀k' t',s' k' t'=(s k' t' || decide ((k',t')∈as.take j))) s (λk' t'=>by simp) rfl (λj p v s' hp hs'=>?_) λv s' hs'=>?_
  .obtain⟨h1,h2⟩:=Lk.ok hO hL p (List.mem_of_getElem? hp)
   obtain⟨k,t⟩:=p
   have gk:=kj h1
   have gt:=oK h2
   walk_at "p"
   refine V1 (m:=k) (n:=t) (rZ (rZ rfl rfl rfl rfl gk) rfl rfl rfl gt) rfl rfl (V3 h1) rfl (by rw[V4]; exact h2) rfl V5 rfl ?_
   rw[VP]
   refine⟨_,λk' t'=>?_,exV rfl⟩
   rw[hs' k' t',List.take_add_one,hp]
   by_cases h1:k'=k <;> by_cases h2:t'=t <;> simp[h1,h2]
  .rw[List.take_of_length_le (Nat.le_refl _)]at hs'
   walk_at "p"
   refine congrArg (λl=>Rs.ok (Tr.lst l,true)) (List.map_congr_left λk hk=>?_)
   have hk:=List.mem_range.mp hk
   refine congrArg (λf=>Tr.lst (gr _ f)) (funext λt=>?_)
   unfold sA sn
   rw[hs' k t,hs k t,decide_eq_true hk,Bool.true_and]
end
noncomputable def fY(od:List (Int × Int)->List Nat)(one:Int × Int)(l:List (Int × Int))(d:Nat):Int × Int:=if 0<d then l.getD ((od l).getD (d-1) 0) (0,1)else one
noncomputable def dO(od:List (Int × Int)->List Nat)(one:Int × Int)(rows:List (List (Int × Int)))(ds:List Nat):List (Int × Int):=(List.range rows.length).map λk=>fY od one (rows.getD k []) (ds.getD k 0)
theorem vA{rows:List (List (Int × Int))}{ds:List Nat}(_:ds.length=rows.length):(dO od one rows ds).length=rows.length:=by unfold dO; simp
theorem Il{rows:List (List (Int × Int))}{ds:List Nat}{k:Nat}(_:ds.length=rows.length)(hk:k<rows.length):(dO od one rows ds).getD k (0,1)=fY od one (rows.getD k []) (ds.getD k 0):=by unfold dO; simp[hk]
theorem Av{α : Type}{f : α -> Int × Int}{l:List α}:aJ (l.map f)=.lst (l.map λx=>fT (f x)):=by unfold aJ; rw[List.map_map]; rfl
theorem Kg{aa:AF}{T U V:Tr}{us vs ws:List Tr}{b b' b2:Bool}{ρ ρ1:En}(h:aa ρ=.ok ([.v T b,.v U b',.v V b2],ρ1))(e:T=.lst us)(e1:U=.lst vs)(e2:V=.lst ws)(l:us.length<=vs.length)(l':us.length<=ws.length):QK aa ρ=.ok (iM us vs ws,ρ1):=by subst e e1 e2; exact bk h (if_pos ⟨l,l'⟩)
theorem V6{α β : Type}{f g : α -> Tr}{h : β -> Tr}:∀(xs:List α) (ys:List β),iM (xs.map f) (xs.map g) (ys.map h)=(xs.zip ys).map λp=>.tup [f p.1,g p.1,h p.2]
 | [],_=>rfl
 |_::_,[]=>rfl
 |x::xs,y::ys=>congrArg (_ :: ·) (V6 xs ys)
theorem ahe{od:List (Int × Int)->List Nat}{one:Int × Int}(hO:Od od m rows)(hl:ds.length=rows.length)(hd:∀d∈ds,d<=m):Ii [aZ rows,.lst (ds.map iT),fT one]=.ok (aJ (dO od one rows ds),true):=by
 have er:=V2 hO
 have n4:=hO.n4
 have ez:iM (rows.map aJ) (rows.map λl=>.lst ((od l).map iT)) (ds.map iT)=(List.range rows.length).map λk=>.tup [aJ (rows.getD k []),.lst ((od (rows.getD k [])).map iT),iT (ds.getD k 0)]:=by
  rw[V6]
  refine List.ext_getElem? λi=>?_
  by_cases z:i<rows.length
  .have z':i<ds.length:=by omega
   simp[z,z']
   exact⟨_,_,List.getElem?_zip_eq_some (z:=(rows[i],ds[i])) |>.mpr ⟨by simp[z],by simp[z']⟩,rfl,rfl,rfl⟩
  .rw[List.getElem?_eq_none (by simp; omega),List.getElem?_eq_none (by simp; omega)]
 unfold dO
 rw[Av]
 walk_at "d"
 rw[ez]
 refine j8 [4,5,6] (λk=>[(3,.ow ((List.range k).map λk=>fT (fY od one (rows.getD k []) (ds.getD k 0))))]) rfl (λk v hk=>?_) (λv=>?_)
 .have ml:=getM (d:=[]) hk
  have hd:=hd _ (getM (d:=0) (show k<ds.length by omega))
  have h1:=hO.len _ ml
  have h2:=hO.ln _ ml
  rw[List.range_succ,List.map_append]
  by_cases z:0<ds.getD k 0
  .have g2:tO (.int (ds.getD k 0:Nat)) (.int 1)=.ok (.int ((ds.getD k 0-1:Nat):Int),false):=by rw[Int.ofNat_sub z]; rfl
   have i1:=kE (f:=iT) (l:=od (rows.getD k [])) (k:=ds.getD k 0-1) 0 (by omega)
   have lt:=hO.lt _ ml _ (getM (d:=0) (show ds.getD k 0-1<(od (rows.getD k [])).length by omega))
   have w:fY od one (rows.getD k []) (ds.getD k 0)=_:=if_pos z
   walk_at "p"
   exact congrArg (λy=>_++[fT y]) w.symm
  .have w:fY od one (rows.getD k []) (ds.getD k 0)=_:=if_neg z
   walk_at "p"
   exact congrArg (λy=>_++[fT y]) w.symm
 .walk_at "p"
noncomputable abbrev bA(rows:List (List (Int × Int)))(k t:Nat):Int × Int:=(rows.getD k []).getD t (0,1)
noncomputable def lo(rows:List (List (Int × Int)))(s:Nat->Nat->Bool)(t:Nat):List (Int × Int):=(List.range rows.length).map λk=>if s k t=true then bA rows k t else(0,1)
noncomputable def hi(rows:List (List (Int × Int)))(s:Nat->Nat->Bool)(aR:List (Int × Int))(t:Nat):List (Int × Int):=(List.range rows.length).map λk=>if s k t=true then bA rows k t else aR.getD k (0,1)
noncomputable def eZ(a b:Nat->Int × Int)(m:Nat):List Tr:=(List.range m).map λt=>.tup [fT (a t),fT (b t)]
noncomputable def Im(rows:List (List (Int × Int)))(s:Nat->Nat->Bool)(t:Nat):List Tr:=(List.range rows.length).map λk=>dU (s k t) (bA rows k t)
section
variable {rows:List (List (Int × Int))}{s:Nat->Nat->Bool}{aR:List (Int × Int)}{m:Nat}
theorem v5{k:Nat}(hk:k<rows.length):aY (.lst (gs rows s)) (.int k)=.ok (.lst (gr (rows.getD k []) (s k)),false):=j9 (by unfold gs; simp[hk])
theorem aac(hk:0<rows.length):aY (.lst (gs rows s)) (.int 0)=.ok (.lst (gr (rows.getD 0 []) (s 0)),false):=v5 hk
theorem v7{l:List (Int × Int)}{s:Nat->Bool}{t:Nat}(ht:t<l.length):aY (.lst (gr l s)) (.int t)=.ok (dU (s t) (l.getD t (0,1)),false):=j9 (by unfold gr; simp[ht])
theorem aad{l:List (Int × Int)}{s:Nat->Bool}:fZ (.lst (gr l s))=.ok (.int l.length,false):=by
 show Rs.ok (Tr.int ((gr l s).length:Int),false)=_
 unfold gr
 simp
theorem V7{a b:Nat->Int × Int}:(eZ a b m).length=m:=by unfold eZ; simp
theorem V8{a b:Nat->Int × Int}:eZ a b m++[.tup [fT (a m),fT (b m)]]=eZ a b (m+1):=by unfold eZ; rw[List.range_succ,List.map_append]; rfl
theorem aae{b:Bool}{x:Int × Int}{c d:Int}{τ : En}:uq (gJ (pJ (oJ id) (iC 0) (eC .non))) (eC (.tup [.int c,.int d])) (iC 0) (.sh (dU b x)::τ)=.ok (.v (fT (if b=true then x else(c,d))) false,.sh (dU b x)::τ):=by cases b <;> rfl
theorem aaf{b:Bool}{x y:Int × Int}{τ : En}:uq (gJ (pJ (oJ id) (iC 0) (eC .non))) (iC 1) (iC 0) (.sh (dU b x) :: .sh (fT y)::τ)=.ok (.v (fT (if b=true then x else y)) false,.sh (dU b x) :: .sh (fT y)::τ):=by cases b <;> rfl
theorem ahf(h4:rows.length<=4)(ht:∀l∈rows,t<l.length):Ul [.lst (gs rows s),iT t]=.ok (.lst (Im rows s t),true):=by
 walk_at "d"
 exact ht _ (List.mem_of_getElem? (i:=x) (by simp[hx]))
 walk_at "r"
theorem ahg{a b:Nat->Int × Int}{R:Tr}(h1:1<=rows.length)(h4:rows.length<=4)(hl:aR.length=rows.length)(hm:m<=12)(hr:∀l∈rows,l.length=m)(e1:∀t,t<m->mj [R,aJ (lo rows s t)]=.ok (fT (a t),false))(e2:∀t,t<m->mj [R,aJ (hi rows s aR t)]=.ok (fT (b t),false)):U5 [R,.lst (gs rows s),aJ aR]=.ok (.lst (eZ a b m),true):=by
 have hm0:(rows.getD 0 []).length=m:=hr _ (List.mem_of_getElem? (i:=0) (by simp[show 0<rows.length by omega]))
 walk_at "d"
 rw[hm0]
 refine j8 [4,5,6,7] (λk=>[(3,.ow (eZ a b k))]) rfl (λt v ht=>?_) (λv=>?_)
 .have e0:=ahf (s:=s) h4 λl hl=>(hr l hl).symm▸ht
  have e1:=e1 t ht
  have e2:=e2 t ht
  unfold lo at e1
  unfold hi at e2
  rw[Av]at e1 e2
  have bl:=V7 (m:=t) (a:=a) (b:=b)
  have ez:iy (Im rows s t) (aR.map fT)=(List.range rows.length).map λk=>.tup [dU (s k t) (bA rows k t),fT (aR.getD k (0,1))]:=by
   refine List.ext_getElem? λi=>?_
   unfold iy Im
   rw[List.getElem?_map,List.getElem?_map]
   by_cases z:i<rows.length
   .have z':i<aR.length:=by omega
    have e1:((List.range rows.length).map λk=>dU (s k t) (bA rows k t))[i]?=some (dU (s i t) (bA rows i t)):=by simp[z]
    have e2:(aR.map fT)[i]?=some (fT (aR.getD i (0,1))):=by simp[z']
    rw[List.getElem?_zip_eq_some (z:=(dU (s i t) (bA rows i t),fT (aR.getD i (0,1)))) |>.mpr ⟨e1,e2⟩]
    simp[z]
   .rw[List.getElem?_eq_none (by simp; omega),List.getElem?_eq_none (by simp; omega)]
    rfl
  walk_at "p"
  exact V8
 .walk_at "p"
end
theorem Io(h:Fall l ys)(h':Fall l zs):ys=zs:=by
 refine List.Perm.eq_of_pairwise (λa b _ _ p q=>?_) h.2 h'.2 (h.1.trans h'.1.symm)
 unfold eX at p q
 lia
open Classical in
noncomputable def aD(l:List (Int × Int)):List Nat:=if h:∃zs:List Nat,Fall l zs then h.choose else []
theorem Ip(h:Fall l zs):aD l=zs:=by
 have h':∃zs:List Nat,Fall l zs:=⟨zs,h⟩
 unfold aD
 rw[dif_pos h']
 exact Io h'.choose_spec h
theorem vH(h:Frs N l)(hl:1+N*l.length<=8900)(hN:N<=8900)(h64:l.length<64):Fall l (aD l)/\rO [aJ l]=.ok (.lst ((aD l).map iT),true):=by
 obtain⟨ys,e,f⟩:=HD l h hl hN h64
 rw[Ip f]
 exact⟨f,e⟩
theorem Od.of(h1:1<=rows.length)(h4:rows.length<=4)(m1:1<=m)(m2:m<=12)(hl:∀l∈rows,l.length=m)(h:∀l∈rows,Frs N l)(hN:1+N*12<=8900):Od aD m rows:=by
 have k:∀l∈rows,Fall l (aD l)/\rO [aJ l]=.ok (.lst ((aD l).map iT),true):=λl ml=>vH (h l ml) (by
  have:=hl l ml
  have:N*l.length<=N*12:=Nat.mul_le_mul_left _ (by lia)
  lia) (by lia) (by have:=hl l ml; lia)
 refine⟨h1,h4,m1,m2,hl,λl ml=>(k l ml).2,λl ml t mt=>?_,λl ml=>?_⟩
 .have:=(k l ml).1.1.mem_iff.mp mt
  rw[List.mem_range,hl l ml]at this
  exact this
 .have:=(k l ml).1.1.length_eq
  rw[List.length_range,hl l ml]at this
  exact this
theorem Bk.od(hB:Bk m rows):Od aD m rows:=by
 obtain⟨b1,b2,b3,b4,b5⟩:=hB
 exact Od.of (N:=40) b1 b2 b3 b4 (λl ml=>(b5 l ml).1) (λl ml=>Wo.frs (b5 l ml).2) (by lia)
section
variable {od:List (Int × Int)->List Nat}{m:Nat}{rows:List (List (Int × Int))}{ds:List Nat}{as:List (Nat × Nat)}{one:Int × Int}{a b:Nat->Int × Int}{R:Tr}
theorem ahh(hB:Bk m rows)(ho:cN rows.length r):Uj [aZ rows,bT r]=.ok (.non,false) :=
 afr (sq_ (ex_ (R0 rfl rfl rfl (Vl hB))) (iF_ (no_ (tr_ (R0 (Ht rfl (Ht (cb_ rfl rfl (jR rows)) rfl)) rfl rfl (agV ho (by have:=hB.2.1; lia))) rfl rfl)) rfl))
end
theorem pref{α : Type}{p : α -> Bool}:∀zs:List α,zs.Pairwise (λa b=>p b=true->p a=true)->zs.take (zs.filter p).length=zs.filter p/\zs.drop (zs.filter p).length=zs.filter λa=>!p a
 | [],_=>⟨rfl,rfl⟩
 |a::l,h=>by
  obtain⟨h1,h2⟩:=List.pairwise_cons.mp h
  obtain⟨i1,i2⟩:=pref l h2
  cases e:p a with
  |true=>simp[e,i1,i2]
  |false =>
   have hf:∀b∈l,p b=false:=λb hb=>by
    cases z:p b with
    |false=>rfl
    |true=>rw[h1 b hb z]at e; cases e
   have z:l.filter p=[]:=List.filter_eq_nil_iff.mpr λb hb=>by rw[hf b hb]; simp
   have z':l.filter (λa=>!p a)=l:=List.filter_eq_self.mpr λb hb=>by rw[hf b hb]; rfl
   simp[e,z,z']
theorem iU{α : Type}{R : α -> α -> Prop}{p : α -> Bool}{zs:List α}{n : α}(hs:zs.Pairwise R)(hp:∀a∈zs,∀b∈zs,R a b->p b=true->p a=true)(h1:∀a∈zs,p a=true->R a n)(h2:∀b∈zs,p b=false->R n b):(zs.take (zs.filter p).length++n::zs.drop (zs.filter p).length).Perm (n::zs)/\(zs.take (zs.filter p).length++n::zs.drop (zs.filter p).length).Pairwise R:=by
 obtain⟨e1,e2⟩:=pref (p:=p) zs (hs.imp_of_mem λ{a b} ma mb r=>hp a ma b mb r)
 have hs':(zs.take (zs.filter p).length++zs.drop (zs.filter p).length).Pairwise R:=by rw[List.take_append_drop]; exact hs
 rw[e1,e2]at hs'
 rw[e1,e2]
 refine⟨List.perm_middle.trans ((List.filter_append_perm p zs).cons n),List.pairwise_append.mpr ⟨hs.filter p,List.pairwise_cons.mpr ⟨λb hb=>?_,hs.filter _⟩,λa ha b hb=>?_⟩⟩
 .obtain⟨m,q⟩:=List.mem_filter.mp hb
  exact h2 b m (by simpa using q)
 .obtain⟨m,q⟩:=List.mem_filter.mp ha
  rcases List.mem_cons.mp hb with rfl|hb
  .exact h1 a m q
  .exact(List.pairwise_append.mp hs').2.2 a ha b hb
theorem V9:∀xs:List (Int × Int),(∀x∈xs,1<=x.2)->∃zs,cF xs zs
 | [],_=>⟨[],.nil,.nil⟩
 |x::xs,h=>by
  obtain⟨zs,p,s⟩:=V9 xs λy m=>h y (List.mem_cons_of_mem _ m)
  have hz:∀z∈zs,1<=z.2:=λz m=>h z (List.mem_cons_of_mem _ (p.mem_iff.mp m))
  have hx:=h x (List.mem_cons_self ..)
  obtain⟨q1,q2⟩:=iU (R:=λa b=>le2 b a) (p:=λz=>!aN z x) (n:=x) s (λa ma b mb r q=>by
   have q:aN b x=false:=by simpa using q
   rw[jx.mpr (rP hx (hz b mb) (hz a ma) (jx.mp q) r)]
   rfl) (λa ma q=>jx.mp (by simpa using q)) λb mb q=>by
   have q:aN b x=true:=by simpa using q
   unfold aN at q
   unfold le2
   have:=of_decide_eq_true q
   lia
  exact⟨_,q1.trans (p.cons x),q2⟩
open Classical in
noncomputable def wv(r:Ru)(xs:List (Int × Int)):Int × Int:=if h:∃v,Wv r xs v then h.choose else(0,1)
theorem Ir(hx:LT xs)(h:Wv r xs v):wv r xs=v:=by
 have h':∃v,Wv r xs v:=⟨v,h⟩
 unfold wv
 rw[dif_pos h']
 exact Wv.uniq hx h'.choose_spec h
theorem Wa(hx:∀x∈xs,Wo x)(h:Wv r xs v):wv r xs=v:=Ir (agZ hx) h
theorem Wb:∀(ps:List ((Int × Int) × (Int × Int))) (t:Int × Int),Fx t->(∀p∈ps,Fx p.1/\Fx p.2)->Fx (dh ps t)
 | [],_,h,_=>h
 |p::ps,_,h,hp=>Wb ps _ (ag0 h (Ig (hp p (List.mem_cons_self ..)).1 (hp p (List.mem_cons_self ..)).2)) λq m=>hp q (List.mem_cons_of_mem _ m)
theorem Wc:∀(xs:List (Int × Int)) (t:Int × Int),Fx t->(∀p∈xs,Fx p)->Fx (dF xs t)
 | [],_,h,_=>h
 |x::xs,_,h,hp=>Wc xs _ (Ig h (hp x (List.mem_cons_self ..))) λq m=>hp q (List.mem_cons_of_mem _ m)
theorem mF(hx:∀x∈xs,Fx x)(h1:1<=xs.length)(ho:cN xs.length r):Wv r xs (wv r xs)/\Fx (wv r xs):=by
 suffices h:∃v,Wv r xs v/\Fx v by
  obtain⟨v,h,f⟩:=h
  rw[Ir (Ih hx) h]
  exact⟨h,f⟩
 have pl:placed r=true->∃v,(∃zs,cF xs zs/\zs[dG xs.length r-1]?=some v)/\Fx v:=λhp=>by
  obtain⟨zs,d⟩:=V9 xs λx m=>(hx x m).2.1
  have pr:=Ie hp ho h1
  have:=d.1.length_eq
  have g:zs[dG xs.length r-1]?=some zs[dG xs.length r-1]:=List.getElem?_eq_getElem (by lia)
  exact⟨_,⟨zs,d,g⟩,hx _ (d.1.mem_iff.mp (List.mem_of_getElem? g))⟩
 cases r with
 |sh ws=>exact⟨_,rfl,Wb _ _ (by unfold Fx; decide) λp m=>⟨(ho.2 _ (List.of_mem_zip m).1).fx,hx _ (List.of_mem_zip m).2⟩⟩
 |product=>exact⟨_,rfl,Wc _ _ (by unfold Fx; decide) hx⟩
 |least=>exact pl rfl
 |greatest=>exact pl rfl
 |mid k=>exact pl rfl
theorem Wd(hx:∀x∈xs,Wo x)(h1:1<=xs.length)(h2:xs.length<=12)(ho:cN xs.length r):mj [bT r,aJ xs]=.ok (fT (wv r xs),false)/\Wv r xs (wv r xs):=by
 obtain⟨v,e,h⟩:=agY hx h1 h2 ho
 rw[Wa hx h]
 exact⟨e,h⟩
theorem ahi:Wo (0,1):=by decide
theorem ahj:Wo (1,1):=by decide
theorem ahk(hx:∀x∈xs,Fx x)(hy:∀y∈ys,Fx y)(hl:xs.length=ys.length)(h1:1<=xs.length)(ho:cN xs.length r)(h:∀k,k<xs.length->le2 (xs.getD k (0,1)) (ys.getD k (0,1))):le2 (wv r xs) (wv r ys):=by
 have st:∀j,j<=xs.length->∃zs:List (Int × Int),zs.length=xs.length/\(∀z∈zs,Fx z)/\(∀k,k<xs.length->zs[k]?=some (if k<j then ys.getD k (0,1)else xs.getD k (0,1)))/\le2 (wv r xs) (wv r zs):=λj=>by
  induction j with
  |zero=>exact λ_=>⟨xs,rfl,hx,λk hk=>by simp[hk],p8 _⟩
  |succ j ih =>
   intro hj
   obtain⟨zs,z1,z2,z3,z4⟩:=ih (by lia)
   have my:Fx (ys.getD j (0,1)):=hy _ (getM (by lia))
   have Wf:∀z∈zs.set j (ys.getD j (0,1)),Fx z:=λz mz=>by
    rcases List.mem_or_eq_of_mem_set mz with m|e
    .exact z2 z m
    .rw[e]; exact my
   have l':(zs.set j (ys.getD j (0,1))).length=xs.length:=by rw[List.length_set,z1]
   obtain⟨q1,f1⟩:=mF (r:=r) z2 (by lia) (by rw[z1]; exact ho)
   obtain⟨q2,f2⟩:=mF (r:=r) Wf (by lia) (by rw[l']; exact ho)
   have mo:=Wv.mono z2 my (λx hx'=>by
    rw[z3 j (by lia),if_neg (by lia)]at hx'
    cases hx'
    exact h j (by lia)) (by rw[z1]; exact ho) q1 q2
   refine⟨_,l',Wf,λk hk=>?_,rP (mF hx h1 ho).2.2.1 f1.2.1 f2.2.1 z4 mo⟩
   rw[List.getElem?_set]
   by_cases e:j=k
   .subst e
    rw[if_pos rfl,if_pos (by lia),if_pos (by lia)]
   .rw[if_neg e,z3 k hk]
    by_cases e2:k<j
    .rw[if_pos e2,if_pos (by lia)]
    .rw[if_neg e2,if_neg (by lia)]
 obtain⟨zs,z1,z2,z3,z4⟩:=st xs.length (Nat.le_refl _)
 have e:zs=ys:=List.ext_getElem? λk=>by
  by_cases hk:k<xs.length
  .have hk':k<ys.length:=by lia
   rw[z3 k hk,if_pos hk]
   simp[hk']
  .rw[List.getElem?_eq_none (by lia),List.getElem?_eq_none (by lia)]
 rw[e]at z4
 exact z4
noncomputable def col(rows:List (List (Int × Int)))(t:Nat):List (Int × Int):=(List.range rows.length).map λk=>bA rows k t
section
variable {m:Nat}{rows:List (List (Int × Int))}{ds:List Nat}{as:List (Nat × Nat)}{s:Nat->Nat->Bool}{aR:List (Int × Int)}{t:Nat}
theorem Bk.row(hB:Bk m rows)(hk:k<rows.length):(rows.getD k [])∈rows/\(rows.getD k []).length=m/\∀x∈rows.getD k [],Wo x:=by
 have e:rows[k]?=some (rows.getD k []):=by simp[hk]
 have ml:=List.mem_of_getElem? e
 exact⟨ml,hB.2.2.2.2 _ ml⟩
theorem Bk.ou(hB:Bk m rows)(hk:k<rows.length)(ht:t<m):Wo (bA rows k t):=by
 obtain⟨_,h1,h2⟩:=hB.row hk
 unfold bA
 generalize rows.getD k []=l at *
 have lt:t<l.length:=by lia
 have e:l[t]?=some (l.getD t (0,1)):=by simp[lt]
 exact h2 _ (List.mem_of_getElem? e)
theorem Iu(hB:Bk m rows)(ht:t<m):∀x∈lo rows s t,Wo x:=λx mx=>by
 obtain⟨k,mk,rfl⟩:=List.mem_map.mp mx
 split
 .exact hB.ou (List.mem_range.mp mk) ht
 .exact ahi
theorem Iw(hB:Bk m rows)(ht:t<m)(hl:aR.length=rows.length)(hw:∀x∈aR,Wo x):∀x∈hi rows s aR t,Wo x:=λx mx=>by
 obtain⟨k,mk,rfl⟩:=List.mem_map.mp mx
 have hk:=List.mem_range.mp mk
 split
 .exact hB.ou hk ht
 .have lt:k<aR.length:=by lia
  have e:aR[k]?=some (aR.getD k (0,1)):=by simp[lt]
  exact hw _ (List.mem_of_getElem? e)
theorem Iz(hB:Bk m rows)(hk:k<rows.length)(hd:d<=m):Wo (fY aD (1,1) (rows.getD k []) d):=by
 obtain⟨ml,h1,h2⟩:=hB.row hk
 have hO:=hB.od
 have q1:=hO.ln _ ml
 have q2:=hO.lt _ ml
 unfold fY
 generalize rows.getD k []=l at *
 split
 .have lt:d-1<(aD l).length:=by lia
  have e:(aD l)[d-1]?=some ((aD l).getD (d-1) 0):=by simp[lt]
  have aN:=q2 _ (List.mem_of_getElem? e)
  have uV:(aD l).getD (d-1) 0<l.length:=by lia
  generalize (aD l).getD (d-1) 0=j at *
  have e2:l[j]?=some (l.getD j (0,1)):=by simp[uV]
  exact h2 _ (List.mem_of_getElem? e2)
 .exact ahj
theorem Aw(hB:Bk m rows)(hL:Lk rows.length m ds as):∀x∈dO aD (1,1) rows ds,Wo x:=λx mx=>by
 obtain⟨k,hk,e⟩:=List.getElem_of_mem mx
 have ll:=vA (od:=aD) (one:=(1,1)) hL.1
 have hk':k<rows.length:=by lia
 have e2:=Il (od:=aD) (one:=(1,1)) hL.1 hk'
 have e3:(dO aD (1,1) rows ds).getD k (0,1)=x:=by simp[hk,e]
 rw[<-e3,e2]
 have ld:k<ds.length:=by have:=hL.1; lia
 have e4:ds[k]?=some (ds.getD k 0):=by simp[ld]
 exact Iz hB hk' (hL.2.1 _ (List.mem_of_getElem? e4))
theorem oA:(lo rows s t).length=rows.length:=by unfold lo; simp
theorem iB:(hi rows s aR t).length=rows.length:=by unfold hi; simp
theorem Wg:(col rows t).length=rows.length:=by unfold col; simp
theorem ahl(hk:k<rows.length):(hi rows s aR t).getD k (0,1)=if s k t=true then bA rows k t else aR.getD k (0,1):=by unfold hi; simp[hk]
theorem ahm(hk:k<rows.length):(col rows t).getD k (0,1)=bA rows k t:=by unfold col; simp[hk]
variable {r:Ru}
noncomputable def loV(r:Ru)(rows:List (List (Int × Int)))(ds:List Nat)(as:List (Nat × Nat))(t:Nat):Int × Int:=wv r (lo rows (sA aD rows ds as) t)
noncomputable def hiV(r:Ru)(rows:List (List (Int × Int)))(ds:List Nat)(as:List (Nat × Nat))(t:Nat):Int × Int:=wv r (hi rows (sA aD rows ds as) (dO aD (1,1) rows ds) t)
theorem Ax(hB:Bk m rows)(ho:cN rows.length r)(ht:t<m):mj [bT r,aJ (lo rows (sA aD rows ds as) t)]=.ok (fT (loV r rows ds as t),false)/\Fq 400 (loV r rows ds as t):=by
 have q:=Wd (r:=r) (Iu (s:=sA aD rows ds as) hB ht) (by rw[oA]; exact hB.1) (by rw[oA]; have:=hB.2.1; lia) (by rw[oA]; exact ho)
 exact⟨q.1,Wv.fq (Iu hB ht) (by rw[oA]; exact hB.2.1) (by rw[oA]; exact ho) q.2⟩
theorem IK(hB:Bk m rows)(hL:Lk rows.length m ds as)(ho:cN rows.length r)(ht:t<m):mj [bT r,aJ (hi rows (sA aD rows ds as) (dO aD (1,1) rows ds) t)]=.ok (fT (hiV r rows ds as t),false)/\Fq 400 (hiV r rows ds as t):=by
 have w:=Iw (s:=sA aD rows ds as) hB ht (vA hL.1) (Aw hB hL)
 have q:=Wd (r:=r) w (by rw[iB]; exact hB.1) (by rw[iB]; have:=hB.2.1; lia) (by rw[iB]; exact ho)
 exact⟨q.1,Wv.fq w (by rw[iB]; exact hB.2.1) (by rw[iB]; exact ho) q.2⟩
end
noncomputable def Sc(c:Int)(x x':Int × Int):Prop:=x'.1*x.2=c*x.1*x'.2
theorem Sc.le(hc:1<=c)(h1:1<=x.2)(h2:1<=x'.2)(h3:1<=y.2)(h4:1<=y'.2)(a:Sc c x x')(b:Sc c y y'):le2 x' y'↔le2 x y:=by
 unfold Sc at a b
 unfold le2
 have p1:0<x.2*y.2:=Int.mul_pos (by lia) (by lia)
 have p2:0<c*(x'.2*y'.2):=Int.mul_pos (by lia) (Int.mul_pos (by lia) (by lia))
 have e1:x'.1*y'.2*(x.2*y.2)=x.1*y.2*(c*(x'.2*y'.2)):=by grind
 have e2:y'.1*x'.2*(x.2*y.2)=y.1*x.2*(c*(x'.2*y'.2)):=by grind
 constructor
 .intro h
  have:=Int.mul_le_mul_of_nonneg_right h (Int.le_of_lt p1)
  rw[e1,e2]at this
  exact Int.le_of_mul_le_mul_right this p2
 .intro h
  have:=Int.mul_le_mul_of_nonneg_right h (Int.le_of_lt p2)
  rw[<-e1,<-e2]at this
  exact Int.le_of_mul_le_mul_right this p1
theorem Sc.Wh(h1:1<=x.2)(h2:1<=x'.2)(h3:1<=y.2)(h4:1<=y'.2)(a:Sc c x x')(b:Sc d y y'):Sc (c*d) (aV x y) (aV x' y'):=by
 have p1:0<x.2*y.2:=Int.mul_pos (by lia) (by lia)
 have p2:0<x'.2*y'.2:=Int.mul_pos (by lia) (by lia)
 have v1:=(fM (a:=x.1*y.1) (b:=x.2*y.2) (by lia)).1
 have v2:=(fM (a:=x'.1*y'.1) (b:=x'.2*y'.2) (by lia)).1
 unfold Sc at *
 unfold aV
 generalize (red (x'.1*y'.1) (x'.2*y'.2)).2=q',(red (x'.1*y'.1) (x'.2*y'.2)).1=p',(red (x.1*y.1) (x.2*y.2)).2=q,(red (x.1*y.1) (x.2*y.2)).1=p at *
 refine Int.eq_of_mul_eq_mul_right (a:=x.2*y.2*(x'.2*y'.2)) (Int.ne_of_gt (Int.mul_pos p1 p2)) ?_
 grind
theorem Sc.sum(h1:1<=x.2)(h2:1<=x'.2)(h3:1<=y.2)(h4:1<=y'.2)(a:Sc c x x')(b:Sc c y y'):Sc c (sumF x y) (sumF x' y'):=by
 have p1:0<x.2*y.2:=Int.mul_pos (by lia) (by lia)
 have p2:0<x'.2*y'.2:=Int.mul_pos (by lia) (by lia)
 have v1:=(fM (a:=x.1*y.2+y.1*x.2) (b:=x.2*y.2) (by lia)).1
 have v2:=(fM (a:=x'.1*y'.2+y'.1*x'.2) (b:=x'.2*y'.2) (by lia)).1
 unfold Sc at *
 unfold sumF
 generalize (red (x'.1*y'.2+y'.1*x'.2) (x'.2*y'.2)).2=q',(red (x'.1*y'.2+y'.1*x'.2) (x'.2*y'.2)).1=p',(red (x.1*y.2+y.1*x.2) (x.2*y.2)).2=q,(red (x.1*y.2+y.1*x.2) (x.2*y.2)).1=p at *
 refine Int.eq_of_mul_eq_mul_right (a:=x.2*y.2*(x'.2*y'.2)) (Int.ne_of_gt (Int.mul_pos p1 p2)) ?_
 grind
noncomputable def sc(B:Int)(x:Int × Int):Int × Int:=aV x (B,1)
theorem ahn(B:Int):sc B (0,1)=(0,1):=by
 unfold sc aV red
 simp
theorem oE(h:1<=x.2):Sc B x (sc B x):=by
 have v:=(fM (a:=x.1*B) (b:=x.2*1) (by lia)).1
 unfold Sc sc aV
 dsimp only
 generalize (red (x.1*B) (x.2*1)).2=q,(red (x.1*B) (x.2*1)).1=p at *
 grind
theorem Ay(h1:1<=x.2)(h2:1<=y.2):1<=(aV x y).2:=(fM (by have:=Int.mul_pos (a:=x.2) (b:=y.2) (by lia) (by lia); lia)).2.1
theorem Wi(h1:1<=x.2)(h2:1<=y.2):1<=(sumF x y).2:=(fM (by have:=Int.mul_pos (a:=x.2) (b:=y.2) (by lia) (by lia); lia)).2.1
noncomputable def qd(k B:Int)(n:Nat):Ru->Int
 |.sh _=>k*B
 |.product=>B ^ n
 |_=>B
theorem Wj:∀(ws xs:List (Int × Int)) (t t':Int × Int),(∀w∈ws,1<=w.2/\1<=(sc k w).2)->(∀x∈xs,1<=x.2/\1<=(sc B x).2)->1<=t.2->1<=t'.2->Sc (k*B) t t'->Sc (k*B) (dh (ws.zip xs) t) (dh ((ws.map (sc k)).zip (xs.map (sc B))) t')
 | [],_,t,t',_,_,_,_,h=>h
 |_::_,[],t,t',_,_,_,_,h=>h
 |w::ws,x::xs,t,t',hw,hx,h1,h2,h=>by
  obtain⟨w1,w2⟩:=hw w (by simp)
  obtain⟨x1,x2⟩:=hx x (by simp)
  have b1:=Ay w1 x1
  have b2:=Ay w2 x2
  exact Wj ws xs _ _ (λw m=>hw w (by simp[m])) (λx m=>hx x (by simp[m])) (Wi h1 b1) (Wi h2 b2) (Sc.sum h1 h2 b1 b2 h (Sc.Wh w1 w2 x1 x2 (oE w1) (oE x1)))
theorem Wk:∀(xs:List (Int × Int)) (c:Int) (t t':Int × Int),(∀x∈xs,1<=x.2/\1<=(sc B x).2)->1<=t.2->1<=t'.2->Sc c t t'->Sc (c*B ^ xs.length) (dF xs t) (dF (xs.map (sc B)) t')
 | [],c,t,t',_,_,_,h=>by
  rw[List.length_nil,Int.pow_zero,Int.mul_one]
  exact h
 |x::xs,c,t,t',hx,h1,h2,h=>by
  obtain⟨x1,x2⟩:=hx x (by simp)
  have:=Wk xs (c*B) (aV t x) (aV t' (sc B x)) (λx m=>hx x (by simp[m])) (Ay h1 x1) (Ay h2 x2) (Sc.Wh h1 h2 x1 x2 h (oE x1))
  rw[List.length_cons,Int.pow_succ,show c*(B ^ xs.length*B)=c*B*B ^ xs.length by ac_rfl]
  exact this
theorem LT.of(h:∀x∈xs,Fq 45 x):LT xs:=λx m=>⟨(h x m).2.2.1,(h x m).2.2.2.2⟩
section
variable {m:Nat}{rows:List (List (Int × Int))}{ds:List Nat}{as:List (Nat × Nat)}{B:Int}
theorem Wl(l:List (Int × Int))(t:Nat):(l.map (sc B)).getD t (0,1)=sc B (l.getD t (0,1)):=by
 by_cases h:t<l.length
 .simp[h]
 .simp[h,ahn]
end
noncomputable def Bd(B:Int)(rows:List (List (Int × Int))):Prop:=1<=B/\B<=1000000000000/\∀l∈rows,∀x∈l,x.2∣B
end BH
end
section
set_option maxHeartbeats 400000
namespace BH
open PySem L2
noncomputable def Wm:Ru->Prop
 |.sh ws=>∀w∈ws,w.2∣12/\w.1<=100
 |_=>True
noncomputable def IV(a b:Nat->Int × Int)(i j:Nat):Prop:=(a j).1*(a i).2<(a i).1*(a j).2\/((a j).1*(a i).2=(a i).1*(a j).2/\((b j).1*(b i).2<(b i).1*(b j).2\/((b j).1*(b i).2=(b i).1*(b j).2/\i<j)))
theorem aho(hx:Fq 400 x)(hy:Fq 400 y):SM [fT x,fT y]=.ok (.bl (aN x y),false):=by
 obtain⟨a1,a2,a3,a4,_⟩:=hx
 obtain⟨b1,b2,b3,b4,_⟩:=hy
 have:=iz 400
 have c1:cM x.1 y.2=true:=jw (M:=400) (N:=400) (by lia) (by lia) (by lia) (by lia)
 have c2:cM y.1 x.2=true:=jw (M:=400) (N:=400) (by lia) (by lia) (by lia) (by lia)
 walk_at "d"
theorem Wn(h:Fall l ys)(n:l≠[]):∃p q,ys[0]?=some p/\ys[ys.length-1]?=some q/\p<l.length/\q<l.length/\∀i,i<l.length->aN (at2 l p) (at2 l i)=false/\aN (at2 l i) (at2 l q)=false:=by
 obtain⟨h1,h2⟩:=h
 have ln:ys.length=l.length:=by rw[h1.length_eq,List.length_range]
 have l0:0<l.length:=List.length_pos_iff.mpr n
 have mm:∀i,i∈ys↔i<l.length:=λi=>by rw[h1.mem_iff,List.mem_range]
 have hp:0<ys.length:=by lia
 have hq:ys.length-1<ys.length:=by lia
 refine⟨ys[0],ys[ys.length-1],List.getElem?_eq_getElem hp,List.getElem?_eq_getElem hq,(mm _).mp (List.getElem_mem hp),(mm _).mp (List.getElem_mem hq),λi hi=>?_⟩
 obtain⟨k,hk,rfl⟩:=List.mem_iff_getElem.mp ((mm i).mpr hi)
 have pw:=List.pairwise_iff_getElem.mp h2
 unfold aN at2
 constructor
 .rcases Nat.eq_zero_or_pos k with rfl|k0
  .exact decide_eq_false (by lia)
  .have:=pw 0 k hp hk k0
   unfold eX at this
   exact decide_eq_false (by lia)
 .rcases Nat.lt_or_ge k (ys.length-1)with c|c
  .have:=pw k (ys.length-1) hk hq c
   unfold eX at this
   exact decide_eq_false (by lia)
  .have:k=ys.length-1:=by lia
   subst this
   exact decide_eq_false (by lia)
theorem vI(hx:1<=x.2)(hy:1<=y.2)(hz:1<=z.2)(h1:aN x y=false)(h2:aN y z=false):aN x z=false:=by
 unfold aN at *
 have h1:=of_decide_eq_false h1
 have h2:=of_decide_eq_false h2
 refine decide_eq_false λh3=>?_
 have a1:y.1*x.2*z.2<=x.1*y.2*z.2:=Int.mul_le_mul_of_nonneg_right (by lia) (by lia)
 have a2:z.1*y.2*x.2<=y.1*z.2*x.2:=Int.mul_le_mul_of_nonneg_right (by lia) (by lia)
 have a3:x.1*z.2*y.2<z.1*x.2*y.2:=Int.mul_lt_mul_of_pos_right h3 (by lia)
 have e1:y.1*x.2*z.2=y.1*z.2*x.2:=Int.mul_right_comm _ _ _
 have e2:z.1*y.2*x.2=z.1*x.2*y.2:=Int.mul_right_comm _ _ _
 have e3:x.1*y.2*z.2=x.1*z.2*y.2:=Int.mul_right_comm _ _ _
 lia
theorem ahp(h:xs[xs.length-1]?=some T):aY (.lst xs) (.int (-1))=.ok (T,false):=by
 obtain⟨hi,e⟩:=List.getElem?_eq_some_iff.mp h
 have z:eH xs.length (-1)=some (xs.length-1):=by
  unfold eH
  rw[if_neg (by lia),if_pos (by lia)]
  congr 1
  lia
 show(match cW xs (-1)with
  |some t=>Rs.ok (t,false)
  |none=>.bad)=_
 unfold cW
 rw[z]
 dsimp only[Option.bind]
 rw[h]
section
variable {m:Nat}{a b:Nat->Int × Int}
theorem v8(h:t<m):aY (.lst (eZ a b m)) (iT t)=.ok (.tup [fT (a t),fT (b t)],false):=j9 (by unfold eZ; simp[h])
noncomputable def oF(a b:Nat->Int × Int)(m:Nat)(ys:List Nat):Prop:=∀t∈ys,∀o,o<m->o∉ys->aN (a t) (b o)=false
noncomputable abbrev fO(m:Nat)(ys:List Nat):List Nat:=(List.range m).filter λt=>!decide (t∈ys)
theorem Kh:fZ (.lst (eZ a b m))=.ok (.int (m:Nat),false):=by
 show Rs.ok (Tr.int ((eZ a b m).length:Int),false)=_
 unfold eZ
 simp
theorem Wq(hf:∀t,t<m->Fq 400 (a t)/\Fq 400 (b t))(hm:m<=12){ys:List Nat}(hy:∀t∈ys,t<m)(hl:ys.length<=12):∃T,U7 [.lst (eZ a b m),.lst (ys.map iT)]=.ok (T,false)/\((T=.non/\(ys=[]\/fO m ys=[]))\/∃t o,T=.tup [iT t,iT o]/\t∈ys/\o∈fO m ys/\(∀s∈ys,aN (a s) (a t)=false)/\∀s∈fO m ys,aN (b o) (b s)=false):=by
 have ho:∀t∈fO m ys,t<m:=λt ht=>List.mem_range.mp (List.mem_filter.mp ht).1
 have hol:(fO m ys).length<=12:=Nat.le_trans (List.length_filter_le ..) (by rw[List.length_range]; exact hm)
 have em:∀zs:List Nat,zs≠[]->(zs.map iT).isEmpty=false:=λzs h=>by cases zs with|nil=>exact(h rfl).elim|cons _ _=>rfl
 by_cases c1:ys=[]
 .refine⟨.non,?_,.inl ⟨rfl,.inl c1⟩⟩
  have n1:(ys.map iT).isEmpty=true:=by rw[c1]; rfl
  walk_at "d"
 have n1:=em ys c1
 by_cases c2:fO m ys=[]
 .refine⟨.non,?_,.inl ⟨rfl,.inr c2⟩⟩
  have n2:((fO m ys).map iT).isEmpty=true:=by rw[c2]; rfl
  walk_at "d"
 have n2:=em _ c2
 have fr:∀(c:Nat->Int × Int) (zs:List Nat),(∀t∈zs,Fq 400 (c t))->Frs 400 (zs.map c):=λc zs hc x mx=>by
  obtain⟨t,mt,rfl⟩:=List.mem_map.mp mx
  obtain⟨q1,q2,q3,q4,_⟩:=hc t mt
  have:=iz 400
  exact⟨q3,q4,by lia⟩
 obtain⟨f1,g1⟩:=vH (fr a ys λt mt=>(hf t (hy t mt)).1) (by rw[List.length_map]; lia) (by lia) (by rw[List.length_map]; lia)
 obtain⟨f2,g2⟩:=vH (fr b (fO m ys) λt mt=>(hf t (ho t mt)).2) (by rw[List.length_map]; lia) (by lia) (by rw[List.length_map]; lia)
 obtain⟨_,q,_,hq,_,q1,hq2⟩:=Wn f1 (by simpa using c1)
 obtain⟨p,_,hp,_,p1,_,hp2⟩:=Wn f2 (by simpa using c2)
 rw[List.length_map]at q1 p1 hq2 hp2
 have ga:∀(c:Nat->Int × Int) (zs:List Nat) i (h:i<zs.length),at2 (zs.map c) i=c zs[i]:=λc zs i h=>by unfold at2; simp[h]
 rw[Av]at g1 g2
 have i1:aY (.lst ((aD (ys.map a)).map iT)) (.int (-1))=.ok (iT q,false):=ahp (by rw[List.length_map,List.getElem?_map,hq]; rfl)
 have i2:aY (.lst ((aD ((fO m ys).map b)).map iT)) (.int 0)=.ok (iT p,false):=j9 (i:=0) (by rw[List.getElem?_map,hp]; rfl)
 have i3:aY (.lst (ys.map iT)) (iT q)=.ok (iT ys[q],false):=j9 (by rw[List.getElem?_map,List.getElem?_eq_getElem q1]; rfl)
 have i4:aY (.lst ((fO m ys).map iT)) (iT p)=.ok (iT (fO m ys)[p],false):=j9 (by rw[List.getElem?_map,List.getElem?_eq_getElem p1]; rfl)
 refine⟨.tup [iT ys[q],iT (fO m ys)[p]],?_,.inr ⟨ys[q],(fO m ys)[p],rfl,List.getElem_mem q1,List.getElem_mem p1,λs ms=>?_,λs ms=>?_⟩⟩
 .walk_at "d"
  exact hy x hx
  walk_at "r"
  exact ho x hx
  walk_at "r"
  exact Nat.le_trans hol (by lia)
  walk_at "r"
 .obtain⟨i,hi,rfl⟩:=List.mem_iff_getElem.mp ms
  have:=(hq2 i hi).2
  rwa[ga a ys i hi,ga a ys q q1]at this
 .obtain⟨i,hi,rfl⟩:=List.mem_iff_getElem.mp ms
  have:=(hp2 i hi).1
  rwa[ga b _ i hi,ga b _ p p1]at this
theorem ahq(hf:∀t,t<m->Fq 400 (a t)/\Fq 400 (b t))(hm:m<=12)(hy:∀t∈ys,t<m)(hl:ys.length<=12):∃bb,Va [.lst (eZ a b m),.lst (ys.map iT)]=.ok (.bl bb,false)/\(bb=true↔oF a b m ys):=by
 obtain⟨T,e,h⟩:=Wq hf hm hy hl
 have mo:∀o,o∈fO m ys↔o<m/\o∉ys:=λo=>by unfold fO; simp
 rcases h with⟨rfl,h⟩|⟨t,o,rfl,mt,mo',h1,h2⟩
 .refine⟨true,by walk_at "d",λ_ t mt o ho no=>?_,λ_=>rfl⟩
  rcases h with h|h
  .rw[h]at mt; cases mt
  .have:=(mo o).mpr ⟨ho,no⟩
   rw[h]at this; cases this
 .obtain⟨om,on⟩:=(mo o).mp mo'
  have tm:=hy t mt
  have fb:=aho (hf t tm).1 (hf o om).2
  refine⟨!aN (a t) (b o),by walk_at "d",λhb=>?_,λhs=>by rw[hs t mt o om on]; rfl⟩
  have hb':aN (a t) (b o)=false:=by simpa using hb
  intro s ms r hr nr
  exact vI (hf s (hy s ms)).1.2.2.1 (hf o om).2.2.2.1 (hf r hr).2.2.2.1 (vI (hf s (hy s ms)).1.2.2.1 (hf t tm).1.2.2.1 (hf o om).2.2.2.1 (h1 s ms) hb') (h2 r ((mo r).mpr ⟨hr,nr⟩))
end
section
variable {m:Nat}{a b a' b':Nat->Int × Int}{C:Int}
noncomputable def IW(C:Int)(m:Nat)(a a':Nat->Int × Int):Prop:=∀t,t<m->Sc C (a t) (a' t)/\1<=(a t).2/\1<=(a' t).2
theorem IW.le(hC:1<=C)(h:IW C m a a')(h':IW C m b b')(hi:i<m)(hj:j<m):((a' i).1*(b' j).2<=(b' j).1*(a' i).2↔(a i).1*(b j).2<=(b j).1*(a i).2)/\((b' j).1*(a' i).2<=(a' i).1*(b' j).2↔(b j).1*(a i).2<=(a i).1*(b j).2) :=
 ⟨Sc.le hC (h i hi).2.1 (h i hi).2.2 (h' j hj).2.1 (h' j hj).2.2 (h i hi).1 (h' j hj).1,Sc.le hC (h' j hj).2.1 (h' j hj).2.2 (h i hi).2.1 (h i hi).2.2 (h' j hj).1 (h i hi).1⟩
end
section
variable {m c:Nat}{a b:Nat->Int × Int}
theorem IV.ge(h:IV a b i j):aN (a i) (a j)=false/\(aN (a j) (a i)=false->aN (b i) (b j)=false):=by
 unfold IV at h
 unfold aN
 rw[decide_eq_false_iff_not,decide_eq_false_iff_not,decide_eq_false_iff_not]
 lia
end
end BH
end
section
namespace K28
open PySem L2 BH
noncomputable def top(i:Nat):Stmt:=PySem.Challenge.pw_bestheads_k28_other_books.main.body.getD i (.Pass ⟨0,0,0,0⟩)
noncomputable abbrev Ws:=(dC (dY (agb (ak (aj 0) (ak (aj 1) ao)))) (dC (sI (bR (bH (agz (ak (aj 2) (ak (aX (ak (aq (aj 0) (vC (.int 0))) ao)) ao))))) (b1 (pU "NoThings" (vC (.str "this is no rising list of unlike things")))) b0) (dC (dY (agq (ak (aj 0) (ak (aj 3) ao)))) (dC (sA 4 (aE (ags (ak (aj 0) (ak (aj 3) ao))))) (dC (sA 5 (aE (ag3 (ak (aj 0) (ak (aq (aj 3) (vC (.int 0))) (ak (vG "FULL" (.tup [(.int 1),(.int 1)])) ao)))))) (dC (sA 6 (aE (agu (ak (aj 1) (ak (aj 4) (ak (aj 5) ao)))))) (dC (sI (bH (agx (ak (aj 6) (ak (aj 2) ao)))) (b1 (aC (vC .non))) b0) (dC (uH (U8 (ak (aj 6) (ak (aj 2) ao))) (iw 2 (cj (gV 7) (cj (gV 8) iu)))) (dC (sA 9 (aE (agB (ak (aq (aq (aj 6) (aj 7)) (vC (.int 0))) (ak (aq (aq (aj 6) (aj 8)) (vC (.int 1))) (ak (aX (ak (aj 0) ao)) ao)))))) (dR (agD (ak (aj 4) (ak (aj 5) (ak (aj 8) (ak (aj 9) ao)))))))))))))))
noncomputable abbrev ahr:DF:=Ho Ws
noncomputable def vJ:FP:=lZ 10 ahr
noncomputable abbrev ahs{f:AF}(a:VA f):=vF "other_book" ["book", "rule", "things", "looks"] vJ 8 a
noncomputable abbrev aht{f:AF}(a:VA f):=Hg "other_book" ["book", "rule", "things", "looks"] vJ 8 a
noncomputable abbrev Wt:=(bC (sA 2 (aE (vC (.int 0)))) (bC (sI (tK (aL lY (aj 1) (aX (ak (aj 0) ao)))) (b1 (sA 2 (aE (aq (aj 0) (aj 1))))) b0) (bC (sI (tK (aL GZ (aj 2) (GX (vC (.int 10)) (vC (.int 18))))) (b1 (aC (d8 (nU (aj 2) (GX (vC (.int 10)) (vC (.int 18)))) (GX (vC (.int 10)) (vC (.int 60)))))) b0) (bC (sA 3 (aE (d8 (dD (dD (cJ (aj 2) (vC (.int 48271))) (cJ (aj 1) (vC (.int 69621)))) (vC (.int 11))) (vC (.int 2147483629))))) (bC (sA 3 (aE (d8 (cJ (aj 3) (aj 3)) (vC (.int 2147483587))))) (b1 (aC (dD (cJ (aj 3) (vC (.int 2147483563))) (d8 (cJ (aj 3) (aj 3)) (vC (.int 2147483563)))))))))))
noncomputable abbrev ahu:SF:=by exists Wt
noncomputable def Az:FP:=aO 4 ahu
noncomputable abbrev oG{f:AF}(a:VA f):=vF "_law_cell" ["_law_script", "_law_k"] Az 1 a
noncomputable abbrev Wu:=(bC (sA 2 (aE (Hf (ak (aj 0) ao)))) (bC (sA 3 (aE (Hf (ak (aj 1) ao)))) (bC (sN (sW (Rw 3) (tK (aL rK (aj 3) (vC (.int 0)))) (b1 (Fg 2 3 (ak (aj 3) (ak (d8 (aj 2) (aj 3)) ao)))))) (bC (sI (tK (aL lY (aj 1) (vC (.int 0)))) (b1 (sA 2 (aE (nU (vC (.int 0)) (aj 2))))) b0) (b1 (aC (iK (ak (fK (aj 0) (aj 2)) (ak (fK (aj 1) (aj 2)) ao)))))))))
noncomputable abbrev ahv:SF:=by exists Wu
noncomputable def vL:FP:=aO 4 ahv
noncomputable abbrev vO{f:AF}(a:VA f):=vF "_law_frac" ["_law_top", "_law_bottom"] vL 1 a
noncomputable abbrev Ww:=(b1 (aC (vO (ak (dD (cJ (aq (aj 0) (vC (.int 0))) (aq (aj 1) (vC (.int 1)))) (cJ (aq (aj 1) (vC (.int 0))) (aq (aj 0) (vC (.int 1))))) (ak (cJ (aq (aj 0) (vC (.int 1))) (aq (aj 1) (vC (.int 1)))) ao)))))
noncomputable abbrev ahw:SF:=by exists Ww
noncomputable def Wx:FP:=aO 2 ahw
noncomputable abbrev ahx{f:AF}(a:VA f):=vF "_law_add" ["_law_one", "_law_other"] Wx 2 a
noncomputable abbrev Wy:=(b1 (aC (vO (ak (cJ (aq (aj 0) (vC (.int 0))) (aq (aj 1) (vC (.int 0)))) (ak (cJ (aq (aj 0) (vC (.int 1))) (aq (aj 1) (vC (.int 1)))) ao)))))
noncomputable abbrev ahy:SF:=by exists Wy
noncomputable def Wz:FP:=aO 2 ahy
noncomputable abbrev WK{f:AF}(a:VA f):=vF "_law_mul" ["_law_one", "_law_other"] Wz 2 a
noncomputable abbrev WL:=(b1 (aC (vK (aL lY (cJ (aq (aj 0) (vC (.int 0))) (aq (aj 1) (vC (.int 1)))) (cJ (aq (aj 1) (vC (.int 0))) (aq (aj 0) (vC (.int 1))))))))
noncomputable abbrev ahz:SF:=by exists WL
noncomputable def Ja:FP:=aO 2 ahz
noncomputable abbrev Ba{f:AF}(a:VA f):=vF "_law_below" ["_law_one", "_law_other"] Ja 1 a
noncomputable abbrev WM:=(bC (sA 4 (aE (oG (ak (aj 0) (ak (aj 1) ao))))) (bC (sA 5 (aE (dD (vC (.int 1)) (d8 (aj 4) (aj 3))))) (bC (sA 6 (aE (dD (vC (.int 1)) (d8 (fK (aj 4) (aj 3)) (aj 2))))) (bC (sA 7 (aE (aq (Et [.int 2,.int 3,.int 4,.int 6,.int 10,.int 24,.int 97,.int 999999999999]) (d8 (fK (aj 4) (vC (.int 1000))) (vC (.int 8)))))) (bC (sO 8 (aE (dI ao))) (bC (sN (sF (dJ (ak (aj 6) ao)) (gV 9) (bC (sA 10 (aE (oG (ak (aj 0) (ak (dD (dD (aj 1) (vC (.int 1))) (aj 9)) ao))))) (bC (sO 11 (aE (dI ao))) (bC (sF (dJ (ak (aj 5) ao)) (gV 12) (bC (sI (tK (aL rK (aj 7) (vC (.int 100)))) (b1 (sA 10 (aE (oG (ak (aj 0) (ak (d8 (dD (dD (dD (aj 1) (vC (.int 1))) (aj 9)) (cJ (vC (.int 5)) (aj 12))) (vC (.int 63))) ao)))))) b0) (bC (dY (jt 11 (ak (vO (ak (d8 (aj 10) (dD (aj 7) (vC (.int 1)))) (ak (aj 7) ao))) ao))) (b1 (sA 10 (aE (fK (aj 10) (dD (aj 7) (vC (.int 1)))))))))) (b1 (sZ 11 (dY (jt 8 (ak (aj 11) ao)))))))))) (b1 (aC (aj 8)))))))))
noncomputable abbrev ahA:SF:=by exists WM
noncomputable def Jb:FP:=aO 13 ahA
noncomputable abbrev ahB{f:AF}(a:VA f):=vF "_law_book" ["_law_script", "_law_at", "_law_lists", "_law_most"] Jb 2 a
noncomputable abbrev WQ:=(bC (sA 2 (aE (d8 (aj 0) (vC (.int 7))))) (bC (sA 0 (aE (fK (aj 0) (vC (.int 7))))) (bC (sI (tK (aL dg (aj 2) (vC (.int 0)))) (b1 (aC (lQ [.str "least"]))) b0) (bC (sI (tK (aL dg (aj 2) (vC (.int 1)))) (b1 (aC (lQ [.str "greatest"]))) b0) (bC (sI (tK (aL dg (aj 2) (vC (.int 2)))) (b1 (aC (iK (ak (vC (.str "middle")) (ak (dD (vC (.int 1)) (d8 (aj 0) (aj 1))) ao))))) b0) (bC (sI (tK (aL dg (aj 2) (vC (.int 3)))) (b1 (aC (lQ [.str "product"]))) b0) (bC (sO 3 (aE (dI ao))) (bC (sN (sF (dJ (ak (aj 1) ao)) (gV 4) (bC (dY (jt 3 (ak (vO (ak (d8 (aj 0) (vC (.int 7))) (ak (dD (vC (.int 1)) (d8 (fK (aj 0) (vC (.int 7))) (vC (.int 4)))) ao))) ao))) (b1 (sA 0 (aE (fK (aj 0) (vC (.int 28))))))))) (b1 (sZ 3 (aC (iK (ak (vC (.str "shares")) (ak (aj 3) ao))))))))))))))
noncomputable abbrev ahC:SF:=by exists WQ
noncomputable def Jc:FP:=aO 5 ahC
noncomputable abbrev ahD{f:AF}(a:VA f):=vF "_law_rule" ["_law_number", "_law_lists"] Jc 2 a
noncomputable abbrev WR:=(bC (sI (tK (aL dg (aq (aj 0) (vC (.int 0))) (vC (.str "shares")))) (bC (sA 2 (aE (lQ [.int 0,.int 1]))) (bC (sN (sF (dJ (ak (aX (ak (aj 1) ao)) ao)) (gV 3) (b1 (sA 2 (aE (ahx (ak (aj 2) (ak (WK (ak (aq (aq (aj 0) (vC (.int 1))) (aj 3)) (ak (aq (aj 1) (aj 3)) ao))) ao)))))))) (b1 (aC (aj 2))))) b0) (bC (sI (tK (aL dg (aq (aj 0) (vC (.int 0))) (vC (.str "product")))) (bC (sA 2 (aE (lQ [.int 1,.int 1]))) (bC (sN (sF (bZ (aj 1)) (gV 4) (b1 (sA 2 (aE (WK (ak (aj 2) (ak (aj 4) ao)))))))) (b1 (aC (aj 2))))) b0) (bC (sO 5 (aE (dI ao))) (bC (sN (sF (bZ (aj 1)) (gV 4) (bC (sA 6 (aE (aX (ak (fJ (cO [none,some 4] ["_law_one", "_law_worth_here"] 5 (gV 0) (bH (Ba (ak (aj 0) (ak (aj 1) ao)))) (aj 0))) ao)))) (b1 (dY (RK 5 (ak (aj 6) (ak (aj 4) ao)))))))) (bC (sI (tK (aL dg (aq (aj 0) (vC (.int 0))) (vC (.str "least")))) (b1 (aC (aq (aj 5) (vC (.int 0))))) b0) (bC (sI (tK (aL dg (aq (aj 0) (vC (.int 0))) (vC (.str "greatest")))) (b1 (aC (aq (aj 5) (Ed (vC (.int 1)))))) b0) (b1 (aC (aq (aj 5) (nU (aX (ak (aj 5) ao)) (aq (aj 0) (vC (.int 1)))))))))))))
noncomputable abbrev ahE:SF:=by exists WR
noncomputable def qe:FP:=aO 7 ahE
noncomputable abbrev Jd{f:AF}(a:VA f):=vF "_law_worth" ["_law_rule_here", "_law_worths"] qe 3 a
noncomputable abbrev WT:=(bC (sO 1 (aE (dI ao))) (bC (sN (sF (dJ (ak (aX (ak (aj 0) ao)) ao)) (gV 2) (bC (sA 3 (aE (aX (ak (fJ (cO [none,some 0,some 2] ["_law_one", "_law_worths", "_law_thing"] 1 (gV 0) (bR (bH (Ba (ak (aq (aj 1) (aj 0)) (ak (aq (aj 1) (aj 2)) ao))))) (aj 0))) ao)))) (b1 (dY (RK 1 (ak (aj 3) (ak (aj 2) ao)))))))) (b1 (aC (aj 1)))))
noncomputable abbrev ahF:SF:=by exists WT
noncomputable def Bb:FP:=aO 4 ahF
noncomputable abbrev Bc{f:AF}(a:VA f):=vF "_law_order" ["_law_worths"] Bb 2 a
noncomputable abbrev WW:=(bC (sA 3 (aE (oG (ak (aj 0) (ak (aj 1) ao))))) (bC (sA 4 (aE (aX (ak (aq (aj 2) (vC (.int 0))) ao)))) (bC (sO 5 (aE (dI ao))) (bC (sN (sF (dJ (ak (aX (ak (aj 2) ao)) ao)) (gV 6) (bC (dY (jt 5 (ak (d8 (aj 3) (dD (aj 4) (vC (.int 1)))) ao))) (b1 (sA 3 (aE (fK (aj 3) (dD (aj 4) (vC (.int 1)))))))))) (bC (sI (tK (aL dg (d8 (aj 3) (vC (.int 4))) (vC (.int 0)))) (b1 (sZ 5 (sO 5 (cC [none] ["_law_depth"] (bZ (aj 5)) (gV 0) (fK (aj 0) (vC (.int 2))))))) b0) (bC (sO 7 (aE (dI ao))) (bC (sA 8 (aE (oG (ak (aj 0) (ak (dD (aj 1) (vC (.int 1))) ao))))) (bC (sN (sF (dJ (ak (aX (ak (aj 2) ao)) ao)) (gV 6) (bC (sI (tK (aL dg (aj 6) (vC (.int 2)))) (b1 (sA 8 (aE (oG (ak (aj 0) (ak (dD (aj 1) (vC (.int 50))) ao)))))) b0) (b1 (sF (dJ (ak (aj 4) ao)) (gV 9) (bC (sI (tK (aL dg (d8 (aj 8) (vC (.int 5))) (vC (.int 1)))) (b1 (dY (jt 7 (ak (iK (ak (aj 6) (ak (aj 9) ao))) ao)))) b0) (b1 (sA 8 (aE (fK (aj 8) (vC (.int 5)))))))))))) (bC (sI (tK (aL dg (d8 (fK (aj 3) (vC (.int 4))) (vC (.int 3))) (vC (.int 0)))) (b1 (sO 7 (aE (dI ao)))) b0) (b1 (sZ 7 (sZ 5 (aC (iK (ak (aj 5) (ak (aj 7) ao))))))))))))))))
noncomputable abbrev ahG:SF:=by exists WW
noncomputable def Je:FP:=aO 10 ahG
noncomputable abbrev ahH{f:AF}(a:VA f):=vF "_law_looks" ["_law_script", "_law_at", "_law_book_here"] Je 2 a
noncomputable abbrev WX:=(bC (sO 2 (aE (dI ao))) (bC (sN (sF (dJ (ak (aX (ak (aj 0) ao)) ao)) (gV 3) (bC (sA 4 (aE (qW (Bc (ak (aq (aj 0) (aj 3)) ao)) oN (oS (aq (aq (aj 1) (vC (.int 0))) (aj 3)))))) (bC (sO 5 (aE (dI ao))) (bC (sF (dJ (ak (aX (ak (aq (aj 0) (aj 3)) ao)) ao)) (gV 6) (bC (sA 7 (aE (vV .Or (uO (vK (aL G8 (aj 6) (aj 4))) (u1 .Or (vK (aL G8 (iK (ak (aj 3) (ak (aj 6) ao))) (aq (aj 1) (vC (.int 1)))))))))) (b1 (dY (jt 5 (ak (aq (dI (ak (vC .non) (ak (aq (aq (aj 0) (aj 3)) (aj 6)) ao))) (vInt (ak (aj 7) ao))) ao)))))) (b1 (sZ 5 (dY (jt 2 (ak (aj 5) ao)))))))))) (b1 (aC (aj 2)))))
noncomputable abbrev ahI:SF:=by exists WX
noncomputable def Jf:FP:=aO 8 ahI
noncomputable abbrev ahJ{f:AF}(a:VA f):=vF "_law_seen" ["_law_book_here", "_law_looks_here"] Jf 3 a
noncomputable abbrev WY:=(bC (sA 3 (aE (ahJ (ak (aj 0) (ak (aj 2) ao))))) (bC (sO 4 (aE (dI ao))) (bC (sN (sF (dJ (ak (aX (ak (aj 0) ao)) ao)) (gV 5) (bC (sA 6 (aE (qW (Bc (ak (aq (aj 0) (aj 5)) ao)) oN (oS (aq (aq (aj 2) (vC (.int 0))) (aj 5)))))) (b1 (dY (jt 4 (ak (aq (dI (ak (lQ [.int 1,.int 1]) (ak (aq (aq (aj 0) (aj 5)) (aq (dD (aj 6) (Et [.int 0])) (nU (aX (ak (aj 6) ao)) (vC (.int 1))))) ao))) (vInt (ak (vK (aL rK (aX (ak (aj 6) ao)) (vC (.int 0)))) ao))) ao))))))) (bC (sO 7 (aE (dI ao))) (bC (sN (sF (dJ (ak (aX (ak (aq (aj 0) (vC (.int 0))) ao)) ao)) (gV 8) (bC (sA 9 (cC [none,some 3,some 8] ["_law_k", "_law_seen_here", "_law_thing"] (dJ (ak (aX (ak (aj 0) ao)) ao)) (gV 0) (aq (dI (ak (aq (aq (aj 1) (aj 0)) (aj 2)) (ak (lQ [.int 0,.int 1]) ao))) (vInt (ak (vK (aL nW (aq (aq (aj 1) (aj 0)) (aj 2)) (vC .non))) ao))))) (bC (sA 10 (cC [none,some 3,some 8,some 4] ["_law_k", "_law_seen_here", "_law_thing", "_law_last"] (dJ (ak (aX (ak (aj 0) ao)) ao)) (gV 0) (aq (dI (ak (aq (aq (aj 1) (aj 0)) (aj 2)) (ak (aq (aj 3) (aj 0)) ao))) (vInt (ak (vK (aL nW (aq (aq (aj 1) (aj 0)) (aj 2)) (vC .non))) ao))))) (b1 (dY (jt 7 (ak (iK (ak (Jd (ak (aj 1) (ak (aj 9) ao))) (ak (Jd (ak (aj 1) (ak (aj 10) ao))) ao))) ao)))))))) (b1 (aC (aj 7))))))))
noncomputable abbrev ahK:SF:=by exists WY
noncomputable def W0:FP:=aO 11 ahK
noncomputable abbrev ahL{f:AF}(a:VA f):=vF "_law_bounds" ["_law_book_here", "_law_rule_here", "_law_looks_here"] W0 4 a
noncomputable abbrev W2:=(bC (sN (sF (bZ (aj 1)) (gV 2) (b1 (sF (dJ (ak (aX (ak (aj 0) ao)) ao)) (gV 3) (b1 (sI (tW .And (wA (tK (aL G9 (aj 3) (aj 1))) (w1 .And (bH (Ba (ak (aq (aq (aj 0) (aj 2)) (vC (.int 0))) (ak (aq (aq (aj 0) (aj 3)) (vC (.int 1))) ao))))))) (b1 (aC (vC (.bl false)))) b0)))))) (b1 (aC (vC (.bl true)))))
noncomputable abbrev ahM:SF:=by exists W2
noncomputable def Jg:FP:=aO 4 ahM
noncomputable abbrev ahN{f:AF}(a:VA f):=vF "_law_are_sure" ["_law_bounds_here", "_law_things"] Jg 2 a
noncomputable abbrev W3:=(bC (sI (tW .Or (wO (bR (bH (vd (aj 0)))) (w1 .Or (tK (aL fL (aX (ak (aj 0) ao)) (vC (.int 2))))))) (b1 (aC (vC (.bl false)))) b0) (b1 (aC (vK (aL dg (aX (ak (fJ (uY [none] ["_law_one"] (bZ (aj 0)) (gV 0) (tW .Or (wO (bR (bH (RG (aj 0)))) (w1 .Or (bH (RJ (aj 0)))))) (aj 0))) ao)) (vC (.int 0)))))))
noncomputable abbrev ahO:SF:=by exists W3
noncomputable def W4:FP:=aO 1 ahO
noncomputable abbrev ahP{f:AF}(a:VA f):=vF "_law_is" ["_law_found"] W4 1 a
noncomputable abbrev W5:=(bC (sI (tW .Or (wO (bR (bH (nZ (aj 1)))) (w1 .Or (tK (aL fL (aX (ak (aj 1) ao)) (aX (ak (aj 0) ao))))))) (b1 (aC (vC (.bl false)))) b0) (bC (sN (sF (dJ (ak (aX (ak (aj 0) ao)) ao)) (gV 3) (bC (sI (tW .Or (wO (bR (bH (nZ (aq (aj 1) (aj 3))))) (w1 .Or (tK (aL fL (aX (ak (aq (aj 1) (aj 3)) ao)) (aX (ak (aq (aj 0) (aj 3)) ao))))))) (b1 (aC (vC (.bl false)))) b0) (bC (sF (bZ (aq (aj 1) (aj 3))) (gV 4) (bC (sI (tW .Or (wO (bR (bH (ahP (ak (aj 4) ao)))) (wO (tK (aL lY (aq (aj 4) (vC (.int 1))) (vC (.int 1)))) (wO (tK (aL lY (aq (aj 4) (vC (.int 0))) (vC (.int 0)))) (w1 .Or (tK (aL rK (aq (aj 4) (vC (.int 0))) (aq (aj 4) (vC (.int 1)))))))))) (b1 (aC (vC (.bl false)))) b0) (b1 (sI (tK (aL fL (vO (ak (aq (aj 4) (vC (.int 0))) (ak (aq (aj 4) (vC (.int 1))) ao))) (aj 4))) (b1 (aC (vC (.bl false)))) b0)))) (bC (sA 5 (aE (qW (Bc (ak (aq (aj 0) (aj 3)) ao)) oN (oS (aq (aq (aj 2) (vC (.int 0))) (aj 3)))))) (bC (sI (tK (aL fL (qW (Bc (ak (aq (aj 1) (aj 3)) ao)) oN (oS (aq (aq (aj 2) (vC (.int 0))) (aj 3)))) (aj 5))) (b1 (aC (vC (.bl false)))) b0) (b1 (sI (tK (aL rK (aX (ak (fJ (uY [none,some 1,some 3,some 0] ["_law_thing", "_law_other", "_law_k", "_law_book_here"] (bZ (aj 5)) (gV 0) (tK (aL fL (aq (aq (aj 1) (aj 2)) (aj 0)) (aq (aq (aj 3) (aj 2)) (aj 0)))) (aj 0))) ao)) (vC (.int 0)))) (b1 (aC (vC (.bl false)))) b0)))))))) (b1 (aC (vK (aL dg (aX (ak (fJ (uY [none,some 1,some 0] ["_law_one", "_law_other", "_law_book_here"] (bZ (aq (aj 2) (vC (.int 1)))) (gV 0) (tK (aL fL (aq (aq (aj 1) (aq (aj 0) (vC (.int 0)))) (aq (aj 0) (vC (.int 1)))) (aq (aq (aj 2) (aq (aj 0) (vC (.int 0)))) (aq (aj 0) (vC (.int 1)))))) (aj 0))) ao)) (vC (.int 0))))))))
noncomputable abbrev ahQ:SF:=by exists W5
noncomputable def Jh:FP:=aO 6 ahQ
noncomputable abbrev ahR{f:AF}(a:VA f):=vF "_law_agrees" ["_law_book_here", "_law_other", "_law_looks_here"] Jh 3 a
noncomputable abbrev W6:=(bC (sO 3 (aE (dI ao))) (bC (sN (sF (dJ (ak (aX (ak (aq (aj 0) (vC (.int 0))) ao)) ao)) (gV 4) (b1 (dY (jt 3 (ak (Jd (ak (aj 1) (ak (fJ (cC [none,some 4] ["_law_row", "_law_thing"] (bZ (aj 0)) (gV 0) (aq (aj 0) (aj 1)))) ao))) ao)))))) (bC (sN (sF (bZ (aj 2)) (gV 4) (b1 (sF (dJ (ak (aX (ak (aj 3) ao)) ao)) (gV 5) (b1 (sI (tW .And (wA (tK (aL G9 (aj 5) (aj 2))) (w1 .And (bH (Ba (ak (aq (aj 3) (aj 4)) (ak (aq (aj 3) (aj 5)) ao))))))) (b1 (aC (vC (.bl false)))) b0)))))) (b1 (aC (vC (.bl true)))))))
noncomputable abbrev ahS:SF:=by exists W6
noncomputable def Bf:FP:=aO 6 ahS
noncomputable abbrev ahT{f:AF}(a:VA f):=vF "_law_best" ["_law_book_here", "_law_rule_here", "_law_things"] Bf 4 a
noncomputable abbrev W7:=(dR (wCo [none] ["_law_row"] (bZ (aj 0)) (gV 0) (u9 (ak (aj 0) ao))))
noncomputable abbrev ahU:DF:=Ho W7
noncomputable def Bg:FP:=lZ 1 ahU
noncomputable abbrev ahV{f:AF}(a:VA f):=vF "_law_copied" ["_law_book_here"] Bg 1 a
noncomputable abbrev ahW{f:AF}(a:VA f):=Hg "_law_copied" ["_law_book_here"] Bg 1 a
noncomputable abbrev W8:=(bC (sA 1 (aE (ahB (ak (aj 0) (ak (vC (.int 0)) (ak (vC (.int 4)) (ak (vC (.int 12)) ao))))))) (bC (sA 2 (aE (ahH (ak (aj 0) (ak (vC (.int 5)) (ak (aj 1) ao)))))) (bC (sA 3 (aE (ahD (ak (oG (ak (aj 0) (ak (vC (.int 7)) ao))) (ak (aX (ak (aj 1) ao)) ao))))) (bC (sA 4 (aE (ahL (ak (aj 1) (ak (aj 3) (ak (aj 2) ao)))))) (bC (sA 5 (aE (dI (ak (ahV (ak (aj 1) ao)) (ak (iK (ak (u9 (ak (aq (aj 2) (vC (.int 0))) ao)) (ak (u9 (ak (aq (aj 2) (vC (.int 1))) ao)) ao))) ao))))) (bC (sA 6 (aE (aX (ak (aq (aj 1) (vC (.int 0))) ao)))) (bC (sN (sF (dJ (ak (vC (.int 3)) ao)) (gV 7) (bC (sA 8 (aE (oG (ak (aj 0) (ak (dD (vC (.int 8)) (aj 7)) ao))))) (bC (sA 9 (uY [none,some 8] ["_law_thing", "_law_number"] (dJ (ak (aj 6) ao)) (gV 0) (tK (aL dg (afk (afj (aj 1) (aj 0)) (vC (.int 1))) (vC (.int 1)))) (aj 0))) (bC (Hi 10 (aht (ak (aq (aj 5) (vC (.int 0))) (ak (aj 3) (ak (u9 (ak (aj 9) ao)) (ak (aq (aj 5) (vC (.int 1))) ao)))))) (bC (sI (z8 (tW .Or (wO (tK (aL fL (aj 5) (dI (ak (aj 1) (ak (aj 2) ao))))) (w1 .Or (tK (aL fL (vK (aL nW (aj 10) (vC .non))) (ahN (ak (aj 4) (ak (aj 9) ao))))))))) (b1 (aC (vC (.bl false)))) b0) (b1 (sI (z8 (tK (aL afi (aj 10) (vC .non)))) (bC (sI (z8 (tW .Or (wO (bR (bH (ahR (ak (aj 1) (ak (aj 10) (ak (aj 2) ao)))))) (w1 .Or (bH (ahT (ak (aj 10) (ak (aj 3) (ak (aj 9) ao))))))))) (b1 (aC (vC (.bl false)))) b0) (bC (Hi 11 (wVw (ahW (ak (aj 10) ao)))) (bC (sCl 10 0) (b1 (sI (z8 (tK (aL fL (ahs (ak (aq (aj 5) (vC (.int 0))) (ak (aj 3) (ak (u9 (ak (aj 9) ao)) (ak (aq (aj 5) (vC (.int 1))) ao))))) (aj 11)))) (b1 (aC (vC (.bl false)))) b0))))) b0)))))))) (b1 (aC (vC (.bl true)))))))))))
noncomputable abbrev ahX:SF:=by exists W8
noncomputable def rR:FP:=aO 12 ahX
theorem p18:sy (.int 10) (.int 18)=.ok (.int 1000000000000000000,false):=by kernel_rfl
theorem p60:sy (.int 10) (.int 60)=.ok (.int 1000000000000000000000000000000000000000000000000000000000000,false):=by kernel_rfl
theorem Km{rows:List (List (Int × Int))}(h:0<rows.length):aY (aZ rows) (.int 0)=.ok (aJ (rows.getD 0 []),false):=kj h
theorem half{d:Nat}:xX (.int d) (.int 2)=.ok (.int ((d / 2:Nat):Int),false):=by
 refine(J9 (Kc (by lia) (by lia))).trans ?_
 rw[Int.fdiv_eq_ediv_of_nonneg _ (by lia)]
 rfl
theorem oO{α : Type}{f : α -> Tr}{l:List α}{d:Nat}:jy none (some (d:Int)) (.lst (l.map f))=.ok (.lst ((l.take d).map f),true):=by
 show Rs.ok (Tr.lst (cut (l.map f) none (some (d:Int))),true)=_
 rw[Vo,<-List.map_take]
theorem Bk.lt{m k t:Nat}{rows:List (List (Int × Int))}(hB:Bk m rows)(hk:k<rows.length)(ht:t<m):t<(rows.getD k []).length:=by rw[(hB.row hk).2.1]; exact ht
theorem Ko{f:Bool->Bool}{k t:Nat}{as:List (Nat × Nat)}:jJ f (.tup [.int k,.int t]) (.lst (as.map pT))=.ok (.bl (f (decide ((k,t)∈as))),false):=ahb f (k,t) as
theorem Ks{L:List Nat}:aY (.lst (L.map iT++[.int 0])) (.int (L.length-1))=.ok (iT (L.getLastD 0),false):=by
 cases L with
 |nil=>rfl
 |cons x L =>
  rw[show((x::L).length:Int)-1=(L.length:Nat) by simp]
  refine j9 ?_
  rw[List.getElem?_append_left (by simp),List.getElem?_map,List.getLastD_eq_getLast?,List.getLast?_eq_getElem?]
  simp
theorem ahY{L:List Nat}{m:Nat}(h:∀x∈L,x<m)(h0:0<m):L.getLastD 0<m:=by
 rw[List.getLastD_eq_getLast?]
 cases e:L.getLast? with
 |none=>exact h0
 |some x=>exact h x (List.mem_of_getLast? e)
theorem Kq{n:Nat}{a b:Int}{y:Int × Int}:aY (.lst [.tup [.int a,.int b],fT y]) (.int (if decide (0<(n:Int))=true then 1 else 0))=.ok (fT (if 0<n then y else(a,b)),false):=by
 by_cases h:0<n
 .rw[if_pos (decide_eq_true (by lia)),if_pos h]; rfl
 .rw[if_neg (by simp; lia),if_neg h]; rfl
theorem pick{b:Bool}{x y:Int × Int}:aY (.lst [dU b x,fT y]) (.int (if id (qH (dU b x))=true then 1 else 0))=.ok (fT (if b=true then x else y),false):=by cases b <;> rfl
theorem Kr{b:Bool}{x:Int × Int}{c d:Int}:aY (.lst [dU b x,.tup [.int c,.int d]]) (.int (if id (qH (dU b x))=true then 1 else 0))=.ok (fT (if b=true then x else(c,d)),false):=pick (y:=(c,d))
theorem Kp{b:Bool}{x:Int × Int}:aY (.lst [.non,fT x]) (.int (if b=true then 1 else 0))=.ok (dU b x,false):=by cases b <;> rfl
theorem cell_eq(ns:List Int)(k:Nat):∃x:Int,Az [.lst (ns.map .int),.int k]=.ok (.int x,false)/\0<=x/\x<2 ^ 200:=by
 have a1:=p18
 have a2:=p60
 have big:∀c:Int,0<=c.fmod 1000000000000000000000000000000000000000000000000000000000000/\c.fmod 1000000000000000000000000000000000000000000000000000000000000<2 ^ 200:=λc=>(iW c _ (by decide)).imp id λh=>Int.lt_trans h (by decide)
 have c1:∀c:Int,cM (c.fmod 2147483629) (c.fmod 2147483629)=true:=λc=>by
  have:=iW c 2147483629 (by lia)
  exact jw (M:=40) (N:=40) (by lia) (by lia) (by lia) (by lia)
 have c2:∀c:Int,cM (c.fmod 2147483587) (c.fmod 2147483587)=true:=λc=>by
  have:=iW c 2147483587 (by lia)
  exact jw (M:=40) (N:=40) (by lia) (by lia) (by lia) (by lia)
 have fin:∀c d:Int,0<=c.fmod 2147483587*2147483563+d.fmod 2147483563/\c.fmod 2147483587*2147483563+d.fmod 2147483563<2 ^ 200:=λc d=>by
  have:=iW c 2147483587 (by lia)
  have:=iW d 2147483563 (by lia)
  lia
 by_cases z:k<ns.length
 .have g:=kE (f:=Tr.int) 0 z
  by_cases y:1000000000000000000<=ns.getD k 0 <;> apply R4
  .walk_at "d"
  .exact big _
  .walk_at "d"
  .exact fin _ _
 .apply R4
  .walk_at "d"
  .exact fin _ _
theorem vP{a b:Int}{M:Nat}(ha:0<=a)(hb:1<=b)(hb2:b<2 ^ M)(hM:M<=8900):vL [.int a,.int b]=.ok (fT (red a b),false):=by
 have np:=iz M
 obtain⟨g1,g2,_⟩:=o9 (a:=a) (b:=b) (by lia)
 have c1:∀n,gO n ((Int.gcd a b:Nat):Int)=true:=λn=>vg (M:=M) (by lia) (by lia) hM
 walk_at "d"
 refine R3 [] (λs:Int × Int=>[(2,.sh (.int s.1)),(3,.sh (.int s.2))]) (λs=>0<=s.1/\0<=s.2/\Int.gcd s.1 s.2=Int.gcd a b) (λs=>s.2.natAbs) (a,b) ⟨ha,by lia,rfl⟩ rfl (by show b.natAbs<b.natAbs+1; lia) ?_
 rintro v ⟨x,y⟩ ⟨h1,h2,h3⟩
 dsimp only[pt,List.map,List.set]at *
 by_cases z:0<y
 .have r:=iW x y z
  apply Ac
  walk_at "r"
  exact⟨(y,x.fmod y),⟨h2,r.1,by rw[<-h3]; exact Nt ..⟩,Nr x y (by lia),λ_=>.un,rfl⟩
 .obtain rfl:y=0:=by lia
  obtain rfl:x=(Int.gcd a b:Nat):=by rw[<-h3,Int.gcd_zero_right]; lia
  apply Ac
  walk_at "r"
  unfold fT red
  rw[Int.fdiv_eq_ediv_of_nonneg _ (by lia),Int.fdiv_eq_ediv_of_nonneg _ (by lia)]
  rfl
theorem Ji{x y:Int × Int}{M N:Nat}(hx:Fq M x)(hy:Fq N y)(hM:M+N<=8900):Ja [fT x,fT y]=.ok (.bl (aN x y),false):=by
 obtain⟨_,c1,c2,_⟩:=mulC hx hy hM
 walk_at "d"
theorem mul_eq{x y:Int × Int}{M N:Nat}(hx:Fq M x)(hy:Fq N y)(hM:M+N<=8900):Wz [fT x,fT y]=.ok (fT (aV x y),false):=by
 obtain⟨c1,_,_,c4⟩:=mulC hx hy hM
 have p:=Int.mul_pos (a:=x.2) (b:=y.2) (by have:=hx.2.2.1; lia) (by have:=hy.2.2.1; lia)
 have e:=vP (a:=x.1*y.1) (b:=x.2*y.2) (M:=M+N) (Int.mul_nonneg hx.1 hy.1) (by lia) (gM (by have:=hx.2.2.1; lia) hx.2.2.2.1 (by have:=hy.2.2.1; lia) hy.2.2.2.1) hM
 walk_at "d"
theorem add_eq{x y:Int × Int}{M N:Nat}(hx:Fq M x)(hy:Fq N y)(hM:M+N<=8900):Wx [fT x,fT y]=.ok (fT (sumF x y),false):=by
 obtain⟨_,c2,c3,c4⟩:=mulC hx hy hM
 have x3:=hx.2.2.1
 have y3:=hy.2.2.1
 have p:=Int.mul_pos (a:=x.2) (b:=y.2) (by lia) (by lia)
 have e:=vP (a:=x.1*y.2+y.1*x.2) (b:=x.2*y.2) (M:=M+N) (Int.add_nonneg (Int.mul_nonneg hx.1 (by lia)) (Int.mul_nonneg hy.1 (by lia))) (by lia) (gM (by lia) hx.2.2.2.1 (by lia) hy.2.2.2.1) hM
 walk_at "d"
theorem Bh(ns:List Int){i:Int}(h:0<=i):∃x:Int,Az [.lst (ns.map .int),.int i]=.ok (.int x,false)/\0<=x/\x<2 ^ 200:=by
 obtain⟨k,rfl⟩:=Int.eq_ofNat_of_zero_le h
 exact cell_eq ns k
theorem Jj(x:Int){n:Nat}(h:1<=n):∃m:Nat,1<=m/\m<=n/\pA (.int 1) (.int (x.fmod n))=.ok (.int m,false):=by
 have r:=iW x n (by lia)
 exact⟨(1+x.fmod n).toNat,by lia,by lia,by rw[Int.toNat_of_nonneg (by lia)]; rfl⟩
theorem ahZ{z b:Int}(h0:0<=z)(h1:z<=b)(h2:1<=b)(h3:b<=1000000000000):Wo (red z b):=by
 obtain⟨g1,g2,g3,g4,g5,g6,g7⟩:=o9 (a:=z) (b:=b) (by lia)
 have d2:=Int.ediv_le_self (a:=b) ((Int.gcd z b:Nat):Int) (by lia)
 have d3:=Int.ediv_le_ediv g1 h1
 exact⟨g5 h0,d3,g3,by show b / ((Int.gcd z b:Nat):Int)<=_; lia,g4⟩
noncomputable def Bj(b:Int)(x:Int × Int):Prop:=Wo x/\x.2∣b
theorem ah0(x:Int):∃b:Int,aY (.lst [.int 2,.int 3,.int 4,.int 6,.int 10,.int 24,.int 97,.int 999999999999]) (.int (x.fmod 8))=.ok (.int b,false)/\1<=b/\b<=1000000000000:=by
 have r:=iW x 8 (by lia)
 obtain⟨k,hk⟩:=Int.eq_ofNat_of_zero_le r.1
 rw[hk]
 have:k<8:=by lia
 rcases k with _|_|_|_|_|_|_|_|k <;> first|exact⟨_,rfl,by decide,by decide⟩|lia
theorem snoc{α : Type}{p : α -> Prop}{l:List α}{x : α}(h:∀y∈l,p y)(k:p x):∀y∈l++[x],p y:=λy hy=>(List.mem_append.mp hy).elim (h y) λz=>List.mem_singleton.mp z▸k
theorem rT{α β : Type}{f : α -> β}{l:List α}{x : α}:l.map f++[f x]=(l++[x]).map f:=by simp
theorem ah1(ns:List Int)(a:Nat){L M:Nat}(hL:1<=L/\L<=4)(hM:1<=M/\M<=12):∃(m:Nat) (rows:List (List (Int × Int))),Bk m rows/\(∃D,Bd D rows)/\m<=M/\rows.length<=L/\Jb [.lst (ns.map .int),.int a,.int L,.int M]=.ok (aZ rows,true):=by
 obtain⟨x,ex,_⟩:=cell_eq ns a
 obtain⟨m,m1,m2,em⟩:=Jj x hM.1
 obtain⟨w,w1,w2,ew⟩:=Jj (x.fdiv M) hL.1
 obtain⟨b,eb,b1,b2⟩:=ah0 (x.fdiv 1000)
 suffices h:∃z,Jb [.lst (ns.map .int),.int a,.int L,.int M]=.ok z/\∃rows:List (List (Int × Int)),(rows.length=w/\∀l∈rows,l.length=m/\∀x∈l,Bj b x)/\z=(aZ rows,true) by
  obtain⟨_,e,rows,⟨h1,h2⟩,rfl⟩:=h
  exact⟨m,rows,⟨by lia,by lia,by lia,by lia,λl hl=>⟨(h2 l hl).1,λx hx=>((h2 l hl).2 x hx).1⟩⟩,⟨b,b1,b2,λl hl x hx=>((h2 l hl).2 x hx).2⟩,m2,by lia,e⟩
 walk_at "e"
 refine ju [9,10,11,12] (λs:List (List (Int × Int))=>[(8,.ow (s.map aJ))]) (λk s=>s.length=k/\∀l∈s,l.length=m/\∀x∈l,Bj b x) [] ⟨rfl,λ_ h=>by cases h⟩ rfl (λk v rows hk ⟨i1,i2⟩=>?_) (λv rows i=>?_)
 rotate_left
 .walk_at "p"
  exact⟨_,rfl,rows,i,rfl⟩
 obtain⟨o,eo,_⟩:=Bh ns (i:=(a:Int)+1+k) (by lia)
 walk_at "p"
 refine ju [12] (λs:Int × List (Int × Int)=>[(10,.sh (.int s.1)),(11,.ow (s.2.map fT))]) (λk s=>s.2.length=k/\∀x∈s.2,Bj b x) (o,[]) ⟨rfl,λ_ h=>by cases h⟩ rfl (λt v s ht ⟨j1,j2⟩=>?_) (λv s j=>?_)
 .obtain⟨o1,l⟩:=s
  have j1:l.length=t:=j1
  obtain⟨o2,eo2,_⟩:=Bh ns (i:=((a:Int)+1+k+5*t).fmod 63) (iW _ _ (by lia)).1
  have fr:∀o:Int,vL [.int (o.fmod (b+1)),.int b]=.ok (fT (red (o.fmod (b+1)) b),false)/\Bj b (red (o.fmod (b+1)) b):=λo=>by
   have r:=iW o (b+1) (by lia)
   exact⟨vP (M:=60) r.1 b1 (by lia) (by lia),ahZ r.1 (by lia) b1 b2,Int.ediv_dvd_of_dvd (Int.gcd_dvd_right ..)⟩
  have f1:=fr o1
  have f2:=fr o2
  have e1:=f1.1
  have e2:=f2.1
  by_cases h:100<b
  .walk_at "p"
   exact⟨(_,l++[_]),⟨by simp[j1],snoc j2 f2.2⟩,exV (by rw[<-rT]; rfl)⟩
  .walk_at "p"
   exact⟨(_,l++[_]),⟨by simp[j1],snoc j2 f1.2⟩,exV (by rw[<-rT]; rfl)⟩
 .walk_at "p"
  exact⟨rows++[s.2],⟨by simp[i1],snoc i2 j⟩,exV (by rw[<-rT]; rfl)⟩
theorem ah2(x:Int)(m:Nat):∃d:Nat,d<=m/\xY (.int x) (.int ((m:Int)+1))=.ok (.int d,false):=by
 have r:=iW x (m+1) (by lia)
 exact⟨(x.fmod (m+1)).toNat,by lia,by rw[Int.toNat_of_nonneg r.1]; exact J8 (by lia)⟩
noncomputable def Ak(m k j:Nat)(as:List (Nat × Nat)):Prop:=as.Pairwise Lx/\(∀p∈as,Lx p (k,j)/\p.2<m)/\as.length<=m*k+j
theorem Ak.step{m k j:Nat}{as r:List (Nat × Nat)}(h:Ak m k j as)(hj:j<m)(hr:r=[]\/r=[(k,j)]):Ak m k (j+1) (as++r):=by
 obtain⟨h1,h2,h3⟩:=h
 have lx:∀p,Lx p (k,j)->Lx p (k,j+1):=λp q=>by
  unfold Lx at *
  rcases q with q|q
  .exact .inl q
  .exact .inr ⟨q.1,by have:=q.2; dsimp only at this ⊢; lia⟩
 rcases hr with rfl|rfl
 .rw[List.append_nil]
  exact⟨h1,λp m=>⟨lx p (h2 p m).1,(h2 p m).2⟩,by lia⟩
 .refine⟨List.pairwise_append.mpr ⟨h1,List.pairwise_singleton _ _,λp mp q mq=>?_⟩,λp mp=>?_,by rw[List.length_append,List.length_singleton]; lia⟩
  .rw[List.mem_singleton.mp mq]
   exact(h2 p mp).1
  .rcases List.mem_append.mp mp with mp|mp
   .exact⟨lx p (h2 p mp).1,(h2 p mp).2⟩
   .rw[List.mem_singleton.mp mp]
    exact⟨.inr ⟨rfl,Nat.lt_succ_self j⟩,hj⟩
theorem Ak.next{m k:Nat}{as:List (Nat × Nat)}(h:Ak m k m as):Ak m (k+1) 0 as:=by
 obtain⟨h1,h2,h3⟩:=h
 refine⟨h1,λp m=>⟨.inl ?_,(h2 p m).2⟩,by rw[Nat.mul_succ]; lia⟩
 rcases(h2 p m).1 with q|q
 .dsimp only at q ⊢; lia
 .have:=q.1; dsimp only at this ⊢; lia
theorem Ak.lk{n m:Nat}{ds:List Nat}{as:List (Nat × Nat)}(h1:ds.length=n)(h2:∀d∈ds,d<=m)(hn:n<=4)(hm:m<=12)(h:Ak m n 0 as):Lk n m ds as:=by
 have mk:m*n<=12*4:=Nat.mul_le_mul hm hn
 refine⟨h1,h2,h.1,by have:=h.2.2; lia,λp mp=>⟨?_,(h.2.1 p mp).2⟩⟩
 rcases(h.2.1 p mp).1 with q|q
 .exact q
 .have:=q.2; dsimp only at this; lia
theorem ah3(ns:List Int)(a:Nat){m:Nat}{rows:List (List (Int × Int))}(hB:Bk m rows):∃(ds:List Nat) (as:List (Nat × Nat)),Lk rows.length m ds as/\Je [.lst (ns.map .int),.int a,aZ rows]=.ok (eY ds as,false):=by
 obtain⟨b1,b2,b3,b4,b5⟩:=id hB
 have l0:=(hB.row b1).2.1
 obtain⟨x,ex,_⟩:=cell_eq ns a
 obtain⟨y,ey,_⟩:=Bh ns (i:=(a:Int)+1) (by lia)
 obtain⟨w,ew,_⟩:=Bh ns (i:=(a:Int)+50) (by lia)
 have el:fZ (aJ (rows.getD 0 []))=.ok (.int m,false):=by rw[jd,l0]
 suffices h:∃z,Je [.lst (ns.map .int),.int a,aZ rows]=.ok z/\∃ds as,Lk rows.length m ds as/\z=(eY ds as,false) by
  obtain⟨_,e,ds,as,h,rfl⟩:=h
  exact⟨ds,as,h,e⟩
 walk_at "e"
 refine ju [6] (λs:Int × List Nat=>[(3,.sh (.int s.1)),(5,.ow (s.2.map iT))]) (λk s=>s.2.length=k/\∀d∈s.2,d<=m) (x,[]) ⟨rfl,λ_ h=>by cases h⟩ rfl (λk v s hk i=>?_) (λv s i=>?_)
 .obtain⟨x,ds⟩:=s
  obtain⟨d,hd,ed⟩:=ah2 x m
  have i1:ds.length=k:=i.1
  walk_at "p"
  exact⟨(_,ds++[d]),⟨by simp[i1],snoc i.2 hd⟩,exV (by rw[<-rT]; rfl)⟩
 obtain⟨x,ds⟩:=s
 have i1:ds.length=rows.length:=i.1
 walk_at "p"
 refine Ad (λs=>[(5,.ow (s.map iT))]) (λs:List Nat=>s.length=rows.length/\∀d∈s,d<=m) ?_ λds i=>?_
 .by_cases z:x.fmod 4=0
  .walk_at "r"
   exact⟨rfl,ds.map (· / 2),⟨by simp[i1],λd hd=>by obtain⟨e,he,rfl⟩:=List.mem_map.mp hd; have:=i.2 e he; lia⟩,by rw[List.map_map]; rfl⟩
  .walk_at "r"
   exact⟨rfl,ds,i,rfl⟩
 walk_at "p"
 refine ju [6,9] (λs:Int × List (Nat × Nat)=>[(8,.sh (.int s.1)),(7,.ow (s.2.map pT))]) (λk s=>Ak m k 0 s.2) (y,[]) ⟨.nil,λ_ h=>(by cases h),Nat.zero_le _⟩ rfl (λk v s hk ia=>?_) (λv s ia=>?_)
 .have mk:m*k<=12*4:=Nat.mul_le_mul b4 (by lia)
  obtain⟨o,as⟩:=s
  walk_at "p"
  refine Ad (λs=>[(8,.sh (.int s))]) (λ_:Int=>True) ?_ λo _=>?_
  .by_cases z:k=2
   .walk_at "r"
    exact⟨rfl,_,trivial,rfl⟩
   .walk_at "r"
    exact⟨rfl,_,trivial,rfl⟩
  walk_at "p"
  refine ju [9] (λs:Int × List (Nat × Nat)=>[(8,.sh (.int s.1)),(7,.ow (s.2.map pT))]) (λj s=>Ak m k j s.2) (o,as) ia rfl (λj v s hj ij=>?_) (λv s ij=>⟨s,ij.next,exV rfl⟩)
  obtain⟨o,as⟩:=s
  have la:as.length<=m*k+j:=ij.2.2
  by_cases z:o.fmod 5=1
  .walk_at "p"
   exact⟨(_,as++[(k,j)]),ij.step hj (.inr rfl),exV (by rw[<-rT]; rfl)⟩
  .walk_at "p"
   exact⟨(_,as),by have:=ij.step hj (.inl rfl); rwa[List.append_nil]at this,exV rfl⟩
 obtain⟨o,as⟩:=s
 walk_at "p"
 refine Ad (λs=>[(7,.ow (s.map pT))]) (λs:List (Nat × Nat)=>s=as\/s=[]) ?_ λas' ia'=>?_
 .by_cases z:(x.fdiv 4).fmod 3=0
  .walk_at "r"
   exact⟨rfl,[],.inr rfl,rfl⟩
  .walk_at "r"
   exact⟨rfl,as,.inl rfl,rfl⟩
 walk_at "p"
 refine⟨_,rfl,ds,as',?_,rfl⟩
 have L:=Ak.lk i.1 i.2 b2 b4 ia
 rcases ia' with rfl|rfl
 .exact L
 .exact⟨L.1,L.2.1,.nil,by simp,λ_ h=>by cases h⟩
end K28
end
section
namespace BH
open PySem L2
theorem rW(hB:0<=B)(hx:Fx x):Fx (sc B x):=Ig hx ⟨hB,Int.le_refl 1,by show Int.gcd B 1=1; simp⟩
theorem W9(hx:Fx x):sc 1 x=x:=by
 unfold sc aV red
 rw[Int.mul_one,Int.mul_one,hx.2.2]
 simp
theorem Xa{xs:List (Int × Int)}(hx:∀x∈xs,Fx x)(h1:1<=xs.length)(ho:cN xs.length r)(hB:1<=B):Sc (qd 1 B xs.length r) (wv r xs) (wv r (xs.map (sc B))):=by
 have hy:∀x∈xs.map (sc B),Fx x:=λy m=>by
  obtain⟨x,mx,rfl⟩:=List.mem_map.mp m
  exact rW (by lia) (hx x mx)
 have ll:(xs.map (sc B)).length=xs.length:=List.length_map ..
 have px:∀x∈xs,1<=x.2/\1<=(sc B x).2:=λx m=>⟨(hx x m).2.1,(rW (by lia) (hx x m)).2.1⟩
 have h:=(mF (r:=r) hx h1 ho).1
 have h':=(mF (r:=r) hy (by lia) (by rw[ll]; exact ho)).1
 have pl:(∃zs,cF xs zs/\zs[dG xs.length r-1]?=some (wv r xs))->(∃zs,cF (xs.map (sc B)) zs/\zs[dG (xs.map (sc B)).length r-1]?=some (wv r (xs.map (sc B))))->Sc B (wv r xs) (wv r (xs.map (sc B))):=λ⟨zs,d,e1⟩ ⟨zs',d',e2⟩=>by
  have dm:cF (xs.map (sc B)) (zs.map (sc B)):=⟨d.1.map _,by
   rw[List.pairwise_map]
   refine d.2.imp_of_mem λ{a b} ma mb hab=>?_
   have ma:=px a (d.1.mem_iff.mp ma)
   have mb:=px b (d.1.mem_iff.mp mb)
   exact(Sc.le hB mb.1 mb.2 ma.1 ma.2 (oE mb.1) (oE ma.1)).mpr hab⟩
  rw[cF.uniq (Ih hy) d' dm,ll,List.getElem?_map,e1]at e2
  exact Option.some.inj e2▸oE (px _ (d.1.mem_iff.mp (List.mem_of_getElem? e1))).1
 cases r with
 |sh ws =>
  have e:ws.map (sc 1)=ws:=(List.map_congr_left λw m=>W9 (ho.2 w m).fx).trans (List.map_id _)
  have:=Wj (B:=B) (k:=1) ws xs (0,1) (0,1) (λw m=>by rw[W9 (ho.2 w m).fx]; exact⟨(ho.2 w m).2.2.1,(ho.2 w m).2.2.1⟩) px (by decide) (by decide) (by unfold Sc; simp)
  rw[e]at this
  rw[show wv (.sh ws) xs=_ from h,show wv (.sh ws) (xs.map (sc B))=_ from h']
  exact this
 |product =>
  have:=Wk (B:=B) xs 1 (1,1) (1,1) px (by decide) (by decide) (by unfold Sc; simp)
  rw[Int.one_mul]at this
  rw[show wv .product xs=_ from h,show wv .product (xs.map (sc B))=_ from h']
  exact this
 |least=>exact pl h h'
 |greatest=>exact pl h h'
 |mid k=>exact pl h h'
theorem ah4{n:Nat}{q:Int}(hq:2<=q)(h1:1<=n)(h4:n<=4)(r:Ru):qd 1 q n r*(q-n)<=qd 1 (q-1) n r*q/\1<=qd 1 q n r/\1<=qd 1 (q-1) n r:=by
 have one:q*(q-n)<=(q-1)*q:=by
  rw[Int.mul_comm (q-1)]
  exact Int.mul_le_mul_of_nonneg_left (by lia) (by lia)
 have pw:∀b:Int,1<=b->1<=b ^ n:=λb hb=>Int.pow_pos (show 0<b by lia)
 cases r with
 |product =>
  refine⟨?_,pw _ (by lia),pw _ (by lia)⟩
  show q ^ n*(q-n)<=(q-1) ^ n*q
  have p:=Int.mul_nonneg (show 0<=q by lia) (show 0<=q by lia)
  have c:n=1\/n=2\/n=3\/n=4:=by lia
  rcases c with rfl|rfl|rfl|rfl
  .have:(q-1) ^ 1*q-q ^ 1*(q-(1:Nat))=0:=by grind
   lia
  .have:(q-1) ^ 2*q-q ^ 2*(q-(2:Nat))=q:=by grind
   lia
  .have:(q-1) ^ 3*q-q ^ 3*(q-(3:Nat))=q*(3*q-1):=by grind
   have:=Int.mul_nonneg (a:=q) (b:=3*q-1) (by lia) (by lia)
   lia
  .have:(q-1) ^ 4*q-q ^ 4*(q-(4:Nat))=q*(6*(q*q)-4*q+1):=by grind
   have:=Int.mul_le_mul_of_nonneg_left (show 2<=q from hq) (show 0<=q by lia)
   have:=Int.mul_nonneg (a:=q) (b:=6*(q*q)-4*q+1) (by lia) (by lia)
   lia
 |sh ws =>
  show 1*q*(q-n)<=1*(q-1)*q/\1<=1*q/\1<=1*(q-1)
  rw[Int.one_mul,Int.one_mul]
  exact⟨one,by lia,by lia⟩
 |least=>exact⟨one,by show 1<=q; lia,by show 1<=q-1; lia⟩
 |greatest=>exact⟨one,by show 1<=q; lia,by show 1<=q-1; lia⟩
 |mid k=>exact⟨one,by show 1<=q; lia,by show 1<=q-1; lia⟩
theorem Xb{c d:Int}(hx:1<=x.2)(hx':1<=x'.2)(hy:1<=y.2)(hy':1<=y'.2)(a:Sc c x x')(b:Sc d y y'):le2 x' y'↔c*x.1*y.2<=d*y.1*x.2:=by
 unfold Sc at a b
 unfold le2
 have p1:=Int.mul_pos (a:=x.2) (b:=y.2) (by lia) (by lia)
 have p2:=Int.mul_pos (a:=x'.2) (b:=y'.2) (by lia) (by lia)
 have e1:x'.1*y'.2*(x.2*y.2)=c*x.1*y.2*(x'.2*y'.2):=by grind
 have e2:y'.1*x'.2*(x.2*y.2)=d*y.1*x.2*(x'.2*y'.2):=by grind
 rw[<-Int.mul_le_mul_right p1,e1,e2,Int.mul_le_mul_right p2]
theorem ah5{xs ys:List (Int × Int)}{q:Int}{a:Int × Int}(hx:∀x∈xs,Fx x)(hy:∀y∈ys,Fx y)(hl:xs.length=ys.length)(h1:1<=xs.length)(h4:xs.length<=4)(ho:cN xs.length r)(hq:2<=q)(h:∀k,k<xs.length->(q-1)*(xs.getD k (0,1)).1*(ys.getD k (0,1)).2<=q*(ys.getD k (0,1)).1*(xs.getD k (0,1)).2)
  (ha:1<=a.2) (hw:xs.length*(wv r xs).1*a.2<q*((wv r xs).1*a.2-a.1*(wv r xs).2)):aN a (wv r ys)=true:=by
 have mx:∀x∈xs.map (sc (q-1)),Fx x:=λy m=>by
  obtain⟨x,mx,rfl⟩:=List.mem_map.mp m
  exact rW (by lia) (hx x mx)
 have my:∀x∈ys.map (sc q),Fx x:=λy m=>by
  obtain⟨x,mx,rfl⟩:=List.mem_map.mp m
  exact rW (by lia) (hy x mx)
 have lx:(xs.map (sc (q-1))).length=xs.length:=List.length_map ..
 have ly:(ys.map (sc q)).length=ys.length:=List.length_map ..
 have m:=ahk (r:=r) mx my (by lia) (by lia) (by rw[lx]; exact ho) λk hk=>by
  have fx:=hx _ (getM (d:=(0,1)) (by lia:k<xs.length))
  have fy:=hy _ (getM (d:=(0,1)) (by lia:k<ys.length))
  rw[Wl,Wl]
  exact(Xb fx.2.1 (rW (by lia) fx).2.1 fy.2.1 (rW (by lia) fy).2.1 (oE fx.2.1) (oE fy.2.1)).mpr (h k (by lia))
 have f1:=(mF (r:=r) hx h1 ho).2
 have f2:=(mF (r:=r) hy (by lia) (hl▸ho)).2
 have f3:=(mF (r:=r) mx (by lia) (by rw[lx]; exact ho)).2
 have f4:=(mF (r:=r) my (by lia) (by rw[ly,<-hl]; exact ho)).2
 have k1:=(Xb f1.2.1 f3.2.1 f2.2.1 f4.2.1 (Xa hx h1 ho (by lia)) (Xa hy (by lia) (hl▸ho) (by lia))).mp m
 rw[<-hl]at k1
 obtain⟨b1,b2,b3⟩:=ah4 (n:=xs.length) hq h1 h4 r
 generalize wv r ys=V,wv r xs=W,qd 1 q xs.length r=S,qd 1 (q-1) xs.length r=P at *
 have p1:=Int.mul_le_mul_of_nonneg_right k1 (show 0<=q*a.2 from Int.mul_nonneg (by lia) (by lia))
 have p2:=Int.mul_le_mul_of_nonneg_right b1 (show 0<=W.1*(V.2*a.2)from Int.mul_nonneg f1.1 (Int.mul_nonneg (by have:=f2.2.1; lia) (by lia)))
 have p3:=Int.mul_lt_mul_of_pos_right hw (show 0<S*V.2 from Int.mul_pos (by lia) (by have:=f2.2.1; lia))
 have pos:0<S*q*W.2:=Int.mul_pos (Int.mul_pos (by lia) (by lia)) (by have:=f1.2.1; lia)
 unfold aN
 refine decide_eq_true (Int.lt_of_mul_lt_mul_right (a:=S*q*W.2) ?_ (by lia))
 have e1:a.1*V.2*(S*q*W.2)=q*(a.1*W.2)*(S*V.2):=by grind
 have e2:V.1*a.2*(S*q*W.2)=S*V.1*W.2*(q*a.2):=by grind
 have e3:q*(W.1*a.2-a.1*W.2)*(S*V.2)=q*(W.1*a.2)*(S*V.2)-q*(a.1*W.2)*(S*V.2):=by grind
 have e4:S*(q-(xs.length:Int))*(W.1*(V.2*a.2))=q*(W.1*a.2)*(S*V.2)-xs.length*W.1*a.2*(S*V.2):=by grind
 have e5:P*q*(W.1*(V.2*a.2))=P*W.1*V.2*(q*a.2):=by grind
 lia
end BH
end
section
namespace L2
open PySem
theorem wSI{ρ ρ2:En}{fe fk:EF}{T:Tr}{b:Bool}{i n:Nat}{ts:List Tr}{x:Rv}{Q:Fl->En->Prop}(h:fe ρ=.ok (.v T b,ρ))(c : ρ[i]?=some (.ow ts))(q:fk ρ=.ok (x,ρ))(d:dr ρ x=.ok (.int (n:Nat)))(l:n<ts.length)(e : ρ.set i (.ow (ts.set n T)) = ρ2)(k:Q .nx ρ2):W (RL i fk fe ρ) Q:=by
 have cd:con ρ i=.ok ts:=by unfold con; rw[c]
 have u:cH i (ts.set n T) ρ = ρ2:=by unfold cH; rw[c]; exact e
 have ix:eH ts.length (n:Int)=some n:=by
  unfold eH
  rw[if_pos (by lia),if_pos (by lia)]
  rfl
 refine⟨.nx,ρ2,bk h (bk (a:=[T]) rfl (bk cd (bk q (bk d (bk (a:=(n:Int)) rfl (bk cd ?_)))))),k⟩
 dsimp only
 rw[ix]
 exact u▸rfl
end L2
namespace BH
open PySem L2
theorem Fq.c(hx:Fq M x)(hM:M<=8900):x.1.natAbs<2 ^ M/\x.2.natAbs<2 ^ M:=by
 obtain⟨x1,x2,x3,x4,_⟩:=hx
 have:=iz M
 lia
theorem ah6{x y:Int × Int}{M N:Nat}(hx:Fq M x)(hy:Fq N y)(hM:M+N<=8900):Ss [fT x,fT y]=.ok (fT (red (x.1*y.2-y.1*x.2) (x.2*y.2)),false):=by
 obtain⟨_,c1,c2,c3⟩:=mulC hx hy hM
 have e:=Al (a:=x.1*y.2-y.1*x.2) (b:=x.2*y.2) (M:=M+N) (jP hx.2.2.1 hy.2.2.1) (gM (by have:=hx.2.2.1; lia) hx.2.2.2.1 (by have:=hy.2.2.1; lia) hy.2.2.2.1) hM
 walk_at "d"
theorem ah7{x y:Int × Int}{M N:Nat}(hx:Fq M x)(hy:Fq N y)(h1:1<=y.1)(hM:M+N<=8900):Sy [fT x,fT y]=.ok (fT (red (x.1*y.2) (x.2*y.1)),false):=by
 obtain⟨_,c1,c3,_⟩:=mulC hx hy hM
 rw[show cM y.1 x.2=cM x.2 y.1 by unfold cM; rw[Bool.and_comm,Bool.or_assoc,Bool.or_assoc,Bool.or_comm (tiny y.1)]]at c3
 have e:=Al (a:=x.1*y.2) (b:=x.2*y.1) (M:=M+N) (jP hx.2.2.1 h1) (gM (by have:=hx.2.2.1; lia) hx.2.2.2.1 hy.1 hy.2.1) hM
 walk_at "d"
theorem ah8(ha:1<=a)(hb:1<=b):1<=(red a b).1:=by
 obtain⟨v,p,_⟩:=fM (a:=a) hb
 rcases Int.lt_or_le 0 (red a b).1 with z|z
 .exact z
 .have:=jP ha p
  have:=Int.mul_nonpos_of_nonpos_of_nonneg z (show 0<=b by lia)
  lia
theorem ah9{a h:Int × Int}{n:Nat}(ha:Fq 400 a)(hh:Fq 400 h)(l:aN a h=true)(h1:1<=n)(h4:n<=4):∃q:Int,Ve [fT a,fT h,.int n]=.ok (.tup [.int (q-1),.int q],false)/\2<=q/\q<2 ^ 1204/\n*h.1*a.2<q*(h.1*a.2-a.1*h.2):=by
 have l:a.1*h.2<h.1*a.2:=of_decide_eq_true l
 have fn:Fq 3 ((n:Int),1):=⟨by lia,by show(n:Int)<2 ^ 3; lia,Int.le_refl 1,by show(1:Int)<2 ^ 3; decide,by simp⟩
 have n0:=Int.mul_nonneg ha.1 (show 0<=h.2 by have:=hh.2.2.1; lia)
 have e1:Af [.tup [.int n,.int 1],fT h]=.ok (fT (aV ((n:Int),1) h),false):=Am (x:=((n:Int),1)) fn hh (by lia)
 have e2:=ah6 hh ha (by lia)
 have fN:=mD fn hh
 have b1:=gM hh.1 hh.2.1 (by have:=ha.2.2.1; lia) ha.2.2.2.1
 have b2:=gM (by have:=hh.2.2.1; lia) hh.2.2.2.1 (by have:=ha.2.2.1; lia) ha.2.2.2.1
 have fD:Fq 800 (red (h.1*a.2-a.1*h.2) (h.2*a.2)):=vp (by lia) (by lia) (jP hh.2.2.1 ha.2.2.1) b2
 have vD:=(fM (a:=h.1*a.2-a.1*h.2) (jP hh.2.2.1 ha.2.2.1)).1
 have pD:=ah8 (a:=h.1*a.2-a.1*h.2) (by lia) (jP hh.2.2.1 ha.2.2.1)
 have vN:=(fM (a:=(n:Int)*h.1) (b:=1*h.2) (by have:=hh.2.2.1; lia)).1
 have e3:=ah7 fN fD pD (by lia)
 change n*h.1*(aV (n,1) h).2=(aV (n,1) h).1*(1*h.2)at vN
 generalize red (h.1*a.2-a.1*h.2) (h.2*a.2)=D,aV ((n:Int),1) h=N at *
 have p2:=jP fN.2.2.1 pD
 have fB:Fq 1203 (red (N.1*D.2) (N.2*D.1)):=vp (Int.mul_nonneg fN.1 (by have:=fD.2.2.1; lia)) (gM fN.1 fN.2.1 (by have:=fD.2.2.1; lia) fD.2.2.2.1) p2 (gM (by have:=fN.2.2.1; lia) fN.2.2.2.1 fD.1 fD.2.1)
 have vB:=(fM (a:=N.1*D.2) p2).1
 generalize red (N.1*D.2) (N.2*D.1)=B at *
 have fl:B.1.fdiv B.2=B.1 / B.2:=Int.fdiv_eq_ediv_of_nonneg _ (by have:=fB.2.2.1; lia)
 have lt:=Int.lt_ediv_add_one_mul_self B.1 (b:=B.2) (by have:=fB.2.2.1; lia)
 have le:=Int.ediv_le_self (a:=B.1) B.2 fB.1
 have nn:=Int.ediv_nonneg (a:=B.1) (b:=B.2) fB.1 (by have:=fB.2.2.1; lia)
 rw[<-fl]at lt le nn
 have c1:gO B.1 B.2=true:=vg (M:=1203) (by have:=fB.2.2.1; lia) (fB.c (by lia)).2 (by lia)
 have key:n*h.1*a.2<(B.1.fdiv B.2+1)*(h.1*a.2-a.1*h.2):=by
  generalize B.1.fdiv B.2+1=q at *
  have s1:=Int.mul_lt_mul_of_pos_right lt (show 0<N.2*D.1 by lia)
  have s2:N.1*D.2<q*(N.2*D.1):=Int.lt_of_mul_lt_mul_right (a:=B.2) (by
   rw[vB]
   have:q*(N.2*D.1)*B.2=q*B.2*(N.2*D.1):=by grind
   lia) (by have:=fB.2.2.1; lia)
  have hp:=hh.2.2.1
  have ap:=ha.2.2.1
  have s3:=Int.mul_lt_mul_of_pos_right s2 (show 0<h.2*(h.2*a.2)from Int.mul_pos (by lia) (Int.mul_pos (by lia) (by lia)))
  refine Int.lt_of_mul_lt_mul_right (a:=N.2*D.2*h.2) ?_ (Int.mul_nonneg (Int.mul_nonneg (by have:=fN.2.2.1; lia) (by have:=fD.2.2.1; lia)) (by lia))
  have q1:n*h.1*a.2*(N.2*D.2*h.2)=N.1*D.2*(h.2*(h.2*a.2)):=by grind
  have q2:q*(h.1*a.2-a.1*h.2)*(N.2*D.2*h.2)=q*(N.2*D.1)*(h.2*(h.2*a.2)):=by grind
  lia
 refine⟨B.1.fdiv B.2+1,?_,?_,?_,key⟩
 .walk_at "d"
 .rcases Int.lt_or_le (B.1.fdiv B.2+1) 2 with z|z
  .rw[show B.1.fdiv B.2+1=1 by lia,Int.one_mul]at key
   have:=Int.mul_le_mul_of_nonneg_right (show 1<=(n:Int) by lia) (show 0<=h.1*a.2 by lia)
   rw[<-Int.mul_assoc]at this
   lia
  .exact z
 .have:(2:Int) ^ 1203<2 ^ 1204:=by decide
  have:=fB.2.1
  lia
theorem Xc{q:Int}(hq:2<=q)(hq2:q<2 ^ 1204):Fq 1204 (q-1,q):=⟨by show 0<=q-1; lia,by show q-1<2 ^ 1204; lia,by show 1<=q; lia,hq2,by
  show Int.gcd (q-1) q=1
  have g:=Int.dvd_sub (Int.gcd_dvd_right (q-1) q) (Int.gcd_dvd_left (q-1) q)
  rw[show q-(q-1)=1 by lia]at g
  exact Int.ofNat_inj.mp (Int.eq_one_of_dvd_one (by lia) g)⟩
noncomputable def jQ(rows:List (List (Int × Int)))(s:Nat->Nat->Bool)(aR:List (Int × Int))(o:Nat)(q:Int)(k:Nat):List (Int × Int):=(List.range (rows.getD k []).length).map λt=>if s k t=true then bA rows k t else if t=o then aV (aR.getD k (0,1)) (q-1,q)else(0,1)
noncomputable def iY(rows:List (List (Int × Int)))(s:Nat->Nat->Bool)(aR:List (Int × Int))(o:Nat)(q:Int):List (List (Int × Int)):=(List.range rows.length).map (jQ rows s aR o q)
theorem aia{rows:List (List (Int × Int))}{s:Nat->Nat->Bool}{aR:List (Int × Int)}{o:Nat}{q:Int}(k:Nat)(ho:o<(rows.getD k []).length):(s k o=true->((List.range (rows.getD k []).length).map λt=>fT (if s k t=true then(rows.getD k []).getD t (0,1)else(0,1)))=(jQ rows s aR o q k).map fT)/\(s k o=false->((List.range (rows.getD k []).length).map λt=>fT (if s k t=true then(rows.getD k []).getD t (0,1)else(0,1))).set o (fT (aV (aR.getD k (0,1)) (q-1,q)))=(jQ rows s aR o q k).map fT):=by
 unfold jQ bA
 generalize rows.getD k []=L at *
 generalize aR.getD k (0,1)=la
 rw[List.map_map]
 refine⟨λh=>List.map_congr_left λt _=>?_,λh=>List.ext_getElem? λt=>?_⟩
 .by_cases z:s k t=true
  .simp[z]
  .have:t≠o:=λe=>z (e▸h)
   simp[z,this]
 .rw[List.getElem?_set,List.getElem?_map,List.getElem?_map]
  by_cases e:o=t
  .subst e
   simp[h,ho]
  .have e':¬t=o:=λz=>e z.symm
   by_cases z:t<L.length
   .rw[if_neg e,List.getElem?_range z]
    simp[e']
   .rw[if_neg e,List.getElem?_eq_none (by simp; lia)]
    rfl
theorem aib{rows:List (List (Int × Int))}{s:Nat->Nat->Bool}{aR:List (Int × Int)}{o m:Nat}{q:Int}(h4:rows.length<=4)(hm:m<=12)(hl:aR.length=rows.length)(hr:∀l∈rows,l.length=m)(ho:o<m)(fl:∀x∈aR,Fq 45 x)(hq:2<=q)(hq2:q<2 ^ 1204):Vg [.lst (gs rows s),aJ aR,.int o,.tup [.int (q-1),.int q]]=.ok (aZ (iY rows s aR o q),true):=by
 have fs:=Xc hq hq2
 have ez:iy (gs rows s) (aR.map fT)=(List.range rows.length).map λk=>.tup [.lst (gr (rows.getD k []) (s k)),fT (aR.getD k (0,1))]:=by
  refine List.ext_getElem? λi=>?_
  unfold iy gs
  rw[List.getElem?_map,List.getElem?_map]
  by_cases z:i<rows.length
  .have z':i<aR.length:=by lia
   rw[List.getElem?_zip_eq_some (z:=(.lst (gr (rows.getD i []) (s i)),fT (aR.getD i (0,1)))) |>.mpr ⟨by simp[z],by simp[z']⟩]
   simp[z]
  .rw[List.getElem?_eq_none (by simp; lia),List.getElem?_eq_none (by simp; lia)]
   rfl
 have eb:aZ (iY rows s aR o q)=.lst ((List.range rows.length).map λk=>aJ (jQ rows s aR o q k)):=by
  unfold aZ iY
  rw[List.map_map]
  rfl
 rw[eb]
 unfold aJ at *
 walk_at "m"
 rw[ez]
 refine j8 [5,6,7] (λk=>[(4,.dp ((List.range k).map λk=>aJ (jQ rows s aR o q k)))]) rfl (λk v hk=>?_) (λv=>?_)
 .have lk:(rows.getD k []).length=m:=hr _ (getM hk)
  have e1:Af [fT (aR.getD k (0,1)),.tup [.int (q-1),.int q]]=.ok (fT (aV (aR.getD k (0,1)) (q-1,q)),false):=Am (y:=(q-1,q)) (fl _ (getM (by lia))) fs (by lia)
  have g1:=v7 (s:=s k) (show o<(rows.getD k []).length by lia)
  walk_at "p"
  obtain⟨r1,r2⟩:=aia (s:=s) (aR:=aR) (q:=q) k (show o<(rows.getD k []).length by lia)
  refine Ad (λs=>[(7,.ow s)]) (λl:List Tr=>l=(jQ rows s aR o q k).map fT) ?_ λl hl=>?_
  .cases hb:s k o with
   |true =>
    refine wF (by rfl) ?_
    exact⟨_,_,rfl,rfl,_,r1 hb,rfl⟩
   |false =>
    refine wT (by rfl) ?_
    refine wSI (n:=o) (J3 (ps:=[.v (fT (aR.getD k (0,1))) false,.v (.tup [.int (q-1),.int q]) false]) rfl rfl e1 rfl) rfl rfl rfl (by rw[List.length_map,List.length_range]; lia) rfl ?_
    exact⟨rfl,_,r2 hb,rfl⟩
  .subst hl
   have nl:cY ((jQ rows s aR o q k).map fT)=true:=xR λt ht=>(by obtain⟨x,_,rfl⟩:=List.mem_map.mp ht; rfl)
   walk_at "p"
   rw[List.range_succ,List.map_append]
   rfl
 .walk_at "p"
theorem Xd(h:Fall l ys):ys.Nodup:=h.1.nodup_iff.mpr List.nodup_range
theorem Bl(h:Fall l ys):ys.length=l.length:=by simpa using h.1.length_eq
theorem Xe{l:List (Int × Int)}{zs:List Nat}{k:Nat}(hg:∀i,i<l.length->1<=(l.getD i (0,1)).2)(hk:k<l.length)(p:zs.Perm (List.range k))(w:zs.Pairwise (eX l)):(zs.take (zs.filter λx=>!aN (l.getD x (0,1)) (l.getD k (0,1))).length++k::zs.drop (zs.filter λx=>!aN (l.getD x (0,1)) (l.getD k (0,1))).length).Perm (List.range (k+1))/\(zs.take (zs.filter λx=>!aN (l.getD x (0,1)) (l.getD k (0,1))).length++k::zs.drop (zs.filter λx=>!aN (l.getD x (0,1)) (l.getD k (0,1))).length).Pairwise (eX l):=by
 have lz:∀a∈zs,a<k:=λa ha=>List.mem_range.mp (p.mem_iff.mp ha)
 have h:=iU (p:=λx=>!aN (l.getD x (0,1)) (l.getD k (0,1))) (n:=k) w (λa ma b mb r q=>by
  have ab:aN (l.getD a (0,1)) (l.getD b (0,1))=false:=decide_eq_false (by unfold eX at r; lia)
  simpa using vI (hg a (Nat.lt_trans (lz a ma) hk)) (hg b (Nat.lt_trans (lz b mb) hk)) (hg k hk) ab (by simpa using q)) (λa ma q=>by
  have:=lz a ma
  unfold aN at q
  unfold eX
  simp only[Bool.not_eq_true',decide_eq_false_iff_not]at q
  lia) λb mb q=>.inl (by unfold aN at q; simp only[Bool.not_eq_false',decide_eq_true_eq]at q; exact q)
 exact⟨h.1.trans ((p.cons k).trans (List.range_succ▸List.perm_append_comm (l₁:=[k]))),h.2⟩
theorem aic{l:List (Int × Int)}(hg:∀i,i<l.length->1<=(l.getD i (0,1)).2):Fall l (aD l):=by
 have go:∀k,k<=l.length->∃zs:List Nat,zs.Perm (List.range k)/\zs.Pairwise (eX l):=λk=>by
  induction k with
  |zero=>exact λ_=>⟨[],.nil,.nil⟩
  |succ k ih =>
   intro h
   obtain⟨zs,p,w⟩:=ih (by lia)
   exact⟨_,Xe hg h p w⟩
 obtain⟨zs,h⟩:=go l.length (Nat.le_refl _)
 have h:Fall l zs:=h
 rw[Ip h]
 exact h
theorem Xf(h:Fall l ys){t u:Nat}(ht:t∈ys.take d)(hu:u<l.length)(n:u∉ys.take d):eX l t u:=by
 have mu:u∈ys:=h.1.mem_iff.mpr (List.mem_range.mpr hu)
 rw[<-List.take_append_drop d ys]at mu
 have pw:=h.2
 rw[<-List.take_append_drop d ys]at pw
 rcases List.mem_append.mp mu with m|m
 .exact absurd m n
 .exact(List.pairwise_append.mp pw).2.2 _ ht _ m
theorem Xg(h:Fall l ys)(h0:0<d)(hd:d<=l.length):ys.getD (d-1) 0∈ys.take d:=by
 have:=Bl h
 refine List.mem_of_getElem? (i:=d-1) ?_
 rw[List.getElem?_take,if_pos (by lia),List.getD_eq_getElem?_getD,List.getElem?_eq_getElem (by lia)]
 rfl
theorem aie(h:Fall l ys)(hd:d<=l.length){t:Nat}(ht:t∈ys.take d):t=ys.getD (d-1) 0\/eX l t (ys.getD (d-1) 0):=by
 have ln:=Bl h
 obtain⟨i,hi,e⟩:=List.getElem_of_mem ht
 rw[List.length_take]at hi
 rw[List.getElem_take]at e
 have g:ys.getD (d-1) 0=ys[d-1]:=by rw[List.getD_eq_getElem?_getD,List.getElem?_eq_getElem (by lia)]; rfl
 rw[g,<-e]
 by_cases z:i=d-1
 .subst z; exact .inl rfl
 .exact .inr (List.pairwise_iff_getElem.mp h.2 _ _ _ _ (by lia))
theorem aif{l l':List (Int × Int)}{ys zs:List Nat}{d:Nat}(h:Fall l ys)(h':Fall l' zs)(ll:l'.length=l.length)(hd:d<=l.length)(hk:∀t∈ys.take d,l'.getD t (0,1)=l.getD t (0,1))(hb:∀t∈ys.take d,∀u,u<l.length->u∉ys.take d->eX l' t u):zs.take d=ys.take d:=by
 have ln:=Bl h
 have nd:=Xd h
 have lt:∀t∈ys.take d,t<l.length:=λt m=>List.mem_range.mp (h.1.mem_iff.mp (List.mem_of_mem_take m))
 have lz:∀t,t∈zs↔t<l.length:=λt=>by rw[h'.1.mem_iff,List.mem_range,ll]
 have f:Fall l' (ys.take d++zs.filter λu=>decide (u∉ys.take d)):=by
  refine⟨(List.perm_ext_iff_of_nodup (List.nodup_append.mpr ⟨nd.sublist (List.take_sublist ..),(Xd h').filter _,λa ma b mb e=>?_⟩) List.nodup_range).mpr λa=>?_,List.pairwise_append.mpr ⟨?_,h'.2.filter _,λt ht u hu=>?_⟩⟩
  .subst e
   exact(of_decide_eq_true (List.mem_filter.mp mb).2) ma
  .rw[List.mem_append,List.mem_filter,List.mem_range,lz,ll,decide_eq_true_iff]
   by_cases z:a∈ys.take d
   .simp[z,lt a z]
   .simp[z]
  .refine(h.2.sublist (List.take_sublist d ys)).imp_of_mem λ{a b} ma mb r=>?_
   unfold eX at *
   rw[hk a ma,hk b mb]
   exact r
  .obtain⟨m,q⟩:=List.mem_filter.mp hu
   exact hb t ht u ((lz u).mp m) (of_decide_eq_true q)
 rw[Io h' f,List.take_append_of_le_length (by rw[List.length_take]; lia),List.take_take,Nat.min_self]
section
variable {m:Nat}{rows bU:List (List (Int × Int))}{ds:List Nat}{as:List (Nat × Nat)}{r:Ru}
noncomputable def mG(m:Nat)(rows:List (List (Int × Int)))(ds:List Nat)(as:List (Nat × Nat))(bU:List (List (Int × Int))):Prop:=bU.length=rows.length/\∀k,k<rows.length->(bU.getD k []).length=m/\∀t,t<m->Fq 1300 (bA bU k t)/\(bA bU k t).1<=(bA bU k t).2/\(sA aD rows ds as k t=true->bA bU k t=bA rows k t)/\(sA aD rows ds as k t=false->0<ds.getD k 0->aN (bA bU k t) (fY aD (1,1) (rows.getD k []) (ds.getD k 0))=true\/bA bU k t=fY aD (1,1) (rows.getD k []) (ds.getD k 0)/\(aD (rows.getD k [])).getD (ds.getD k 0-1) 0<t)
theorem Bk.fall(hB:Bk m rows)(hk:k<rows.length):Fall (rows.getD k []) (aD (rows.getD k [])):=by
 obtain⟨_,q1,q2⟩:=hB.row hk
 have:=hB.2.2.2.1
 exact(vH (N:=40) (Wo.frs q2) (by lia) (by lia) (by lia)).1
theorem Lk.d(hL:Lk rows.length m ds as)(hk:k<rows.length):ds.getD k 0<=m:=hL.2.1 _ (getM (by rw[hL.1]; exact hk))
theorem mG.fall(h:mG m rows ds as bU)(hk:k<rows.length):Fall (bU.getD k []) (aD (bU.getD k [])):=by
 obtain⟨l,f⟩:=h.2 k hk
 exact aic λi hi=>(f i (by lia)).1.2.2.1
theorem mG.agree(hB:Bk m rows)(hL:Lk rows.length m ds as)(h:mG m rows ds as bU)(hk:k<rows.length):(aD (bU.getD k [])).take (ds.getD k 0)=(aD (rows.getD k [])).take (ds.getD k 0)/\∀t∈(aD (rows.getD k [])).take (ds.getD k 0),bA bU k t=bA rows k t:=by
 have F:=hB.fall hk
 have F':=h.fall hk
 obtain⟨l',f⟩:=h.2 k hk
 obtain⟨_,l,_⟩:=hB.row hk
 have hd:=hL.d hk
 have lt:∀t∈(aD (rows.getD k [])).take (ds.getD k 0),t<m:=λt mt=>l▸List.mem_range.mp (F.1.mem_iff.mp (List.mem_of_mem_take mt))
 have keep:∀t∈(aD (rows.getD k [])).take (ds.getD k 0),bA bU k t=bA rows k t:=λt mt=>(f t (lt t mt)).2.2.1 (by unfold sA sn; rw[decide_eq_true mt]; rfl)
 refine⟨aif F F' (by lia) (by lia) keep λt mt u hu nu=>?_,keep⟩
 have B:=Xf F mt hu nu
 have d0:0<ds.getD k 0:=by
  rcases Nat.eq_zero_or_pos (ds.getD k 0)with z|z
  .rw[z]at mt; cases mt
  .exact z
 have hp:1<=(bA rows k t).2:=(hB.ou hk (lt t mt)).2.2.1
 have et:=keep t mt
 have L:=aie F (by lia) mt
 unfold bA at et hp
 unfold eX at *
 rw[et]
 cases z:sA aD rows ds as k u with
 |true =>
  have eu:=(f u (by lia)).2.2.1 z
  unfold bA at eu
  rw[eu]
  exact B
 |false =>
  have q:=(f u (by lia)).2.2.2 z d0
  have pu:=(f u (by lia)).1.2.2.1
  have ml:=Xg F d0 (by lia)
  have wl:=hB.ou hk (lt _ ml)
  unfold fY at q
  rw[if_pos d0]at q
  unfold bA at q pu wl
  generalize (bU.getD k []).getD u (0,1)=v,(aD (rows.getD k [])).getD (ds.getD k 0-1) 0=T at *
  rcases q with q|⟨e,q⟩
  .refine .inl (Int.not_le.mp λn=>?_)
   have yx:le2 ((rows.getD k []).getD T (0,1)) ((rows.getD k []).getD t (0,1)):=by
    unfold le2
    rcases L with rfl|L
    .exact Int.le_refl _
    .lia
   have:=jx.mpr (rP wl.2.2.1 hp pu yx n)
   rw[q]at this
   cases this
  .subst e
   rcases L with rfl|L
   .exact .inr ⟨rfl,q⟩
   .lia
theorem mG.fx(h:mG m rows ds as bU)(ht:t<m):∀x∈col bU t,Fx x/\Fq 1300 x:=λx mx=>by
 unfold col at mx
 obtain⟨k,hk,rfl⟩:=List.mem_map.mp mx
 have q:=((h.2 k (by have:=List.mem_range.mp hk; have:=h.1; lia)).2 t ht).1
 exact⟨q.fx,q⟩
theorem Xh(hk:k<rows.length)(s:Nat->Nat->Bool)(aR:List (Int × Int))(o:Nat)(q:Int):(iY rows s aR o q).getD k []=jQ rows s aR o q k:=by unfold iY; simp[hk]
theorem Jk(hk:k<rows.length)(ht:t<(rows.getD k []).length)(s:Nat->Nat->Bool)(aR:List (Int × Int))(o:Nat)(q:Int):bA (iY rows s aR o q) k t=if s k t=true then bA rows k t else if t=o then aV (aR.getD k (0,1)) (q-1,q)else(0,1):=by
 unfold bA
 rw[Xh hk]
 unfold jQ bA
 generalize rows.getD k []=L at *
 simp[ht]
theorem Xi{x:Int × Int}(h:Wo x)(e:x.1=0):x=(0,1):=by
 obtain⟨_,_,h3,_,h5⟩:=h
 obtain⟨a,b⟩:=x
 have e:a=0:=e
 subst e
 have h5:Int.gcd 0 b=1:=h5
 have h3:1<=b:=h3
 rw[Int.gcd_zero_left]at h5
 have:b=1:=by lia
 rw[this]
theorem Xj{x:Int × Int}{q:Int}(hx:Wo x)(hq:2<=q):(q-1)*x.1*(aV x (q-1,q)).2=q*(aV x (q-1,q)).1*x.2/\(aV x (q-1,q)).1<=(aV x (q-1,q)).2/\(aN (aV x (q-1,q)) x=true\/x=(0,1)/\aV x (q-1,q)=(0,1)):=by
 obtain⟨h1,h2,h3,_,h5⟩:=hx
 have hb:=jP h3 (show 1<=q by lia)
 obtain⟨v,p,_⟩:=fM (a:=x.1*(q-1)) hb
 have le:x.1*(q-1)<=x.2*q:=Int.mul_le_mul h2 (by lia) (by lia) (by lia)
 have z:x.1=0->x=(0,1)/\aV x (q-1,q)=(0,1):=λe=>by
  have:=Xi ⟨h1,h2,h3,by assumption,h5⟩ e
  subst this
  refine⟨rfl,?_⟩
  unfold aV red
  dsimp only
  rw[Int.zero_mul,Int.one_mul,Int.gcd_zero_left,Int.zero_ediv,show((q.natAbs:Nat):Int)=q by lia,Int.ediv_self (by lia)]
 show _/\_/\_
 change x.1*(q-1)*(aV x (q-1,q)).2=(aV x (q-1,q)).1*(x.2*q)at v
 change 1<=(aV x (q-1,q)).2 at p
 generalize aV x (q-1,q)=y at *
 refine⟨by grind,?_,?_⟩
 .refine Int.le_of_mul_le_mul_right (a:=x.2*q) ?_ (by lia)
  rw[<-v,Int.mul_comm y.2]
  exact Int.mul_le_mul_of_nonneg_right le (by lia)
 .by_cases e:x.1=0
  .exact .inr (z e)
  .refine .inl (decide_eq_true (Int.lt_of_mul_lt_mul_right (a:=q) ?_ (by lia)))
   have:y.1*x.2*q=x.1*y.2*q-x.1*y.2:=by grind
   have:=jP (show 1<=x.1 by lia) p
   lia
theorem tie(hB:Bk m rows)(hL:Lk rows.length m ds as)(hk:k<rows.length)(ht:t<m)(z:sA aD rows ds as k t=false)(d0:0<ds.getD k 0)(h0:fY aD (1,1) (rows.getD k []) (ds.getD k 0)=(0,1)):(aD (rows.getD k [])).getD (ds.getD k 0-1) 0<t:=by
 obtain⟨_,l,_⟩:=hB.row hk
 have F:=hB.fall hk
 have hd:=hL.d hk
 have nt:t∉(aD (rows.getD k [])).take (ds.getD k 0):=λh=>by
  unfold sA sn at z
  rw[decide_eq_true h]at z
  cases z
 have B:=Xf F (Xg F d0 (by lia)) (show t<(rows.getD k []).length by lia) nt
 unfold fY at h0
 rw[if_pos d0]at h0
 have w:=(hB.ou hk ht).1
 unfold bA at w
 unfold eX at B
 rw[h0]at B
 lia
theorem Xk{o:Nat}{q:Int}(hB:Bk m rows)(hL:Lk rows.length m ds as)(hq:2<=q)(hq2:q<2 ^ 1204):mG m rows ds as (iY rows (sA aD rows ds as) (dO aD (1,1) rows ds) o q):=by
 refine⟨by unfold iY; simp,λk hk=>?_⟩
 obtain⟨_,l,_⟩:=hB.row hk
 have hd:=hL.d hk
 refine⟨by rw[Xh hk]; unfold jQ; rw[List.length_map,List.length_range,l],λt ht=>?_⟩
 rw[Jk hk (by lia),Il hL.1 hk]
 have wl:=Iz hB hk hd
 have wx:=hB.ou hk ht
 cases z:sA aD rows ds as k t with
 |true =>
  rw[if_pos rfl]
  exact⟨wx.fq.up (by lia),wx.2.1,λ_=>rfl,λh=>(by cases h)⟩
 |false =>
  rw[if_neg (by simp)]
  have tq:=tie hB hL hk ht z
  by_cases e:t=o
  .rw[if_pos e]
   obtain⟨_,s2,s3⟩:=Xj wl hq
   refine⟨(mD wl.fq (Xc hq hq2)).up (by lia),s2,λh=>(by cases h),λ_ d0=>?_⟩
   rcases s3 with s3|⟨s3,s4⟩
   .exact .inl s3
   .exact .inr ⟨s4.trans s3.symm,tq d0 s3⟩
  .rw[if_neg e]
   refine⟨vq.up (by lia),by decide,λh=>(by cases h),λ_ d0=>?_⟩
   by_cases p:0<(fY aD (1,1) (rows.getD k []) (ds.getD k 0)).1
   .exact .inl (decide_eq_true (by lia))
   .have z0:=Xi wl (by have:=wl.1; lia)
    exact .inr ⟨z0.symm,tq d0 z0⟩
theorem aii{w o:Nat}{q:Int}(hB:Bk m rows)(hL:Lk rows.length m ds as)(ho:cN rows.length r)(hw:w<m)(hm:o<m)(ne:w≠o)(hq:2<=q)(hq2:q<2 ^ 1204)(h:rows.length*(hiV r rows ds as o).1*(loV r rows ds as w).2<q*((hiV r rows ds as o).1*(loV r rows ds as w).2-(loV r rows ds as w).1*(hiV r rows ds as o).2)):aN (wv r (col (iY rows (sA aD rows ds as) (dO aD (1,1) rows ds) o q) w)) (wv r (col (iY rows (sA aD rows ds as) (dO aD (1,1) rows ds) o q) o))=true:=by
 have A:=Xk (o:=o) hB hL hq hq2
 have ll:=vA (od:=aD) (one:=(1,1)) hL.1
 have b1:=hB.1
 have ew:col (iY rows (sA aD rows ds as) (dO aD (1,1) rows ds) o q) w=lo rows (sA aD rows ds as) w:=by
  unfold col lo
  rw[A.1]
  refine List.map_congr_left λk hk=>?_
  have hk:=List.mem_range.mp hk
  rw[Jk hk (by rw[(hB.row hk).2.1]; exact hw),if_neg ne]
 rw[ew]
 refine ah5 (xs:=hi rows (sA aD rows ds as) (dO aD (1,1) rows ds) o) (λx m=>(Iw hB hm ll (Aw hB hL) x m).fx) (λx m=>(A.fx hm x m).1) (by rw[iB,Wg,A.1]) (by rw[iB]; exact b1) (by rw[iB]; exact hB.2.1) (by rw[iB]; exact ho) hq (λk hk=>?_) ?_ (by rw[iB]; exact h)
 .rw[iB]at hk
  rw[ahl hk,ahm (by rw[A.1]; exact hk),Jk hk (by rw[(hB.row hk).2.1]; exact hm),if_pos rfl]
  cases z:sA aD rows ds as k o with
  |true =>
   rw[if_pos rfl,if_pos rfl]
   have wx:=hB.ou hk hm
   have:=Int.mul_nonneg wx.1 (show 0<=(bA rows k o).2 by have:=wx.2.2.1; lia)
   rw[Int.mul_assoc,Int.mul_assoc]
   exact Int.mul_le_mul_of_nonneg_right (by lia) this
  |false =>
   rw[if_neg (by simp),if_neg (by simp)]
   rw[Il hL.1 hk]
   exact Int.le_of_eq (Xj (Iz hB hk (hL.d hk)) hq).1
 .exact(Ax hB ho hw).2.2.2.1
end
end BH
end
section
namespace K28
open PySem L2 BH
theorem Wo.fq{x:Int × Int}(h:Wo x):Fq 1300 x:=by
 obtain⟨h1,h2,h3,h4,h5⟩:=h
 exact⟨h1,by lia,h3,by lia,h5⟩
theorem order_eq{l:List (Int × Int)}(h:∀x∈l,Fq 1300 x)(hc:l.length<=12):∃zs:List Nat,Bb [aJ l]=.ok (.lst (zs.map iT),true)/\Fall l zs:=by
 suffices h:∃z,Bb [aJ l]=.ok z/\∃zs:List Nat,Fall l zs/\z=(.lst (zs.map iT),true) by
  obtain⟨_,e,zs,h,rfl⟩:=h
  exact⟨zs,e,h⟩
 have hg:∀i,i<l.length->Fq 1300 (l.getD i (0,1)):=λi hi=>h _ (by rw[List.getD_eq_getElem?_getD,List.getElem?_eq_getElem hi]; exact List.getElem_mem _)
 walk_at "e"
 refine ju [2,3] (λs:List Nat=>[(1,.ow (s.map iT))]) (λk s=>s.Perm (List.range k)/\s.Pairwise (eX l)) [] ⟨.nil,.nil⟩ rfl (λk v zs hk i=>?_) (λv zs i=>?_)
 .have ll:zs.length=k:=by simpa using i.1.length_eq
  have lz:∀a∈zs,a<k:=λa ha=>List.mem_range.mp (i.1.mem_iff.mp ha)
  walk_at "p"
  exact Nat.lt_trans (lz x hx) hk
  walk_at "r"
  exact Ji (hg x (Nat.lt_trans (lz x hx) hk)) (hg k hk) (by lia)
  walk_at "r"
  have h:=Xe (λi hi=>(hg i hi).2.2.1) hk i.1 i.2
  exact⟨_,h,exV (by rw[List.map_append,List.map_cons,List.map_take,List.map_drop]; rfl)⟩
 .walk_at "p"
  exact⟨_,rfl,zs,i,rfl⟩
theorem Jl{l:List (Int × Int)}(h:∀x∈l,Wo x)(hc:l.length<=12):Fall l (aD l)/\Bb [aJ l]=.ok (.lst ((aD l).map iT),true)/\rO [aJ l]=.ok (.lst ((aD l).map iT),true):=by
 obtain⟨zs,e1,f1⟩:=order_eq (λx hx=>Wo.fq (h x hx)) hc
 have e2:=vH (N:=40) (BH.Wo.frs h) (by lia) (by lia) (by lia)
 rw[<-Ip f1]at e1
 exact⟨e2.1,e1,e2.2⟩
theorem aij{m:Nat}{rows:List (List (Int × Int))}{ds:List Nat}{as:List (Nat × Nat)}(hB:Bk m rows)(hL:Lk rows.length m ds as):Jf [aZ rows,eY ds as]=.ok (.lst (gs rows (sA aD rows ds as)),true):=by
 obtain⟨b1,b2,b3,b4,b5⟩:=id hB
 have hl:=hL.1
 walk_at "d"
 refine j8 [3,4,5,6,7] (λk=>[(2,.ow ((List.range k).map λk=>.lst (gr (rows.getD k []) (sA aD rows ds as k))))]) rfl (λk v hk=>?_) (λv=>?_)
 .obtain⟨_,q1,q2⟩:=hB.row hk
  obtain⟨oo,eo,_⟩:=Jl q2 (by lia)
  walk_at "p"
  refine j8 [6,7] (λt=>[(5,.ow ((List.range t).map λt=>dU (sA aD rows ds as k t) ((rows.getD k []).getD t (0,1))))]) rfl (λt v ht=>?_) (λv=>?_)
  .walk_at "p"
   rw[List.range_succ,List.map_append]; rfl
  .walk_at "p"
   rw[List.range_succ,List.map_append]; rfl
 .walk_at "p"
theorem Xl(l:List (Int × Int)):cY (l.map fT)=true:=xR λt ht=>by
 obtain⟨x,_,rfl⟩:=List.mem_map.mp ht
 rfl
theorem Xm{rows:List (List (Int × Int))}(hl:rows.length<=1000):Bg [aZ rows]=.ok (aZ rows,true):=by
 walk_at "m"
 exact Xl x
 walk_at "r"
noncomputable def Xn(w:Int × Int):Prop:=Fq 45 w/\w.2∣12/\w.1<=100
theorem wgt(x y:Int):vL [.int (x.fmod 7),.int (1+y.fmod 4)]=.ok (fT (red (x.fmod 7) (1+y.fmod 4)),false)/\Xn (red (x.fmod 7) (1+y.fmod 4)):=by
 have r1:=iW x 7 (by lia)
 have r2:=iW y 4 (by lia)
 have hb:1<=1+y.fmod 4/\1+y.fmod 4<=4:=by lia
 generalize 1+y.fmod 4=b,x.fmod 7=a at *
 obtain⟨g1,g2,g3,g4,g5,g6,g7⟩:=o9 (a:=a) (b:=b) (by lia)
 have d2:=Int.ediv_le_self (a:=a) ((Int.gcd a b:Nat):Int) (by lia)
 refine⟨vP (M:=60) r1.1 hb.1 (by lia) (by lia),vp (M:=45) r1.1 (by lia) hb.1 (by lia),Int.dvd_trans (Int.ediv_dvd_of_dvd (Int.gcd_dvd_right a b)) ?_,by show a / ((Int.gcd a b:Nat):Int)<=100; lia⟩
 have:b=1\/b=2\/b=3\/b=4:=by omega
 rcases this with rfl|rfl|rfl|rfl <;> decide
theorem aik(x:Int){n:Nat}(h1:1<=n)(h4:n<=4):∃r,Jc [.int x,.int n]=.ok (bT r,false)/\cN n r/\Wm r:=by
 suffices h:∃z,Jc [.int x,.int n]=.ok z/\∃r,(cN n r/\Wm r)/\z=(bT r,false) by
  obtain⟨_,e,r,h,rfl⟩:=h
  exact⟨r,e,h⟩
 obtain⟨j,j1,j2,ej⟩:=Jj (x.fdiv 7) h1
 by_cases w0:x.fmod 7=0
 .walk_at "e"
  exact⟨_,rfl,.least,⟨trivial,trivial⟩,rfl⟩
 by_cases w1:x.fmod 7=1
 .walk_at "e"
  exact⟨_,rfl,.greatest,⟨trivial,trivial⟩,rfl⟩
 by_cases w2:x.fmod 7=2
 .walk_at "e"
  exact⟨_,rfl,.mid j,⟨⟨j1,j2⟩,trivial⟩,rfl⟩
 by_cases w3:x.fmod 7=3
 .walk_at "e"
  exact⟨_,rfl,.product,⟨trivial,trivial⟩,rfl⟩
 walk_at "e"
 refine ju [4] (λs:Int × List (Int × Int)=>[(0,.sh (.int s.1)),(3,.ow (s.2.map fT))]) (λk s=>s.2.length=k/\∀w∈s.2,Xn w) (x.fdiv 7,[]) ⟨rfl,λ_ h=>by cases h⟩ rfl (λk v s hk i=>?_) (λv s i=>?_)
 .obtain⟨y,ws⟩:=s
  have i1:ws.length=k:=i.1
  obtain⟨e,q⟩:=wgt y (y.fdiv 7)
  walk_at "p"
  exact⟨(_,ws++[_]),⟨by simp[i1],snoc i.2 q⟩,exV (by rw[<-rT]; rfl)⟩
 .walk_at "p"
  exact⟨_,rfl,.sh s.2,⟨⟨i.1,λw hw=>(i.2 w hw).1⟩,λw hw=>(i.2 w hw).2⟩,rfl⟩
section
variable {m:Nat}{rows:List (List (Int × Int))}{ds:List Nat}{as:List (Nat × Nat)}{r:Ru}{s:Nat->Nat->Bool}{xs:List (Int × Int)}
theorem ail{l:List Tr}{T:Tr}(h:l.getLast? = some T):aY (.lst l) (.int (-1))=.ok (T,false):=by
 have n0:l.length≠0:=λz=>by rw[List.length_eq_zero_iff.mp z]at h; cases h
 have e:cW l (-1)=some T:=by
  unfold cW eH
  rw[if_neg (by omega),if_pos (by omega),<-h,List.getLast?_eq_getElem?]
  exact congrArg (λj=>l[j]?) (show(-1+(l.length:Int)).toNat=l.length-1 by omega)
 show(match cW l (-1)with|some t=>Rs.ok (t,false)|none=>.bad)=_
 rw[e]
theorem Xo(hq:∀x∈xs,Fq 1300 x)(h1:1<=xs.length)(h2:xs.length<=4)(ho:cN xs.length r):∃v,qe [bT r,aJ xs]=.ok (fT v,false)/\Wv r xs v:=by
 have pl:placed r=true->∃z,qe [bT r,aJ xs]=.ok z/\∃v zs,(cF xs zs/\zs[dG xs.length r-1]?=some v)/\z=(fT v,false):=λhp=>by
  obtain⟨w,e1,e2,e3,e4,e5⟩:=ag1 hp
  walk_at "e"
  refine jO [4,6] (λs:List (Int × Int)=>[(5,.ow (s.map fT))]) (λk s=>s.Perm (xs.take k)/\s.Pairwise le2) [] ⟨.nil,.nil⟩ rfl (λk y v zs gx i=>?_) (λv zs i=>?_)
  .have kl:=(List.getElem?_eq_some_iff.mp gx).1
   have lz:zs.length=k:=by rw[i.1.length_eq,List.length_take]; omega
   have hz:∀z∈zs,Fq 1300 z:=λz m=>hq z (List.mem_of_mem_take (i.1.mem_iff.mp m))
   have hy:=hq y (List.mem_of_getElem? gx)
   walk_at "p"
   exact Ji (hz x hx) hy (by omega)
   walk_at "r"
   have h:=iU (R:=le2) (p:=λz=>aN z y) (n:=y) i.2 (λa ma b mb r q=>by
    cases e:aN a y with
    |true=>rfl
    |false=>rw[jx.mpr (rP hy.2.2.1 (hz a ma).2.2.1 (hz b mb).2.2.1 (jx.mp e) r)]at q; cases q) (λa ma q=>by unfold aN at q; unfold le2; simp only[decide_eq_true_eq]at q; omega) λb mb q=>jx.mp q
   refine⟨_,⟨h.1.trans ((i.1.cons y).trans ?_),h.2⟩,exV (by rw[List.map_append,List.map_cons,List.map_take,List.map_drop]; rfl)⟩
   rw[List.take_add_one,gx]
   exact List.perm_append_comm (l₁:=[y])
  .rw[List.take_length]at i
   have lz:=i.1.length_eq
   obtain⟨p1,p2⟩:=Ie hp ho h1
   have go:∀k:Nat,k=xs.length-dG xs.length r->∃v ys,(cF xs ys/\ys[dG xs.length r-1]?=some v)/\(fT (zs.getD k (0,1)),false)=(fT v,false):=λk hk=>⟨_,zs.reverse,⟨⟨(List.reverse_perm zs).trans i.1,List.pairwise_reverse.mpr i.2⟩,by
    rw[List.getElem?_reverse (by omega),show zs.length-1-(dG xs.length r-1)=k by omega,List.getElem?_eq_getElem (by omega),List.getD_eq_getElem?_getD,List.getElem?_eq_getElem (by omega)]; rfl⟩,rfl⟩
   have g0:aY (.lst (zs.map fT)) (.int 0)=.ok (fT (zs.getD 0 (0,1)),false):=kE (k:=0) _ (by omega)
   have gl:aY (.lst (zs.map fT)) (.int (-1))=.ok (fT (zs.getD (xs.length-1) (0,1)),false):=ail (by rw[List.getLast?_eq_getElem?,List.getElem?_map,List.length_map,lz,List.getD_eq_getElem?_getD,List.getElem?_eq_getElem (by omega)]; rfl)
   cases r with
   |sh ws=>cases hp
   |product=>cases hp
   |least=>walk_at "p"; exact⟨_,rfl,go 0 (Nat.sub_self _).symm⟩
   |greatest=>walk_at "p"; exact⟨_,rfl,go _ rfl⟩
   |mid k =>
    have p1:1<=k:=p1
    have p2:k<=xs.length:=p2
    have i1:aY (bT (.mid k)) (.int 1)=.ok (.int k,false):=rfl
    have d1:tO (.int (zs.length:Int)) (.int k)=.ok (.int ((xs.length-k:Nat):Int),false):=by show Rs.ok (Tr.int ((zs.length:Int)-k),false)=_; rw[lz,Int.ofNat_sub p2]
    walk_at "p"; exact⟨_,rfl,go _ rfl⟩
 cases r with
 |sh ws =>
  have ol:=ho.1
  suffices h:qe [bT (.sh ws),aJ xs]=.ok (fT (dh (ws.zip xs) (0,1)),false)from⟨_,h,rfl⟩
  have zl:(ws.zip xs).length=xs.length:=by rw[List.length_zip,ol,Nat.min_self]
  have i1:aY (bT (.sh ws)) (.int 1)=.ok (aJ ws,false):=rfl
  walk_at "d"
  refine ju [3] (λt:Int × Int=>[(2,.sh (fT t))]) (λk t=>t=dh ((ws.zip xs).take k) (0,1)/\Fq (1+1346*k) t) (0,1) ⟨rfl,vq⟩ rfl (λk v t hk i=>?_) (λv t i=>?_)
  .have fx:=hq _ (List.getElem_mem hk)
   have fw:=ho.2 _ (List.getElem_mem (ol▸hk))
   have f:=mD fw fx
   have e1:=mul_eq fw fx (by omega)
   have e2:=add_eq i.2 f (by omega)
   have g1:aY (aJ xs) (.int k)=.ok (fT xs[k],false):=j9 (by simp[hk])
   have g2:aY (aJ ws) (.int k)=.ok (fT (ws[k]'(ol▸hk)),false):=j9 (by simp[ol▸hk])
   walk_at "p"
   refine⟨_,⟨?_,(HS i.2 f).up (by omega)⟩,exV rfl⟩
   rw[i.1,List.take_add_one,List.getElem?_eq_getElem (by omega)]
   unfold dh
   rw[List.foldl_append]
   simp
  .rw[i.1,List.take_of_length_le (by omega)]
   walk_at "p"
 |product =>
  suffices h:qe [bT .product,aJ xs]=.ok (fT (dF xs (1,1)),false)from⟨_,h,rfl⟩
  walk_at "d"
  refine jO [4] (λt:Int × Int=>[(2,.sh (fT t))]) (λk t=>t=dF (xs.take k) (1,1)/\Fq (1+1300*k) t) (1,1) ⟨rfl,Ao⟩ rfl (λk x v t gx i=>?_) (λv t i=>?_)
  .have kl:=(List.getElem?_eq_some_iff.mp gx).1
   have fx:=hq x (List.mem_of_getElem? gx)
   have e1:=mul_eq i.2 fx (by omega)
   walk_at "p"
   refine⟨_,⟨?_,(mD i.2 fx).up (by omega)⟩,exV rfl⟩
   rw[i.1,List.take_add_one,gx]
   unfold dF
   rw[List.foldl_append]
   rfl
  .rw[i.1,List.take_length]
   walk_at "p"
 |least=>obtain⟨_,e,v,zs,h,rfl⟩:=pl rfl; exact⟨v,e,zs,h⟩
 |greatest=>obtain⟨_,e,v,zs,h,rfl⟩:=pl rfl; exact⟨v,e,zs,h⟩
 |mid k=>obtain⟨_,e,v,zs,h,rfl⟩:=pl rfl; exact⟨v,e,zs,h⟩
theorem Xp{xs:List (Int × Int)}(hx:∀x∈xs,Wo x)(h1:1<=xs.length)(h2:xs.length<=4)(ho:cN xs.length r):qe [bT r,aJ xs]=.ok (fT (wv r xs),false):=by
 obtain⟨v,e,h⟩:=Xo (λx m=>K28.Wo.fq (hx x m)) h1 h2 ho
 rw[Wa hx h]
 exact e
theorem ain(hL:Lk rows.length m ds as):((List.range rows.length).map λk=>fT (fY aD (1,1) (rows.getD k []) (ds.getD k 0)))=(dO aD (1,1) rows ds).map fT:=by unfold dO; rw[List.map_map]; rfl
theorem aio(hB:Bk m rows)(hL:Lk rows.length m ds as)(ho:cN rows.length r):W0 [aZ rows,bT r,eY ds as]=.ok (.lst (eZ (loV r rows ds as) (hiV r rows ds as) m),true):=by
 have h1:=hB.1
 have h4:=hB.2.1
 have b3:=hB.2.2.1
 have b4:=hB.2.2.2.1
 have ll:=vA (od:=aD) (one:=(1,1)) hL.1
 have l0:=(hB.row h1).2.1
 have hl:=hL.1
 have z1:Jf [aZ rows,eY ds as]=.ok (.lst (gs rows (sA aD rows ds as)),true):=aij hB hL
 walk_at "d"
 refine j8 [5,6] (λk=>[(4,.ow ((List.range k).map λk=>fT (fY aD (1,1) (rows.getD k []) (ds.getD k 0))))]) rfl (λk v hk=>?_) (λv=>?_)
 .obtain⟨_,q1,q2⟩:=hB.row hk
  obtain⟨oo,eo,_⟩:=Jl q2 (by lia)
  have lg:=ahY (L:=(aD (rows.getD k [])).take (ds.getD k 0)) (m:=m) (λx hx=>by rw[<-q1]; exact List.mem_range.mp (oo.1.mem_iff.mp (List.mem_of_mem_take hx))) (by lia)
  have dm:=hL.2.1 (ds.getD k 0) (by rw[List.getD_eq_getElem?_getD,List.getElem?_eq_getElem (hl▸hk)]; exact List.getElem_mem _)
  walk_at "p"
  rw[List.range_succ,List.map_append]
  refine congrArg (λy=>_++[fT y]) ?_
  have lt:((aD (rows.getD k [])).take (ds.getD k 0)).length=ds.getD k 0:=by rw[List.length_take,oo.1.length_eq,List.length_range,q1]; lia
  rw[List.getLastD_eq_getLast?,List.getLast?_eq_getElem?,lt]
  unfold fY
  split
  .rw[List.getElem?_take,if_pos (by lia),<-List.getD_eq_getElem?_getD]
  .rfl
 walk_at "p"
 rw[ain hL,l0]
 refine j8 [8,9,10] (λk=>[(7,.ow (eZ (loV r rows ds as) (hiV r rows ds as) k))]) rfl (λt v ht=>?_) (λv=>?_)
 .have e1:=Xp (Iu (s:=sA aD rows ds as) hB ht) (by rw[oA]; exact h1) (by rw[oA]; lia) (by rw[oA]; exact ho)
  have e2:=Xp (Iw (s:=sA aD rows ds as) hB ht ll (Aw hB hL)) (by rw[iB]; exact h1) (by rw[iB]; lia) (by rw[iB]; exact ho)
  unfold lo at e1
  unfold hi at e2
  rw[Av]at e1 e2
  have bl:=V7 (m:=t) (a:=loV r rows ds as) (b:=hiV r rows ds as)
  walk_at "p"
  exact V8
 walk_at "p"
end
theorem nextR{α : Type}{R : α -> α -> Prop}:∀{as:List α},as.Pairwise R->∀z∈as.zip (as.drop 1),R z.1 z.2
 | [],_,z,hz=>by cases hz
 | [a],_,z,hz=>by cases hz
 |a::b::as,h,z,hz=>by
  rw[List.drop_one,List.tail_cons,List.zip_cons_cons]at hz
  rcases List.mem_cons.mp hz with rfl|hz
  .exact(List.pairwise_cons.mp h).1 b (List.mem_cons_self ..)
  .exact nextR (as:=b::as) (List.pairwise_cons.mp h).2 z (by rw[List.drop_one,List.tail_cons]; exact hz)
theorem aip{ys:List Nat}(h:ys.Pairwise (· < ·))(hl:ys.length<=12):Hx [.lst (ys.map iT)]=.ok (.bl true,false):=by
 have ez:iy (ys.map iT) ((ys.map iT).drop 1)=(ys.zip (ys.drop 1)).map λz=>Tr.tup [iT z.1,iT z.2]:=by
  unfold iy
  rw[<-List.map_drop,List.zip_map,List.map_map]
  rfl
 have ec:jy (some 1) none (.lst (ys.map iT))=.ok (.lst ((ys.map iT).drop 1),true):=congrArg (λL=>Rs.ok (Tr.lst L,true)) (Vm (ys.map iT) 1)
 walk_at "d"
 rw[List.length_zip]; lia
 walk_at "r"
 rw[List.map_congr_left (g:=λ_=>Tr.bl true) λx hx=>by
  have:=nextR h x hx
  rw[decide_eq_true (by lia)]]
 exact all_true _
 walk_at "r"
theorem aiq{ys:List Nat}{m:Nat}(h:ys.Pairwise (· < ·))(hl:ys.length<=12)(hy:∀t∈ys,t<m):Vc [.lst (ys.map iT),.int m]=.ok (.bl true,false):=by
 have e:=aip h hl
 walk_at "d"
 have p:=Ai x m
 rw[decide_eq_true (by lia),decide_eq_true (by have:=hy x hx; lia)]at p
 exact p
 walk_at "r"
 exact all_true ys
 walk_at "r"
section
variable {m:Nat}{rows:List (List (Int × Int))}{ds:List Nat}{as:List (Nat × Nat)}{r:Ru}
theorem air{ys:List Nat}(hB:Bk m rows)(hL:Lk rows.length m ds as)(ho:cN rows.length r)(h:ys.Pairwise (· < ·))(hl:ys.length<=12)(hy:∀t∈ys,t<m):∃z,vJ [aZ rows,bT r,.lst (ys.map iT),eY ds as]=.ok z/\(oF (loV r rows ds as) (hiV r rows ds as) m ys/\z=(.non,false)\/¬oF (loV r rows ds as) (hiV r rows ds as) m ys/\∃(w o:Nat) (q:Int),w∈ys/\o<m/\o∉ys/\2<=q/\q<2 ^ 1204/\rows.length*(hiV r rows ds as o).1*(loV r rows ds as w).2<q*((hiV r rows ds as o).1*(loV r rows ds as w).2-(loV r rows ds as w).1*(hiV r rows ds as o).2)/\z=(aZ (iY rows (sA aD rows ds as) (dO aD (1,1) rows ds) o q),true)):=by
 obtain⟨b1,b2,b3,b4,b5⟩:=id hB
 have ll:=vA (od:=aD) (one:=(1,1)) hL.1
 have l0:=(hB.row b1).2.1
 have hf:∀t,t<m->Fq 400 (loV r rows ds as t)/\Fq 400 (hiV r rows ds as t):=λt ht=>⟨(Ax hB ho ht).2,(IK hB hL ho ht).2⟩
 have e1:=ahh hB ho
 have e2:=aiq h hl hy
 have e3:=ag9 hB hL
 have e4:=ahd hB.od hL
 have e5:Ii [aZ rows,.lst (ds.map iT),.tup [.int 1,.int 1]]=.ok (aJ (dO aD (1,1) rows ds),true):=ahe (one:=(1,1)) hB.od hL.1 hL.2.1
 have e6:=ahg (s:=sA aD rows ds as) b1 b2 ll b4 (λl ml=>(b5 l ml).1) (λt ht=>(Ax hB ho ht).1) λt ht=>(IK hB hL ho ht).1
 obtain⟨bb,e7,h7⟩:=ahq hf b4 hy hl
 have g0:aY (aZ rows) (.int 0)=.ok (aJ (rows.getD 0 []),false):=kj b1
 have e8:=jd (rows.getD 0 [])
 rw[l0]at e8
 cases bb with
 |true =>
  refine⟨_,?_,.inl ⟨h7.mp rfl,rfl⟩⟩
  walk_at "m"
 |false =>
  have ns:¬oF (loV r rows ds as) (hiV r rows ds as) m ys:=λs=>by have:=h7.mpr s; cases this
  obtain⟨T,e9,h9⟩:=Wq hf b4 hy hl
  have mo:∀o,o∈fO m ys↔o<m/\o∉ys:=λo=>by unfold fO; simp
  rcases h9 with⟨rfl,h9⟩|⟨w,o,rfl,mw,om,q1,q2⟩
  .refine absurd (λt mt o ho no=>?_) ns
   rcases h9 with h9|h9
   .rw[h9]at mt; cases mt
   .have:=(mo o).mpr ⟨ho,no⟩
    rw[h9]at this; cases this
  .obtain⟨om,on⟩:=(mo o).mp om
   have wm:=hy w mw
   have lt:aN (loV r rows ds as w) (hiV r rows ds as o)=true:=by
    cases z:aN (loV r rows ds as w) (hiV r rows ds as o)with
    |true=>rfl
    |false =>
     refine absurd (λs ms p hp np=>?_) ns
     exact vI (hf s (hy s ms)).1.2.2.1 (hf o om).2.2.2.1 (hf p hp).2.2.2.1 (vI (hf s (hy s ms)).1.2.2.1 (hf w wm).1.2.2.1 (hf o om).2.2.2.1 (q1 s ms) z) (q2 p ((mo p).mpr ⟨hp,np⟩))
   obtain⟨q,e10,s1,s2,s3⟩:=ah9 (hf w wm).1 (hf o om).2 lt b1 b2
   have e11:=aib (s:=sA aD rows ds as) (aR:=dO aD (1,1) rows ds) b2 b4 ll (λl ml=>(b5 l ml).1) om (λx mx=>(Aw hB hL x mx).fq) s1 s2
   have i1:=v8 (a:=loV r rows ds as) (b:=hiV r rows ds as) wm
   have i2:=v8 (a:=loV r rows ds as) (b:=hiV r rows ds as) om
   refine⟨_,?_,.inr ⟨ns,w,o,q,mw,om,on,s1,s2,s3,rfl⟩⟩
   walk_at "m"
end
theorem Xq:∀(ps:List ((Int × Int) × (Int × Int))) (t:Int × Int) (M:Nat),Fq M t->(∀p∈ps,Fq 45 p.1/\Fq 1300 p.2)->Fq (M+1346*ps.length) (dh ps t)
 | [],t,M,h,_=>h
 |p::ps,t,M,h,hp=>by
  have h1:=mD (hp p (List.mem_cons_self ..)).1 (hp p (List.mem_cons_self ..)).2
  have:=Xq ps _ _ (HS h h1) λq hq=>hp q (List.mem_cons_of_mem _ hq)
  rw[show M+1346*(p::ps).length=M+(45+1300)+1+1346*ps.length by rw[List.length_cons]; lia]
  exact this
theorem Xr:∀(ps:List (Int × Int)) (t:Int × Int) (M:Nat),Fq M t->(∀p∈ps,Fq 1300 p)->Fq (M+1300*ps.length) (dF ps t)
 | [],t,M,h,_=>h
 |p::ps,t,M,h,hp=>by
  have:=Xr ps _ _ (mD h (hp p (List.mem_cons_self ..))) λq hq=>hp q (List.mem_cons_of_mem _ hq)
  rw[show M+1300*(p::ps).length=M+1300+1300*ps.length by rw[List.length_cons]; lia]
  exact this
theorem Wv.fqX{xs:List (Int × Int)}{v:Int × Int}{r:Ru}(hq:∀x∈xs,Fq 1300 x)(hl:xs.length<=4)(ho:cN xs.length r)(a:Wv r xs v):Fq 5400 v:=by
 have pl:(∃zs,cF xs zs/\zs[dG xs.length r-1]?=some v)->Fq 5400 v:=λ⟨z,d,e⟩=>(hq v (d.1.mem_iff.mp (List.mem_of_getElem? e))).up (by lia)
 cases r with
 |sh ws =>
  have a:v=dh (ws.zip xs) (0,1):=a
  rw[a]
  exact(Xq _ _ 1 vq λp m=>⟨ho.2 _ (List.of_mem_zip m).1,hq _ (List.of_mem_zip m).2⟩).up (by rw[List.length_zip]; lia)
 |product =>
  have a:v=dF xs (1,1):=a
  rw[a]
  exact(Xr _ _ 1 Ao hq).up (by lia)
 |least=>exact pl a
 |greatest=>exact pl a
 |mid k=>exact pl a
theorem ais{x y:Int × Int}{M N:Nat}(hx:Fq M x)(hy:Fq N y)(hM:M<=8900)(hN:N<=8900):Ja [fT x,fT y]=.ok (.bl (aN x y),false):=by
 have c1:cM x.1 y.2=true:=jw (hx.c hM).1 hM (hy.c hN).2 hN
 have c2:cM y.1 x.2=true:=jw (hy.c hN).1 hN (hx.c hM).2 hM
 walk_at "d"
section
variable {n m:Nat}{rows:List (List (Int × Int))}{r:Ru}
noncomputable def Gd(n m:Nat)(rows:List (List (Int × Int))):Prop:=rows.length=n/\∀k,k<n->(rows.getD k []).length=m/\∀t,t<m->Fq 1300 (bA rows k t)
theorem Gd.of(h:mG m rows ds as bU):Gd rows.length m bU:=⟨h.1,λk hk=>⟨(h.2 k hk).1,λt ht=>((h.2 k hk).2 t ht).1⟩⟩
theorem Gd.bk(h:Bk m rows):Gd rows.length m rows:=⟨rfl,λk hk=>⟨(h.row hk).2.1,λt ht=>(h.ou hk ht).fq.up (by lia)⟩⟩
theorem Gd.len(h:Gd n m rows):∀l∈rows,l.length=m:=λl ml=>by
 obtain⟨k,hk,e⟩:=List.getElem_of_mem ml
 have:=(h.2 k (by have:=h.1; lia)).1
 rw[List.getD_eq_getElem?_getD,List.getElem?_eq_getElem hk]at this
 exact e▸this
theorem Gd.col(h:Gd n m rows)(ht:t<m):∀x∈col rows t,Fq 1300 x:=λx mx=>by
 unfold BH.col at mx
 obtain⟨k,hk,rfl⟩:=List.mem_map.mp mx
 exact(h.2 k (by have:=List.mem_range.mp hk; have:=h.1; lia)).2 t ht
theorem ait(rows:List (List (Int × Int)))(t:Nat):(.lst (rows.map λl=>fT (l.getD t (0,1))))=aJ (BH.col rows t):=by
 unfold aJ BH.col
 rw[List.map_map]
 refine congrArg Tr.lst (List.ext_getElem? λi=>?_)
 by_cases z:i<rows.length
 .simp[z,bA]
 .simp[z]
theorem Jm(h:Gd n m rows)(h1:1<=n)(h4:n<=4)(ho:cN n r)(ht:t<m):qe [bT r,aJ (BH.col rows t)]=.ok (fT (wv r (BH.col rows t)),false)/\Fq 5400 (wv r (BH.col rows t)):=by
 have q:=h.col ht
 have l:(BH.col rows t).length=n:=by rw[Wg,h.1]
 obtain⟨v,e,w⟩:=Xo q (by lia) (by lia) (by rw[l]; exact ho)
 rw[Ir (λx mx=>⟨(q x mx).2.2.1,(q x mx).2.2.2.2⟩) w]
 exact⟨e,Wv.fqX q (by lia) (by rw[l]; exact ho) w⟩
theorem aiu{ys:List Nat}(h:Gd n m rows)(h1:1<=n)(h4:n<=4)(hm:m<=12)(ho:cN n r)(hy:∀t∈ys,t<m):∃b,Bf [aZ rows,bT r,.lst (ys.map iT)]=.ok (.bl b,false)/\(b=true↔oF (λt=>wv r (BH.col rows t)) (λt=>wv r (BH.col rows t)) m ys):=by
 suffices h:∃z,Bf [aZ rows,bT r,.lst (ys.map iT)]=.ok z/\∃b:Bool,(b=true↔oF (λt=>wv r (BH.col rows t)) (λt=>wv r (BH.col rows t)) m ys)/\z=(.bl b,false) by
  obtain⟨_,e,b,h,rfl⟩:=h
  exact⟨b,e,h⟩
 have g0:aY (aZ rows) (.int 0)=.ok (aJ (rows.getD 0 []),false):=kj (by have:=h.1; lia)
 have e0:=jd (rows.getD 0 [])
 rw[(h.2 0 (by lia)).1]at e0
 have h1':=h.1
 walk_at "e"
 refine j8 [4] (λk=>[(3,.ow ((List.range k).map λt=>fT (wv r (BH.col rows t))))]) rfl (λt v ht=>?_) (λv=>?_)
 .have e:=(Jm h h1 h4 ho ht).1
  have cm:=ait rows t
  walk_at "p"
  have:=h.len x hx
  lia
  walk_at "r"
  rw[cm]
  exact e
  walk_at "r"
  rw[List.range_succ,List.map_append]; rfl
 walk_at "p"
 refine jO [4,5] (λ_:Unit=>[]) (λk _=>∀t∈ys.take k,∀o,o<m->o∉ys->aN (wv r (BH.col rows t)) (wv r (BH.col rows o))=false) () (λ_ h=>by cases h) rfl (λk t v _ g i=>?_) (λv _ i=>?_)
 .have mt:=List.mem_of_getElem? g
  have ht:=hy t mt
  walk_at "p"
  rw[List.length_range]
  refine ju [5] (λ_:Unit=>[]) (λj _=>∀o,o<j->o∉ys->aN (wv r (BH.col rows t)) (wv r (BH.col rows o))=false) () (λ_ h=>by lia) rfl (λo v _ ho' j=>?_) (λv _ j=>⟨(),λt' h=>?_,exV rfl⟩)
  .have e:=ais (Jm h h1 h4 ho ht).2 (Jm h h1 h4 ho ho').2 (by lia) (by lia)
   have i1:aY (.lst ((List.range m).map λt=>fT (wv r (BH.col rows t)))) (.int t)=.ok (fT (wv r (BH.col rows t)),false):=oh (by simp[ht])
   have i2:aY (.lst ((List.range m).map λt=>fT (wv r (BH.col rows t)))) (.int o)=.ok (fT (wv r (BH.col rows o)),false):=oh (by simp[ho'])
   have nx:(o∉ys->aN (wv r (BH.col rows t)) (wv r (BH.col rows o))=false)->∀p,p<o+1->p∉ys->aN (wv r (BH.col rows t)) (wv r (BH.col rows p))=false:=λh p hp n=>by
    by_cases q:p=o
    .subst q; exact h n
    .exact j p (by lia) n
   by_cases c:o∈ys
   .walk_at "p"
    exact⟨(),nx λh=>(h c).elim,exV rfl⟩
   .by_cases c2:aN (wv r (BH.col rows t)) (wv r (BH.col rows o))=true
    .walk_at "p"
     exact⟨_,rfl,false,⟨λh=>(by cases h),λh=>(by have:=h t mt o ho' c; dsimp only at this; rw[this]at c2; cases c2)⟩,rfl⟩
    .have c2:=Bool.eq_false_iff.mpr c2
     walk_at "p"
     exact⟨(),nx λ_=>c2,exV rfl⟩
  .rw[List.take_add_one,g]at h
   rcases List.mem_append.mp h with h|h
   .exact i t' h
   .obtain rfl:t'=t:=by simpa using h
    exact j
 .rw[List.take_length]at i
  walk_at "p"
  exact⟨_,rfl,true,⟨λ_=>i,λ_=>rfl⟩,rfl⟩
end
theorem aiv(x:Int × Int):W4 [fT x]=.ok (.bl true,false):=by kernel_rfl
theorem aiw{x:Int × Int}(h:Int.gcd x.1 x.2=1):red x.1 x.2=x:=by
 unfold red
 rw[h]
 simp
theorem aix{x:Int × Int}{M:Nat}(h:Fq M x)(hM:M<=8900):vL [.int x.1,.int x.2]=.ok (fT x,false):=by
 have:=vP h.1 h.2.2.1 h.2.2.2.1 hM
 rwa[aiw h.2.2.2.2]at this
theorem aiy(l:List Nat):eU (.lst (l.map iT)) (.lst (l.map iT))=.ok (.bl false,false):=vo (by rw[Aj,Ar]; lia)
theorem Jo(x:Int × Int):eU (fT x) (fT x)=.ok (.bl false,false):=vo (by rw[Vq]; lia)
section
variable {m:Nat}{rows bU:List (List (Int × Int))}{ds:List Nat}{as:List (Nat × Nat)}{r:Ru}
theorem aiz(hB:Bk m rows)(hL:Lk rows.length m ds as)(A:mG m rows ds as bU):Jh [aZ rows,aZ bU,eY ds as]=.ok (.bl true,false):=by
 obtain⟨b1,b2,b3,b4,b5⟩:=id hB
 have a1:=A.1
 have ty:mZ (aZ bU) .list=true:=rfl
 have e1:=jR bU
 rw[a1]at e1
 have dl:ds.length=rows.length:=hL.1
 have ap:=Lk.ok hB.od hL
 have i0:aY (eY ds as) (.int 0)=.ok (.lst (ds.map iT),false):=rfl
 have i1:aY (eY ds as) (.int 1)=.ok (.lst (as.map pT),false):=rfl
 walk_at "d"
 refine j8 [3,4,5] (λk=>[]) rfl (λk v hk=>?_) (λv=>?_)
 .have hk':k<bU.length:=by lia
  have l1:=(hB.row hk).2.1
  have l2:=(A.2 k hk).1
  have ty2:mZ (aJ (bU.getD k [])) .list=true:=rfl
  have g1:=kj hk
  have g2:=kj hk'
  have gd:=kE (f:=iT) 0 (show k<ds.length by lia)
  obtain⟨F,o1,_⟩:=Jl (hB.row hk).2.2 (by lia)
  have fx:∀x∈bU.getD k [],Fq 1300 x/\x.1<=x.2:=λx mx=>by
   obtain⟨t,ht,rfl⟩:=List.getElem_of_mem mx
   have:=(A.2 k hk).2 t (by lia)
   unfold bA at this
   rw[List.getD_eq_getElem?_getD (l:=bU.getD k []),List.getElem?_eq_getElem ht]at this
   exact⟨this.1,this.2.1⟩
  obtain⟨zs,o2,F2⟩:=order_eq (λx mx=>(fx x mx).1) (by lia)
  have ag:=A.agree hB hL hk
  rw[Io F2 (A.fall hk)]at o2
  have sl:jy none (some (ds.getD k 0:Nat)) (.lst ((aD (bU.getD k [])).map iT))=.ok (.lst (((aD (rows.getD k [])).take (ds.getD k 0)).map iT),true):=by rw[<-ag.1]; exact oO
  have n1:=aiy ((aD (rows.getD k [])).take (ds.getD k 0))
  have z0:(((aD (rows.getD k [])).take (ds.getD k 0)).filter λ_=>false).length=0:=by simp
  have tl:((aD (rows.getD k [])).take (ds.getD k 0)).length<=12:=by rw[List.length_take,Bl F]; lia
  have lt:∀t∈(aD (rows.getD k [])).take (ds.getD k 0),t<m:=λt mt=>l1▸List.mem_range.mp (F.1.mem_iff.mp (List.mem_of_mem_take mt))
  walk_at "p"
  refine jO [4] (λ_:Unit=>[]) (λ_ _=>True) () trivial rfl (λj x v _ gx _=>?_) (λv _ _=>?_)
  .obtain⟨q1,q2⟩:=fx x (List.mem_of_getElem? gx)
   have f1:=aix q1 (by lia)
   have f2:=aiv x
   have f3:=Jo x
   obtain⟨p1,_,p2,_⟩:=q1
   walk_at "p"
   exact⟨(),trivial,exV rfl⟩
  .walk_at "p"
   have:=lt x hx
   lia
   walk_at "r"
   have:=lt x hx
   lia
   walk_at "r"
   exact(congrArg (λy=>eU (fT y) _) (ag.2 x hx)).trans (Jo _)
   walk_at "r"
   done
 .have z1:(as.filter λ_=>false).length=0:=by simp
  have al:=hL.2.2.2.1
  walk_at "p"
  have:=(ap x hx).1
  lia
  walk_at "r"
  have:=(A.2 x.1 (ap x hx).1).1
  have:=(hB.row (ap x hx).1).2.1
  have:=(ap x hx).2
  lia
  walk_at "r"
  exact(ap x hx).1
  walk_at "r"
  exact(ap x hx).1
  walk_at "r"
  exact(hL.2.2.2.2 x hx).2
  walk_at "r"
  have es:bA bU x.1 x.2=bA rows x.1 x.2:=((A.2 x.1 (ap x hx).1).2 x.2 (hL.2.2.2.2 x hx).2).2.2.1 (by unfold BH.sA sn; rw[decide_eq_true (show(x.1,x.2)∈as from hx),Bool.or_true])
  exact(congrArg (λy=>eU (fT y) _) es).trans (Jo _)
  walk_at "r"
  exact congrArg (λb=>Rs.ok (Tr.bl b,false)) (decide_eq_true (by lia))
end
end K28
end
section
namespace BH
open PySem L2
theorem aah(n:Nat):RD (.int (n:Nat)) (.int 1)=.ok (.int ((n &&& 1:Nat):Int),false):=rfl
theorem aag(n t:Nat):GR (.int (n:Nat)) (.int (t:Nat))=.ok (.int ((n / 2 ^ t:Nat):Int),false):=by
 have e:((n:Int) / 2 ^ ((t:Int)).toNat)=((n / 2 ^ t:Nat):Int):=by rw[Int.toNat_natCast]; push_cast; rfl
 rw[<-e]
 unfold GR m6
 exact if_pos (decide_eq_true (Int.natCast_nonneg t))
end BH
end
section
namespace K28
open PySem L2 BH
section
variable {m:Nat}{a b:Nat->Int × Int}
theorem aiA(hf:∀t,t<m->Fq 400 (a t)/\Fq 400 (b t))(hm:m<=12){zs:List Nat}(hz:∀t∈zs,t<m):∃bb,Jg [.lst (eZ a b m),.lst (zs.map iT)]=.ok (.bl bb,false)/\(bb=true↔oF a b m zs):=by
 suffices h:∃z,Jg [.lst (eZ a b m),.lst (zs.map iT)]=.ok z/\∃bb:Bool,(bb=true↔oF a b m zs)/\z=(.bl bb,false) by
  obtain⟨_,e,bb,h,rfl⟩:=h
  exact⟨bb,e,h⟩
 walk_at "e"
 refine jO [2,3] (λ_:Unit=>[]) (λk _=>∀t∈zs.take k,∀o,o<m->o∉zs->aN (a t) (b o)=false) () (λ_ h=>by cases h) rfl (λk t v _ g i=>?_) (λv _ i=>?_)
 .have mt:=List.mem_of_getElem? g
  have ht:=hz t mt
  walk_at "p"
  refine ju [3] (λ_:Unit=>[]) (λj _=>∀o,o<j->o∉zs->aN (a t) (b o)=false) () (λ_ h=>by lia) rfl (λo v _ ho j=>?_) (λv _ j=>⟨(),λt' h=>?_,exV rfl⟩)
  .have e:=Ji (hf t ht).1 (hf o ho).2 (by lia)
   have nx:(o∉zs->aN (a t) (b o)=false)->∀p,p<o+1->p∉zs->aN (a t) (b p)=false:=λh p hp n=>by
    by_cases q:p=o
    .subst q; exact h n
    .exact j p (by lia) n
   by_cases c:o∈zs
   .walk_at "p"
    exact⟨(),nx λh=>(h c).elim,exV rfl⟩
   .by_cases c2:aN (a t) (b o)=true
    .walk_at "p"
     exact⟨_,rfl,false,⟨λh=>(by cases h),λh=>(by rw[h t mt o ho c]at c2; cases c2)⟩,rfl⟩
    .have c2:=Bool.eq_false_iff.mpr c2
     walk_at "p"
     exact⟨(),nx λ_=>c2,exV rfl⟩
  .rw[List.take_add_one,g]at h
   rcases List.mem_append.mp h with h|h
   .exact i t' h
   .obtain rfl:t'=t:=by simpa using h
    exact j
 .rw[List.take_length]at i
  walk_at "p"
  exact⟨_,rfl,true,⟨λ_=>i,λ_=>rfl⟩,rfl⟩
end
noncomputable abbrev rY(m n:Nat):List Nat:=(List.range m).filter λt=>decide (((n / 2 ^ t &&& 1:Nat):Int)=1)
theorem aiB(ns:List Int):rR [.lst (ns.map .int)]=.ok (.bl true,false):=by
 obtain⟨m,rows,hB,hD,h8,h4,e1⟩:=ah1 ns 0 (L:=4) (M:=12) (by lia) (by lia)
 obtain⟨ds,as,hL,e2⟩:=ah3 ns 5 hB
 obtain⟨x7,c7,_⟩:=cell_eq ns 7
 obtain⟨r,q1,o1,oS⟩:=aik x7 hB.1 hB.2.1
 obtain⟨b1,b2,b3,b4,b5⟩:=id hB
 have e3:=aio hB hL o1
 have hf:∀t,t<m->Fq 400 (loV r rows ds as t)/\Fq 400 (hiV r rows ds as t):=λt ht=>⟨(Ax hB o1 ht).2,(IK hB hL o1 ht).2⟩
 have dB:=Vr rows
 have dL:dep (eY ds as)<=30:=by
  have:=Ik as
  have:=Ar ds
  show max (deps (ds.map iT)+1) (max (deps (as.map pT)+1) 0)+1<=30
  lia
 have dP:dep (.lst [aZ rows,eY ds as])<=40:=by rw[Aj,vm,vm,HF]; lia
 have gP:eU (.lst [aZ rows,.tup [.lst (ds.map iT),.lst (as.map pT)]]) (.lst [aZ rows,eY ds as])=.ok (.bl false,false):=vo dP
 have l0:=(hB.row b1).2.1
 have el:fZ (aJ (rows.getD 0 []))=.ok (.int m,false):=by rw[jd,l0]
 have ec:=Xm (rows:=rows) (by lia)
 have k0:aY (eY ds as) (.int 0)=.ok (.lst (ds.map iT),false):=rfl
 have k1:aY (eY ds as) (.int 1)=.ok (.lst (as.map pT),false):=rfl
 walk_at "d"
 refine j8 [7,8,9,10,11] (λ_=>[]) rfl (λk v hk=>?_) (λv=>?_)
 .obtain⟨x,cx,x0,_⟩:=cell_eq ns (8+k)
  obtain⟨n,rfl⟩:=Int.eq_ofNat_of_zero_le x0
  have cx:Az [.lst (ns.map .int),.int (8+(k:Int))]=.ok (.int (n:Nat),false):=cx
  have zl:(rY m n).Pairwise (· < ·):=(List.pairwise_lt_range (n:=m)).filter _
  have zi:∀t∈rY m n,t<m:=λt h=>List.mem_range.mp (List.mem_filter.mp h).1
  have zn:(rY m n).length<=12:=Nat.le_trans (List.length_filter_le ..) (by rw[List.length_range]; exact b4)
  obtain⟨z,eo,ho⟩:=air hB hL o1 zl zn zi
  obtain⟨bb,es,hs⟩:=aiA hf b4 zi
  have gB:=vo (T:=.bl bb) (show dep _<=40 from Nat.zero_le _)
  rcases ho with⟨s,rfl⟩|⟨s,wk,o,q,mw,om,on,s1,s2,s3,rfl⟩
  .obtain rfl:bb=true:=hs.mpr s
   have eo:vJ [aZ rows,bT r,.lst ((rY m n).map iT),.tup [.lst (ds.map iT),.lst (as.map pT)]]=.ok (.non,false):=eo
   have gB:eU (.bl (id (qH .non))) (.bl true)=.ok (.bl false,false):=gB
   walk_at "p"
  .obtain rfl:bb=false:=Bool.eq_false_iff.mpr λh=>s (hs.mp h)
   generalize eR:iY rows (sA aD rows ds as) (dO aD (1,1) rows ds) o q=R at eo
   have A:=Xk (o:=o) hB hL s1 s2
   have rb:=aii hB hL o1 (zi wk mw) om (λe=>on (e▸mw)) s1 s2 s3
   rw[eR]at A rb
   have eg:Jh [aZ rows,.lst (R.map aJ),eY ds as]=.ok (.bl true,false):=aiz hB hL A
   obtain⟨b',eb,hb⟩:=aiu (Gd.of A) b1 b2 b4 o1 zi
   have bf:b'=false:=by
    cases b' with
    |false=>rfl
    |true =>
     have:=hb.mp rfl wk mw o om on
     dsimp only at this
     rw[rb]at this
     cases this
   subst bf
   have eb:Bf [.lst (R.map aJ),bT r,.lst ((rY m n).map iT)]=.ok (.bl false,false):=eb
   have eo:vJ [aZ rows,bT r,.lst ((rY m n).map iT),.tup [.lst (ds.map iT),.lst (as.map pT)]]=.ok (.lst (R.map aJ),true):=eo
   have gB:eU (.bl (id (qH (.lst (R.map aJ))))) (.bl false)=.ok (.bl false,false):=gB
   have rl:R.length=rows.length:=A.1
   have ec2:Bg [.lst (R.map aJ)]=.ok (.lst (R.map aJ),true):=Xm (rows:=R) (by lia)
   have g0:(R.map aJ)[0]?=some (.lst ((R.getD 0 []).map fT)):=by
    rw[List.getElem?_map,List.getD_eq_getElem?_getD,List.getElem?_eq_getElem (show 0<R.length by lia)]
    rfl
   have n0:=Xl (R.getD 0 [])
   have dR:=Vr R
   have gR:eU (.lst (R.map aJ)) (.lst (R.map aJ))=.ok (.bl false,false):=vo (T:=aZ R) (by lia)
   walk_at "p"
 .walk_at "p"
end K28
end
section
namespace L2
open PySem PySem.Spec PyProof.Rows PySem.W
noncomputable def Xu:List Ty:=[.int,.bool,.str,.tuple,.list]
noncomputable def Xv(K:Frag)(cs:List Str)(p:Str->Addr->Bool):Bool:=cs.all λc=>match nsIn K mainGlobals c with
 |some (some (.ref C))=>p c C
 |_=>true
theorem aiC{K:Frag}{cs:List Str}{p:Str->Addr->Bool}(h:Xv K cs p=true){c:Str}(m:c∈cs){C:Addr}(n:nsIn K mainGlobals c=some (some (.ref C))):p c C=true:=by
 have:=List.all_eq_true.mp h c m
 rw[n]at this
 exact this
noncomputable def Jp(K:Frag)(C:Addr):Bool:=findIn K (.ref C) "__getattribute__" == some (some (.builtin "BaseException.__getattribute__"))&&findIn K (.ref C) "__getattr__" == some none&&findIn K (.ref C) "__class__" == some (some (.builtin "object.__class__"))&&mroIn K C (.type "object") == some true&&mroIn K C (.type "BaseException") == some true&&(clsIn K C).isSome
theorem aiD{K:Frag}{C:Addr}(h:Jp K C=true):m5 K C:=by
 unfold Jp at h
 simp only[Bool.and_eq_true]at h
 obtain⟨⟨⟨⟨⟨h1,h2⟩,h3⟩,h4⟩,h5⟩,h6⟩:=h
 exact⟨beq_iff_eq.mp h1,beq_iff_eq.mp h2,beq_iff_eq.mp h3,beq_iff_eq.mp h4,beq_iff_eq.mp h5,h6⟩
theorem lC.of{K:Frag}(h:(Xv K xr λ_ C=>Jp K C&&Xu.all λy=>kitOne K (.ref C) (.type y.name) == some false)=true):lC K:=λc m C n=>by
 obtain⟨x1,x2⟩:=an.mp (aiC h m n)
 exact⟨λa=>acN (aiD x1),λy=>beq_iff_eq.mp (List.all_eq_true.mp x2 y (by cases y <;> simp[Xu]))⟩
theorem aiE{P:Program}{w:World}{K:PySem.W.Frag}{mg mb:Str->Option Value}{CX:gj}{k:Nat}{fa a:Addr}{x:Str}{sp:Sp}{s₁ : Shared}{vs:List Value}{ns:List Int}
  (KX:K.In s₁.heap) (hns:s₁.heap.Ns mainGlobals mg) (hb:s₁.heap.Ns builtinsNs mb) (hbb:∀x:Str,x ≠ "__name__" -> mb x=bootBuiltins x) (hlim:s₁.heap.NoLimit) (hg:s₁.gens = #[])
  (ha:s₁.heap.get? a=some {cls:=.type "list",data:=.seq vs.toArray }) (hi:IntsAre vs ns) (hl:ns.length<=sizeLine) (hr:cR k callerA)
  (hT:∀x∈eN,∀c b,tabIn K x=some (c,b)->CodeHd s₁.heap c b/\s₁.heap.get? b=some (tabObj #[])) (qg:noTabs K=true) (hB:lO mg s₁.heap)
  (F:∀base:Heap,K.In base->base.Ns mainGlobals mg->(∀x∈eN,∀c b,tabIn K x=some (c,b)->CodeHd base c b)->lO mg base->∃fd:FuncData,(∀(s:Shared) (u:Value),K.In s.heap->BindsTo s fd ⟨[u],[]⟩ [(x,u)])/\gq P w K mg base CX k fa fd [x] sp)
  (hsp:∀H:Hp,bL (aA K) H->gW K H a (ns.map V.int)->sp [.ref a] H (λv _=>v=.bl true) λ_ _ _=>False)
  (Jq:∀H e s',CX [] H s₁ (λ_ _ _=>False) e s'->False) :
  codeAny (model P w) callerA (.call (.ref fa) ⟨[.ref a],[]⟩) (λr s'=>r=.ok (.ret (.bool true))/\OldK s₁.heap s'.heap/\s'.os=s₁.os/\AllBare s'.gens) s₁ := by
 have rv:=M6 hi
 have lenV:=hi.length
 -- from an abstract heap in which nothing but the script may be tracked
 have hT':∀b,Tb (aA K) b->∃c,CodeHd s₁.heap c b/\s₁.heap.get? b=some (tabObj #[]):=λb ⟨x,hx,c,e⟩=>⟨c,hT x hx c b (Pb e)⟩
 have core:∀H:Hp,(∀b,H b=none\/(∃o xs,H b=some (.cQ o (.lst xs)))\/(H b=some (.cu #[])/\Tb (aA K) b))->bL (aA K) H->gW K H a (ns.map V.int)->cA P w H s₁.heap->(∀b,H b≠none->b=a\/Tb (aA K) b)->(H a≠none->K.lookup a=none) ->
   codeAny (model P w) callerA (.call (.ref fa) ⟨[.ref a],[]⟩) (λr s'=>r=.ok (.ret (.bool true))/\OldK s₁.heap s'.heap/\s'.os=s₁.os/\AllBare s'.gens) s₁ := by
  intro H hO hTb hS hok hA hK
  have Bm:∀{b:Addr} {o:Obj},s₁.heap.get? b=some o->H b=none->(kJ s₁.heap H).get? b=some o:=λe n=>aal e n
  have tu:∀{b:Addr} {o:Obj} {es:Array DictEntry} {ep:Nat},s₁.heap.get? b=some o->o.data=.dict es ep->H b=none:=λ{b o es ep} e d=>by
   cases q:H b with
   |none=>rfl
   |some u =>
    rcases hA b (by rw[q]; simp)with e'|e'
    .subst e'
     rw[ha]at e; cases e
     have d':Data.seq vs.toArray _=Data.dict es ep:=d
     cases d'
    .obtain⟨c,_,z⟩:=hT' b e'
     rw[z]at e; cases e
     cases d
  have Bo:∀{b:Addr} {m:Str->Option Value},s₁.heap.Ns b m->(kJ s₁.heap H).Ns b m:=λ{b m} ⟨o,es,ep,e,d,r⟩=>⟨o,es,ep,Bm e (tu e d),d,r⟩
  have Xw:K.In (kJ s₁.heap H):=λb o e=>Bm (KX b o e) (by
   cases q:H b with
   |none=>rfl
   |some u =>
    rcases hA b (by rw[q]; simp)with e'|e'
    .subst e'
     rw[hK (by rw[q]; simp)]at e; cases e
    .obtain⟨c,_,z⟩:=hT' b e'
     have z2:=KX b o e
     rw[z]at z2
     cases z2
     have h2:=List.all_eq_true.mp qg (b,_) (mem_of_lookupK e)
     exact absurd (show false=true from h2) Bool.false_ne_true)
  have hM:Mod K mg (kJ s₁.heap H):=⟨Xw,Bo hns,⟨mb,Bo hb,hbb⟩,let⟨mc,h1,h2⟩:=hlim; ⟨mc,Bo h1,h2⟩⟩
  have e0:oX P w K mg (kJ s₁.heap H) callerA [] s₁ H:=⟨rfl,hM,λb o e=>aam e,Nat.le_of_eq (aak _ _),trivial,λb hb=>absurd (show b∈([]:List Addr)from hb) (by simp),hok,.of_eq hg⟩
  have free:∀{b:Addr} {o:Obj},s₁.heap.get? b=some o->o.cls ≠ .none->(∀its n,o.data ≠ .seq its n)->H b=none:=λ{b o} e n1 n2=>by
   cases q:H b with
   |none=>rfl
   |some u =>
    rcases hA b (by rw[q]; simp)with e'|e'
    .subst e'
     rw[ha]at e; cases e
     exact(n2 _ _ rfl).elim
    .obtain⟨c,_,z⟩:=hT' b e'
     rw[z]at e; cases e
     exact(n1 rfl).elim
  obtain⟨fd,hbind,F1⟩:=F _ Xw (Bo hns) (λx hx c b e=>by
   obtain⟨o,vs',file,tf,flags,tg,inF,text,tt,e1,r1,r2,r3⟩:=(hT x hx c b e).1
   exact⟨o,vs',file,tf,flags,tg,inF,text,tt,Bm e1 (free e1 (by rw[r1]; intro z; cases z) (λ_ _ z=>by rw[r2]at z; cases z)),r1,r2,r3⟩) (by
   obtain⟨bm,ob,b1,b2,b3,b4,b5,b6,b7⟩:=hB
   exact⟨bm,ob,b1,b2,b3,Bm b4 (free b4 (by rw[b5]; intro z; cases z) (λ_ _ z=>by rw[b7]at z; cases z)),b5,b6,b7⟩)
  refine codeAny_mono (F1.run callerA [] s₁ H ⟨[.ref a],[]⟩ [.ref a] [.ref a] _ _ hr e0 (hbind s₁ (.ref a) KX) (.cons rfl .nil) (hsp H hTb hS)) λr s' h=>?_
  cases r with
  |error e=>exact(Jq H e s' h).elim
  |ok fl =>
   cases fl with
   |next=>exact False.elim h
   |brk=>exact False.elim h
   |cont=>exact False.elim h
   |ret u =>
    obtain⟨v,H',os,bare,un,hok',r',q⟩:=h
    have q':v=.bl true:=q
    subst q'
    obtain rfl:u=Value.bool true:=r'
    refine⟨rfl,⟨λb o e=>?_,λb o e=>un.there b o e (by simp)⟩,os,bare⟩
    cases q:H b with
    |none=>exact .inl (un.keep b o e q (by intro z; exact absurd (show b∈([]:List Addr)from z) (by simp)) (by simp))
    |some u =>
     rcases hO b with z|⟨ob,xs,z⟩|⟨z,zt⟩
     .rw[q]at z; cases z
     .have z2:=un.f9 b ob _ z
      obtain⟨e1,_⟩:=hok b _ z
      obtain⟨e2,_⟩:=hok' b _ z2
      rw[e]at e1; cases e1
      exact .inl e2
     .obtain⟨more,z2⟩:=un.gh b _ z
      have e1:s₁.heap.get? b=some (tabObj #[]):=hok b _ z
      have e2:s'.heap.get? b=some (tabObj (#[]++more)):=hok' b _ z2
      rw[e]at e1; cases e1
      obtain⟨c,hc,_⟩:=hT' b zt
      exact .inr (.inl ⟨(hc.tab e).isCodeTable,rfl,#[],more,rfl,e2⟩)
 classical
 have Xx:∀H:Hp,(∀b,Tb (aA K) b->H b=some (.cu #[]))->bL (aA K) H:=λH h x hx c b e=>⟨#[],h b ⟨x,hx,c,e⟩,trivial,λpos v z=>by cases z⟩
 have Xy:¬Tb (aA K) a:=λz=>by
  obtain⟨c,_,e⟩:=hT' a z
  rw[ha]at e
  cases e
 cases hk:K.lookup a with
 |some o =>
  have e:=KX a o hk
  rw[ha]at e
  cases e
  refine core (λb=>if Tb (aA K) b then some (.cu #[])else none) (λb=>?_) (Xx _ λb z=>if_pos z) (.inr ⟨vs.toArray,_,hk,by rw[List.size_toArray,lenV]; exact hl,by simpa using rv⟩) (λb u z=>?_) (λb z=>?_) λz=>?_
  .by_cases q:Tb (aA K) b
   .exact .inr (.inr ⟨if_pos q,q⟩)
   .exact .inl (if_neg q)
  .by_cases q:Tb (aA K) b
   .have z':=(if_pos q).symm.trans z
    cases z'
    obtain⟨c,_,e⟩:=hT' b q
    exact e
   .have z':=(if_neg q).symm.trans z
    cases z'
  .by_cases q:Tb (aA K) b
   .exact .inr q
   .exact absurd (if_neg q) z
  .exact absurd (if_neg Xy) z
 |none =>
  refine core (λb=>if b=a then some (.cQ {cls:=.type "list",data:=.seq vs.toArray } (.lst (ns.map V.int)))else if Tb (aA K) b then some (.cu #[])else none) (λb=>?_) (Xx _ λb z=>by
   have nb:¬b=a:=λq=>Xy (by rw[<-q]; exact z)
   exact(if_neg nb).trans (if_pos z)) (.inl (.inr ⟨{cls:=.type "list",data:=.seq vs.toArray },if_pos rfl⟩)) (λb u z=>?_) (λb z=>?_) λ_=>hk
  .by_cases hb:b=a
   .exact .inr (.inl ⟨_,_,if_pos hb⟩)
   .by_cases q:Tb (aA K) b
    .exact .inr (.inr ⟨(if_neg hb).trans (if_pos q),q⟩)
    .exact .inl ((if_neg hb).trans (if_neg q))
  .by_cases hb:b=a
   .have z':=(if_pos hb).symm.trans z
    cases z'
    subst hb
    exact⟨ha,by rw[List.length_map]; exact hl,vs,_,rv,ha⟩
   .have z':=(if_neg hb).symm.trans z
    by_cases q:Tb (aA K) b
    .have z':=(if_pos q).symm.trans z'
     cases z'
     obtain⟨c,_,e⟩:=hT' b q
     exact e
    .have z':=(if_neg q).symm.trans z'
     cases z'
  .by_cases hb:b=a
   .exact .inl hb
   .by_cases q:Tb (aA K) b
    .exact .inr q
    .exact absurd ((if_neg hb).trans (if_neg q)) z
theorem aiF{l:PySem.W.OpenLaw}{n k:Nat}{q:Program}{loose:List Str}{XP:(Str->Option Value)->Heap->Prop}{YP:World->Heap->Prop}{d:DefRec}{K:Params->PySem.W.Frag}{CX:World->gj}{sp:World->Sp}{x:Str}
  (hn:l.most=some n) (hn2:n<=sizeLine) (hdf:d.params.defaults=[]) (hr:cR k callerA)
  (vQ:∀x∈eN,((recsOf q).find? (λe=>e.name == x)).isSome=true\/∀w:World,nsIn (K w.params) mainGlobals x=some none) (qg:∀w:World,noTabs (K w.params)=true)
  (hY:∀(w:World) (h:Heap),YP w h->(K w.params).In h)
  (F:∀(w:World) (mg:Str->Option Value) (fa:Addr) (h:Heap),(K w.params).In h->h.Ns mainGlobals mg->mg d.name=some (.ref fa) ->
   ∀base:Heap,(K w.params).In base->base.Ns mainGlobals mg->(∀x∈eN,∀c b,tabIn (K w.params) x=some (c,b)->CodeHd base c b)->lO mg base->∃fd:FuncData,(∀(s:Shared) (u:Value),(K w.params).In s.heap->BindsTo s fd ⟨[u],[]⟩ [(x,u)])/\gq l.prog w (K w.params) mg base (CX w) k fa fd [x] (sp w))
  (hsp:∀(w:World) (H:Hp) (a:Addr) (ns:List Int),ns.length<=n->bL (aA (K w.params)) H->gW (K w.params) H a (ns.map V.int)->sp w [.ref a] H (λv _=>v=.bl true) λ_ _ _=>False)
  (Jq:∀(w:World) (H:Hp) (s:Shared) (e:Value) (s':Shared),CX w [] H s (λ_ _ _=>False) e s'->False) :
  PySem.W.WalkO q loose XP YP l.row.toRowW d [] (λf vs=>PySem.call f vs):=by
 refine M5.acp hn hdf λw s₀ s₁ mg mb fa o pm cd doc a vs ns G Y ho hd hcd hmg hobj hints hlen hg=>?_
 have KX:=hY w _ Y
 have hT:∀x∈eN,∀c b,tabIn (K w.params) x=some (c,b)->CodeHd s₁.heap c b/\s₁.heap.get? b=some (tabObj #[]):=λx hx c b e=>by
  rcases vQ x hx with z|z
  .obtain⟨d,z⟩:=Option.isSome_iff_exists.mp z
   exact tab_of G.T KX z e
  .rw[Ph (z w)]at e; cases e
 have hB:lO mg s₁.heap:=by
  obtain⟨bm,ob,b1,b2,b3,b4,b5,b6⟩:=G.T.bmain
  refine⟨bm,ob,b1,b2,λz=>?_,b3,b4,b5,b6⟩
  obtain⟨o,es,ep,e,hd,_⟩:=G.T.g
  rw[z,e]at b3; cases b3
  rw[hd]at b6; cases b6
 exact aiE KX G.T.g G.T.b G.T.builtins G.T.nolimit hg hobj hints (Nat.le_trans hlen hn2) hr hT (qg w) hB (F w mg fa _ KX G.T.g hmg) (λH hO hS=>hsp w H a ns hlen hO hS) λH e s'=>Jq w H s₁ e s'
end L2
end
section
namespace K28
open PySem L2 BH PySem.W
section
variable {K:Frag}{mg:Str->Option Value}{h:Heap}
theorem aiG{x:Str}{st:Stmt}(X:K.In h)(G:h.Ns mainGlobals mg){f:Addr}{od an:Option Addr}{sl:Array (Option Value)}{oc kV dc pm cd ct:Value}
  (a:nsIn K mainGlobals x=some (some (.ref f))) (l:K.lookup f=some ⟨oc,od,.func (fnOf x x (jD st) (fQ st) (bM st) .none kV dc pm an cd ct),sl⟩) (c:codeIn K cd x=true) (k:keepIn K (.ref f)=true):At K mg x st :=
 ⟨f,_,M7 (st:=st) l c k,mg_of X G a⟩
theorem aiH{x:Str}{st:Stmt}(X:K.In h)(G:h.Ns mainGlobals mg){f c:Addr}{od an:Option Addr}{sl:Array (Option Value)}{oc kV dc pm ct:Value}
  (a:nsIn K mainGlobals x=some (some (.ref f))) (l:K.lookup f=some ⟨oc,od,.func (fnOf x x (jD st) (fQ st) (bM st) .none kV dc pm an (.ref c) ct),sl⟩) (cc:codeIn K (.ref c) x=true) (k:keepIn K (.ref f)=true):ug K mg x st c :=
 ⟨f,_,M7 (st:=st) l cc k,mg_of X G a,rfl⟩
theorem Xz{x:Str}{i:Int}{tk:Tok}(X:K.In h)(G:h.Ns mainGlobals mg)(a:nsIn K mainGlobals x=some (some (.int i tk))):Gk K mg x (.int i) (.int i):=⟨.int i tk,mg_of X G a,by first|exact rfl|exact⟨_,rfl⟩,λ_=>.int i⟩
theorem vR{H:Hp}{a:Addr}{od:Option Addr}{its:Array Value}{n:Nat}{sl:Array (Option Value)}{xs:List V}{vs:List Value}{ts:List Tr}(l:K.lookup a=some ⟨.type "tuple",od,.seq its n,sl⟩) (e:its.toList=vs) (hl:vs.length<=1000) (r:Vals xs vs) (rr:au (aA K) H xs ts):Rep (aA K) H (.ref a) (.tup ts):=by
 refine .tup (xs:=xs) (.inr ⟨_,its,n,ac0 l rfl,rfl,rfl,?_,by rw[e]; exact r⟩) rr
 rw[<-Array.length_toList,e]
 exact Nat.le_of_lt (CP hl)
theorem aiI(X:K.In h)(G:h.Ns mainGlobals mg){a r1 r2 r3:Addr}{od o1 o2 o3:Option Addr}{its i1 i2 i3:Array Value}{n n1 n2 n3:Nat}{sl Np sl2 Di:Array (Option Value)}{t1 t2 t3:Tok}
  (m:nsIn K mainGlobals "BARE_RULES" = some (some (.ref a))) (l:K.lookup a=some ⟨.type "tuple",od,.seq its n,sl⟩) (e:its.toList=[.ref r1,.ref r2,.ref r3])
  (l1:K.lookup r1=some ⟨.type "tuple",o1,.seq i1 n1,Np⟩) (e1:i1.toList=[.str "least" t1]) (l2:K.lookup r2=some ⟨.type "tuple",o2,.seq i2 n2,sl2⟩) (e2:i2.toList=[.str "greatest" t2]) (l3:K.lookup r3=some ⟨.type "tuple",o3,.seq i3 n3,Di⟩) (e3:i3.toList=[.str "product" t3]):Gk K mg "BARE_RULES" (.ref a) (.tup [(.tup [(.str "least")]),(.tup [(.str "greatest")]),(.tup [(.str "product")])]):=by
 refine⟨_,mg_of X G m,rfl,λH=>vR (xs:=[.ref r1,.ref r2,.ref r3]) l e (Nat.le_of_ble_eq_true rfl) (.cons rfl (.cons rfl (.cons rfl .nil))) ?_⟩
 exact .cons (vR (xs:=[.str "least"]) l1 e1 (Nat.le_of_ble_eq_true rfl) (.cons ⟨_,rfl⟩ .nil) (.cons (.str _) .nil)) (.cons (vR (xs:=[.str "greatest"]) l2 e2 (Nat.le_of_ble_eq_true rfl) (.cons ⟨_,rfl⟩ .nil) (.cons (.str _) .nil)) (.cons (vR (xs:=[.str "product"]) l3 e3 (Nat.le_of_ble_eq_true rfl) (.cons ⟨_,rfl⟩ .nil) (.cons (.str _) .nil)) .nil))
theorem XC(X:K.In h)(G:h.Ns mainGlobals mg){x:Str}{a:Addr}{od:Option Addr}{its:Array Value}{n:Nat}{sl:Array (Option Value)}{i j:Int}{t1 t2:Tok}
  (m:nsIn K mainGlobals x=some (some (.ref a))) (l:K.lookup a=some ⟨.type "tuple",od,.seq its n,sl⟩) (e:its.toList=[.int i t1,.int j t2]):Gk K mg x (.ref a) (.tup [.int i,.int j]) :=
 ⟨_,mg_of X G m,rfl,λH=>vR (xs:=[.int i,.int j]) l e (Nat.le_of_ble_eq_true rfl) (.cons ⟨_,rfl⟩ (.cons ⟨_,rfl⟩ .nil)) (.cons (.int _) (.cons (.int _) .nil))⟩
noncomputable def Bp(K:Frag)(n:Nat)(F:FP):Sp:=λvs H Q E=>∃G ts,vs.length=n/\au (aA K) G vs ts/\Same G H/\bL (aA K) H/\(∀b,Tb (aA K) b->G b=none)/\∃p,F ts=.ok p/\∀v G' H',VN (aA K) H G' H' v p.1 p.2->Q v H'
theorem aiJ{K:Frag}{cl:Str->Addr}{n:Nat}{F:FP}(vs:List V)(H:Hp)(Q:VK)(E:XK)(h:Bp K n F vs H Q E):nq K cl n F vs H Q E:=by
 obtain⟨G,ts,h1,h2,h3,h4,h5,p,h6,h7⟩:=h
 refine⟨G,ts,h1,h2,h3,h4,h5,?_⟩
 rw[h6]
 exact λv G' H' _=>h7 v G' H'
theorem aiK{K:Frag}{H:Hp}(t:bL (aA K) H)(h:gW K H a xs):∃G,Same G H/\(∀b,Tb (aA K) b->G b=none)/\aG (aA K) G a xs:=by
 rcases h with h|h
 .refine⟨λb=>if b=a then H b else none,λb o q=>?_,λb z=>?_,.inl ?_⟩
  .dsimp only at q
   split at q
   .exact q
   .cases q
  .dsimp only
   split
   .rename_i e
    subst e
    obtain⟨ps,y⟩:=t.cu z
    rcases h with h|⟨o,h⟩ <;> (rw[y]at h; cases h)
   .rfl
  .have e:(if a=a then H a else none)=H a:=if_pos rfl
   unfold Rd at h ⊢
   dsimp only
   rw[e]
   exact h
 .exact⟨λ_=>none,λ_ _ z=>(by cases z),λ_ _=>rfl,gW.toN (.inr h)⟩
end
section
variable {P:Program}{w:World}{K:Frag}{mg:Str->Option Value}{base:Heap}
theorem aiL(M:∀x∈(["abs", "all", "bool", "enumerate", "int", "isinstance", "len", "list", "range", "sorted", "tuple", "zip"]:List Str),mg x=none) (O:∀x∈(["NoBottom", "NoBook", "NoRule", "NoLooks", "NoThings"]:List Str),∃k,PyProof.Rows.OwnCls x k yN "ValueError.__new__" mg base) (XT:lC K) (aiM:At K mg "is_whole" (top 8)) (aiN:At K mg "common_divisor" (top 9)) (aiO:At K mg "fraction_of" (top 10)) (aiP:At K mg "frac_sum" (top 11)) (aiQ:At K mg "frac_less" (top 12)) (aiR:At K mg "frac_times" (top 13)) (aiS:At K mg "frac_by" (top 14)) (aiT:At K mg "frac_below" (top 15)) (aiU:At K mg "is_fraction" (top 16)) (aiV:At K mg "common_bottom" (top 17)) (aiW:At K mg "tops_on_one_bottom" (top 18)) {n8 aiX:Addr} (aiY:ug K mg "falling_places" (top 19) n8) (aiZ:yM K mg base "falling_places" n8 aiX) (ai0:At K mg "is_worth" (top 23)) (ai1:At K mg "are_worths" (top 24)) (ai2:At K mg "is_book" (top 25)) (ai3:At K mg "is_place" (top 26)) (ai4:At K mg "is_count" (top 27)) (ai5:At K mg "are_rising" (top 28)) (ai6:At K mg "are_things" (top 29)) (ai7:At K mg "need_book" (top 30)) (ai8:At K mg "read_orders" (top 31)) (ai9:At K mg "are_weights" (top 34)) (aja:At K mg "is_rule" (top 35)) (ajb:At K mg "shares_worth" (top 36)) (ajc:At K mg "product_worth" (top 37)) (ajd:At K mg "place_of" (top 38)) (aje:At K mg "worth_by" (top 39)) (ajf:At K mg "need_book_and_rule" (top 40)) (ajg:At K mg "worths_of" (top 42)) (ajh:At K mg "are_depths" (top 46)) (aji:At K mg "is_ask" (top 47)) (ajj:At K mg "are_asked" (top 48)) (ajk:At K mg "need_looks" (top 49)) (ajl:At K mg "seen_by" (top 50)) (ajm:At K mg "last_worths" (top 51)) (ajn:At K mg "bounds_by" (top 52)) (ajo:At K mg "weakest_and_rival" (top 53)) (ajp:At K mg "are_sure" (top 54)) (ajq:At K mg "shrink_between" (top 56)) (ajr:At K mg "raised_book" (top 57)) (ajs:At K mg "other_book" (top 58)) (ajt:At K mg "_law_cell" (top 60)) (aju:At K mg "_law_frac" (top 61)) (ajv:At K mg "_law_add" (top 62)) (ajw:At K mg "_law_mul" (top 63)) (ajx:At K mg "_law_below" (top 64)) (ajy:At K mg "_law_book" (top 65)) (ajz:At K mg "_law_rule" (top 66)) (ajA:At K mg "_law_worth" (top 67)) (ajB:At K mg "_law_order" (top 68)) (ajC:At K mg "_law_looks" (top 69)) (ajD:At K mg "_law_seen" (top 70)) (ajE:At K mg "_law_bounds" (top 71)) (ajF:At K mg "_law_are_sure" (top 72)) (ajG:At K mg "_law_is" (top 73)) (ajH:At K mg "_law_agrees" (top 74)) (ajI:At K mg "_law_best" (top 75)) (ajJ:At K mg "_law_copied" (top 76)) (ajK:At K mg "law" (top 77)) {ajL:V} (ajM:Gk K mg "MOST_LISTS" ajL (.int 4)) {ajN:V} (ajO:Gk K mg "MOST_THINGS" ajN (.int 12)) {ajP:V} (ajQ:Gk K mg "BARE_RULES" ajP (.tup [(.tup [(.str "least")]),(.tup [(.str "greatest")]),(.tup [(.str "product")])])) {ajR:V} (ajS:Gk K mg "NOTHING" ajR (.tup [(.int 0),(.int 1)])) {ajT:V} (ajU:Gk K mg "FULL" ajT (.tup [(.int 1),(.int 1)])):jf P w K mg base 9 "law" ["_law_script"] (Bp K 1 rR):=by
 have kn:=Kn.mk' (P:=P) (w:=w) M O XT
 have h:∀y∈[Ey.gk "MOST_LISTS" (.int 4),Ey.gk "MOST_THINGS" (.int 12),Ey.gk "BARE_RULES" (.tup [(.tup [(.str "least")]),(.tup [(.str "greatest")]),(.tup [(.str "product")])]),Ey.gk "NOTHING" (.tup [(.int 0),(.int 1)]),Ey.gk "FULL" (.tup [(.int 1),(.int 1)])],Ey.jX ⟨P,w,K,mg,base,clz mg⟩ y:=List.forall_mem_cons.mpr ⟨⟨_,ajM⟩,List.forall_mem_cons.mpr ⟨⟨_,ajO⟩,List.forall_mem_cons.mpr ⟨⟨_,ajQ⟩,List.forall_mem_cons.mpr ⟨⟨_,ajS⟩,List.forall_mem_cons.mpr ⟨⟨_,ajU⟩,λ_ z=>nomatch z⟩⟩⟩⟩⟩
 have h:=aU SN kn h aiM
 have h:=aU R7 kn h aiN
 have h:=aU R9 kn h aiO
 have h:=aU Sg kn h aiP
 have h:=aU Sq kn h aiQ
 have h:=aU Sv kn h aiR
 have h:=aU Sw kn h aiS
 have h:=aU SJ kn h aiT
 have h:=aU SX kn h aiU
 have h:=aU Tj kn h aiV
 have h:=aU Tp kn h aiW
 have h:=okL ["fractions", "tops"] TF kn h aiY aiZ
 have h:=aU S7 kn h ai0
 have h:=aU S9 kn h ai1
 have h:=aU Td kn h ai2
 have h:=aU TJ kn h ai3
 have h:=aU Um kn h ai4
 have h:=aU Uq kn h ai5
 have h:=aU Vb kn h ai6
 have h:=aU TV kn h ai7
 have h:=aU Ut kn h ai8
 have h:=aU T5 kn h ai9
 have h:=aU T7 kn h aja
 have h:=aU T9 kn h ajb
 have h:=aU Ub kn h ajc
 have h:=aU Ud kn h ajd
 have h:=aU Ug kn h aje
 have h:=aU Ui kn h ajf
 have h:=aU Uk kn h ajg
 have h:=aU Uw kn h ajh
 have h:=aU Uy kn h aji
 have h:=aU UG kn h ajj
 have h:=aU UL kn h ajk
 have h:=aU U0 kn h ajl
 have h:=aU Vz kn h ajm
 have h:=aU U4 kn h ajn
 have h:=aU U6 kn h ajo
 have h:=aU U9 kn h ajp
 have h:=aU Vd kn h ajq
 have h:=Hq Vf kn h ajr
 have h:=Hq Ws kn h ajs
 have h:=aU Wt kn h ajt
 have h:=aU Wu kn h aju
 have h:=aU Ww kn h ajv
 have h:=aU Wy kn h ajw
 have h:=aU WL kn h ajx
 have h:=aU WM kn h ajy
 have h:=aU WQ kn h ajz
 have h:=aU WR kn h ajA
 have h:=aU WT kn h ajB
 have h:=aU WW kn h ajC
 have h:=aU WX kn h ajD
 have h:=aU WY kn h ajE
 have h:=aU W2 kn h ajF
 have h:=aU W3 kn h ajG
 have h:=aU W5 kn h ajH
 have h:=aU W6 kn h ajI
 have h:=Hq W7 kn h ajJ
 have h:=aU W8 kn h ajK
 obtain⟨f,fd,h1,h2⟩:jf P w K mg base 9 "law" ["_law_script"] (nq K (clz mg) 1 rR):=h (Ey.fn "law" ["_law_script"] rR 9) (fm "law" (by kernel_rfl))
 exact⟨f,fd,h1.imp aiJ,h2⟩
end
theorem walk{l:OpenLaw}{q:Program}{loose:List Str}{XP:(Str->Option Value)->Heap->Prop}{YP:World->Heap->Prop}{d:DefRec}{K:Params->Frag}(hn:l.most=some 63)(hdf:d.params.defaults=[])(hd:d.name = "law")
  (vQ:∀x∈eN,((PyProof.Rows.recsOf q).find? (λe=>e.name == x)).isSome=true\/∀w:World,nsIn (K w.params) mainGlobals x=some none) (qg:∀w:World,noTabs (K w.params)=true)
  (hY:∀(w:World) (h:Heap),YP w h->(K w.params).In h)
  (F:∀(w:World) (mg:Str->Option Value) (h:Heap),(K w.params).In h->h.Ns mainGlobals mg->∀base:Heap,(K w.params).In base->base.Ns mainGlobals mg->(∀x∈eN,∀c b,tabIn (K w.params) x=some (c,b)->CodeHd base c b)->lO mg base->jf l.prog w (K w.params) mg base 9 "law" (["_law_script"]:List Str) (Bp (K w.params) 1 rR)) :
  WalkO q loose XP YP l.row.toRowW d [] (λf vs=>PySem.call f vs) :=
 L2.aiF (n:=63) (k:=9) (x := "_law_script") (CX:=λw=>gD l.prog w) (sp:=λw=>Bp (K w.params) 1 rR) hn (by decide) hdf ⟨rfl,by decide,by decide,rfl⟩ vQ qg hY
  (λw mg fa h KX G hm base kb gb hc bm=>by
   obtain⟨f,fd,h1,h2,_,h4⟩:=F w mg h KX G base kb gb hc bm
   rw[hd]at hm
   cases h4.symm.trans hm
   exact⟨fd,λs u ks=>h2 s [u] ks rfl,h1⟩)
  (λw H a ns hl hTb hS=>by
   obtain⟨G,g1,g2,g3⟩:=aiK hTb hS
   exact⟨G,[.lst (ns.map .int)],rfl,.cons (.lst g3 (Rb ns)) .nil,g1,hTb,g2,_,aiB ns,λv G' H' r=>by cases r; rfl⟩)
  λw H s e s' h=>by
   obtain⟨_,_,_,_,_,_,z,_⟩:=h
   exact z
end K28
end
section
namespace PySem.W.Fast
end PySem.W.Fast
inductive PySem.W.Fast:Prop
|tw10107433693817177318
|tw10109088158927802078
|tw10390227329919768371
|tw10661513635844959505
|tw10721788473781162120
|tw10915858188505350198
|tw11082006620879708849
|tw11126733716693856634
|tw11135315919549407620
|tw11267757858119667485
|tw11277264572686183438
|tw11316393366085427868
|tw11373164691399353956
|tw11550227701834862753
|tw11599455271261162416
|tw11634884282663031494
|tw11649477288031830106
|tw1177121223894528551
|tw12007186265647709941
|tw12149250776137202987
|tw12165577298052146
|tw12283224980885582510
|tw12581051067965128771
|tw1265452657178949438
|tw12681715758849435775
|tw12786248516596456773
|tw12932632170677654500
|tw13128393954302191620
|tw13468817697861673891
|tw13496420042464340412
|tw13727181407021958825
|tw13997169188544259973
|tw14191335157925371344
|tw14236744819516570518
|tw14253348706939140193
|tw14258449761470657795
|tw142656296097439335
|tw14330524401675110728
|tw14333753189023638239
|tw14449180874857565680
|tw14463340173140249162
|tw14488785012712662713
|tw14613721876084339149
|tw14891580470939159898
|tw14992694276020046816
|tw15025280868391383386
|tw1512590305675680777
|tw15176144696973737073
|tw15241681114512448462
|tw15388764823941478833
|tw1548623048515817753
|tw15874421216501863767
|tw15930429680647180511
|tw16227313764104855022
|tw16257410481231667663
|tw16287123465903825945
|tw16414629570453495854
|tw16507357828586494850
|tw16512290502534838375
|tw1666709626462384501
|tw16877733510841668875
|tw17098535870087233498
|tw1749553417507114476
|tw17682626754963849264
|tw1780331752600354547
|tw17969572966687142907
|tw18006518597048288903
|tw18095411495879158731
|tw18133465763388496515
|tw18199001269142840672
|tw18319933336276677775
|tw193046770961004918
|tw1936328922712636497
|tw2066439909553629033
|tw2321077313031212784
|tw2343872008646946829
|tw2363522052436053907
|tw2446040881304140656
|tw2657521660569323025
|tw2947575194405756559
|tw3349462400135669684
|tw3421071197257672447
|tw3480236027678667234
|tw350321218694661636
|tw3651663390670590571
|tw366762220644387093
|tw3765240668984961360
|tw3851346255107933880
|tw4229758831471785598
|tw4255911984055405613
|tw4490567321777426908
|tw4515434036711895456
|tw4661742325077912863
|tw48082564342595018
|tw497359200363983968
|tw5076619266744203683
|tw5134757148382550302
|tw5168305464318210010
|tw5169099431046606518
|tw5177298800564296873
|tw5202533377512656350
|tw5309944662056976687
|tw5323136878935305922
|tw5365276150788013987
|tw5402821100586375387
|tw5545046492471758055
|tw5565143684637484790
|tw5629726926979724378
|tw5647086317839918789
|tw5672107182556208622
|tw5884611516072107625
|tw5900155890858202132
|tw5910515791348912460
|tw6127439436532120191
|tw6142741737616758544
|tw6179189279248311222
|tw6213285897136731086
|tw6313149493028954831
|tw63405457663504398
|tw6446706821628785781
|tw6535940260170808774
|tw6615099663853983446
|tw6647936992318282146
|tw6753650947593272812
|tw6775918033166839271
|tw7135681902710405486
|tw761137120100092683
|tw7751720504609761590
|tw7851914026698594933
|tw7907438754875880576
|tw8052982416187895211
|tw8350463902556496891
|tw8411812255159643087
|tw8422918255362506685
|tw8493096421988727539
|tw8689123852399465907
|tw8821546283553671897
|tw8847391968080839031
|tw9012470629747151927
|tw9013623568091399694
|tw9159219455275757339
|tw9169792524921527846
|tw9212544636597447726
|tw9216867121653331233
|tw9267991842815041648
|tw9458631956106342025
|tw9533218202224015335
|tw9557107259730713546
|tw9597652948870955779
|tw9631294159424194905
|tw9652073221771428767
open PySem PySem.W PyProof.Rows
set_option maxRecDepth 100000 in
set_option maxHeartbeats 0 in
theorem PySem.Challenge.cw_bestheads_k28_other_books_holds : PySem.Challenge.rw_bestheads_k28_other_books.Holds := by
 w_on; o_law; k_head; (case hw=>w_witness2)
 k_fill
 refine K28.walk (l:=PySem.Challenge.rw_bestheads_k28_other_books) rfl rfl rfl ?vQ ?qg (λw h Y=>by first|exact PySem.W.km_in_of Y|exact PySem.W.kIn_of Y) ?F
 case vQ =>
  intro x hx
  rcases(List.mem_cons.mp hx)with rfl|hx
  .exact .inl (by kernel_rfl)
  .rw[List.mem_singleton.mp hx]
   exact .inr λw=>by k_is
 case qg=>intro w; kernel_rfl
 case F =>
  intro w mg h KX G base kb gb hcd hbm
  refine' K28.aiL ?qM ?qO ?qXT ?qd1 ?qd2 ?qd3 ?qd4 ?qd5 ?qd6 ?qd7 ?qd8 ?qd9 ?ajV ?ajW ?ajX ?ajY ?ajZ ?aj0 ?aj1 ?aj2 ?aj3 ?aj4 ?aj5 ?aj6 ?aj7 ?aj8 ?aj9 ?akb ?akc ?akd ?ake ?akf ?akg ?akh ?aki ?akj ?akk ?akl ?akm ?akn ?ako ?akp ?akq ?akr ?aks ?akt ?aku ?akv ?akx ?aky ?akz ?akA ?akB ?akC ?akD ?akE ?akF ?akG ?akH ?akI ?akJ ?akK ?akL ?akM ?akN ?akO ?akP ?akQ
  case qM=>intro x m; simp only[List.mem_cons,List.not_mem_nil,or_false]at m; rcases m with rfl|rfl|rfl|rfl|rfl|rfl|rfl|rfl|rfl|rfl|rfl|rfl <;> exact mg_none_of KX G (by k_is)
  case qd1|qd2|qd3|qd4|qd5|qd6|qd7|qd8|qd9|ajV|ajW|ajZ|aj0|aj1|aj2|aj3|aj4|aj5|aj6|aj7|aj8|aj9|akb|akc|akd|ake|akf|akg|akh|aki|akj|akk|akl|akm|akn|ako|akp|akq|akr|aks|akt|aku|akv|akx|aky|akz|akA|akB|akC|akD|akE|akF|akG|akH|akI|akJ|akK|akL=>exact K28.aiG KX G (by k_is) (by k_is) (by k_is) (by k_is)
  case ajX =>
   refine' K28.aiH KX G ?akR ?akS ?akT ?akU
   (case akR=>k_is); (case akS=>k_is); (case akT=>k_is); (case akU=>k_is)
  case ajY =>
   refine' L2.ad5 (by decide) hcd hbm (L2.ad4 ?akV ?akW ?akX ?akY ?akZ ?ak0 ?ak1 ?ak2 ?ak3) ?ak4
   (case akV=>k_is); (case akW=>k_is); (case akY=>k_is); (case ak0=>exact rfl); (case ak1=>k_is); (case akX=>kernel_rfl); (case akZ=>kernel_rfl); (case ak2=>kernel_rfl); (case ak3=>exact rfl)
   case ak4 =>
    intro x' hx'
    rcases(List.mem_cons.mp hx')with rfl|hx'
    .exact .inl rfl
    .rw[List.mem_singleton.mp hx']
     exact .inr λc' z=>(by have y:=(L2.Ph (by k_is)).symm.trans z; cases y)
  case akM =>
   refine' K28.Xz KX G ?ak5
   (case ak5=>k_is)
  case akN =>
   refine' K28.Xz KX G ?ak6
   (case ak6=>k_is)
  case akO =>
   refine' K28.aiI KX G ?qbm ?qbl ?qbe ?ak7 ?ak8 ?ak9 ?ala ?alb ?alc
   (case qbm=>k_is); (case qbl=>k_is); (case qbe=>rfl); (case ak7=>k_is); (case ak8=>rfl); (case ak9=>k_is); (case ala=>rfl); (case alb=>k_is); (case alc=>rfl)
  case akP =>
   refine' K28.XC KX G ?ald ?ale ?alf
   (case ald=>k_is); (case ale=>k_is); (case alf=>rfl)
  case akQ =>
   refine' K28.XC KX G ?alg ?alh ?ali
   (case alg=>k_is); (case alh=>k_is); (case ali=>rfl)
  case qXT=>exact L2.lC.of (by kernel_rfl)
  case qO=>intro x m; simp only[List.mem_cons,List.not_mem_nil,or_false]at m; rcases m with rfl|rfl|rfl|rfl|rfl <;> exact⟨_,L2.acR kb gb (by k_is) (by k_exc)⟩
#print axioms PySem.Challenge.cw_bestheads_k28_other_books_holds
end