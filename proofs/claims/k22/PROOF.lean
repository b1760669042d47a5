import PyProof.Rows.All
import Wide.All
import OpenK.AllK
import Wide.FinOn
import Lean
import PyProof.EqAt
import PyProof.EqKinds
import PyProof.TupleCall
import PyProof.ReprRoads
import PyProof.ReprBulk
import PyProof.Rows.RegStrFacts
import PyProof.StrBlockH
import PyProof.FitsBits
import KE.KTurns
import PyProof.NeKinds
import KE.KNest
import KE.KSortKey
import PyProof.ListRange
import PyProof.Rows.SortWalk
import KE.KListMore
import KE.KSortTup
import PyProof.Rows.SumAny
import PySem.Challenge.RW_bestheads_k22_sure_few
set_option exponentiation.threshold 6000
set_option Elab.async false
set_option linter.all false
set_option maxRecDepth 100000
set_option maxHeartbeats 4000000
set_option bootstrap.genMatcherCode false
set_option genSizeOf false
set_option compiler.extract_closed false
set_option hygiene false in
local macro_rules | `(tactic| walk_at "O")=>`(tactic| with_reducible repeat((first|replace h:=JL h|replace h:=JM h|replace h:=JN h|replace h:=JQ h|replace h:=JR h|replace h:=JT h|replace h:=JV h|replace h:=JW h|replace h:=JX h|replace h:=JZ h|replace h:=J0 h|replace h:=J1 h|replace h:=BR h|replace h:=J3 h|replace h:=J4 h|replace h:=J5 h|replace h:=J6 h|replace h:=J7 h|replace h:=J8 h|replace h:=J9 h|replace h:=Ka h|replace h:=Kc h|replace h:=Kd h|replace h:=Kf h|replace h:=Kg h|replace h:=Kh h|replace h:=Km h|replace h:=Ko h|replace h:=Kp h|replace h:=Kq h); (repeat obtain⟨_,h⟩:=h); rename_i ee; first|subst ee|cases ee))
set_option hygiene false in
local macro_rules | `(tactic| walk_at "o")=>`(tactic| with_reducible repeat first|refine Yb h λ_ _ h=>?_|refine Yc h λ_ _ _ _ h=>?_|refine Yd h λ_ _ _ h=>?_|refine Ye h λ_ _ _ _ h=>?_|refine Yg h λ_ _ _ h=>?_|refine Yh h λ_ _ _ _ h=>?_|refine Yi h λ_ _ _ h=>?_|refine Yj h λ_ _ _ h=>?_|refine Yk h λ_ _ h=>?_|refine Yl h λ_ _ _ _ h=>?_|refine Ym h λ_ _ _ _ h=>?_|refine Yn h λ_ _ _ h=>?_|refine Yo h λ_ _ _ _ h=>?_|refine Yp h λ_ _ _ _ h=>?_|refine Yq h λ_ _ _ h=>?_|refine Yr h λ_ _ h=>?_|refine Ys h λ_ _ h=>?_|refine Yt h λ_ _ _ _ h=>?_|refine Yu h λ_ _ _ h=>?_|refine Yv h λ_ _ _ _ h=>?_|refine Yw h λ_ _ _ _ _ h=>?_|refine Yx h λ_ _ _ _ h=>?_|refine Yy h λ_ _ _ h=>?_|refine Yz h λ_ _ _ h=>?_|refine YB h λ_ _ _ _ _ _ _ h=>?_|refine YC h λ_ _ h=>?_|refine YD h λh=>?_|refine YF h λ_ h=>?_|refine YG h λh=>?_|refine YH h λh=>?_)
set_option hygiene false in
local macro_rules | `(tactic| exists $t)=>`(tactic| (refine(?h:VB ?f->SF) ?g; (case g=>exact $t); (case h=>exact λ_=>?f)))
set_option hygiene false in
local macro_rules | `(tactic| walk_at "b")=>`(tactic| first|with_reducible assumption|exact decide_eq_true (by first|assumption|omega)|exact decide_eq_false (by first|assumption|omega)|((with_reducible apply L2.YJ); walk_at "b")|((with_reducible apply L2.YK); walk_at "b")|exact rfl)
set_option hygiene false in
local macro_rules | `(tactic| walk_at "u")=>`(tactic| fail)
set_option hygiene false in
local macro_rules | `(tactic| walk_at "q")=>`(tactic| repeat' (first|with_reducible rfl|((with_reducible change _=List.getD _ _ _); exact rfl)|(with_reducible apply L2.YL)|(with_reducible refine congrArg L2.Sl.ow ?_)|(with_reducible refine congrArg L2.Sl.sh ?_)|(with_reducible refine congrArg L2.Sl.dp ?_)))
set_option hygiene false in
local macro_rules | `(tactic| walk_at "1")=>`(tactic| first|(with_reducible first|assumption|apply L2.YM|apply L2.YQ|apply L2.YS|apply L2.tD|apply L2.tE|apply L2.YT)|walk_at "u" | ((with_reducible first | change L2.bx _ _=_ | change L2.eC _ _=_ | change L2.dR _=_ | change L2.dr _ _=_ | change L2.drs _ _=_ | change L2.con _ _=_ | change L2.cls _=_ | change L2.BW _ _=_ | change L2.BX _=_ | change L2.jc _=_ | change L2.Rs.ok _=_ | change L2.v7 _=_ | change L2.BZ _=_ | change L2.mQ _=_ | change L2.qm _=_ | change _=some _ | change _=List.map _ _ | change L2.dZ _ _=_ | change _=Tr.lst _ | change _=Tr.int _ | change _=Tr.tup _ | change L2.jR _ _ _=_ | change L2.Kr _ _=_ | change (_ && _)=_); exact rfl) | (with_reducible first | exact L2.st0 | exact L2.st1 | exact L2.st2 | exact L2.st3 | exact L2.oF | exact L2.gO | exact L2.YW | exact L2.fU | apply L2.YX) | (with_reducible first | exact L2.YZ | exact L2.Y0 | exact L2.Y4 | exact L2.Y5 | exact L2.Y6 | exact L2.Y7 | exact L2.Y8 | exact L2.Ca | exact L2.Cd | exact L2.Y9 | exact L2.Ce | exact L2.Za | exact L2.Zb | apply L2.Zc | apply L2.Zd | apply L2.Ks | apply L2.Ze | apply L2.Ku) | (with_reducible first | apply L2.Zf | apply L2.Zg | apply L2.Zh | apply L2.Zi | apply L2.Zj | apply L2.Zk | apply L2.Zm | apply L2.xBA | apply L2.Zn | apply L2.Zo | apply L2.xC1 | apply L2.Zq | apply L2.Zr | apply L2.Zt | apply L2.Zu | apply L2.Zv | apply L2.Zw | apply L2.Zx | apply L2.Zy | apply L2.Zz | apply L2.ZC | apply L2.ZD | apply L2.ZF | apply L2.ZG | apply L2.xEA | apply L2.ZJ | apply L2.ZK | apply L2.ZL | apply L2.xC2 | apply L2.ZM | apply L2.ZP | apply L2.ZQ | apply L2.ZR | apply L2.ZS | apply L2.ZV | apply L2.ZW | apply L2.ZX | apply L2.Z0 | apply L2.Z1 | apply L2.Z2 | apply L2.Z4 | apply L2.Z5 | apply L2.Z6 | apply L2.Z7 | apply L2.Z8 | apply L2.Z9 | apply L2.xG2 | apply L2.xG3 | apply L2.xGN | apply L2.wAg) | ((with_reducible first | apply L2.xT | apply L2.wT | apply L2.pT); (walk_at "b"))|((with_reducible first|apply L2.xF|apply L2.wF|apply L2.pF); (walk_at "b"))|(with_reducible first|apply L2.xOv|apply L2.xAv|apply L2.xOV|apply L2.xAV)|((with_reducible change L2.d8 _=_); exact rfl)|((with_reducible change L2.vw _=_); (dsimp only[L2.vw,L2.Ky,List.map] <;> exact rfl))|((with_reducible change L2.oH _ _ _=_); exact rfl)|((with_reducible change L2.aW _ _=_); exact rfl)|((with_reducible change L2.tH _ _=_); exact rfl)|((with_reducible change L2.mR _=_); exact rfl)|((with_reducible change L2.v8 _=_); exact rfl)|((with_reducible change L2.aac _ _=_); exact rfl)|((with_reducible change L2.aad _ _=_); exact rfl)|((with_reducible change L2.wg _=_); exact rfl)|((with_reducible first|apply L2.jw|apply L2.xSN); decide +kernel)|exact λ_=>rfl|((with_reducible first|change ∀_ _,L2.eU _ _ _=_|change ∀_ _,L2.bA _ _ _=_); exact λ_ _=>rfl)|(dsimp only; (with_reducible apply L2.exV); walk_at "q")|((change ∀_,_∈_->_=_); intro x hx; try rw[List.mem_range]at hx)|((with_reducible change L2.dH _ _=_); (first|(with_reducible first|exact c1 _|exact c2 _|exact c3 _)|exact L2.cMr (by omega)|exact L2.cMl (by omega)))|((with_reducible change L2.iH _ _=_); first|(with_reducible first|exact c1 _|exact c2 _|exact c3 _)|exact L2.Kz (by omega) (by omega))|omega|((with_reducible change _≠_); decide)|(rw[List.length_map]; exact List.length_filter_le ..)|((with_reducible first|change _<=_|change _<_); simp only[List.length_map,List.length_range,List.length_take,List.length_append,List.length_cons,List.length_nil]; omega))
set_option hygiene false in
local macro_rules | `(tactic| walk_at "p")=>`(tactic| (dsimp only[L2.pt,List.map,List.set]; (try with_reducible apply L2.wG); walk_at "r"))
set_option hygiene false in
local macro_rules | `(tactic| walk_at "r")=>`(tactic| (repeat(walk_at "1")))
set_option hygiene false in
local macro_rules | `(tactic| walk_at "e")=>`(tactic| (apply L2.wFe; (dsimp only[L2.jT,List.map,List.length,List.replicate,List.append,HAppend.hAppend,Append.append,Nat.reduceSub,Nat.reduceAdd] <;> exact rfl); walk_at "r"))
set_option hygiene false in
local macro_rules | `(tactic| walk_at "d")=>`(tactic| (apply L2.KC; (dsimp only[L2.jT,List.map,List.length,List.replicate,List.append,HAppend.hAppend,Append.append,Nat.reduceSub,Nat.reduceAdd] <;> exact rfl); walk_at "r"))
set_option hygiene false in
local macro_rules | `(tactic| walk_at "u")=>`(tactic| with_reducible first|exact lu _|exact jU _|apply oJ)
set_option hygiene false in
local macro_rules | `(tactic| walk_at "u")=>`(tactic| with_reducible first|exact lu _|exact jU _|apply oJ|apply KD)
set_option hygiene false in
local macro_rules | `(tactic| walk_at "u")=>`(tactic| with_reducible first|exact lu _|exact jU _|apply oJ|apply KD|apply wk|apply aae|apply Cg|exact aaf|exact aag|exact aah)
set_option hygiene false in
local macro_rules | `(tactic| walk_at "u")=>`(tactic| with_reducible first|exact KH|apply KJ|exact Ci _ _ _)
set_option hygiene false in
local macro_rules | `(tactic| walk_at "u")=>`(tactic| with_reducible first|exact lu _|exact jU _|apply oJ|apply tL|apply KN|exact half|exact Ci _ _ _|exact KQ|exact KR|apply wk|apply Cg|exact qp|exact KY|exact pick|exact KZ|exact K1|apply lA (0:Nat)|apply lA ((0,1):Int × Int)|apply Bk.lt (by assumption))
set_option hygiene false in
local macro_rules | `(tactic| walk_at "u")=>`(tactic| with_reducible first|exact aai _ _|exact aaj _|exact KH|apply KJ|exact aak _ _|exact aal _ _|exact lu _|exact jU _|apply oJ|apply tL|apply KN|exact half|exact Ci _ _ _|exact KQ|exact KR|apply wk|apply Cg|exact qp|exact KY|exact pick|exact KZ|exact K1|apply lA (0:Nat)|apply lA ((0,1):Int × Int)|apply Bk.lt (by assumption))
section
namespace L2
open PySem PySem.Spec PyProof.Rows
inductive V where
 |non|bl (b:Bool)|int (i:Int)|str (x:Str)|tM (b:Array UInt8)|flt (b:UInt64)|ref (a:Addr)|ty (n:String)
 deriving DecidableEq
noncomputable def RelV:V->Value->Prop
 |.non,u=>u=Value.none
 |.bl b,u=>u=Value.bool b
 |.int i,u=>∃t,u=Value.int i t
 |.str x,u=>∃t,u=Value.str x t
 |.tM b,u=>∃t,u=Value.bytes b t
 |.flt b,u=>∃t,u=Value.float b t
 |.ref a,u=>u=Value.ref a
 |.ty n,u=>u=Value.type n
noncomputable abbrev Vals:List V->List Value->Prop:=Paired RelV
theorem Vals.length{xs:List V}{us:List Value}(r:Vals xs us):xs.length=us.length:=Paired.length r
theorem Vals.get:∀{xs:List V} {us:List Value} {i:Nat} {x:V},Vals xs us->xs[i]?=some x->∃u,us[i]?=some u/\RelV x u
 |_,_,_,_,.nil,e=>by simp at e
 |_,_,0,_,.cons r _,e=>by simp at e; subst e; exact⟨_,rfl,r⟩
 |_,_,i+1,x,.cons _ t,e=>by
  obtain⟨u,h1,h2⟩:=Vals.get (i:=i) (x:=x) t (by simpa using e)
  exact⟨u,by simpa using h1,h2⟩
theorem Vals.set{x:V}{u:Value}(r:RelV x u):∀{xs:List V} {us:List Value} (i:Nat),Vals xs us->Vals (xs.set i x) (us.set i u)
 |_,_,_,.nil=>.nil
 |_,_,0,.cons _ t=>.cons r t
 |_,_,i+1,.cons q t=>.cons q (Vals.set r i t)
theorem Vals.append:∀{xs ys:List V} {us ws:List Value},Vals xs us->Vals ys ws->Vals (xs++ys) (us++ws)
 |_,_,_,_,.nil,s=>s
 |_,_,_,_,.cons r t,s=>.cons r (Vals.append t s)
theorem Vals.take:∀{xs:List V} {us:List Value} (n:Nat),Vals xs us->Vals (xs.take n) (us.take n)
 |_,_,0,_=>.nil
 |_,_,_+1,.nil=>.nil
 |_,_,n+1,.cons r t=>.cons r (Vals.take n t)
theorem Vals.drop:∀{xs:List V} {us:List Value} (n:Nat),Vals xs us->Vals (xs.drop n) (us.drop n)
 |_,_,0,r=>r
 |_,_,_+1,.nil=>.nil
 |_,_,n+1,.cons _ t=>Vals.drop n t
noncomputable def al9:Option V->Option Value->Prop
 |some v,some u=>RelV v u
 |none,none=>True
 |_,_=>False
inductive HO where
 |lst (xs:List V)
 |tup (xs:List V)
 |own (x:Addr)
 |rng (lo hi:Int)
 |cH (o:Obj) (u:HO)
 |cj (ps:Array Value)
 |ext (φ : Heap->Prop)
noncomputable abbrev Hp:=Addr->Option HO
noncomputable def upd(H:Hp)(a:Addr)(o:HO):Hp:=λb=>if b=a then some o else H b
theorem cu{H:Hp}{a:Addr}{o:HO}:upd H a o a=some o:=by unfold upd; rw[if_pos rfl]
theorem aK{H:Hp}{a b:Addr}{o:HO}(h:b≠a):upd H a o b=H b:=by unfold upd; rw[if_neg h]
theorem gQ{H:Hp}{a b:Addr}{o:HO}(h:H a=some o)(h':H b=none):a≠b:=by
 intro e; subst e; rw[h]at h'; cases h'
section
variable (P:Program)(w:World)
noncomputable def fV(P:Program)(w:World)(H:Hp)(h:Heap)(a:Addr):HO->Prop
 |.lst xs=>xs.length<=sizeLine/\∃(its:List Value) (n:Nat),Vals xs its/\h.get? a=some {cls:=.type "list",data:=.seq its.toArray n }
 |.tup xs=>xs.length<=sizeLine/\∃its:List Value,Vals xs its/\IsTup h a its.toArray
 |.own _=>∃o,h.get? a=some o
 |.rng lo hi=>∃t u v,h.get? a=some {cls:=.type "range",data:=.fields #[.int lo t,.int hi u,.int 1 v] }
 |.cH o u=>h.get? a=some o/\fV P w H h a u
 |.cj ps=>h.get? a=some {cls:=.none,data:=.fields ps }
 |.ext φ=>φ h/\(∃o,h.get? a=some o)/\∀h1 h2:Heap,φ h1->(∀o,h1.get? a=some o->h2.get? a=some o) -> φ h2
noncomputable def cA(H:Hp)(h:Heap):Prop:=∀a o,H a=some o->fV P w H h a o
end
section
variable {P:Program}{w:World}{H H':Hp}{h h':Heap}{a:Addr}{o:HO}
theorem fV.lt(x:fV P w H h a o):a<h.objs.size:=by
 cases o with
 |lst xs=>obtain⟨_,_,_,_,e⟩:=x; exact Heap.lt_size e
 |tup xs=>obtain⟨_,_,_,p⟩:=x; exact p.lt
 |own y=>obtain⟨_,e⟩:=x; exact Heap.lt_size e
 |rng lo hi=>obtain⟨_,_,_,e⟩:=x; exact Heap.lt_size e
 |cH ob u=>obtain⟨e,_⟩:=x; exact Heap.lt_size e
 |cj ps=>exact Heap.lt_size (show h.get? a=some _ from x)
 |ext φ=>obtain⟨_,⟨_,e⟩,_⟩:=x; exact Heap.lt_size e
theorem fV.stay(x:fV P w H h a o)(k:∀b u,(b=a\/H b=some (.own a))->h.get? b=some u->h'.get? b=some u)
  (ho:∀b,H b=some (.own a)->H' b=some (.own a)) (ht:∀b xs,H b=some (.tup xs)->H' b=some (.tup xs)):fV P w H' h' a o:=by
 induction o with
 |lst xs=>obtain⟨z,its,n,r,e⟩:=x; exact⟨z,its,n,r,k _ _ (.inl rfl) e⟩
 |tup xs=>obtain⟨z,its,r,ob,e,c⟩:=x; exact⟨z,its,r,ob,k _ _ (.inl rfl) e,c⟩
 |own y=>obtain⟨ob,e⟩:=x; exact⟨ob,k _ _ (.inl rfl) e⟩
 |rng lo hi=>obtain⟨t,u,v,e⟩:=x; exact⟨t,u,v,k _ _ (.inl rfl) e⟩
 |cH ob u ih=>obtain⟨e,q⟩:=x; exact⟨k _ _ (.inl rfl) e,ih q⟩
 |cj ps =>
  have e:h.get? a=some {cls:=.none,data:=.fields ps }:=x
  show h'.get? a=some {cls:=.none,data:=.fields ps }
  exact k a _ (.inl rfl) e
 |ext φ=>obtain⟨p,⟨o,e⟩,st⟩:=x; exact⟨st _ _ p λo q=>k _ _ (.inl rfl) q,⟨o,k _ _ (.inl rfl) e⟩,st⟩
theorem cA.lt(x:cA P w H h)(e:H a=some o):a<h.objs.size:=(x a o e).lt
theorem cA.fresh(x:cA P w H h)(e:h.objs.size<=a):H a=none:=by
 cases q:H a with
 |none=>rfl
 |some u=>exact absurd (Nat.lt_of_lt_of_le (x.lt q) e) (Nat.lt_irrefl _)
theorem cA.kept(x:cA P w H h)(k:∀b u,h.get? b=some u->h'.get? b=some u):cA P w H h':=λa o e =>
 (x a o e).stay (λb u _ q=>k b u q) (λ_ q=>q) λ_ _ q=>q
theorem cA.laid(x:cA P w H h)(k:∀b u,h.get? b=some u->h'.get? b=some u)(hp:h.objs.size<=a)(new:fV P w (upd H a o) h' a o):cA P w (upd H a o) h':=λb u e=>by
 have hn:=x.fresh hp
 by_cases hb:b=a
 .subst hb; rw[cu]at e; cases e; exact new
 .rw[aK hb]at e
  exact(x b u e).stay (λc v _ q=>k c v q) (λc q=>by rw[aK (gQ q hn)]; exact q) λc xs q=>by rw[aK (gQ q hn)]; exact q
end
noncomputable def Rd(H:Hp)(a:Addr)(u:HO):Prop:=H a=some u\/∃o,H a=some (.cH o u)
theorem Rd.ok{P:Program}{w:World}{H:Hp}{h:Heap}{a:Addr}{u:HO}(r:Rd H a u)(x:cA P w H h):fV P w H h a u:=by
 rcases r with r|⟨o,r⟩
 .exact x a u r
 .obtain⟨_,q⟩:=x a _ r
  exact q
noncomputable def wu:Option HO->Prop
 |some (.lst _)=>True
 |some (.ext _)=>True
 |_=>False
section
variable {P:Program}{w:World}{H:Hp}{h h':Heap}{x e:Addr}{o':HO}
theorem cA.write(ok:cA P w H h)(mu:wu (H x))(he:e=x\/H e=some (.own x))(k:∀b u,b≠e->h.get? b=some u->h'.get? b=some u)(heo:∃u,h'.get? e=some u)
  (new:fV P w (upd H x o') h' x o'):cA P w (upd H x o') h':=λb u q=>by
 have K3:∀c y,H c=some (.own y)->c≠x:=λc y r z=>by subst z; rw[r]at mu; exact mu
 have aam:∀c xs,H c=some (.tup xs)->c≠x:=λc xs r z=>by subst z; rw[r]at mu; exact mu
 by_cases hb:b=x
 .subst hb; rw[cu]at q; cases q; exact new
 .rw[aK hb]at q
  by_cases hbe:b=e
  .have q':H b=some (.own x):=by
    rcases he with z|z
    .exact absurd (hbe.trans z) hb
    .rw[hbe]; exact z
   rw[q]at q'; cases q'
   obtain⟨v,hv⟩:=heo
   exact⟨v,by rw[hbe]; exact hv⟩
  .refine(ok b u q).stay (λc v hc r=>k c v ?_ r) (λc r=>by rw[aK (K3 c b r)]; exact r) λc xs r=>by rw[aK (aam c xs r)]; exact r
   rcases hc with rfl|hc
   .exact hbe
   .rintro rfl
    rcases he with z|z
    .exact K3 c b hc z
    .rw[hc]at z; cases z; exact hb rfl
end
structure Un(fs ex:List Addr)(H H':Hp)(h h':Heap):Prop where
 keep:∀b o,h.get? b=some o->H b=none->b∉fs->b∉ex->h'.get? b=some o
 slot:∀b o,h.get? b=some o->H b=none->b∈fs->b∉ex->∃sl,h'.get? b=some {o with slots:=sl }
 free:∀b o,h.get? b=some o->H b=none->b∉ex->H' b=none
 there:∀b o,h.get? b=some o->b∉ex->∃o',h'.get? b=some o'
 tups:∀b xs,H b=some (.tup xs)->H' b=some (.tup xs)
 jx:∀b o u,H b=some (.cH o u)->H' b=some (.cH o u)
 jz:∀b ps,H b=some (.cj ps)->∃more,H' b=some (.cj (ps++more))
section
variable {fs fs' ex ex':List Addr}{H H1 H2:Hp}{h h1 h2 h':Heap}{a x e:Addr}{o:HO}
theorem Un.any(u:Un fs ex H H1 h h1)(q:h.get? b=some ob)(n:H b=none)(hx:b∉ex):∃sl,h1.get? b=some {ob with slots:=sl }:=by
 by_cases hb:b∈fs
 .exact u.slot b ob q n hb hx
 .exact⟨ob.slots,u.keep b ob q n hb hx⟩
theorem Un.kept(k:∀b u,h.get? b=some u->h'.get? b=some u):Un fs ex H H h h' :=
 ⟨λb ob q _ _ _=>k b ob q,λb ob q _ _ _=>⟨ob.slots,k b ob q⟩,λ_ _ _ n _=>n,λb ob q _=>⟨ob,k b ob q⟩,λ_ _ q=>q,λ_ _ _ q=>q,λ_ ps q=>⟨#[],by rw[q]; simp⟩⟩
theorem Un.refl:Un fs ex H H h h:=Un.kept λ_ _ q=>q
theorem Un.laid(k:∀b u,h.get? b=some u->h'.get? b=some u)(hp:h.objs.size<=a)(hn:H a=none):Un fs ex H (upd H a o) h h' where
 keep:=λb u q _ _ _=>k b u q
 slot:=λb u q _ _ _=>⟨u.slots,k b u q⟩
 free:=λb u q n _=>by rw[aK (Nat.ne_of_lt (Nat.lt_of_lt_of_le (Heap.lt_size q) hp))]; exact n
 there:=λb u q _=>⟨u,k b u q⟩
 tups:=λb xs q=>by rw[aK (gQ q hn)]; exact q
 jx:=λb u xs q=>by rw[aK (gQ q hn)]; exact q
 jz:=λb ps q=>⟨#[],by rw[aK (gQ q hn),q]; simp⟩
theorem Un.write(mu:wu (H x))(he:e=x\/H e=some (.own x))(k:∀b u,b≠e->h.get? b=some u->h'.get? b=some u)(heo:∃u,h'.get? e=some u):Un fs ex H (upd H x o) h h':=by
 have hx:∀b,H b=none->b≠x:=λb n z=>by subst z; rw[n]at mu; exact mu
 have hb:∀b,H b=none->b≠e:=λb n z=>by
  subst z
  rcases he with r|r
  .exact hx b n r
  .rw[n]at r; cases r
 have hm:∀b u,H b=some u->¬wu (some u)->b≠x:=λb u q nm z=>by subst z; rw[q]at mu; exact nm mu
 refine⟨λb u q n _ _=>k b u (hb b n) q,λb u q n _ _=>⟨u.slots,k b u (hb b n) q⟩,λb u q n _=>by rw[aK (hx b n)]; exact n,λb u q _=>?_,
  λb xs q=>by rw[aK (hm b _ q λz=>z)]; exact q,λb u xs q=>by rw[aK (hm b _ q λz=>z)]; exact q,λb ps q=>⟨#[],by rw[aK (hm b _ q λz=>z),q]; simp⟩⟩
 by_cases hbe:b=e
 .subst hbe; exact heo
 .exact⟨u,k b u hbe q⟩
end
noncomputable def wz(h:Heap)(H:Hp):List Addr:=(List.range h.objs.size).filter λa=>(H a).isSome
noncomputable def lB(h:Heap)(H:Hp):Heap:=PySem.W.hideAll h (wz h H)
theorem aan(h:Heap)(H:Hp):(lB h H).objs.size=h.objs.size:=PySem.W.hideAll_size _ _
theorem aao(e:h.get? b=some o)(n:H b=none):(lB h H).get? b=some o :=
 PySem.W.hideAll_get _ e λhm=>by
  have q:(H b).isSome=true:=(List.mem_filter.mp hm).2
  rw[n]at q; simp at q
theorem aap(e:(lB h H).get? b=some o):h.get? b=some o/\H b=none:=by
 have e':h.get? b=some o:=PySem.W.of_hideAll (wz h H) e
 refine⟨e',?_⟩
 cases q:H b with
 |none=>rfl
 |some x =>
  have hm:b∈wz h H:=List.mem_filter.mpr ⟨List.mem_range.mpr (Heap.lt_size e'),by simp[q]⟩
  have z:(lB h H).get? b=none:=PySem.W.hideAll_none (wz h H) hm
  rw[z]at e; cases e
noncomputable def aaq(g h:Heap)(L:Addr):List (Addr × Obj):=(List.range h.objs.size).filterMap λa=>if a=L\/(g.get? a).isSome=true then none else(h.get? a).map λo=>(a,o)
noncomputable def rest(g h:Heap)(L d:Addr):List (Addr × Obj):=(aaq g h L).filter λp=>decide (p.1≠d)
structure Mod(K:PySem.W.Frag)(mg:Str->Option Value)(base:Heap):Prop where
 Cj:K.In base
 glob:base.Ns mainGlobals mg
 blt:∃mb,base.Ns builtinsNs mb/\∀x:Str,x ≠ "__name__" -> mb x=bootBuiltins x
 nolimit:base.NoLimit
structure Cx where
 prog:Program
 w:World
 K:PySem.W.Frag
 mg:Str->Option Value
 base:Heap
 A:Around
 N:List Str
 s₀ : Shared
 H₀ : Hp
 env:Env
 outer:List Env
 stack:List Env
 ex:List Addr
 fn:Str->Bool
 calm:Bool
 pn:List (Addr × Obj)
 xe:Value->Shared->Prop
noncomputable def frs(l:List Env):List Addr:=l.filterMap (·.frame)
noncomputable abbrev Cx.fs(X:Cx):List Addr:=frs X.outer
noncomputable def wC(sc:Scope)(x:Str):Prop:=sc.names.lookup x=some .local\/sc.names.lookup x=some .cell\/sc.names.lookup x=some .free
noncomputable def Loc(sc:Scope)(x:Str):Prop:=sc.names.lookup x=some .local\/sc.names.lookup x=some .cell
noncomputable def Look(env:Env)(h:Heap)(m:Str->Option Value)(x:Str)(u:Value):Prop :=
 (env.kindOf x=some .local/\m x=some u)\/((env.kindOf x=some .cell\/env.kindOf x=some .free)/\∃c,env.cells.lookup x=some c/\h.IsCell c (some u))
structure Cx.Ok(X:Cx):Prop where
 mod:Mod X.K X.mg X.base
 kind:X.env.scope.kind=.function
 glob:X.env.globals=mainGlobals
 blt:X.env.builtins=builtinsNs
 above:X.s₀.heap.objs.size<=X.env.locals
 inj:∀x y c,X.env.cells.lookup x=some c->X.env.cells.lookup y=some c->x=y
 has:∀x,(X.env.kindOf x=some .cell\/X.env.kindOf x=some .free)->∃c,X.env.cells.lookup x=some c
 cab:∀x c,X.fn x=true->X.env.cells.lookup x=some c->X.s₀.heap.objs.size<=c
 hd:X.calm=true->X.A.handled=none
 frames:X.A.frames=some X.stack
 stk:X.stack=X.outer\/(X.stack=X.env::X.outer/\X.env.frame=some X.env.locals)
 K4:∀b∈X.ex,b≠X.env.locals/\∀x c,X.env.cells.lookup x=some c->c≠b
 bs:∀b o,X.base.get? b=some o->X.s₀.heap.get? b=some o/\X.H₀ b=none
 mU:X.base.objs.size<=X.s₀.heap.objs.size
 tO:∀b o,X.base.get? b=some o->b∉X.ex
 wD:∀b∈X.ex,b∉X.fs
 jd:X.s₀.heap.FunFrames X.base X.outer
 oK:∀b∈X.fs,X.H₀ b=none
structure Inv(X:Cx)(pins:List (Addr × Obj))(σ : List (Option V))(H:Hp)(s:Shared):Prop where
 ok:X.Ok
 os:s.os=X.s₀.os
 bare:AllBare s.gens
 base:Un X.fs X.ex X.H₀ H X.s₀.heap s.heap
 loc:∃m,s.heap.Ns X.env.locals m/\∀(i:Nat) (x:Str) (v:V),X.N[i]?=some x -> σ[i]?=some (some v)->wC X.env.scope x->∃u,RelV v u/\Look X.env s.heap m x u
 cell:∀x c,X.env.cells.lookup x=some c->∃v,s.heap.IsCell c v
 free:H X.env.locals=none
 jA:∀x c,X.env.cells.lookup x=some c->H c=none
 pin:∀p∈X.pn++pins,s.heap.get? p.1=some p.2/\H p.1=none/\p.1≠X.env.locals/\p.1∉X.fs/\∀v,p.2.data ≠ .cell v
 hok:cA X.prog X.w H s.heap
 len : σ.length=X.N.length
section
variable {X:Cx}{pins:List (Addr × Obj)}{σ : List (Option V)}{H H':Hp}{s:Shared}{h':Heap}
theorem Cx.Ok.qu(ok:X.Ok)(e:X.base.get? b=some o):b∉X.fs:=λhb=>by
 have:=(ok.jd.mem hb).1
 rw[e]at this; cases this
theorem Inv.bs(I:Inv X pins σ H s):∀b o,X.base.get? b=some o->s.heap.get? b=some o/\H b=none:=λb o e =>
 ⟨I.base.keep b o (I.ok.bs b o e).1 (I.ok.bs b o e).2 (I.ok.qu e) (I.ok.tO b o e),I.base.free b o (I.ok.bs b o e).1 (I.ok.bs b o e).2 (I.ok.tO b o e)⟩
theorem Inv.bk(I:Inv X pins σ H s):∀b o,X.base.get? b=some o->s.heap.get? b=some o:=λb o e=>(I.bs b o e).1
theorem Inv.mod(I:Inv X pins σ H s):Mod X.K X.mg X.base:=I.ok.mod
theorem Inv.gR(I:Inv X pins σ H s):X.K.In s.heap:=I.ok.mod.Cj.keeps I.bk
theorem Inv.nolimit(I:Inv X pins σ H s):s.heap.NoLimit:=I.ok.mod.nolimit.keeps I.bk
theorem Inv.lt(I:Inv X pins σ H s):X.env.locals<s.heap.objs.size:=let⟨_,hn,_⟩:=I.loc; hn.lt
theorem Inv.sz(I:Inv X pins σ H s):X.s₀.heap.objs.size<=s.heap.objs.size:=Nat.le_trans I.ok.above (Nat.le_of_lt I.lt)
theorem Inv.aar(I:Inv X pins σ H s)(h:s.heap.objs.size<=a):a∉X.fs:=λhb=>by
 obtain⟨_,o,ho,_⟩:=I.ok.jd.mem hb
 exact absurd (Nat.lt_of_lt_of_le (Heap.lt_size ho) (Nat.le_trans I.sz h)) (Nat.lt_irrefl _)
theorem Inv.oM(I:Inv X pins σ H s):∀x c,X.env.cells.lookup x=some c->c≠X.env.locals:=λx c e z=>by
 obtain⟨v,o,ho,hd⟩:=I.cell x c e
 obtain⟨m,⟨o',es,ep,ho',hd',_⟩,_⟩:=I.loc
 rw[z,ho']at ho; cases ho; rw[hd']at hd; cases hd
theorem Inv.jd(I:Inv X pins σ H s):s.heap.FunFrames X.base X.outer:=by
 have all:∀(l:List Env),(∀b∈frs l,b∈X.fs)->X.s₀.heap.FunFrames X.base l->s.heap.FunFrames X.base l:=by
  intro l
  induction l with
  |nil=>intro _ _; trivial
  |cons env r ih =>
   intro hs hl
   obtain⟨hk,⟨L,o,hf,hn,ho,hd⟩,hr⟩:=hl
   have hL:L∈X.fs:=hs L (by unfold frs; rw[List.filterMap_cons,hf]; exact List.mem_cons_self)
   obtain⟨sl,e⟩:=I.base.slot L o ho (I.ok.oK L hL) hL λz=>I.ok.wD L z hL
   exact⟨hk,⟨L,_,hf,hn,e,hd⟩,ih (λb hb=>hs b (by unfold frs; rw[List.filterMap_cons,hf]; exact List.mem_cons_of_mem _ hb)) hr⟩
 exact all X.outer (λ_ hb=>hb) I.ok.jd
theorem Inv.stack(I:Inv X pins σ H s):s.heap.FunFrames X.base X.stack:=by
 rcases I.ok.stk with e|⟨e,hf⟩
 .rw[e]; exact I.jd
 .rw[e]
  obtain⟨m,hn,_⟩:=I.loc
  refine .cons (by rw[I.ok.kind]; decide) hf hn ?_ I.jd
  exact Heap.get?_none_of_le (Nat.le_trans I.ok.mU I.ok.above)
theorem Inv.tQ(I:Inv X pins σ H s):∀b∈frs X.stack,b∈X.env.locals::X.fs:=λb hb=>by
 rcases I.ok.stk with e|⟨e,hf⟩
 .rw[e]at hb; exact List.mem_cons_of_mem _ hb
 .rw[e]at hb
  unfold frs at hb
  rw[List.filterMap_cons,hf]at hb
  exact hb
theorem Inv.wH(I:Inv X pins σ H s):∀b∈frs X.stack,H b=none:=λb hb=>by
 rcases List.mem_cons.mp (I.tQ b hb)with e|hb
 .rw[e]; exact I.free
 .obtain⟨_,o,ho,_⟩:=I.ok.jd.mem hb
  exact I.base.free b o ho (I.ok.oK b hb) λz=>I.ok.wD b z hb
theorem Inv.step{g':Array GenState}{t':Nat}{d':Drawn}{ch:List Addr}(I:Inv X pins σ H s)
  (hch:∀b∈ch,(b∈X.ex\/X.s₀.heap.objs.size<=b)/\b≠X.env.locals/\(∀x c,X.env.cells.lookup x=some c->c≠b)/\∀p∈X.pn++pins,p.1≠b)
  (keep:∀b o,b≠X.env.locals->b∉X.fs->b∉ch->s.heap.get? b=some o->H b=none->h'.get? b=some o)
  (slot:∀b o,b≠X.env.locals->b∈X.fs->b∉ch->s.heap.get? b=some o->H b=none->∃sl,h'.get? b=some {o with slots:=sl }) (free:∀b o,b∉ch->s.heap.get? b=some o->H b=none->H' b=none)
  (there:∀b o,b∉ch->s.heap.get? b=some o->∃o',h'.get? b=some o')
  (tups:∀b xs,H b=some (.tup xs)->H' b=some (.tup xs)) (jx:∀b o u,H b=some (.cH o u)->H' b=some (.cH o u)) (jz:∀b ps,H b=some (.cj ps)->∃more,H' b=some (.cj (ps++more)))
  (ns:∀m,s.heap.Ns X.env.locals m->h'.Ns X.env.locals m) (hok:cA X.prog X.w H' h') (hg:AllBare g') :
  Inv X pins σ H' {s with heap:=h',gens:=g',drawn:=d',toks:=t' }:=by
 have K5:∀b o,X.s₀.heap.get? b=some o->b≠X.env.locals:=λb o e=>Nat.ne_of_lt (Nat.lt_of_lt_of_le (Heap.lt_size e) I.ok.above)
 have wI:∀b o,X.s₀.heap.get? b=some o->b∉X.ex->b∉ch:=λb o e hx hb=>by
  rcases(hch b hb).1 with z|z
  .exact hx z
  .exact absurd (Nat.lt_of_lt_of_le (Heap.lt_size e) z) (Nat.lt_irrefl _)
 have cellK:∀x c,X.env.cells.lookup x=some c->∀v,s.heap.IsCell c v->h'.IsCell c v:=λx c e v ⟨o,ho,hd⟩=>by
  have tR:c∉ch:=λz=>(hch c z).2.2.1 x c e rfl
  by_cases hc:c∈X.fs
  .obtain⟨sl,q⟩:=slot c o (I.oM x c e) hc tR ho (I.jA x c e)
   exact⟨_,q,hd⟩
  .exact⟨o,keep c o (I.oM x c e) hc tR ho (I.jA x c e),hd⟩
 refine⟨I.ok,I.os,hg,⟨λb o e n hb hx=>?_,λb o e n hb hx=>?_,λb o e n hx=>?_,λb o e hx=>?_,λb xs e=>tups b xs (I.base.tups b xs e),λb o xs e=>jx b o xs (I.base.jx b o xs e),λb ps e=>?_⟩,?_,λx c e=>?_,?_,λx c e=>?_,λp hp=>?_,hok,I.len⟩
 .exact keep b o (K5 b o e) hb (wI b o e hx) (I.base.keep b o e n hb hx) (I.base.free b o e n hx)
 .obtain⟨sl,e1⟩:=I.base.slot b o e n hb hx
  obtain⟨sl',e2⟩:=slot b _ (K5 b o e) hb (wI b o e hx) e1 (I.base.free b o e n hx)
  exact⟨sl',e2⟩
 .obtain⟨o',e1⟩:=I.base.there b o e hx
  exact free b o' (wI b o e hx) e1 (I.base.free b o e n hx)
 .obtain⟨o',e1⟩:=I.base.there b o e hx
  exact there b o' (wI b o e hx) e1
 .obtain⟨m1,e1⟩:=I.base.jz b ps e
  obtain⟨m2,e2⟩:=jz b _ e1
  exact⟨m1++m2,by rw[e2,Array.append_assoc]⟩
 .obtain⟨m,hn,hl⟩:=I.loc
  refine⟨m,ns m hn,λi x v e1 e2 e3=>?_⟩
  obtain⟨u,r,l⟩:=hl i x v e1 e2 e3
  refine⟨u,r,?_⟩
  rcases l with l|⟨k,c,e,z⟩
  .exact .inl l
  .exact .inr ⟨k,c,e,cellK x c e _ z⟩
 .obtain⟨v,z⟩:=I.cell x c e
  exact⟨v,cellK x c e v z⟩
 .obtain⟨m,⟨o,_,_,ho,_⟩,_⟩:=I.loc
  exact free _ o (λz=>(hch _ z).2.1 rfl) ho I.free
 .obtain⟨v,o,ho,hd⟩:=I.cell x c e
  exact free c o (λz=>(hch c z).2.2.1 x c e rfl) ho (I.jA x c e)
 .obtain⟨e,n,ne,nf,d⟩:=I.pin p hp
  have tR:p.1∉ch:=λz=>(hch p.1 z).2.2.2 p hp rfl
  exact⟨keep p.1 p.2 ne nf tR e n,free p.1 p.2 tR e n,ne,nf,d⟩
theorem Inv.un{t':Nat}(I:Inv X pins σ H s)(u:Un X.fs [] H H' s.heap h')(hok:cA X.prog X.w H' h'):Inv X pins σ H' {s with heap:=h',toks:=t' }:=by
 obtain⟨m,⟨o,es,ep,ho,r⟩,_⟩:=id I.loc
 obtain⟨sl,hL⟩:=u.any ho I.free (by simp)
 exact I.step (g':=s.gens) (d':=s.drawn) (ch:=[]) (λ_ z=>nomatch z) (λb o _ hb _ e n=>u.keep b o e n hb (by simp)) (λb o _ hb _ e n=>u.slot b o e n hb (by simp)) (λb o _ e n=>u.free b o e n (by simp)) (λb o _ e=>u.there b o e (by simp)) u.tups u.jx u.jz (λm' hm=>by
  obtain⟨o',es',ep',ho',r'⟩:=hm
  rw[ho]at ho'; cases ho'
  exact⟨_,es',ep',hL,r'⟩) hok I.bare
theorem Inv.call{g':Array GenState}{t':Nat}{d':Drawn}{ch:List Addr}(I:Inv X pins σ H s)(u:Un (frs X.stack) ch H H' s.heap h')(hok:cA X.prog X.w H' h')(hg:AllBare g')
  (hch:∀b∈ch,(b∈X.ex\/X.s₀.heap.objs.size<=b)/\b≠X.env.locals/\(∀x c,X.env.cells.lookup x=some c->c≠b)/\∀p∈X.pn++pins,p.1≠b) :
  Inv X pins σ H' {s with heap:=h',gens:=g',drawn:=d',toks:=t' }:=by
 obtain⟨m,⟨o,es,ep,ho,r⟩,_⟩:=id I.loc
 obtain⟨sl,hL⟩:=u.any ho I.free λz=>(hch _ z).2.1 rfl
 exact I.step (ch:=ch) hch (λb o hL hb hc e n=>u.keep b o e n (λz=>(List.mem_cons.mp (I.tQ b z)).elim hL hb) hc) (λb o _ _ hc e n=>u.any e n hc) (λb o hc e n=>u.free b o e n hc) (λb o hc e=>u.there b o e hc) u.tups u.jx u.jz (λm' hm=>by
  obtain⟨o',es',ep',ho',r'⟩:=hm
  rw[ho]at ho'; cases ho'
  exact⟨_,es',ep',hL,r'⟩) hok hg
theorem Inv.turned{t':Nat}{it:Addr}(I:Inv X pins σ H s)(k:∀b o,b≠it->s.heap.get? b=some o->h'.get? b=some o)(hn:H it=none)(hL:it≠X.env.locals)
  (h1:it∈X.ex\/X.s₀.heap.objs.size<=it) (h2:∀x c,X.env.cells.lookup x=some c->c≠it) (h3:∀p∈X.pn++pins,p.1≠it):Inv X pins σ H {s with heap:=h',toks:=t' }:=by
 have K6:∀b u,H b=some u->b≠it:=λb u e z=>by rw[z,hn]at e; cases e
 refine I.step (g':=s.gens) (d':=s.drawn) (ch:=[it]) (λb hb=>?_) (λb o _ _ hc e _=>k b o (λz=>hc (by simp[z])) e) (λb o _ _ hc e _=>⟨o.slots,k b o (λz=>hc (by simp[z])) e⟩) (λ_ _ _ _ n=>n)
  (λb o hc e=>⟨o,k b o (λz=>hc (by simp[z])) e⟩) (λ_ _ e=>e) (λ_ _ _ e=>e) (λb ps e=>⟨#[],by rw[e]; simp⟩) (λm hm=>?_) (λb u e=>?_) I.bare
 .have e:b=it:=by simpa using hb
  subst e
  exact⟨h1,hL,h2,h3⟩
 .obtain⟨o,es,ep,ho,r⟩:=hm
  exact⟨o,es,ep,k _ o (Ne.symm hL) ho,r⟩
 .refine(I.hok b u e).stay (λc v hc q=>k c v ?_ q) (λ_ q=>q) λ_ _ q=>q
  rcases hc with z|z
  .rw[z]; exact K6 b u e
  .exact K6 c _ z
theorem Inv.tok(I:Inv X pins σ H s)(t:Nat):Inv X pins σ H {s with toks:=t }:=I.un (h':=s.heap) (t':=t) Un.refl I.hok
theorem Inv.kept(I:Inv X pins σ H s)(k:∀b u,s.heap.get? b=some u->h'.get? b=some u):Inv X pins σ H {s with heap:=h',toks:=t' }:=I.un (Un.kept k) (I.hok.kept k)
theorem Inv.laid{a:Addr}{o:HO}{t':Nat}(I:Inv X pins σ H s)(k:∀b u,s.heap.get? b=some u->h'.get? b=some u)(hp:s.heap.objs.size<=a)(new:fV X.prog X.w (upd H a o) h' a o) :
  Inv X pins σ (upd H a o) {s with heap:=h',toks:=t' }:=I.un (Un.laid k hp (I.hok.fresh hp)) (I.hok.laid k hp new)
theorem Inv.write(I:Inv X pins σ H s)(mu:wu (H x))(he:e=x\/H e=some (.own x))(k:∀b u,b≠e->s.heap.get? b=some u->h'.get? b=some u)(heo:∃u,h'.get? e=some u)
  (new:fV X.prog X.w (upd H x o) h' x o):Inv X pins σ (upd H x o) {s with heap:=h',toks:=t' }:=I.un (Un.write mu he k heo) (I.hok.write mu he k heo new)
theorem Inv.wJ(I:Inv X pins σ H s)(h:∀p∈mV,s.heap.get? p.1=some p.2/\H p.1=none/\p.1≠X.env.locals/\p.1∉X.fs/\∀v,p.2.data ≠ .cell v):Inv X mV σ H s :=
 ⟨I.ok,I.os,I.bare,I.base,I.loc,I.cell,I.free,I.jA,λp hp=>(List.mem_append.mp hp).elim (λz=>I.pin p (List.mem_append_left _ z)) (h p),I.hok,I.len⟩
theorem K7{N:List Str}(hN:N.Nodup){i j:Nat}{x:Str}(a:N[i]?=some x)(b:N[j]?=some x):i=j:=by
 obtain⟨h1,e1⟩:=List.getElem?_eq_some_iff.mp a
 obtain⟨h2,e2⟩:=List.getElem?_eq_some_iff.mp b
 exact(List.getElem_inj hN).mp (e1.trans e2.symm)
theorem K8{M:Model}{A:Around}{E:Value->Shared->Prop}{i:Nat}{x:Str}{v:V}{u:Value}{Q:Unit->Shared->Prop}(I:Inv X pins σ H s)(hN:X.N.Nodup)(hi:X.N[i]?=some x)(hx:Loc X.env.scope x)(r:RelV v u)
  (h:∀s',Inv X pins (σ.set i (some v)) H s'->(∃a,Heap.SameBut a s.heap s'.heap/\(a=X.env.locals\/X.env.cells.lookup x=some a))->Q () s') (hf:X.fn x=true\/X.env.scope.names.lookup x=some .local:=by first|exact .inl rfl|exact .inr rfl|assumption):wpAny M A (storeName X.env x u) Q E s:=by
 obtain⟨m,hn,hl⟩:=id I.loc
 have hcls:(X.env.scope.kind == .class || (X.env.scope.kind == .module&&X.env.locals != X.env.globals))=false:=by rw[I.ok.kind]; rfl
 have K9:i < σ.length:=by rw[I.len]; exact(List.getElem?_eq_some_iff.mp hi).1
 have oM:=I.oM
 have tracked:∀{a:Addr} {h':Heap},(∃o,s.heap.get? a=some o/\H a=none)->Heap.SameBut a s.heap h'->cA X.prog X.w H h':=λ{a h'} ha hs b ob e=>by
  obtain⟨_,_,hfree⟩:=ha
  refine(I.hok b ob e).stay (λc w' hc q=>(hs.2 c ?_).trans q) (λ_ q=>q) λ_ _ q=>q
  rintro rfl
  rcases hc with rfl|hc
  .rw[hfree]at e; cases e
  .rw[hfree]at hc; cases hc
 rcases hx with hk|hk
 .refine wpAny_storeName_local hk hn (λh' hn' hs=>?_) hcls
  obtain⟨oL,_,_,hoL,_⟩:=id hn
  refine h _ ⟨I.ok,I.os,I.bare,⟨λb o e n hb hx=>?_,λb o e n hb hx=>?_,I.base.free,λb o e hx=>?_,I.base.tups,I.base.jx,I.base.jz⟩,⟨_,hn',λj y v' e1 e2 e3=>?_⟩,λy c e=>?_,I.free,I.jA,λp hp=>?_,tracked ⟨oL,hoL,I.free⟩ hs,by simpa using I.len⟩ ⟨_,hs,.inl rfl⟩
  .exact(hs.2 b (Nat.ne_of_lt (Nat.lt_of_lt_of_le (Heap.lt_size e) I.ok.above))).trans (I.base.keep b o e n hb hx)
  .obtain⟨sl,e1⟩:=I.base.slot b o e n hb hx
   exact⟨sl,(hs.2 b (Nat.ne_of_lt (Nat.lt_of_lt_of_le (Heap.lt_size e) I.ok.above))).trans e1⟩
  .obtain⟨o',e1⟩:=I.base.there b o e hx
   exact⟨o',(hs.2 b (Nat.ne_of_lt (Nat.lt_of_lt_of_le (Heap.lt_size e) I.ok.above))).trans e1⟩
  .by_cases hj:j=i
   .subst hj
    rw[hi]at e1; cases e1
    rw[List.getElem?_set_self K9]at e2
    cases e2
    exact⟨u,r,.inl ⟨hk,by simp⟩⟩
   .rw[List.getElem?_set_ne (Ne.symm hj)]at e2
    obtain⟨u',r',q⟩:=hl j y v' e1 e2 e3
    refine⟨u',r',?_⟩
    rcases q with⟨k,e⟩|⟨k,c,e,z⟩
    .refine .inl ⟨k,?_⟩
     have:y≠x:=λe=>hj (K7 hN e1 (e▸hi))
     simp[this,e]
    .exact .inr ⟨k,c,e,z.sameBut hs (oM y c e)⟩
  .obtain⟨w',z⟩:=I.cell y c e
   exact⟨w',z.sameBut hs (oM y c e)⟩
  .obtain⟨e,n,ne,nf,d⟩:=I.pin p hp
   exact⟨(hs.2 p.1 ne).trans e,n,ne,nf,d⟩
 .have hfn:X.fn x=true:=by
   rcases hf with z|z
   .exact z
   .rw[z]at hk; cases hk
  obtain⟨c,hc⟩:=I.ok.has x (.inl hk)
  obtain⟨w',z⟩:=I.cell x c hc
  refine wpAny_storeName_cell I.ok.kind hk hc z (λh' hc' hs=>?_)
  obtain⟨oc,hoc,aas⟩:=id z
  refine h {s with heap:=h' } ⟨I.ok,I.os,I.bare,⟨λb o e n hb hx=>?_,λb o e n hb hx=>?_,I.base.free,λb o e hx=>?_,I.base.tups,I.base.jx,I.base.jz⟩,⟨m,hn.sameBut hs (Ne.symm (oM x c hc)),λj y v' e1 e2 e3=>?_⟩,λy c' e=>?_,I.free,I.jA,λp hp=>?_,tracked ⟨oc,hoc,I.jA x c hc⟩ hs,by simpa using I.len⟩ ⟨c,hs,.inr hc⟩
  .exact(hs.2 b (Nat.ne_of_lt (Nat.lt_of_lt_of_le (Heap.lt_size e) (I.ok.cab x c hfn hc)))).trans (I.base.keep b o e n hb hx)
  .obtain⟨sl,e1⟩:=I.base.slot b o e n hb hx
   exact⟨sl,(hs.2 b (Nat.ne_of_lt (Nat.lt_of_lt_of_le (Heap.lt_size e) (I.ok.cab x c hfn hc)))).trans e1⟩
  .obtain⟨o',e1⟩:=I.base.there b o e hx
   exact⟨o',(hs.2 b (Nat.ne_of_lt (Nat.lt_of_lt_of_le (Heap.lt_size e) (I.ok.cab x c hfn hc)))).trans e1⟩
  .by_cases hj:j=i
   .subst hj
    rw[hi]at e1; cases e1
    rw[List.getElem?_set_self K9]at e2
    cases e2
    exact⟨u,r,.inr ⟨.inl hk,c,hc,hc'⟩⟩
   .rw[List.getElem?_set_ne (Ne.symm hj)]at e2
    obtain⟨u',r',q⟩:=hl j y v' e1 e2 e3
    refine⟨u',r',?_⟩
    rcases q with q|⟨k,c',e,z'⟩
    .exact .inl q
    .refine .inr ⟨k,c',e,z'.sameBut hs ?_⟩
     rintro rfl
     exact hj (K7 hN e1 (I.ok.inj _ _ _ e hc▸hi))
  .by_cases hcc:c'=c
   .subst hcc; exact⟨_,hc'⟩
   .obtain⟨w2,z2⟩:=I.cell y c' e
    exact⟨w2,z2.sameBut hs hcc⟩
  .obtain⟨e,n,ne,nf,d⟩:=I.pin p hp
   refine⟨(hs.2 p.1 ?_).trans e,n,ne,nf,d⟩
   intro q
   rw[q,hoc]at e
   have q':oc=p.2:=Option.some.inj e
   exact d w' (by rw[<-q']; exact aas)
theorem wK(I:Inv X pins σ H s)(hN:X.N.Nodup)(hi:X.N[i]?=some x)(hx:Loc X.env.scope x)(r:RelV v u)
  (h:∀s',Inv X pins (σ.set i (some v)) H s'->Q () s') (hf:X.fn x=true\/X.env.scope.names.lookup x=some .local:=by first|exact .inl rfl|exact .inr rfl|assumption):wpAny M A (storeName X.env x u) Q E s :=
 K8 I hN hi hx r (λs' I' _=>h s' I') hf
theorem Inv.call'(I:Inv X pins σ H s)(ho:s'.os=s.os)(u:Un (frs X.stack) ch H H' s.heap s'.heap)(hok:cA X.prog X.w H' s'.heap)(hg:AllBare s'.gens)
  (hch:∀b∈ch,(b∈X.ex\/X.s₀.heap.objs.size<=b)/\b≠X.env.locals/\(∀x c,X.env.cells.lookup x=some c->c≠b)/\∀p∈X.pn++pins,p.1≠b):Inv X pins σ H' s':=by
 obtain⟨h',g',d',t',o'⟩:=s'
 have e:o'=s.os:=ho
 subst e
 exact I.call (g':=g') (t':=t') (d':=d') u hok hg hch
end
noncomputable abbrev XK:=Value->Option Addr->Hp->Prop
noncomputable abbrev St:=List (Option V)
noncomputable abbrev VK:=V->Hp->Prop
noncomputable abbrev TE:=St->Hp->VK->Prop
noncomputable abbrev TT:=St->Hp->(Bool->Hp->Prop)->Prop
noncomputable abbrev TA:=St->Hp->(List V->Hp->Prop)->Prop
structure Ends where
 nx:St->Hp->Prop
 rt:VK
 bk:St->Hp->Prop:=λ_ _=>False
 ct:St->Hp->Prop:=λ_ _=>False
noncomputable abbrev TS:=Ends->St->Hp->Prop
noncomputable def EP(X:Cx)(pins:List (Addr × Obj))(σ : St)(Q:VK)(u:Value)(s':Shared):Prop:=∃v H',Inv X pins σ H' s'/\RelV v u/\Q v H'
noncomputable def TP(X:Cx)(pins:List (Addr × Obj))(σ : St)(Q:Bool->Hp->Prop)(b:Bool)(s':Shared):Prop:=∃H',Inv X pins σ H' s'/\Q b H'
noncomputable def AP(X:Cx)(pins:List (Addr × Obj))(σ : St)(Q:List V->Hp->Prop)(us:List Value)(s':Shared):Prop:=∃vs H',Inv X pins σ H' s'/\Vals vs us/\Q vs H'
noncomputable def SP(X:Cx)(pins:List (Addr × Obj))(D:Ends)(f:Flow)(s':Shared):Prop :=
 match f with
 |.next=>∃σ' H',Inv X pins σ' H' s'/\D.nx σ' H'
 |.brk=>∃σ' H',Inv X pins σ' H' s'/\D.bk σ' H'
 |.cont=>∃σ' H',Inv X pins σ' H' s'/\D.ct σ' H'
 |.ret u=>∃v σ' H',Inv X pins σ' H' s'/\RelV v u/\D.rt v H'
structure PE(X:Cx)(e:Expr)(t:TE):Prop where
 run:∀(pins:List (Addr × Obj)) (s:Shared) (σ : St) (H:Hp) (Q:VK),Inv X pins σ H s->t σ H Q->wpAny (model X.prog X.w) X.A (eval e X.env) (EP X pins σ Q) X.xe s
noncomputable instance {X:Cx}{e:Expr}{t:TE}:CoeFun (PE X e t) λ_=>∀(pins:List (Addr × Obj)) (s:Shared) (σ : St) (H:Hp) (Q:VK),Inv X pins σ H s->t σ H Q->wpAny (model X.prog X.w) X.A (eval e X.env) (EP X pins σ Q) X.xe s:=⟨PE.run⟩
structure PT(X:Cx)(e:Expr)(t:TT):Prop where
 run:∀(pins:List (Addr × Obj)) (s:Shared) (σ : St) (H:Hp) (Q:Bool->Hp->Prop),Inv X pins σ H s->t σ H Q->wpAny (model X.prog X.w) X.A (isTrue e X.env (eval e X.env)) (TP X pins σ Q) X.xe s
noncomputable instance {X:Cx}{e:Expr}{t:TT}:CoeFun (PT X e t) λ_=>∀(pins:List (Addr × Obj)) (s:Shared) (σ : St) (H:Hp) (Q:Bool->Hp->Prop),Inv X pins σ H s->t σ H Q->wpAny (model X.prog X.w) X.A (isTrue e X.env (eval e X.env)) (TP X pins σ Q) X.xe s:=⟨PT.run⟩
structure PW(X:Cx)(e:Expr)(t:TT):Prop where
 run:∀(whole:Sem Value) (pins:List (Addr × Obj)) (s:Shared) (σ : St) (H:Hp) (Q:Bool->Hp->Prop),Inv X pins σ H s->t σ H Q->wpAny (model X.prog X.w) X.A (isTrue e X.env whole) (TP X pins σ Q) X.xe s
noncomputable instance {X:Cx}{e:Expr}{t:TT}:CoeFun (PW X e t) λ_=>∀(whole:Sem Value) (pins:List (Addr × Obj)) (s:Shared) (σ : St) (H:Hp) (Q:Bool->Hp->Prop),Inv X pins σ H s->t σ H Q->wpAny (model X.prog X.w) X.A (isTrue e X.env whole) (TP X pins σ Q) X.xe s:=⟨PW.run⟩
theorem PW.pt(h:PW X e t):PT X e t:=⟨h.run _⟩
structure PA(X:Cx)(es:List Expr)(t:TA):Prop where
 run:∀(pos:Pos) (pins:List (Addr × Obj)) (s:Shared) (σ : St) (H:Hp) (Q:List V->Hp->Prop),Inv X pins σ H s->t σ H Q->wpAny (model X.prog X.w) X.A (spliced (backTo pos (starEach es X.env))) (AP X pins σ Q) X.xe s
noncomputable instance {X:Cx}{es:List Expr}{t:TA}:CoeFun (PA X es t) λ_=>∀(pos:Pos) (pins:List (Addr × Obj)) (s:Shared) (σ : St) (H:Hp) (Q:List V->Hp->Prop),Inv X pins σ H s->t σ H Q->wpAny (model X.prog X.w) X.A (spliced (backTo pos (starEach es X.env))) (AP X pins σ Q) X.xe s:=⟨PA.run⟩
structure PS(X:Cx)(st:Stmt)(t:TS):Prop where
 run:∀(pins:List (Addr × Obj)) (s:Shared) (σ : St) (H:Hp) (D:Ends),Inv X pins σ H s->t D σ H->wpAny (model X.prog X.w) X.A (exec st X.env) (SP X pins D) X.xe s
noncomputable instance {X:Cx}{st:Stmt}{t:TS}:CoeFun (PS X st t) λ_=>∀(pins:List (Addr × Obj)) (s:Shared) (σ : St) (H:Hp) (D:Ends),Inv X pins σ H s->t D σ H->wpAny (model X.prog X.w) X.A (exec st X.env) (SP X pins D) X.xe s:=⟨PS.run⟩
structure eV(X:Cx)(st:List Stmt)(t:TS):Prop where
 run:∀(pins:List (Addr × Obj)) (s:Shared) (σ : St) (H:Hp) (D:Ends),Inv X pins σ H s->t D σ H->wpAny (model X.prog X.w) X.A (execs st X.env) (SP X pins D) X.xe s
noncomputable instance {X:Cx}{st:List Stmt}{t:TS}:CoeFun (eV X st t) λ_=>∀(pins:List (Addr × Obj)) (s:Shared) (σ : St) (H:Hp) (D:Ends),Inv X pins σ H s->t D σ H->wpAny (model X.prog X.w) X.A (execs st X.env) (SP X pins D) X.xe s:=⟨eV.run⟩
theorem aD{α : Type}{t:Sem α}{Q Q' : α -> Shared->Prop}{M:Model}{A:Around}{E:Value->Shared->Prop}{s:Shared}(h:wpAny M A t Q E s)(hQ:∀a s,Q a s->Q' a s):wpAny M A t Q' E s:=wpAny_mono h hQ λ_ _ x=>x
section
variable {X:Cx}
noncomputable def tU(i:Nat):TE:=λσ H Q=>∃v,σ[i]?=some (some v)/\Q v H
noncomputable def tC(v:V):TE:=λ_ H Q=>Q v H
theorem La(hN:X.N[i]?=some x)(hv:wC X.env.scope x)(hd:(x == ("__debug__" : Str))=false:=by decide) (hcd:(x == ("__classdict__" : Str))=false:=by decide):PE X (.Name x pos) (tU i):=by
 refine⟨λpins s σ H Q I h=>?_⟩
 obtain⟨v,e,h⟩:=h
 obtain⟨m,hn,hl⟩:=I.loc
 obtain⟨u,r,l⟩:=hl i x v hN e hv
 have fin:EP X pins σ Q u s:=⟨v,H,I,r,h⟩
 rcases l with⟨hk,hm⟩|⟨hk,c,hc,hcell⟩
 .exact wpAny_Name (wpAny_loadName_local I.ok.kind hk hn hm fin) hd
 .rcases hk with hk|hk
  .exact wpAny_Name (wpAny_loadName_cell I.ok.kind hk hc hcell fin) hd
  .exact wpAny_Name (wpAny_loadName_free I.ok.kind hk hc hcell fin hcd) hd
theorem Ck{i j pos}:PE X (.Constant (.int i) j pos) (tC (.int i)):=⟨λ_ _ _ H _ I h=>wpAny_Constant_int ⟨.int i,H,I.tok _,⟨_,rfl⟩,h⟩⟩
theorem Lb{b j pos}:PE X (.Constant (.bool b) j pos) (tC (.bl b)):=⟨λ_ _ _ H _ I h=>Constant_bool ⟨.bl b,H,I,rfl,h⟩⟩
theorem Ld{j pos}:PE X (.Constant .none j pos) (tC .non):=⟨λ_ _ _ H _ I h=>Constant_none ⟨.non,H,I,rfl,h⟩⟩
theorem Le{x j pos}:PE X (.Constant (.str x) j pos) (tC (.str x)):=⟨λ_ _ _ H _ I h=>Calls.Constant_str ⟨.str x,H,I.tok _,⟨_,rfl⟩,h⟩⟩
noncomputable def Gl(X:Cx)(x:Str):Prop:=X.env.kindOf x=some .globalImplicit
theorem Cm(I:Inv X pins σ H s)(hg:Gl X x)(hm:X.mg x=some u)(h:Q u s)
  (hd:(x == ("__debug__" : Str))=false:=by decide):wpAny (model X.prog X.w) X.A (eval (.Name x pos) X.env) Q E s :=
 Calls.Name_function_global I.ok.kind hg (Calls.loadGlobal_global (by rw[I.ok.glob]; exact I.mod.glob.keeps I.bk) hm h) hd
theorem jB(I:Inv X pins σ H s)(hg:Gl X x)(hm:X.mg x=none)(hv:bootBuiltins x=some u)(h:Q u s)
  (hn:x ≠ "__name__" := by decide) (hd:(x == ("__debug__" : Str))=false:=by decide):wpAny (model X.prog X.w) X.A (eval (.Name x pos) X.env) Q E s:=by
 obtain⟨mb,h1,h2⟩:=I.mod.blt
 exact Calls.Name_function_global I.ok.kind hg (Calls.loadGlobal_builtin (by rw[I.ok.glob]; exact I.mod.glob.keeps I.bk) hm (by rw[I.ok.blt]; exact h1.keeps I.bk) ((h2 x hn).trans hv) h) hd
theorem aat(hg:Gl X x)(hm:X.mg x=some u)(r:RelV v u)(hd:(x == ("__debug__" : Str))=false:=by decide):PE X (.Name x pos) (tC v) :=
 ⟨λ_ _ _ H _ I h=>Cm I hg hm ⟨v,H,I,r,h⟩ hd⟩
theorem aau(hg:Gl X x)(hm:X.mg x=none)(hv:bootBuiltins x=some u)(r:RelV v u)(hn:x ≠ "__name__" := by decide) (hd:(x == ("__debug__" : Str))=false:=by decide):PE X (.Name x pos) (tC v) :=
 ⟨λ_ _ _ H _ I h=>jB I hg hm hv ⟨v,H,I,r,h⟩ hn hd⟩
variable {a b:Expr}{ta tb:TE}{pos:Pos}
variable {tA wM:TT}{rest:List Expr}
noncomputable def Lf(t u:TT):TT:=λσ H Q=>t σ H λc H1=>if c=true then u σ H1 Q else Q false H1
noncomputable def Lg(t u:TT):TT:=λσ H Q=>t σ H λc H1=>if c=true then Q true H1 else u σ H1 Q
noncomputable def Lh(t:TT):TT:=λσ H Q=>t σ H λc H1=>Q (!c) H1
theorem aav(ha:PT X a tA):PW X (.BoolOp .And [a] pos) tA:=by
 refine⟨λwh pins s σ H Q I h=>?_⟩
 refine isTrue_and (aD (ha pins s σ H Q I h) λc s1 e=>?_)
 cases c with
 |true=>exact isTrue_and_nil e
 |false=>exact e
theorem aaw(ha:PT X a tA):PW X (.BoolOp .Or [a] pos) tA:=by
 refine⟨λwh pins s σ H Q I h=>?_⟩
 refine isTrue_or (aD (ha pins s σ H Q I h) λc s1 e=>?_)
 cases c with
 |false=>exact isTrue_or_nil e
 |true=>exact e
theorem aax(ha:PT X a tA)(hb:PW X (.BoolOp .And (b::rest) pos) wM):PW X (.BoolOp .And (a::b::rest) pos) (Lf tA wM):=by
 refine⟨λwh pins s σ H Q I h=>?_⟩
 refine isTrue_and (aD (ha pins s σ H _ I h) λc s1 ⟨H1,I1,q1⟩=>?_)
 cases c with
 |true=>exact hb wh pins s1 σ H1 Q I1 q1
 |false=>exact⟨H1,I1,q1⟩
theorem aay(ha:PT X a tA)(hb:PW X (.BoolOp .Or (b::rest) pos) wM):PW X (.BoolOp .Or (a::b::rest) pos) (Lg tA wM):=by
 refine⟨λwh pins s σ H Q I h=>?_⟩
 refine isTrue_or (aD (ha pins s σ H _ I h) λc s1 ⟨H1,I1,q1⟩=>?_)
 cases c with
 |true=>exact⟨H1,I1,q1⟩
 |false=>exact hb wh pins s1 σ H1 Q I1 q1
theorem aaz(ha:PT X a tA):PT X (.UnaryOp .Not a pos) (Lh tA):=by
 refine⟨λpins s σ H Q I h=>?_⟩
 exact isTrue_not (ha pins s σ H (λc H1=>Q (!c) H1) I h)
noncomputable def Li(ta tb:TE):TE:=λσ H Q=>ta σ H λx H1=>∃c,x=.bl c/\if c=true then tb σ H1 Q else Q (.bl false) H1
noncomputable def Lj(ta tb:TE):TE:=λσ H Q=>ta σ H λx H1=>∃c,x=.bl c/\if c=true then Q (.bl true) H1 else tb σ H1 Q
noncomputable def Ln(ta:TE):TE:=λσ H Q=>ta σ H λx H1=>∃c,x=.bl c/\Q (.bl (!c)) H1
theorem aaA{op}{t:TE}(h:PE X a t):PE X (.BoolOp op [a] pos) t:=⟨λpins s σ H Q I hw=>BoolOp_one (h pins s σ H Q I hw)⟩
theorem aaB(ha:PE X a ta)(hb:PE X (.BoolOp .And (b::rest) pos) tb):PE X (.BoolOp .And (a::b::rest) pos) (Li ta tb):=by
 refine⟨λpins s σ H Q I h=>?_⟩
 refine BoolOp_and (aD (ha pins s σ H _ I h) λv s1 ⟨x,H1,I1,r1,q1⟩=>?_)
 obtain⟨c,rfl,q1⟩:=q1
 cases r1
 refine wpAny_truthy_bool ?_
 cases c with
 |true=>exact hb pins s1 σ H1 Q I1 q1
 |false=>exact⟨.bl false,H1,I1,rfl,q1⟩
theorem aaC(ha:PE X a ta)(hb:PE X (.BoolOp .Or (b::rest) pos) tb):PE X (.BoolOp .Or (a::b::rest) pos) (Lj ta tb):=by
 refine⟨λpins s σ H Q I h=>?_⟩
 refine BoolOp_or (aD (ha pins s σ H _ I h) λv s1 ⟨x,H1,I1,r1,q1⟩=>?_)
 obtain⟨c,rfl,q1⟩:=q1
 cases r1
 refine wpAny_truthy_bool ?_
 cases c with
 |false=>exact hb pins s1 σ H1 Q I1 q1
 |true=>exact⟨.bl true,H1,I1,rfl,q1⟩
theorem aaD(ha:PE X a ta):PE X (.UnaryOp .Not a pos) (Ln ta):=by
 refine⟨λpins s σ H Q I h=>?_⟩
 refine UnaryOp_ (aD (ha pins s σ H _ I h) λv s1 ⟨x,H1,I1,r1,q1⟩=>?_)
 obtain⟨c,rfl,q1⟩:=q1
 cases r1
 exact not_of (wpAny_truthy_bool ⟨.bl (!c),H1,I1,rfl,q1⟩)
noncomputable def Lp(t:TT)(ta tb:TE):TE:=λσ H Q=>t σ H λc H1=>if c=true then ta σ H1 Q else tb σ H1 Q
theorem aaE{c:Expr}(hc:PT X c tA)(ha:PE X a ta)(hb:PE X b tb):PE X (.IfExp c a b pos) (Lp tA ta tb):=by
 refine⟨λpins s σ H Q I h=>?_⟩
 refine wpAny_IfExp (aD (hc pins s σ H _ I h) λd s1 ⟨H1,I1,q1⟩=>?_)
 cases d with
 |true=>exact ha pins s1 σ H1 Q I1 q1
 |false=>exact hb pins s1 σ H1 Q I1 q1
end
noncomputable def aH(K:PySem.W.Frag)(H:Hp)(a:Addr)(xs:List V):Prop :=
 Rd H a (.lst xs) \/
  ∃(o:Obj) (its:Array Value) (n:Nat),K.lookup a=some o/\o.cls=.type "list" /\ o.dict=none/\o.data=.seq its n/\its.size<=sizeLine/\Vals xs its.toList
noncomputable def bw(K:PySem.W.Frag)(H:Hp)(a:Addr)(xs:List V):Prop :=
 Rd H a (.tup xs) \/
  ∃(o:Obj) (its:Array Value) (n:Nat),K.lookup a=some o/\o.cls=.type "tuple" /\ o.data=.seq its n/\its.size<=sizeLine/\Vals xs its.toList
noncomputable def aaF:Value->Option V
 |.none=>some .non
 |.bool b=>some (.bl b)
 |.int i _=>some (.int i)
 |.str x _=>some (.str x)
 |.bytes b _=>some (.tM b)
 |.float b _=>some (.flt b)
 |.ref a=>some (.ref a)
 |.type n=>some (.ty n)
 |_=>none
theorem RelV.abs(r:RelV x u):aaF u=some x:=by
 cases x with
 |non=>cases r; rfl
 |bl _=>cases r; rfl
 |int _=>obtain⟨t,rfl⟩:=r; rfl
 |str _=>obtain⟨t,rfl⟩:=r; rfl
 |tM _=>obtain⟨t,rfl⟩:=r; rfl
 |flt _=>obtain⟨t,rfl⟩:=r; rfl
 |ref _=>cases r; rfl
 |ty _=>cases r; rfl
theorem RelV.inj{x y:V}{u:Value}(r:RelV x u)(q:RelV y u):x=y:=Option.some.inj (r.abs.symm.trans q.abs)
theorem Vals.inj:∀{xs ys:List V} {us:List Value},Vals xs us->Vals ys us->xs=ys
 |_,_,_,.nil,.nil=>rfl
 |_,_,_,.cons r t,.cons r' t'=>by rw[r.inj r',Vals.inj t t']
section
variable {X:Cx}{pins:List (Addr × Obj)}{σ : St}{H:Hp}{s:Shared}{a:Addr}{xs ys:List V}
theorem aH.of{K:PySem.W.Frag}(h:H a=some (.lst xs)):aH K H a xs:=.inl (.inl h)
theorem bw.of{K:PySem.W.Frag}(h:H a=some (.tup xs)):bw K H a xs:=.inl (.inl h)
theorem Inv.list(I:Inv X pins σ H s)(h:aH X.K H a xs):∃its:List Value,Vals xs its/\PlainL s.heap a its.toArray/\xs.length<=sizeLine:=by
 rcases h with h|⟨o,its,n,hk,hc,hd,hs,hz,r⟩
 .obtain⟨z,its,n,r,e⟩:=h.ok I.hok
  exact⟨its,r,⟨_,n,e,rfl,rfl,rfl⟩,z⟩
 .refine⟨its.toList,r,⟨o,n,I.gR a o hk,hc,hd,by simpa using hs⟩,?_⟩
  have e:=r.length
  simp only[Array.length_toList]at e
  lia
theorem Inv.tuple(I:Inv X pins σ H s)(h:bw X.K H a xs):∃its:List Value,Vals xs its/\IsTup s.heap a its.toArray/\xs.length<=sizeLine:=by
 rcases h with h|⟨o,its,n,hk,hc,hs,hz,r⟩
 .obtain⟨z,its,r,p⟩:=h.ok I.hok
  exact⟨its,r,p,z⟩
 .refine⟨its.toList,r,⟨o,I.gR a o hk,hc,n,by simpa using hs⟩,?_⟩
  have e:=r.length
  simp only[Array.length_toList]at e
  lia
theorem Inv.mW(I:Inv X pins σ H s)(h:aH X.K H a xs)(h':aH X.K H a ys):xs=ys:=by
 obtain⟨its,r,⟨o,n,e,_,_,d⟩,_⟩:=I.list h
 obtain⟨its',r',⟨o',n',e',_,_,d'⟩,_⟩:=I.list h'
 rw[e]at e'; cases e'
 rw[d]at d'
 injection d' with d1 _
 have:its=its':=by simpa using congrArg Array.toList d1
 subst this
 exact r.inj r'
theorem Inv.Lr(I:Inv X pins σ H s)(h:bw X.K H a xs)(h':bw X.K H a ys):xs=ys:=by
 obtain⟨its,r,⟨o,e,_,n,d⟩,_⟩:=I.tuple h
 obtain⟨its',r',⟨o',e',_,n',d'⟩,_⟩:=I.tuple h'
 rw[e]at e'; cases e'
 rw[d]at d'
 injection d' with d1 _
 have:its=its':=by simpa using congrArg Array.toList d1
 subst this
 exact r.inj r'
end
noncomputable abbrev Cx.wish(X:Cx)(E:Value->Shared->Prop):Cx:={X with xe:=E }
noncomputable abbrev Cx.tV(X:Cx):Cx:=X.wish λ_ _=>False
theorem Cx.Ok.wish{X:Cx}(ok:X.Ok)(E:Value->Shared->Prop):(X.wish E).Ok :=
 ⟨ok.mod,ok.kind,ok.glob,ok.blt,ok.above,ok.inj,ok.has,ok.cab,ok.hd,ok.frames,ok.stk,ok.K4,ok.bs,ok.mU,ok.tO,ok.wD,ok.jd,ok.oK⟩
theorem Cx.Ok.mX{X:Cx}{E:Value->Shared->Prop}(ok:(X.wish E).Ok):X.Ok :=
 ⟨ok.mod,ok.kind,ok.glob,ok.blt,ok.above,ok.inj,ok.has,ok.cab,ok.hd,ok.frames,ok.stk,ok.K4,ok.bs,ok.mU,ok.tO,ok.wD,ok.jd,ok.oK⟩
section
variable {X:Cx}{pins:List (Addr × Obj)}{σ : St}{H:Hp}{s:Shared}{E:Value->Shared->Prop}
theorem Inv.wish(I:Inv X pins σ H s)(E:Value->Shared->Prop):Inv (X.wish E) pins σ H s:=⟨I.ok.wish E,I.os,I.bare,I.base,I.loc,I.cell,I.free,I.jA,I.pin,I.hok,I.len⟩
theorem Inv.mX(I:Inv (X.wish E) pins σ H s):Inv X pins σ H s:=⟨I.ok.mX,I.os,I.bare,I.base,I.loc,I.cell,I.free,I.jA,I.pin,I.hok,I.len⟩
theorem SP.mX{D:Ends}{f:Flow}{s':Shared}(h:SP (X.wish E) pins D f s'):SP X pins D f s':=by
 cases f with
 |next=>obtain⟨σ',H',I,q⟩:=h; exact⟨σ',H',I.mX,q⟩
 |brk=>obtain⟨σ',H',I,q⟩:=h; exact⟨σ',H',I.mX,q⟩
 |cont=>obtain⟨σ',H',I,q⟩:=h; exact⟨σ',H',I.mX,q⟩
 |ret u=>obtain⟨v,σ',H',I,r,q⟩:=h; exact⟨v,σ',H',I.mX,r,q⟩
end
section
variable {X:Cx}{st:Stmt}{rest:List Stmt}{t u:TS}{e:Expr}{te:TE}{pos:Pos}
noncomputable def aaG:TS:=λD σ H=>D.nx σ H
noncomputable def Ls(t u:TS):TS:=λD σ H=>t {D with nx:=u D } σ H
theorem aaH:eV X [] aaG:=⟨λ_ _ σ H _ I h=>wpAny_execs_nil ⟨σ,H,I,h⟩⟩
theorem aaI(h1:PS X st t)(h2:eV X rest u):eV X (st::rest) (Ls t u):=by
 refine⟨λpins s σ H D I h=>?_⟩
 refine wpAny_execs_cons (aD (h1 pins s σ H {D with nx:=u D } I h) λf s1 q=>?_)
 cases f with
 |next =>
  obtain⟨σ',H',I',q⟩:=q
  exact h2 pins s1 σ' H' D I' q
 |ret v=>exact q
 |brk=>exact q
 |cont=>exact q
theorem aaJ(h1:PS X st t):eV X [st] t:=by
 refine⟨λpins s σ H D I h=>?_⟩
 refine wpAny_execs_cons (aD (h1 pins s σ H D I h) λf s1 q=>?_)
 cases f with
 |next=>exact wpAny_execs_nil q
 |ret v=>exact q
 |brk=>exact q
 |cont=>exact q
theorem Inv.quiet{pins:List (Addr × Obj)}{σ : St}{H:Hp}{s:Shared}(I:Inv X pins σ H s):interactive X.env=false:=by simp[interactive,I.ok.kind]
noncomputable def aaK(te:TE):TS:=λD σ H=>te σ H λ_ H1=>D.nx σ H1
theorem aaL(he:PE X e te)(hs:swapsWith e none pos.line X.env=pure false:=by rfl):PS X (.Expr e pos) (aaK te):=by
 refine⟨λpins s σ H D I h=>?_⟩
 exact wpAny_Expr_any (aD (he pins s σ H _ I h) λv s1 ⟨x,H1,I1,r1,q1⟩=>⟨σ,H1,I1,q1⟩) I.quiet hs
noncomputable def aaM(te:TE):TS:=λD σ H=>te σ H D.rt
theorem aaN(he:PE X e te):PS X (.Return (some e) pos) (aaM te):=by
 refine⟨λpins s σ H D I h=>?_⟩
 exact wpAny_Return_some (aD (he pins s σ H _ I h) λv s1 ⟨x,H1,I1,r1,q1⟩=>⟨x,σ,H1,I1,r1,q1⟩)
noncomputable def aaO(c:TT)(t u:TS):TS:=λD σ H=>c σ H λb H1=>if b=true then t D σ H1 else u D σ H1
theorem aaP{c:Expr}{a b:List Stmt}{tc:TT}(hc:PT X c tc)(ha:eV X a t)(hb:eV X b u):PS X (.If c a b pos) (aaO tc t u):=by
 refine⟨λpins s σ H D I h=>?_⟩
 refine wpAny_If (aD (hc pins s σ H _ I h) λd s1 ⟨H1,I1,q1⟩=>?_)
 cases d with
 |true=>exact ha pins s1 σ H1 D I1 q1
 |false=>exact hb pins s1 σ H1 D I1 q1
end
noncomputable abbrev TG:=V->St->Hp->(St->Hp->Prop)->Prop
noncomputable abbrev oO:=List V->St->Hp->(St->Hp->Prop)->Prop
noncomputable def PG(X:Cx)(target:Expr)(t:TG):Prop :=
 ∀(pins:List (Addr × Obj)) (s:Shared) (σ : St) (H:Hp) (v:V) (u:Value) (Q:St->Hp->Prop),Inv X pins σ H s->RelV v u->t v σ H Q ->
  wpAny (model X.prog X.w) X.A (assign target X.env u) (λ_ s'=>∃σ' H',Inv X pins σ' H' s'/\Q σ' H') X.xe s
noncomputable def mY(X:Cx)(ts:List Expr)(t:oO):Prop :=
 ∀(pins:List (Addr × Obj)) (s:Shared) (σ : St) (H:Hp) (vs:List V) (us:List Value) (Q:St->Hp->Prop),Inv X pins σ H s->Vals vs us->t vs σ H Q ->
  wpAny (model X.prog X.w) X.A (assignInOrder ((assignEach ts X.env).map (·.2)) us) (λ_ s'=>∃σ' H',Inv X pins σ' H' s'/\Q σ' H') X.xe s
noncomputable abbrev Cp:=V->V->V->Hp->(Hp->Prop)->Prop
noncomputable def Lw(X:Cx)(t:Cp):Prop :=
 ∀(pins:List (Addr × Obj)) (s:Shared) (σ : St) (H:Hp) (o i v:V) (ov iv u:Value) (Q:Hp->Prop),Inv X pins σ H s->RelV o ov->RelV i iv->RelV v u->t o i v H Q ->
  wpAny (model X.prog X.w) X.A (setItem ov iv u) (λ_ s'=>∃H',Inv X pins σ H' s'/\Q H') X.xe s
section
variable {X:Cx}{pos:Pos}
noncomputable def lC(i:Nat):TG:=λv σ H Q=>Q (σ.set i (some v)) H
theorem aaQ(hN:X.N.Nodup)(hi:X.N[i]?=some x)(hx:Loc X.env.scope x)(hf:X.fn x=true\/X.env.scope.names.lookup x=some .local:=by first|exact .inl rfl|exact .inr rfl|assumption):PG X (.Name x pos) (lC i):=by
 intro pins s σ H v u Q I r h
 exact wpAny_assign_Name (wK I hN hi hx r (λs' I'=>⟨_,H,I',h⟩) hf)
noncomputable def aaR:oO:=λvs σ H Q=>vs=[]/\Q σ H
noncomputable def aaS(t:TG)(u:oO):oO:=λvs σ H Q=>∃v r,vs=v::r/\t v σ H λσ' H'=>u r σ' H' Q
theorem aaT:mY X [] aaR:=by
 intro pins s σ H vs us Q I r h
 obtain⟨e,h⟩:=h
 subst e
 cases r
 exact assignInOrder_nil ⟨σ,H,I,h⟩
theorem aaU{e:Expr}{es:List Expr}{t:TG}{u:oO}(h1:PG X e t)(h2:mY X es u)
  (hs:(assignEach (e::es) X.env).map (·.2)=assign e X.env::(assignEach es X.env).map (·.2):=by rfl):mY X (e::es) (aaS t u):=by
 intro pins s σ H vs us Q I r h
 obtain⟨v,vr,e1,h⟩:=h
 subst e1
 cases r with
 |cons r rr =>
  rw[hs]
  refine assignInOrder_cons (aD (h1 pins s σ H _ _ _ I r h) λ_ s1 ⟨σ1,H1,I1,q1⟩=>?_)
  exact h2 pins s1 σ1 H1 _ _ Q I1 rr q1
noncomputable def aaV(K:PySem.W.Frag)(n:Nat)(t:oO):TG:=λv σ H Q=>∃a xs,v=.ref a/\bw K H a xs/\xs.length=n/\t xs σ H Q
theorem aaW(hc:X.calm=true)(h:mY X es t)
  (hn:(assignEach es X.env).length=n:=by rfl) (hst:(assignEach es X.env).findIdx? (·.1)=none:=by rfl):PG X (.Tuple es k pos) (aaV X.K n t):=by
 intro pins s σ H v u Q I r hw
 obtain⟨a,xs,e1,hq,hl,hw⟩:=hw
 subst e1
 cases r
 obtain⟨its,rv,ht,hz⟩:=I.tuple hq
 refine assign_Tuple_tuple (I.ok.hd hc) ht (by simp[hn,<-hl,rv.length]) hst λh' hx=>?_
 have I1:Inv X pins σ H {s with heap:=h' }:=I.kept (t':=s.toks) λb o e=>hx b o (Nat.ne_of_lt (Heap.lt_size e)) e
 exact h pins _ σ H xs _ Q I1 (by simpa using rv) hw
noncomputable def aaX(to ti:TE)(t:Cp):TG:=λv σ H Q=>to σ H λo H1=>ti σ H1 λi H2=>t o i v H2 λH3=>Q σ H3
theorem aaY{o i:Expr}{to ti:TE}{t:Cp}(ho:PE X o to)(hi:PE X i ti)(hs:Lw X t)
  (ha:∀v,assign (.Subscript o i pos) X.env v=(do
   let ov <-holding [v] (eval o X.env)
   let iv <-holding [v,ov] (eval i X.env)
   standAt pos
   holding [v,ov,iv] (setItem ov iv v)
   release [v,ov,iv] []):=by intro _; rfl):PG X (.Subscript o i pos) (aaX to ti t):=by
 intro pins s σ H v u Q I r h
 rw[ha]
 refine wpAny_bind (wpAny_holding (aD (ho pins s σ H _ I h) λov s1 ⟨x,H1,I1,r1,q1⟩=>?_))
 refine wpAny_bind (wpAny_holding (aD (hi pins s1 σ H1 _ I1 q1) λiv s2 ⟨y,H2,I2,r2,q2⟩=>?_))
 refine wpAny_bind (wpAny_standAt (wpAny_bind (wpAny_holding (aD (hs pins s2 σ H2 x y v ov iv u _ I2 r1 r2 r q2) λ_ s3 ⟨H3,I3,q3⟩=>?_))))
 exact wpAny_release ⟨σ,H3,I3,q3⟩
noncomputable def lD(te:TE)(g:TG):TS:=λD σ H=>te σ H λx H1=>g x σ H1 D.nx
theorem Ly{tg e:Expr}{te:TE}{g:TG}(he:PE X e te)(hg:PG X tg g)(hs:swapsWithSole [tg] e pos.line X.env=pure false:=by rfl)(hw:swappedStores [tg] e X.env=pure none:=by rfl)
  (h1:(assignEach [tg] X.env).map (·.2)=[assign tg X.env]:=by rfl):PS X (.Assign [tg] e pos) (lD te g):=by
 refine⟨λpins s σ H D I h=>?_⟩
 refine wpAny_Assign_stores (aD (he pins s σ H _ I h) λv s1 ⟨x,H1,I1,r1,q1⟩=>?_) hs hw
 rw[h1]
 exact aD (hg pins s1 σ H1 x v _ I1 r1 q1) λ_ s2 q=>q
theorem Lz{i:Nat}{x:Str}{e:Expr}{te:TE}{pos':Pos}(hN:X.N.Nodup)(hi:X.N[i]?=some x)(hx:Loc X.env.scope x)(he:PE X e te)(hs:swapsWith e (some (.Name x pos')) pos.line X.env=pure false:=by rfl)(hf:X.fn x=true\/X.env.scope.names.lookup x=some .local:=by first|exact .inl rfl|exact .inr rfl|assumption) :
  PS X (.Assign [.Name x pos'] e pos) (lD te (lC i)):=by
 refine⟨λpins s σ H D I h=>?_⟩
 refine wpAny_Assign_Name (aD (he pins s σ H _ I h) λv s1 ⟨y,H1,I1,r1,q1⟩=>?_) hs
 exact wK I1 hN hi hx r1 (λs2 I2=>⟨_,H1,I2,q1⟩) hf
noncomputable def aaZ(i j:Nat)(ta:TA):TS:=λD σ H=>ta σ H λvs H1=>∃v w,vs=[v,w]/\D.nx ((σ.set i (some v)).set j (some w)) H1
theorem aa0{kt k2 Cr}(hc:X.calm=true)(hN:X.N.Nodup)(hi:X.N[i]?=some x)(hj:X.N[j]?=some y)(hij:i≠j)
  (hx:X.env.scope.names.lookup x=some .local) (hy:X.env.scope.names.lookup y=some .local) (ha:PA X [a,b] ta)
  (hw:swappedStores [.Tuple [.Name x px,.Name y py] kt pt] (.Tuple [a,b] k2 Cr) X.env=pure (some [x,y]))
  (hs:swapsWithSole [.Tuple [.Name x px,.Name y py] kt pt] (.Tuple [a,b] k2 Cr) pos.line X.env=pure false:=by rfl) :
  PS X (.Assign [.Tuple [.Name x px,.Name y py] kt pt] (.Tuple [a,b] k2 Cr) pos) (aaZ i j ta):=by
 refine⟨λpins s σ H D I h=>?_⟩
 rw[exec_Assign_arm]
 refine wpAny_bind (wpAny_standAt ?_)
 rw[hs]
 refine wpAny_bind (wpAny_pure ?_)
 rw[if_neg (by decide)]
 refine wpAny_bind (Tuple_ (aD (ha _ pins s σ H _ I h) λus s1 ⟨vs,H1,I1,r1,q1⟩=>?_))
 obtain⟨v,w,e1,q1⟩:=q1
 subst e1
 obtain⟨u1,u2,rfl,rv,oR⟩:∃u1 u2,us=[u1,u2]/\RelV v u1/\RelV w u2:=by
  cases r1 with
  |cons p q =>
   cases q with
   |cons p' q' =>
    cases q'
    exact⟨_,_,rfl,p,p'⟩
 refine wpAny_newObj_type ?_ (by show 2<=sizeLine; decide)
 have I2:Inv X pins σ H1 {s1 with heap:=s1.heap.push {cls:=.type "tuple",data:=.seq [u1,u2].toArray } }:=I1.kept (t':=s1.toks) λb o e=>Heap.get?_push_of_some _ e
 rw[hw]
 refine wpAny_bind (wpAny_pure ?_)
 show wpAny (model X.prog X.w) X.A (do rule "assign.swapped-stores"; let items <-unpackItems (.ref s1.heap.objs.size) 2 none; assignInOrder [λv=>bindName X.env y v,λv=>bindName X.env x v] items.reverse; pure Flow.next) _ _ _
 refine wpAny_bind (wpAny_rule (wpAny_bind (unpackItems_tuple (items:=#[u1,u2]) (I.ok.hd hc) (IsTup.new s1.heap _) λh' hx'=>?_)))
 have I3:=I2.kept (h':=h') (t':=s1.toks) λb o e=>hx' b o (Nat.ne_of_lt (Heap.lt_size e)) e
 show wpAny _ _ (assignInOrder [λv=>bindName X.env y v,λv=>bindName X.env x v] [u2,u1] >>= λ_=>pure Flow.next) _ _ _
 refine wpAny_bind (assignInOrder_cons (wpAny_bindName (wK I3 hN hj (.inl hy) oR (λs2 I4=>?_) (.inr hy))))
 refine assignInOrder_cons (wpAny_bindName (wK I4 hN hi (.inl hx) rv (λs3 I5=>assignInOrder_nil (wpAny_pure ?_)) (.inr hx)))
 rw[List.set_comm _ _ (Ne.symm hij)]at I5
 exact⟨_,H1,I5,q1⟩
end
section
variable {X:Cx}{pos:Pos}
noncomputable def aa1(c:TT)(tb:TS):TS:=λD σ H=>∃W:Nat->St->Hp->Prop,(∃m,W m σ H)/\∀m σ H,W m σ H ->
 c σ H λb H1=>if b=true then ∃N:St->Hp->Prop,(∀σ' H',N σ' H'->∃m',m'<m/\W m' σ' H')/\tb {D with nx:=N,ct:=N,bk:=D.nx } σ H1 else D.nx σ H1
theorem aa2(hp:PassesOwn (model X.prog X.w) X.A X.env X.xe)(hc:PT X c tc)(hb:eV X body tb):PS X (.While c body [] pos) (aa1 tc tb):=by
 refine⟨λpins s σ H D I h=>?_⟩
 obtain⟨W,⟨m0,w0⟩,turn⟩:=h
 refine wpAny_While (codeAny_whileLoop (λn s'=>∃σ' H',Inv X pins σ' H' s'/\W n σ' H') ?_ m0 ⟨σ,H,I,w0⟩)
 rintro n s1 ⟨σ1,H1,I1,w1⟩
 refine wpAny_passesOwn hp (aD (hc pins s1 σ1 H1 _ I1 (turn n σ1 H1 w1)) λb s2 ⟨H2,I2,q2⟩=>?_)
 cases b with
 |true =>
  obtain⟨N,hN,q2⟩:=q2
  rw[if_pos rfl]
  refine wpAny_passesOwn hp (aD (hb pins s2 σ1 H2 _ I2 q2) λf s3 q3=>?_)
  cases f with
  |next =>
   obtain⟨σ3,H3,I3,n3⟩:=q3
   obtain⟨m',hm,w3⟩:=hN σ3 H3 n3
   exact⟨m',hm,σ3,H3,I3,w3⟩
  |cont =>
   obtain⟨σ3,H3,I3,n3⟩:=q3
   obtain⟨m',hm,w3⟩:=hN σ3 H3 n3
   exact⟨m',hm,σ3,H3,I3,w3⟩
  |brk=>exact q3
  |ret v=>exact q3
 |false =>
  rw[if_neg Bool.false_ne_true]
  exact wpAny_execs_nil ⟨σ1,H2,I2,q2⟩
end
structure It where
 go:Nat->Hp->Prop
 jC:Nat->Hp->V->Hp->Prop
 stop:Nat->Hp->Prop
noncomputable def bO(X:Cx)(pins:List (Addr × Obj))(H:Hp)(b:Addr):Prop :=
 H b=none/\b≠X.env.locals/\b∉X.fs/\(b∈X.ex\/X.s₀.heap.objs.size<=b)/\(∀x c,X.env.cells.lookup x=some c->c≠b)/\∀p∈X.pn++pins,p.1≠b
theorem Inv.jD(I:Inv X pins σ H s)(hb:s.heap.objs.size<=b)(hn:H' b=none):bO X pins H' b:=by
 refine⟨hn,Nat.ne_of_gt (Nat.lt_of_lt_of_le I.lt hb),I.aar hb,.inr (Nat.le_trans I.sz hb),λx c e z=>?_,λp hp z=>?_⟩
 .obtain⟨v,q⟩:=I.cell x c e
  exact absurd (Nat.lt_of_lt_of_le q.lt (by rw[z]; exact hb)) (Nat.lt_irrefl _)
 .exact absurd (Nat.lt_of_lt_of_le (Heap.lt_size (I.pin p hp).1) (by rw[z]; exact hb)) (Nat.lt_irrefl _)
structure Turn(P:Program)(w:World)(K:PySem.W.Frag)(tg:Expr)(J:It)(fp:List Addr)(it:Addr)(tn:Nat->Heap->Prop):Prop where
 mem:it∈fp
 obj:∀i h,tn i h->∀b∈fp,∃o,h.get? b=some o/\∀v,o.data ≠ .cell v
 keep:∀i h h',tn i h->(∀b∈fp,∀o,h.get? b=some o->h'.get? b=some o)->tn i h'
 item:∀(X:Cx),X.prog=P->X.w=w->X.K=K->X.calm=true->∀(i:Nat) (pins:List (Addr × Obj)) (s:Shared) (σ : St) (H:Hp) (E:Value->Shared->Prop),Inv X pins σ H s->(∀b∈fp,bO X pins H b)->tn i s.heap->J.go i H ->
  wpAny (model P w) X.A (pyNext (.ref it)) (λr s1=>∃u,r=some u /\
   wpAny (model P w) X.A (letOwnedTupleGo tg (.ref it) u) (λ_ s2=>∃x H',Inv X pins σ H' s2/\RelV x u/\J.jC i H x H'/\tn (i+1) s2.heap/\∀b∈fp,H' b=none) E s1) E s
 done:∀(X:Cx),X.prog=P->X.w=w->X.K=K->X.calm=true->∀(i:Nat) (pins:List (Addr × Obj)) (s:Shared) (σ : St) (H:Hp) (E:Value->Shared->Prop),Inv X pins σ H s->(∀b∈fp,bO X pins H b)->tn i s.heap->J.stop i H ->
  wpAny (model P w) X.A (pyNext (.ref it)) (λr s1=>r=none/\Inv X pins σ H s1) E s
 self:∀(A:Around) (i:Nat) (s:Shared) (Q:Value->Shared->Prop) (E:Value->Shared->Prop),tn i s.heap->Q (.ref it) s->wpAny (model P w) A (pyIter (.ref it)) Q E s
noncomputable abbrev TI:=St->Hp->(It->Hp->Prop)->Prop
noncomputable def PIE(X:Cx)(pins:List (Addr × Obj))(σ : St)(tg:Expr)(R:It->Hp->Prop)(itv:Value)(s2:Shared):Prop :=
 ∃(it:Addr) (fp:List Addr) (tn:Nat->Heap->Prop) (J:It) (H':Hp),itv=.ref it/\Inv X pins σ H' s2/\Turn X.prog X.w X.K tg J fp it tn/\tn 0 s2.heap/\(∀b∈fp,bO X pins H' b)/\R J H'
noncomputable def PI(X:Cx)(tg iter:Expr)(wi:TI):Prop :=
 ∀(pins:List (Addr × Obj)) (s:Shared) (σ : St) (H:Hp) (R:It->Hp->Prop),Inv X pins σ H s->wi σ H R ->
  wpAny (model X.prog X.w) X.A (eval iter X.env) (λv s1=>wpAny (model X.prog X.w) X.A (pyIter v) (PIE X pins σ tg R) X.xe s1) X.xe s
theorem Cu(ho:s.heap.get? it=some o)(hc:o.cls=.type n)(hd:o.data=.fields vs)
    (hn : ["enumerate", "zip", "dict_itemiterator", "dict_reverseitemiterator", "odict_iterator", "itertools.zip_longest", "itertools.pairwise"].contains n=false) (hQ:Q () s):wpAny M A (letOwnedTupleGo tg (.ref it) u) Q E s:=by
  unfold letOwnedTupleGo
  cases tg <;> first
    |exact wpAny_pure hQ
    | (cases u <;> first
        |exact wpAny_pure hQ
        | (refine wpAny_bind (wpAny_load ho ?_)
           rw[hc,hd]
           show wpAny M A (if(["enumerate", "zip", "dict_itemiterator", "dict_reverseitemiterator", "odict_iterator", "itertools.zip_longest", "itertools.pairwise"].contains n&&vs[0]? == some (rawInt _))=true then _ else _) Q E s
           rw[if_neg (by intro h; rw[hn,Bool.false_and]at h; cases h)]
           exact wpAny_pure hQ))
noncomputable def Cv(K:PySem.W.Frag)(a:Addr):It :=
 ⟨λi H=>∃xs x,aH K H a xs/\xs[i]?=some x,λi H x H'=>H'=H/\∀xs,aH K H a xs->xs[i]?=some x,λi H=>∃xs,aH K H a xs/\xs.length<=i⟩
noncomputable def Cw(K:PySem.W.Frag)(a:Addr):It :=
 ⟨λi H=>∃xs x,bw K H a xs/\xs[i]?=some x,λi H x H'=>H'=H/\∀xs,bw K H a xs->xs[i]?=some x,λi H=>∃xs,bw K H a xs/\xs.length<=i⟩
noncomputable def wN(lo:Int)(n:Nat):It:=⟨λi _=>i<n,λi H x H'=>H'=H/\x=.int (lo+i),λi _=>n<=i⟩
theorem aa3{P:Program}{w:World}{K:PySem.W.Frag}{tg:Expr}(a it:Addr):Turn P w K tg (Cv K a) [it] it (λi h=>h.IsListIter it a i) where
 mem:=by simp
 obj:=λi h st b hb=>by
  have e:b=it:=by simpa using hb
  subst e
  obtain⟨o,e,c,d⟩:=st
  exact⟨o,e,λv z=>by rw[d]at z; cases z⟩
 keep:=λi h h' st k=>st.at λo e=>k it (by simp) o e
 item:=by
  intro X hP hw hK hc i pins s σ H E I hf st hg
  subst hP hw hK
  obtain⟨xs,x,hq,hx⟩:=hg
  obtain⟨its,rv,p,hz⟩:=I.list hq
  obtain⟨u,hu,ru⟩:=rv.get hx
  obtain⟨f0,f1,f2,f3,f4,f5⟩:=hf it (by simp)
  refine wpAny_pyNext_list_item st p.isList (x:=u) (by simpa using hu) λh' st' sb=>?_
  have I1:Inv X pins σ H {s with heap:=h' }:=I.turned (t':=s.toks) (λb o hb e=>(sb.2 b hb).trans e) f0 f1 f3 f4 f5
  obtain⟨o,e,c,d⟩:=id st'
  exact⟨u,rfl,Cu (s:={s with heap:=h' }) e c d (by decide) ⟨x,H,I1,ru,⟨rfl,λys hy=>by rw[I.mW hy hq]; exact hx⟩,st',λb hb=>(hf b hb).1⟩⟩
 done:=by
  intro X hP hw hK hc i pins s σ H E I hf st hg
  subst hP hw hK
  obtain⟨xs,hq,hx⟩:=hg
  obtain⟨its,rv,p,hz⟩:=I.list hq
  obtain⟨f0,f1,f2,f3,f4,f5⟩:=hf it (by simp)
  have hl:=rv.length
  exact wpAny_pyNext_list_end (I.ok.hd hc) st p.isList (by simp; lia) λh' eb=>⟨rfl,I.turned (t':=s.toks) (λb o hb e=>eb b o hb e) f0 f1 f3 f4 f5⟩
 self:=λ_ _ _ _ _ st h=>wpAny_pyIter_listiter st h
theorem aa4{P:Program}{w:World}{K:PySem.W.Frag}{tg:Expr}(a it:Addr):Turn P w K tg (Cw K a) [it] it (λi h=>h.IsTupleIter it a i) where
 mem:=by simp
 obj:=λi h st b hb=>by
  have e:b=it:=by simpa using hb
  subst e
  obtain⟨o,e,c,d⟩:=st
  exact⟨o,e,λv z=>by rw[d]at z; cases z⟩
 keep:=λi h h' st k=>st.at λo e=>k it (by simp) o e
 item:=by
  intro X hP hw hK hc i pins s σ H E I hf st hg
  subst hP hw hK
  obtain⟨xs,x,hq,hx⟩:=hg
  obtain⟨its,rv,p,hz⟩:=I.tuple hq
  obtain⟨u,hu,ru⟩:=rv.get hx
  obtain⟨f0,f1,f2,f3,f4,f5⟩:=hf it (by simp)
  refine wpAny_pyNext_tuple_item st (show s.heap.IsTuple a its.toArray from p) (x:=u) (by simpa using hu) λh' st' sb=>?_
  have I1:Inv X pins σ H {s with heap:=h' }:=I.turned (t':=s.toks) (λb o hb e=>(sb.2 b hb).trans e) f0 f1 f3 f4 f5
  obtain⟨o,e,c,d⟩:=id st'
  exact⟨u,rfl,Cu (s:={s with heap:=h' }) e c d (by decide) ⟨x,H,I1,ru,⟨rfl,λys hy=>by rw[I.Lr hy hq]; exact hx⟩,st',λb hb=>(hf b hb).1⟩⟩
 done:=by
  intro X hP hw hK hc i pins s σ H E I hf st hg
  subst hP hw hK
  obtain⟨xs,hq,hx⟩:=hg
  obtain⟨its,rv,p,hz⟩:=I.tuple hq
  obtain⟨f0,f1,f2,f3,f4,f5⟩:=hf it (by simp)
  have hl:=rv.length
  exact wpAny_pyNext_tuple_end (I.ok.hd hc) st (show s.heap.IsTuple a its.toArray from p) (by simp; lia) λh' eb=>⟨rfl,I.turned (t':=s.toks) (λb o hb e=>eb b o hb e) f0 f1 f3 f4 f5⟩
 self:=λ_ _ _ _ _ st h=>wpAny_pyIter_tupleiter st h
theorem aa5{P:Program}{w:World}{K:PySem.W.Frag}{tg:Expr}(it:Addr)(lo:Int)(n:Nat):Turn P w K tg (wN lo n) [it] it (λi h=>IsRangeIter h it (lo+(i:Nat)*1) ((n:Int)-(i:Nat)) 1) where
 mem:=by simp
 obj:=λi h st b hb=>by
  have e:b=it:=by simpa using hb
  subst e
  exact⟨_,st,λv z=>by
   have z':Data.fields _=Data.cell v:=z
   cases z'⟩
 keep:=λi h h' st k=>k it (by simp) _ st
 item:=by
  intro X hP hw hK hc i pins s σ H E I hf st hg
  subst hP hw hK
  obtain⟨f0,f1,f2,f3,f4,f5⟩:=hf it (by simp)
  have W:=Walks.range (prog:=X.prog) (w:=X.w) (I.ok.hd hc) it lo 1 n
  refine W.item i s _ _ hg st λv h' tk hv st' kk=>?_
  obtain⟨t,rfl⟩:=hv
  have I1:Inv X pins σ H {s with heap:=h',toks:=tk }:=I.turned (λb o hb e=>kk b o (by simpa using hb) e) f0 f1 f3 f4 f5
  refine⟨_,rfl,Cu (s:={s with heap:=h',toks:=tk }) (n := "range_iterator") st' rfl rfl (by decide) ⟨.int (lo+i),H,I1,⟨t,?_⟩,⟨rfl,rfl⟩,st',λb hb=>(hf b hb).1⟩⟩
  rw[Int.mul_one]
 done:=by
  intro X hP hw hK hc i pins s σ H E I hf st hg
  subst hP hw hK
  obtain⟨f0,f1,f2,f3,f4,f5⟩:=hf it (by simp)
  exact wpAny_pyNext_range_end (I.ok.hd hc) st (by have:n<=i:=hg; lia) λh' eb=>⟨rfl,I.turned (t':=s.toks) (λb o hb e=>eb b o hb e) f0 f1 f3 f4 f5⟩
 self:=λ_ _ _ _ _ st h=>wpAny_pyIter_rangeiter st h
section
variable {X:Cx}{tg:Expr}
noncomputable def LC(K:PySem.W.Frag)(tl:TE):TI:=λσ H R=>tl σ H λx H1=>∃a,x=.ref a/\(∃xs,aH K H1 a xs)/\R (Cv K a) H1
noncomputable def LK(K:PySem.W.Frag)(tl:TE):TI:=λσ H R=>tl σ H λx H1=>∃a,x=.ref a/\(∃xs,bw K H1 a xs)/\R (Cw K a) H1
theorem aa6{l:Expr}{tl:TE}(hl:PE X l tl):PI X tg l (LC X.K tl):=by
 intro pins s σ H R I h
 refine aD (hl pins s σ H _ I h) λv s1 ⟨x,H1,I1,r1,q1⟩=>?_
 obtain⟨a,e,⟨xs,hq⟩,q⟩:=q1
 subst e
 cases r1
 obtain⟨its,rv,p,hz⟩:=I1.list hq
 refine wpAny_pyIter_list p.isList ?_
 refine⟨s1.heap.objs.size,[s1.heap.objs.size],_,_,H1,rfl,I1.kept (t':=s1.toks) λb o e=>Heap.get?_push_of_some _ e,aa3 a _,⟨_,Heap.get?_push_size _ rfl,rfl,rfl⟩,λb hb=>?_,q⟩
 have e:b=s1.heap.objs.size:=by simpa using hb
 subst e
 exact I1.jD (Nat.le_refl _) (I1.hok.fresh (Nat.le_refl _))
theorem aa7{l:Expr}{tl:TE}(hl:PE X l tl):PI X tg l (LK X.K tl):=by
 intro pins s σ H R I h
 refine aD (hl pins s σ H _ I h) λv s1 ⟨x,H1,I1,r1,q1⟩=>?_
 obtain⟨a,e,⟨xs,hq⟩,q⟩:=q1
 subst e
 cases r1
 obtain⟨its,rv,p,hz⟩:=I1.tuple hq
 refine wpAny_pyIter_tuple (show s1.heap.IsTuple a its.toArray from p) ?_
 refine⟨s1.heap.objs.size,[s1.heap.objs.size],_,_,H1,rfl,I1.kept (t':=s1.toks) λb o e=>Heap.get?_push_of_some _ e,aa4 a _,⟨_,Heap.get?_push_size _ rfl,rfl,rfl⟩,λb hb=>?_,q⟩
 have e:b=s1.heap.objs.size:=by simpa using hb
 subst e
 exact I1.jD (Nat.le_refl _) (I1.hok.fresh (Nat.le_refl _))
theorem aa8{pins:List (Addr × Obj)}{σ : St}{H:Hp}{s:Shared}{R:It->Hp->Prop}{E:Value->Shared->Prop}{lo hi:Int}{t u v:Tok}{tk:Nat}(I:Inv X pins σ H s)(h1 : -(2 ^ 62)<=lo)(h2:lo<2 ^ 62)(h3 : -(2 ^ 62)<=hi)(h4:hi<2 ^ 62)
  (q:R (wN lo (hi-lo).toNat) H):wpAny (model X.prog X.w) X.A (pyIter (.ref s.heap.objs.size)) (PIE X pins σ tg R) E {s with heap:=s.heap.push {cls:=.type "range",data:=.fields #[.int lo t,.int hi u,.int 1 v] },toks:=tk }:=by
 refine wpAny_pyIter_range (IsRange.new ..) (small_one h1 h2 h3 h4) ?_
 have I1:Inv X pins σ H {s with heap:=s.heap.push {cls:=.type "range",data:=.fields #[.int lo t,.int hi u,.int 1 v] },toks:=tk }:=I.kept λb o e=>Heap.get?_push_of_some _ e
 refine⟨(s.heap.push {cls:=.type "range",data:=.fields #[.int lo t,.int hi u,.int 1 v] }).objs.size,[(s.heap.push {cls:=.type "range",data:=.fields #[.int lo t,.int hi u,.int 1 v] }).objs.size],_,_,H,rfl,
  I1.kept (t':=tk) λb o e=>Heap.get?_push_of_some _ e,aa5 _ lo (hi-lo).toNat,?_,λb hb=>?_,q⟩
 .have e1:lo+((0:Nat):Int)*1=lo:=by simp
  have e2:(((hi-lo).toNat:Nat):Int)-((0:Nat):Int)=Builtin.Range.rangeSize lo hi 1:=by rw[rangeSize_one]; split <;> lia
  show IsRangeIter _ _ (lo+((0:Nat):Int)*1) ((((hi-lo).toNat:Nat):Int)-((0:Nat):Int)) 1
  rw[e1,e2]
  exact Heap.get?_push_size _ rfl
 .have e:b=(s.heap.push {cls:=.type "range",data:=.fields #[.int lo t,.int hi u,.int 1 v] }).objs.size:=by simpa using hb
  subst e
  exact I1.jD (Nat.le_refl _) (I1.hok.fresh (Nat.le_refl _))
noncomputable def aa9(ta:TA):TI:=λσ H R=>ta σ H λvs H1=>∃j:Int,vs=[.int j] /\ -(2 ^ 62)<=j/\j<2 ^ 62/\R (wN 0 j.toNat) H1
theorem abb{a:Expr}{ta:TA}{p pos:Pos}(hg:Gl X "range") (hm:X.mg "range" = none) (ha:PA X [a] ta) (hs:starEach [a] X.env=[(false,eval a X.env)]:=by rfl):PI X tg (.Call (.Name "range" p) [a] [] pos) (aa9 ta):=by
 intro pins s σ H R I h
 refine Call_ (jB I hg hm boot_range (PyProof.Rows.callWith_type1 (aD (ha pos pins s σ H _ I h) λus s1 ⟨vs,H1,I1,r1,q1⟩=>?_) hs rfl))
 obtain⟨j,e,q1,q2,q⟩:=q1
 subst e
 cases r1 with
 |cons r rr =>
  cases rr
  obtain⟨t,rfl⟩:=r
  exact call_range_1 (aa8 I1 (by lia) (by lia) q1 q2 (by simpa using q))
noncomputable def abd(wi:TI)(g:TG)(tb:TS):TS:=λD σ H=>wi σ H λJ H1=>∃W:Nat->Nat->St->Hp->Prop,(∃m,W 0 m σ H1)/\∀i m σ H,W i m σ H ->
 (J.stop i H/\D.nx σ H)\/(J.go i H/\∃N:St->Hp->Prop,(∀σ' H',N σ' H'->∃m',m'<m/\W (i+1) m' σ' H')/\∀x H',J.jC i H x H'->g x σ H' λσ2 H2=>tb {D with nx:=N,ct:=N,bk:=D.nx } σ2 H2)
noncomputable def wQ(fp:List Addr)(h:Heap):List (Addr × Obj):=fp.filterMap λb=>(h.get? b).map λo=>(b,o)
theorem jV(hb:b∈fp)(e:h.get? b=some o):(b,o)∈wQ fp h:=List.mem_filterMap.mpr ⟨b,hb,by rw[e]; rfl⟩
theorem abe(hp:p∈wQ fp h):p.1∈fp/\h.get? p.1=some p.2:=by
 obtain⟨b,hb,e⟩:=List.mem_filterMap.mp hp
 cases q:h.get? b with
 |none=>rw[q]at e; cases e
 |some o =>
  rw[q]at e
  have e':(b,o)=p:=Option.some.inj e
  subst e'
  exact⟨hb,q⟩
theorem Inv.pinned(I:Inv X pins σ H s)(hf:∀b∈fp,bO X pins H b)(ho:∀b∈fp,∃o,s.heap.get? b=some o/\∀v,o.data ≠ .cell v):Inv X (pins++wQ fp s.heap) σ H s :=
 I.wJ λp hp=>(List.mem_append.mp hp).elim (λz=>I.pin p (List.mem_append_right _ z)) λz=>by
  obtain⟨hb,e⟩:=abe z
  obtain⟨f0,f1,f2,_⟩:=hf p.1 hb
  obtain⟨o,e',d⟩:=ho p.1 hb
  rw[e]at e'; cases e'
  exact⟨e,f0,f1,f2,d⟩
theorem Inv.oU(I:Inv X (pins++pl) σ H s):Inv X pins σ H s:=I.wJ λp hp=>I.pin p (List.mem_append_right _ (List.mem_append_left _ hp))
theorem abf(hp:PassesOwn (model X.prog X.w) X.A X.env X.xe)(hc:X.calm=true)(hi:PI X tg iter wi)(hg:PG X tg g)(hb:eV X body tb)
  (hs:∀x,foldedSetIterable iter X.env x=pure x:=by intro _; rfl):PS X (.For tg iter body [] pos) (abd wi g tb):=by
 refine⟨λpins s σ H D I h=>?_⟩
 refine wpAny_For (aD (hi pins s σ H _ I h) λv s1 h1=>aD h1 λitv s2 h2=>?_) hs
 obtain⟨it,fp,tn,J,H2,e,I2,T,st2,f2,W,⟨m0,w0⟩,turn⟩:=h2
 subst e
 -- what stays true of the iterator's objects through the loop
 have stat:∀{H':Hp},(∀b∈fp,H' b=none)->∀b∈fp,bO X pins H' b:=λhn b hb=>⟨hn b hb,(f2 b hb).2⟩
 refine codeAny_forLoop_any (λn s'=>∃i σ' H',Inv X pins σ' H' s'/\tn i s'.heap/\(∀b∈fp,H' b=none)/\W i n σ' H') ?_ m0 ⟨0,σ,H2,I2,st2,λb hb=>(f2 b hb).1,w0⟩
 rintro n s3 ⟨i,σ3,H3,I3,st3,LQ,w3⟩
 rcases turn i n σ3 H3 w3 with⟨stop,qn⟩|⟨go,N,hN,step⟩
 .refine wpAny_passesOwn hp (aD (T.done X rfl rfl rfl hc i pins s3 σ3 H3 X.xe I3 (stat LQ) st3 stop) λr s4 ⟨hr,I4⟩=>?_)
  subst hr
  exact wpAny_execs_nil ⟨σ3,H3,I4,qn⟩
 .refine wpAny_passesOwn hp (aD (T.item X rfl rfl rfl hc i pins s3 σ3 H3 X.xe I3 (stat LQ) st3 go) λr s4 ⟨u,hr,h4⟩=>?_)
  subst hr
  refine wpAny_passesOwn hp (aD h4 λ_ s5 ⟨x,H5,I5,r5,y5,gO,jW⟩=>?_)
  have I5':=I5.pinned (stat jW) (T.obj _ _ gO)
  refine wpAny_passesOwn hp (aD (hg _ s5 σ3 H5 x u _ I5' r5 (step x H5 y5)) λ_ s6 ⟨σ6,H6,I6,q6⟩=>?_)
  refine wpAny_passesOwn hp (aD (hb _ s6 σ6 H6 _ I6 q6) λf s7 q7=>?_)
  have again:∀{σ7:St} {H7:Hp},Inv X (pins++wQ fp s5.heap) σ7 H7 s7->N σ7 H7->∃m,m<n/\∃i σ' H',Inv X pins σ' H' s7/\tn i s7.heap/\(∀b∈fp,H' b=none)/\W i m σ' H':=λ{σ7 H7} I7 n7=>by
   obtain⟨m',hm,w7⟩:=hN σ7 H7 n7
   refine⟨m',hm,i+1,σ7,H7,I7.oU,T.keep _ _ _ gO λb hb o e=>(I7.pin (b,o) (List.mem_append_right _ (List.mem_append_right _ (jV hb e)))).1,λb hb=>?_,w7⟩
   obtain⟨o,e,d⟩:=T.obj _ _ gO b hb
   exact(I7.pin (b,o) (List.mem_append_right _ (List.mem_append_right _ (jV hb e)))).2.1
  cases f with
  |next=>obtain⟨σ7,H7,I7,n7⟩:=q7; exact again I7 n7
  |cont=>obtain⟨σ7,H7,I7,n7⟩:=q7; exact again I7 n7
  |brk=>obtain⟨σ7,H7,I7,q7⟩:=q7; exact⟨σ7,H7,I7.oU,q7⟩
  |ret v=>obtain⟨x7,σ7,H7,I7,r7,q7⟩:=q7; exact⟨x7,σ7,H7,I7.oU,r7,q7⟩
end
noncomputable abbrev R2:=V->V->Hp->VK->Prop
noncomputable def aX(X:Cx)(f:Value->Value->Sem Value)(r:R2):Prop :=
 ∀(pins:List (Addr × Obj)) (s:Shared) (σ : St) (H:Hp) (x y:V) (v u:Value) (Q:VK),Inv X pins σ H s->RelV x v->RelV y u->r x y H Q ->
  wpAny (model X.prog X.w) X.A (f v u) (EP X pins σ Q) X.xe s
noncomputable def Cy(X:Cx)(f:Value->Sem Value)(r:V->Hp->VK->Prop):Prop :=
 ∀(pins:List (Addr × Obj)) (s:Shared) (σ : St) (H:Hp) (x:V) (v:Value) (Q:VK),Inv X pins σ H s->RelV x v->r x H Q ->
  wpAny (model X.prog X.w) X.A (f v) (EP X pins σ Q) X.xe s
noncomputable def fD(X:Cx)(f:Value)(r:List V->Hp->VK->Prop):Prop :=
 ∀(pins:List (Addr × Obj)) (s:Shared) (σ : St) (H:Hp) (xs:List V) (us:List Value) (Q:VK),Inv X pins σ H s->Vals xs us->r xs H Q ->
  wpAny (model X.prog X.w) X.A (call f us) (EP X pins σ Q) X.xe s
noncomputable def abg(X:Cx)(r:V->Hp->(Bool->Hp->Prop)->Prop):Prop :=
 ∀(pins:List (Addr × Obj)) (s:Shared) (σ : St) (H:Hp) (x:V) (v:Value) (Q:Bool->Hp->Prop),Inv X pins σ H s->RelV x v->r x H Q ->
  wpAny (model X.prog X.w) X.A (truthy v) (TP X pins σ Q) X.xe s
noncomputable def tX(r:R2)(ta tb:TE):TE:=λσ H Q=>ta σ H λx H1=>tb σ H1 λy H2=>r x y H2 Q
noncomputable def LR(r:V->Hp->VK->Prop)(ta:TE):TE:=λσ H Q=>ta σ H λx H1=>r x H1 Q
noncomputable def rI(C:Int->Int->Prop)(g:Int->Int->V):R2:=λx y H Q=>∃i j,x=.int i/\y=.int j/\C i j/\Q (g i j) H
noncomputable def dh(g:Int->Int->V):R2:=λx y H Q=>∃i j,x=.int i/\y=.int j/\Q (g i j) H
noncomputable def rU(g:Int->V):V->Hp->VK->Prop:=λx H Q=>∃i,x=.int i/\Q (g i) H
section
variable {X:Cx}{a b c:Expr}{ta tb tc:TE}{pos:Pos}
theorem Cz(ha:PE X a ta)(hb:PE X b tb){pins:List (Addr × Obj)}{s:Shared}{σ : St}{H:Hp}{R:V->V->Hp->Prop}(I:Inv X pins σ H s)
  (h:ta σ H λx H1=>tb σ H1 λy H2=>R x y H2) {Q:Value->Shared->Prop} {f:Value->Value->Sem Value}
  (hf:∀v u s2 x y H2,Inv X pins σ H2 s2->RelV x v->RelV y u->R x y H2->wpAny (model X.prog X.w) X.A (f v u) Q X.xe s2) :
  wpAny (model X.prog X.w) X.A (eval a X.env) (λv s₁=>wpAny (model X.prog X.w) X.A (eval b X.env) (λu s₂=>wpAny (model X.prog X.w) X.A (f v u) Q X.xe s₂) X.xe s₁) X.xe s:=by
 refine aD (ha pins s σ H _ I h) λv s1 ⟨x,H1,I1,r1,q1⟩=>?_
 refine aD (hb pins s1 σ H1 _ I1 q1) λu s2 ⟨y,H2,I2,r2,q2⟩=>?_
 exact hf v u s2 x y H2 I2 r1 r2 q2
theorem wR{op:Operator}{r:R2}(ho:aX X (binaryOp op) r)(ha:PE X a ta)(hb:PE X b tb):PE X (.BinOp a op b pos) (tX r ta tb):=by
 refine⟨λpins s σ H Q I h=>?_⟩
 exact wpAny_BinOp (Cz ha hb I h λv u s2 x y H2 I2 rx ry q=>ho pins s2 σ H2 x y v u Q I2 rx ry q)
theorem CG(ho:Cy X (unaryOp op) r)(ha:PE X a ta):PE X (.UnaryOp op a pos) (LR r ta):=by
 refine⟨λpins s σ H Q I h=>?_⟩
 exact UnaryOp_ (aD (ha pins s σ H _ I h) λv s1 ⟨x,H1,I1,r1,q1⟩=>ho pins s1 σ H1 x v Q I1 r1 q1)
theorem qw{f:Value->Value->Sem Value}{C:Int->Int->Prop}{g:Int->Int->Int}
  (rule:∀(i j:Int) (t u:Tok) (s:Shared) (Q:Value->Shared->Prop) (E:Value->Shared->Prop),C i j->Q (.int (g i j) s.toks) {s with toks:=s.toks+1 }->wpAny (model X.prog X.w) X.A (f (.int i t) (.int j u)) Q E s) :
  aX X f (rI C λi j=>.int (g i j)):=by
 intro pins s σ H x y v u Q I rx ry h
 obtain⟨i,j,rfl,rfl,hc,q⟩:=h
 obtain⟨t,rfl⟩:=rx
 obtain⟨t',rfl⟩:=ry
 exact rule i j t t' s _ _ hc ⟨.int (g i j),H,I.tok _,⟨_,rfl⟩,q⟩
theorem CJ{f:Value->Value->Sem Value}{g:Int->Int->Int}
  (rule:∀(i j:Int) (t u:Tok) (s:Shared) (Q:Value->Shared->Prop) (E:Value->Shared->Prop),Q (.int (g i j) s.toks) {s with toks:=s.toks+1 }->wpAny (model X.prog X.w) X.A (f (.int i t) (.int j u)) Q E s) :
  aX X f (dh λi j=>.int (g i j)):=by
 intro pins s σ H x y v u Q I rx ry h
 obtain⟨i,j,rfl,rfl,q⟩:=h
 obtain⟨t,rfl⟩:=rx
 obtain⟨t',rfl⟩:=ry
 exact rule i j t t' s _ _ ⟨.int (g i j),H,I.tok _,⟨_,rfl⟩,q⟩
theorem wU{f:Value->Value->Sem Value}{g:Int->Int->Bool}
  (rule:∀(i j:Int) (t u:Tok) (s:Shared) (Q:Value->Shared->Prop) (E:Value->Shared->Prop),Q (.bool (g i j)) s->wpAny (model X.prog X.w) X.A (f (.int i t) (.int j u)) Q E s) :
  aX X f (dh λi j=>.bl (g i j)):=by
 intro pins s σ H x y v u Q I rx ry h
 obtain⟨i,j,rfl,rfl,q⟩:=h
 obtain⟨t,rfl⟩:=rx
 obtain⟨t',rfl⟩:=ry
 exact rule i j t t' s _ _ ⟨.bl (g i j),H,I,rfl,q⟩
noncomputable def qx(i j:Int):Prop:=0<=j/\j<=1000000/\i.natAbs<2 ^ 64
theorem abh(k:Nat):(0:Int)<=2 ^ k:=by
 rw[two_pow_cast]
 exact Int.natCast_nonneg _
theorem Ma:aX X (binaryOp .Add) (dh λi j=>.int (i+j)):=CJ λ_ _ _ _ _ _ _ q=>add_int q
theorem Mf:aX X (binaryOp .Sub) (dh λi j=>.int (i-j)):=CJ λ_ _ _ _ _ _ _ q=>sub_int q
theorem abj:aX X (binaryOp .Mod) (rI (λ_ j=>j≠0) λi j=>.int (i.fmod j)):=qw λ_ _ _ _ _ _ _ hc q=>mod_int' hc q
theorem Mg:aX X (binaryOp .Pow) (rI qx λi j=>.int (i ^ j.toNat)):=qw λ_ _ _ _ _ _ _ hc q=>pow_int_small hc.1 hc.2.1 hc.2.2 q
theorem abk:aX X (binaryOp .LShift) (rI qx λi j=>.int (i*2 ^ j.toNat)):=qw λ_ _ _ _ _ _ _ hc q=>lshift_int_small hc.1 hc.2.1 hc.2.2 q
theorem abl:aX X (binaryOp .RShift) (rI (λ_ j=>0<=j) λi j=>.int (i / 2 ^ j.toNat)):=qw λi j _ _ _ _ _ hc q =>
 rshift_int hc (by rw[Int.fdiv_eq_ediv_of_nonneg i (abh _)]; exact q)
theorem abm:aX X (binaryOp .BitAnd) (dh λi j=>.int (Builtin.bitAnd i j)):=CJ λ_ _ _ _ _ _ _ q=>and_int q
theorem unI{f:Value->Sem Value}{g:Int->Int}
  (rule:∀(i:Int) (t:Tok) (s:Shared) (Q:Value->Shared->Prop) (E:Value->Shared->Prop),Q (.int (g i) s.toks) {s with toks:=s.toks+1 }->wpAny (model X.prog X.w) X.A (f (.int i t)) Q E s) :
  Cy X f (rU λi=>.int (g i)):=by
 intro pins s σ H x v Q I rx h
 obtain⟨i,rfl,q⟩:=h
 obtain⟨t,rfl⟩:=rx
 exact rule i t s _ _ ⟨.int (g i),H,I.tok _,⟨_,rfl⟩,q⟩
theorem CK:Cy X (unaryOp .USub) (rU λi=>.int (-i)):=unI λ_ _ _ _ _ q=>neg_int q
end
section
variable {X:Cx}{a b c:Expr}{ta tb tc:TE}{pos:Pos}
theorem Mh(I:Inv X pins σ H s)(q:Q (.bl k) H)(e:k=k'):EP X pins σ Q (.bool k') s:=by
 subst e
 exact⟨.bl k,H,I,rfl,q⟩
theorem abn:aX X (compareOp .Lt) (dh λi j=>.bl (decide (i<j))):=wU λ_ _ _ _ _ _ _ q=>lt_int q
theorem abo:aX X (compareOp .LtE) (dh λi j=>.bl (decide (i<=j))):=wU λ_ _ _ _ _ _ _ q=>le_int q
theorem abp:aX X (compareOp .Gt) (dh λi j=>.bl (decide (j<i))):=wU λ_ _ _ _ _ _ _ q=>gt_int q
theorem abq:aX X (compareOp .GtE) (dh λi j=>.bl (decide (j<=i))):=wU λ_ _ _ _ _ _ _ q=>ge_int q
theorem abr:aX X (compareOp .Is) (λx y H Q=>y=.non/\Q (.bl (decide (x=.non))) H):=by
 intro pins s σ H x y v u Q I rx ry h
 obtain⟨rfl,q⟩:=h
 cases ry
 refine is_none_gen (Mh I q ?_)
 cases x <;> first
  |(cases rx; rfl)
  |(obtain⟨t,rfl⟩:=rx; rfl)
theorem abt:aX X (compareOp .IsNot) (λx y H Q=>y=.non/\Q (.bl (!decide (x=.non))) H):=by
 intro pins s σ H x y v u Q I rx ry h
 obtain⟨rfl,q⟩:=h
 cases ry
 refine isnot_none_gen (Mh I q ?_)
 cases x <;> first
  |(cases rx; rfl)
  |(obtain⟨t,rfl⟩:=rx; rfl)
theorem aX.or(h:aX X f r)(h':aX X f r'):aX X f (λx y H Q=>r x y H Q\/r' x y H Q):=by
 intro pins s σ H x y v u Q I rx ry q
 rcases q with q|q
 .exact h pins s σ H x y v u Q I rx ry q
 .exact h' pins s σ H x y v u Q I rx ry q
theorem abu{op:CmpOp}{r:R2}(ho:aX X (compareOp op) r)(ha:PE X a ta)(hb:PE X b tb)(hm:behindInMarks op b=false):PE X (.Compare a [op] [b] pos) (tX r ta tb):=by
 refine⟨λpins s σ H Q I h=>?_⟩
 exact wpAny_Compare1 (Cz ha hb I h λv u s2 x y H2 I2 rx ry q=>ho pins s2 σ H2 x y v u Q I2 rx ry q) hm
noncomputable def mZ(t:TE):TT:=λσ H Q=>t σ H λx H'=>∃k,x=.bl k/\Q k H'
theorem abv(ho:aX X (compareOp op) r)(ha:PE X a ta)(hb:PE X b tb)(hm:behindInMarks op b=false):PT X (.Compare a [op] [b] pos) (mZ (tX r ta tb)):=by
 refine⟨λpins s σ H Q I h=>?_⟩
 refine wpAny_isTrue_Compare1 (aD (ha pins s σ H _ I h) λv s1 ⟨x,H1,I1,r1,q1⟩=>aD (hb pins s1 σ H1 _ I1 q1) λu s2 ⟨y,H2,I2,r2,q2⟩ =>
  aD (ho pins s2 σ H2 x y v u _ I2 r1 r2 q2) λc s3 ⟨z,H3,I3,r3,k,e,q3⟩=>?_) hm
 subst e
 cases r3
 exact wpAny_truthy_bool ⟨H3,I3,q3⟩
noncomputable def CN(r r':R2)(ta tb tc:TE):TE:=λσ H Q=>ta σ H λx H1=>tb σ H1 λy H2=>r x y H2 λz H3=>∃k,z=.bl k /\
 (if k=true then tc σ H3 λw' H4=>r' y w' H4 Q else Q (.bl false) H3)
theorem abw(ho:aX X (compareOp op) r)(ho':aX X (compareOp op') r')(ha:PE X a ta)(hb:PE X b tb)(hc:PE X c tc)
  (hm:lastMarks [op,op'] [b,c]=false:=by with_unfolding_all rfl):PE X (.Compare a [op,op'] [b,c] pos) (CN r r' ta tb tc):=by
 refine⟨λpins s σ H Q I h=>?_⟩
 refine Compare_chain (aD (ha pins s σ H _ I h) λv s1 ⟨x,H1,I1,r1,q1⟩=>chain_link (aD (hb pins s1 σ H1 _ I1 q1) λu s2 ⟨y,H2,I2,r2,q2⟩ =>
  aD (ho pins s2 σ H2 x y v u _ I2 r1 r2 q2) λd s3 ⟨z,H3,I3,r3,k,e,q3⟩=>?_)) hm
 subst e
 cases r3
 refine wpAny_truthy_bool ?_
 cases k with
 |false=>exact ite_ff ⟨.bl false,H3,I3,rfl,q3⟩
 |true=>exact ite_tt (chain_last (aD (hc pins s3 σ H3 _ I3 q3) λw' s4 ⟨z',H4,I4,r4,q4⟩=>ho' pins s4 σ H4 y z' u w' Q I4 r2 r4 q4))
theorem abx(ho:aX X (compareOp op) r)(ho':aX X (compareOp op') r')(ha:PE X a ta)(hb:PE X b tb)(hc:PE X c tc)
  (hm:lastMarks [op,op'] [b,c]=false:=by with_unfolding_all rfl):PT X (.Compare a [op,op'] [b,c] pos) (mZ (CN r r' ta tb tc)):=by
 refine⟨λpins s σ H Q I h=>?_⟩
 refine isTrue_chain (aD (ha pins s σ H _ I h) λv s1 ⟨x,H1,I1,r1,q1⟩=>test_link (aD (hb pins s1 σ H1 _ I1 q1) λu s2 ⟨y,H2,I2,r2,q2⟩ =>
  aD (ho pins s2 σ H2 x y v u _ I2 r1 r2 q2) λd s3 ⟨z,H3,I3,r3,k,e,q3⟩=>?_)) hm
 subst e
 cases r3
 refine wpAny_truthy_bool ?_
 cases k with
 |false =>
  obtain⟨k',e',q'⟩:=q3
  cases e'
  exact ite_ff ⟨H3,I3,q'⟩
 |true =>
  refine ite_tt (test_last (aD (hc pins s3 σ H3 _ I3 q3) λw' s4 ⟨z',H4,I4,r4,q4⟩=>aD (ho' pins s4 σ H4 y z' u w' _ I4 r2 r4 q4) λd' s5 ⟨z2,H5,I5,r5,k2,e2,q5⟩=>?_))
  subst e2
  cases r5
  exact wpAny_truthy_bool ⟨H5,I5,q5⟩
noncomputable def CP(K:PySem.W.Frag)(x:V)(H:Hp)(k:Bool):Prop :=
 match x with
 |.non=>k=false
 |.bl b=>k=b
 |.int i=>k=(i != 0)
 |.str y=>y.length<=sizeLine/\k=((y.length:Int) != 0)
 |.tM y=>y.size<=sizeLine/\k=((y.size:Int) != 0)
 |.ref p=>(∃xs,aH K H p xs/\k = !xs.isEmpty)\/(∃xs,bw K H p xs/\k = !xs.isEmpty)
 |_=>False
theorem Mi{xs:List V}{its:List Value}(r:Vals xs its):(!its.toArray.isEmpty) = !xs.isEmpty:=by
 cases r <;> simp
theorem oV:(sizeLine:Nat)<2 ^ 63:=by rw[sizeLine_eq]; decide
theorem aby:abg X (λx H Q=>∃k,CP X.K x H k/\Q k H):=by
 intro pins s σ H x v Q I rx h
 obtain⟨k,e,q⟩:=h
 have hl:=oV
 have hs:sizeLine=16777216:=sizeLine_eq
 cases x with
 |non =>
  cases rx
  have e':k=false:=e
  subst e'
  exact truthy_none ⟨H,I,q⟩
 |bl b =>
  cases rx
  have e':k=b:=e
  subst e'
  exact wpAny_truthy_bool ⟨H,I,q⟩
 |int i =>
  obtain⟨t,rfl⟩:=rx
  have e':k=(i != 0):=e
  subst e'
  exact PySem.P.truthy_int ⟨H,I,q⟩
 |str y =>
  obtain⟨t,rfl⟩:=rx
  obtain⟨hy,e'⟩:y.length<=sizeLine/\k=((y.length:Int) != 0):=e
  subst e'
  exact PySem.P.truthy_str (by lia) ⟨H,I.tok _,q⟩
 |tM y =>
  obtain⟨t,rfl⟩:=rx
  obtain⟨hy,e'⟩:y.size<=sizeLine/\k=((y.size:Int) != 0):=e
  subst e'
  exact PySem.W.truthy_bytes (by lia) ⟨H,I.tok _,q⟩
 |ref p =>
  cases rx
  have e':(∃xs,aH X.K H p xs/\k = !xs.isEmpty)\/(∃xs,bw X.K H p xs/\k = !xs.isEmpty):=e
  rcases e' with⟨xs,hx,e'⟩|⟨xs,hx,e'⟩
  .subst e'
   obtain⟨its,r,pl,hz⟩:=I.list hx
   have hlen:=r.length
   exact wpAny_truthy_list pl.isList (by simp only[List.size_toArray]; lia) ⟨H,I.tok _,by rw[Mi r]; exact q⟩
  .subst e'
   obtain⟨its,r,pl,hz⟩:=I.tuple hx
   have hlen:=r.length
   exact truthy_tuple pl (by simp only[List.size_toArray]; lia) ⟨H,I.tok _,by rw[Mi r]; exact q⟩
 |_=>exact(show False from e).elim
theorem abz(ha:PE X a ta)(he:∀whole,isTrue a X.env whole=(do let v <-whole; standAt a.pos; holding [v] (truthy v))) :
  PT X a (λσ H Q=>ta σ H λx H'=>∃k,CP X.K x H' k/\Q k H'):=by
 refine⟨λpins s σ H Q I h=>?_⟩
 exact isTrue_plain (aD (ha pins s σ H _ I h) λv s1 ⟨x,H1,I1,r1,q1⟩=>aby pins s1 σ H1 x v Q I1 r1 q1) (he _)
theorem abA:aX X (binaryOp .Add) (λx y H Q=>∃i j,x=.str i/\y=.str j/\i.length+j.length<=sizeLine/\Q (.str (i++j)) H):=by
 intro pins s σ H x y v u Q I rx ry h
 obtain⟨i,j,rfl,rfl,hz,q⟩:=h
 obtain⟨t,rfl⟩:=rx
 obtain⟨t',rfl⟩:=ry
 exact add_str (λt' tk=>⟨.str (i++j),H,I.tok _,⟨_,rfl⟩,q⟩) hz
theorem vals1(r:Vals [x] us):∃u,us=[u]/\RelV x u:=by
 cases r with
 |cons r1 r2=>cases r2; exact⟨_,rfl,r1⟩
theorem vals2(r:Vals [x,y] us):∃u w',us=[u,w']/\RelV x u/\RelV y w':=by
 cases r with
 |cons r1 r2 =>
  cases r2 with
  |cons r3 r4=>cases r4; exact⟨_,_,rfl,r1,r3⟩
theorem abB:fD X (.builtin "abs") (λxs H Q=>∃i,xs=[.int i]/\Q (.int (if i<0 then -i else i)) H):=by
 intro pins s σ H xs us Q I r h
 obtain⟨i,rfl,q⟩:=h
 obtain⟨u,rfl,t,rfl⟩:=vals1 r
 exact call_abs_int λu tk=>⟨.int (if i<0 then -i else i),H,I.tok _,⟨_,rfl⟩,q⟩
theorem abC:fD X (.type "int") (λxs H Q=>(∃i,xs=[.int i]/\Q (.int i) H)\/∃k,xs=[.bl k]/\Q (.int (if k then 1 else 0)) H):=by
 intro pins s σ H xs us Q I r h
 rcases h with⟨i,rfl,q⟩|⟨k,rfl,q⟩
 .obtain⟨u,rfl,t,rfl⟩:=vals1 r
  exact call_int_int ⟨.int i,H,I,⟨_,rfl⟩,q⟩
 .obtain⟨u,rfl,r1⟩:=vals1 r
  cases r1
  exact call_int_bool ⟨.int (if k then 1 else 0),H,I.tok _,⟨_,rfl⟩,q⟩
end
structure dU(k:Nat)(A:Around):Prop where
 hd:A.handled=none
 dp:A.depth+3*k+5<recursionLimit
 un:A.units+16*k+200<cLine
 gd:A.guards=some []:=by rfl
theorem dU.mono(r:dU k A)(h:j<=k):dU j A:=⟨r.hd,by have:=r.dp; lia,by have:=r.un; lia,r.gd⟩
theorem dU.deeper(r:dU (k+1) A)(env:Env):dU k (A.deeper env) :=
 ⟨r.hd,by have:=r.dp; show A.depth+1+3*k+5<_; lia,by have:=r.un; show A.units+3+16*k+200<_; lia,r.gd⟩
theorem dU.depth(r:dU k A):A.depth<recursionLimit:=by have:=r.dp; lia
noncomputable def Mj:TA:=λ_ H Q=>Q [] H
noncomputable def CQ(ta:TE)(tr:TA):TA:=λσ H Q=>ta σ H λx H1=>tr σ H1 λxs H2=>Q (x::xs) H2
section
variable {X:Cx}{e:Expr}{es:List Expr}{te:TE}{t:TA}{pos:Pos}
theorem tY:PA X [] Mj:=⟨λ_ _ _ _ H Q I h=>Calls.spliced_nil ⟨[],H,I,.nil,h⟩⟩
theorem oW(ha:PE X e te)(hr:PA X es t)(hs:starEach (e::es) X.env=(false,eval e X.env)::starEach es X.env:=by rfl):PA X (e::es) (CQ te t):=by
 refine⟨λpos pins s σ H Q I h=>?_⟩
 rw[hs]
 show wpAny _ _ (spliced ((false,eval e X.env)::backTo pos (starEach es X.env))) _ _ s
 refine Calls.spliced_cons (aD (ha pins s σ H _ I h) λu s1 ⟨x,H1,I1,r1,q1⟩=>?_)
 exact aD (hr pos pins s1 σ H1 _ I1 q1) λus s2 ⟨xs,H2,I2,r2,q2⟩=>⟨x::xs,H2,I2,.cons r1 r2,q2⟩
noncomputable def abD(t:TA):TE:=λσ H Q=>t σ H λxs H1=>xs.length<=sizeLine/\∀p,H1 p=none->Q (.ref p) (upd H1 p (.tup xs))
noncomputable def abE(t:TA):TE:=λσ H Q=>t σ H λxs H1=>xs.length<=sizeLine/\∀p,H1 p=none->Q (.ref p) (upd H1 p (.lst xs))
theorem CT{x1}(h:PA X es t):PE X (.Tuple es x1 pos) (abD t):=by
 refine⟨λpins s σ H Q I hq=>?_⟩
 refine wpAny_Tuple_spliced (aD (h pos pins s σ H _ I hq) λus s1 ⟨xs,H1,I1,r,z,q⟩=>⟨by rw[<-r.length]; exact z,?_⟩)
 have hf:H1 s1.heap.objs.size=none:=I1.hok.fresh (Nat.le_refl _)
 refine⟨.ref s1.heap.objs.size,upd H1 s1.heap.objs.size (.tup xs),I1.laid (t':=s1.toks) (λb u e=>Heap.get?_push_of_some _ e) (Nat.le_refl _) ?_,rfl,q _ hf⟩
 exact⟨z,us,r,⟨_,Heap.get?_push_size _ rfl,rfl,_,rfl⟩⟩
theorem Ml(h:PA X es t):PE X (.List es pos) (abE t):=by
 refine⟨λpins s σ H Q I hq=>?_⟩
 refine wpAny_List_spliced (aD (h pos pins s σ H _ I hq) λus s1 ⟨xs,H1,I1,r,z,q⟩=>⟨by rw[<-r.length]; exact z,?_⟩)
 have hf:H1 s1.heap.objs.size=none:=I1.hok.fresh (Nat.le_refl _)
 refine⟨.ref s1.heap.objs.size,upd H1 s1.heap.objs.size (.lst xs),I1.laid (t':=s1.toks) (λb u e=>Heap.get?_push_of_some _ e) (Nat.le_refl _) ?_,rfl,q _ hf⟩
 exact⟨z,us,0,r,Heap.get?_push_size _ rfl⟩
end
noncomputable abbrev Sp:=List V->Hp->VK->XK->Prop
noncomputable abbrev gU:=List Env->Hp->Shared->XK->Value->Shared->Prop
structure wV(P:Program)(w:World)(K:PySem.W.Frag)(mg:Str->Option Value)(base:Heap)(A:Around)(outer:List Env)(s:Shared)(H:Hp):Prop where
 frames:A.frames=some outer
 mod:Mod K mg base
 bs:∀b o,base.get? b=some o->s.heap.get? b=some o/\H b=none
 mU:base.objs.size<=s.heap.objs.size
 jd:s.heap.FunFrames base outer
 oK:∀b∈frs outer,H b=none
 hok:cA P w H s.heap
 bare:AllBare s.gens
noncomputable def CE(outer:List Env)(P:Program)(w:World)(H:Hp)(s:Shared)(Q:VK)(u:Value)(s':Shared):Prop :=
 ∃v H',s'.os=s.os/\AllBare s'.gens/\Un (frs outer) [] H H' s.heap s'.heap/\cA P w H' s'.heap/\RelV v u/\Q v H'
noncomputable def CR(CX:gU)(outer:List Env)(P:Program)(w:World)(H:Hp)(s:Shared)(Q:VK)(E:XK)(r:Result)(s':Shared):Prop :=
 match r with
 |.ok (.ret u)=>CE outer P w H s Q u s'
 |.ok _=>False
 |.error e=>CX outer H s E e s'
structure iI(P:Program)(w:World)(K:PySem.W.Frag)(mg:Str->Option Value)(base:Heap)(CX:gU)(k:Nat)(f:Addr)(fd:FuncData)(ps:List Str)(sp:Sp):Prop where
 len:∀vs H Q E,sp vs H Q E->vs.length=ps.length
 run:∀(A:Around) (outer:List Env) (s:Shared) (H:Hp) (args:Args) (us:List Value) (vs:List V) (Q:VK) (E:XK),dU k A->wV P w K mg base A outer s H->BindsTo s fd args (ps.zip us)->Vals vs us->sp vs H Q E ->
  codeAny (model P w) A (.call (.ref f) args) (CR CX outer P w H s Q E) s
theorem iI.mono{P:Program}{w:World}{K:PySem.W.Frag}{mg:Str->Option Value}{base:Heap}{CX:gU}{j k:Nat}{f:Addr}{fd:FuncData}{ps:List Str}{sp:Sp}(F:iI P w K mg base CX j f fd ps sp)(h:j<=k) :
  iI P w K mg base CX k f fd ps sp:=⟨F.len,λA outer s H args us vs Q E hr=>F.run A outer s H args us vs Q E (hr.mono h)⟩
theorem iI.imp{P:Program}{w:World}{K:PySem.W.Frag}{mg:Str->Option Value}{base:Heap}{CX:gU}{k:Nat}{f:Addr}{fd:FuncData}{ps:List Str}{sp Mp:Sp}(F:iI P w K mg base CX k f fd ps sp)
  (h:∀vs H Q E,Mp vs H Q E->sp vs H Q E):iI P w K mg base CX k f fd ps Mp :=
 ⟨λvs H Q E q=>F.len vs H Q E (h _ _ _ _ q),λA outer s H args us vs Q E hr he hb hv hs=>F.run A outer s H args us vs Q E hr he hb hv (h _ _ _ _ hs)⟩
section
variable {X:Cx}{pins:List (Addr × Obj)}{σ : St}{H:Hp}{s s':Shared}
theorem Inv.env0(I:Inv X pins σ H s):wV X.prog X.w X.K X.mg X.base X.A X.stack s H :=
 ⟨I.ok.frames,I.ok.mod,I.bs,Nat.le_trans I.ok.mU I.sz,I.stack,I.wH,I.hok,I.bare⟩
theorem Inv.after(I:Inv X pins σ H s)(h:CE X.stack X.prog X.w H s Q u s'):EP X pins σ Q u s':=by
 obtain⟨v,H',os,bare,un,hok,r,q⟩:=h
 obtain⟨hh,g,d,t,os'⟩:=s'
 obtain rfl:os'=s.os:=os
 exact⟨v,H',I.call (h':=hh) (g':=g) (d':=d) (t':=t) (ch:=[]) un hok bare (λb z=>absurd z (by simp)),r,q⟩
end
noncomputable def Mq(sp:Sp)(m5:List V)(E:XK)(t:TA):TE:=λσ H Q=>t σ H λvs H1=>sp (vs++m5) H1 Q E
noncomputable def Binds(K:PySem.W.Frag)(fd:FuncData)(ps:List Str)(ds:List Value):Prop :=
 ∀(s:Shared) (us:List Value),K.In s.heap->(us++ds).length=ps.length->BindsTo s fd ⟨us,[]⟩ (ps.zip (us++ds))
theorem Binds.all{K:PySem.W.Frag}{fd:FuncData}{ps:List Str}(h:∀us:List Value,us.length=ps.length->bindArgs fd ⟨us,[]⟩=pure (ps.zip us)):Binds K fd ps []:=λs us _ hl=>by
 rw[List.append_nil]at hl ⊢
 exact .of_eq (h us hl)
noncomputable def Passes(CX:gU)(X:Cx)(E:XK):Prop:=∀(pins:List (Addr × Obj)) (σ : St) (H:Hp) (s:Shared) (e:Value) (s':Shared),Inv X pins σ H s->CX X.stack H s E e s'->X.xe e s'
section
variable {X:Cx}{CX:gU}{k:Nat}{f C:Addr}{fd:FuncData}{ps:List Str}{sp:Sp}{m5:List V}{ds:List Value}{E:XK}{x m:Str}{p pos apos:Pos}{e o:Expr}{es:List Expr}{ta:TE}{t:TA}
theorem abF(F:iI X.prog X.w X.K X.mg X.base CX k f fd ps sp)(hr:dU k X.A)(hb:Binds X.K fd ps ds)(hd:Vals m5 ds)(hx:Passes CX X E)
  (I:Inv X pins σ H s) (r:Vals vs us) (h:sp (vs++m5) H Q E):wpAny (model X.prog X.w) X.A (call (.ref f) us) (EP X pins σ Q) X.xe s:=by
 have r2:Vals (vs++m5) (us++ds):=r.append hd
 have hl:(us++ds).length=ps.length:=by rw[<-r2.length]; exact F.len _ _ _ _ h
 refine wpAny_call (codeAny_mono (F.run X.A X.stack s H ⟨us,[]⟩ (us++ds) (vs++m5) Q E hr I.env0 (hb s us I.gR hl) r2 h) λr s' hq=>?_)
 cases r with
 |error e=>exact hx pins σ H s e s' I hq
 |ok fl =>
  cases fl with
  |ret u=>exact I.after hq
  |next=>exact False.elim hq
  |brk=>exact False.elim hq
  |cont=>exact False.elim hq
theorem abG(F:iI X.prog X.w X.K X.mg X.base CX k f fd ps sp)(hr:dU k X.A)(hg:Gl X x)(hm:X.mg x=some (.ref f))(hk:PySem.W.keepIn X.K (.ref f)=true)(hb:Binds X.K fd ps ds)(hd:Vals m5 ds)(hx:Passes CX X E)
  (ha:PA X (e::es) t) (hdb:(x == ("__debug__" : Str))=false:=by decide) (he:starEach (e::es) X.env=(false,eval e X.env)::starEach es X.env:=by rfl) (hpl:(backTo pos (starEach es X.env)).any (·.1)=false:=by rfl) :
  PE X (.Call (.Name x p) (e::es) [] pos) (Mq sp m5 E t):=by
 refine⟨λpins s σ H Q I h=>?_⟩
 refine wpAny_Call_Name_kw (Cm I hg hm ?_ hdb)
 refine PySem.W.callWith_K (h₀ := X.base) I.ok.mod.Cj hk (aD (ha pos pins s σ H _ I h) λus s1 ⟨vs,H1,I1,r,q⟩=>⟨I1.gR,?_⟩) he hpl
 exact abF F hr hb hd hx I1 r q
end
structure qy(N P:List Str)(sc:Scope):Prop where
 kind:sc.kind=.function
 co:sc.isCoroutine=false
 gen:sc.isGenerator=false
 nd:N.Nodup
 pre:N.take P.length=P
 par:∀x∈P,sc.names.lookup x=some .local\/sc.names.lookup x=some .cell
 abH:∀y∈sc.names,y.2 ≠ .free
theorem Mr{kindOf:Str->Option NameKind}{x:Str}:∀{binds:List (Str × Value)} {m:Str->Option Value},(∀v,(x,v)∉binds)->bindL kindOf binds m x=m x
 | [],_,_=>rfl
 |(n,v)::r,m,h=>by
  unfold bindL
  rw[Mr λw hw=>h w (List.mem_cons_of_mem _ hw)]
  split
  .have:x≠n:=by rintro rfl; exact h v List.mem_cons_self
   simp[this]
  .rfl
theorem Ms{kindOf:Str->Option NameKind}{x:Str}:∀{binds:List (Str × Value)} {m:Str->Option Value},(∀v,(x,v)∉binds)->bindC kindOf binds m x=m x
 | [],_,_=>rfl
 |(n,v)::r,m,h=>by
  unfold bindC
  rw[Ms λw hw=>h w (List.mem_cons_of_mem _ hw)]
  split
  .rfl
  .have:x≠n:=by rintro rfl; exact h v List.mem_cons_self
   simp[this]
theorem Mt{kindOf:Str->Option NameKind}{x:Str}{v:Value}:∀{P:List Str} {vs:List Value} {i:Nat} {m:Str->Option Value},P.Nodup->P[i]?=some x->vs[i]?=some v->kindOf x=some .local ->
  bindL kindOf (P.zip vs) m x=some v
 | [],_,_,_,_,h,_,_=>by simp at h
 |_::_,[],_,_,_,_,h,_=>by simp at h
 |p::P,w::vs,0,m,nd,h1,h2,hk=>by
  simp at h1 h2; subst h1; subst h2
  show bindL kindOf ((p,w)::P.zip vs) m p=_
  unfold bindL
  rw[Mr λv hv=>(List.nodup_cons.mp nd).1 (List.of_mem_zip hv).1,if_pos hk]
  simp
 |p::P,w::vs,i+1,m,nd,h1,h2,hk=>by
  show bindL kindOf ((p,w)::P.zip vs) m x=_
  unfold bindL
  exact Mt (i:=i) (List.nodup_cons.mp nd).2 (by simpa using h1) (by simpa using h2) hk
theorem Mv{kindOf:Str->Option NameKind}{x:Str}{v:Value}:∀{P:List Str} {vs:List Value} {i:Nat} {m:Str->Option Value},P.Nodup->P[i]?=some x->vs[i]?=some v->kindOf x≠some .local ->
  bindC kindOf (P.zip vs) m x=some v
 | [],_,_,_,_,h,_,_=>by simp at h
 |_::_,[],_,_,_,_,h,_=>by simp at h
 |p::P,w::vs,0,m,nd,h1,h2,hk=>by
  simp at h1 h2; subst h1; subst h2
  show bindC kindOf ((p,w)::P.zip vs) m p=_
  unfold bindC
  rw[Ms λv hv=>(List.nodup_cons.mp nd).1 (List.of_mem_zip hv).1,if_neg hk]
  simp
 |p::P,w::vs,i+1,m,nd,h1,h2,hk=>by
  show bindC kindOf ((p,w)::P.zip vs) m x=_
  unfold bindC
  exact Mv (i:=i) (List.nodup_cons.mp nd).2 (by simpa using h1) (by simpa using h2) hk
noncomputable def start(N:List Str)(vs:List V):St:=vs.map some++List.replicate (N.length-vs.length) none
noncomputable def iJ(CX:gU)(P:Program)(w:World)(K:PySem.W.Frag)(mg:Str->Option Value)(base:Heap)(N:List Str)(qual:Str)(scope:Scope)(f:Addr)(cd:Value)(A:Around)(outer:List Env)(s:Shared)(H:Hp)(E:XK):Cx where
 prog:=P
 w:=w
 K:=K
 mg:=mg
 base:=base
 A:=A.deeper (envOfC qual scope s.heap.objs.size f cd)
 N:=N
 s₀ := s
 H₀ := H
 env:=envOfC qual scope s.heap.objs.size f cd
 outer:=outer
 stack:=envOfC qual scope s.heap.objs.size f cd::outer
 ex:=[]
 calm:=true
 fn:=λ_=>true
 pn:=[]
 xe:=λe s'=>wpAny (model P w) (A.deeper (envOfC qual scope s.heap.objs.size f cd)) (leaving (envOfC qual scope s.heap.objs.size f cd) e) (λ_ s''=>CX outer H s E e s'') (λe' s''=>CX outer H s E e' s'') s'
theorem Mw{sc:Scope}{n:Nat}{x:Str}(h:sc.names.lookup x=some .cell):∃c,(cellsFrom n sc.names []).lookup x=some c:=by
 have q:=PySem.W.cellsFrom_some sc.names n [] (.inl h)
 exact Option.isSome_iff_exists.mp q
theorem abI{CX:gU}{P:Program}{w:World}{K:PySem.W.Frag}{mg:Str->Option Value}{base:Heap}{N ps:List Str}{qual:Str}{scope:Scope}{f:Addr}{cd:Value}{A:Around}{outer:List Env}{s s1:Shared}{H:Hp}{E:XK}{us:List Value}{vs:List V}
  (S:qy N ps scope) (hd:A.handled=none) (e0:wV P w K mg base A outer s H) (hl:vs.length=ps.length) (r:Vals vs us)
  (x:InCallC s s.heap.objs.size (bindL (envOfC qual scope s.heap.objs.size f cd).kindOf (ps.zip us) λ_=>none) (cellsFrom (s.heap.objs.size+1) scope.names []) (bindC (envOfC qual scope s.heap.objs.size f cd).kindOf (ps.zip us) λ_=>none) s1) :
  Inv (iJ CX P w K mg base N qual scope f cd A outer s H E) [] (start N vs) H s1:=by
 have hpl:ps.length<=N.length:=by have:=congrArg List.length S.pre; rw[List.length_take]at this; lia
 obtain⟨h1,tk,rfl,hk⟩:=x.done
 have tZ:∀b:Addr,b∉(iJ CX P w K mg base N qual scope f cd A outer s H E).ex:=λb z=>absurd (show b∈([]:List Addr)from z) (by simp)
 refine⟨⟨e0.mod,S.kind,rfl,rfl,Nat.le_refl _,λy z c h1 h2=>?_,λy hy=>?_,λy c _ h=>?_,λ_=>hd,Around.frames_deeper e0.frames,.inr ⟨rfl,rfl⟩,λb z=>absurd z (tZ b),e0.bs,e0.mU,λb _ _=>tZ b,λb z=>absurd z (tZ b),e0.jd,e0.oK⟩,
  rfl,e0.bare,Un.kept hk,⟨_,x.toInCall.ns,λi y v h1 h2 h3=>?_⟩,λy c h=>⟨_,x.cell y c h⟩,e0.hok.fresh (Nat.le_refl _),λy c h=>?_,λp hp=>absurd (show p∈([]:List (Addr × Obj))from hp) (by simp),e0.hok.kept hk,?_⟩
 .exact name_of_addr x.apart (PySem.mem_of_lookup h1) (PySem.mem_of_lookup h2)
 .have hy:scope.names.lookup y=some .cell\/scope.names.lookup y=some .free:=hy
  rcases hy with hy|hy
  .exact Mw hy
  .exact absurd rfl (S.abH _ (PySem.mem_of_lookup hy))
 .exact Nat.le_of_lt (x.above y c (PySem.mem_of_lookup h))
 .have hi:i<vs.length:=by
   unfold start at h2
   by_cases hi:i<vs.length
   .exact hi
   .rw[List.getElem?_append_right (by simpa using hi)]at h2
    rw[List.getElem?_replicate]at h2
    split at h2 <;> cases h2
  have ha:vs[i]?=some v:=by
   unfold start at h2
   rw[List.getElem?_append_left (by simpa using hi),List.getElem?_map]at h2
   cases e:vs[i]? with
   |none=>rw[e]at h2; cases h2
   |some a=>rw[e]at h2; cases h2; rfl
  obtain⟨u,hu,rv⟩:=r.get ha
  have hp:ps[i]?=some y:=by
   rw[<-S.pre,List.getElem?_take_of_lt (by lia)]; exact h1
  have Mx:ps.Nodup:=by rw[<-S.pre]; exact S.nd.sublist (List.take_sublist _ _)
  refine⟨u,rv,?_⟩
  rcases S.par y (List.mem_of_getElem? hp)with k|k
  .exact .inl ⟨k,Mt Mx hp hu k⟩
  .obtain⟨c,e⟩:=Mw (n:=s.heap.objs.size+1) k
   refine .inr ⟨.inl k,c,e,?_⟩
   have q:=x.cell y c e
   rw[Mv Mx hp hu (by show scope.names.lookup y≠_; rw[k]; decide)]at q
   exact q
 .exact e0.hok.fresh (Nat.le_of_lt (x.above y c (PySem.mem_of_lookup h)))
 .unfold start
  show _=N.length
  rw[List.length_append,List.length_map,List.length_replicate]
  lia
theorem Mz{CX:gU}{P:Program}{w:World}{K:PySem.W.Frag}{mg:Str->Option Value}{base:Heap}{k:Nat}{f:Addr}{name qual:Str}{params:Arguments}{body:List Stmt}{scope:Scope}{dV kV doc pm cdv ct oc:Value}{an od:Option Addr}
  {osl:Array (Option Value)} {N ps:List Str} {sp:Sp} (lk:K.lookup f=some ⟨oc,od,.func (PySem.W.fnOf name qual params body scope dV kV doc pm an cdv ct),osl⟩) (hcd:PySem.W.codeIn K cdv qual=true) (S:qy N ps scope)
  (len:∀vs H Q E,sp vs H Q E->vs.length=ps.length)
  (hbody:∀(A:Around) (outer:List Env) (s:Shared) (H:Hp) (vs:List V) (Q:VK) (E:XK),dU k (A.deeper (envOfC qual scope s.heap.objs.size f cdv))->sp vs H Q E ->
   ∃t,eV (iJ CX P w K mg base N qual scope f cdv A outer s H E) body t/\t {nx:=λ_ H'=>Q .non H',rt:=Q } (start N vs) H) :
  iI P w K mg base CX (k+1) f (PySem.W.fnOf name qual params body scope dV kV doc pm an cdv ct) ps sp:=by
 refine⟨len,λA outer s H args us vs Q E hr e0 hb r hsp=>?_⟩
 have hl:=len _ _ _ _ hsp
 have KX:K.In s.heap:=e0.mod.Cj.keeps λb o e=>(e0.bs b o e).1
 have lim:s.heap.NoLimit:=e0.mod.nolimit.keeps λb o e=>(e0.bs b o e).1
 have hkind:∀y∈ps.zip us,scope.names.lookup y.1=some .local\/(scope.names.lookup y.1=some .cell/\((cellsFrom (s.heap.objs.size+1) scope.names []).lookup y.1).isSome=true):=λ⟨n,v⟩ hy=>by
  rcases S.par n (List.of_mem_zip hy).1 with q|q
  .exact .inl q
  .exact .inr ⟨q,PySem.W.cellsFrom_some _ _ _ (.inl q)⟩
 refine codeAny_call_function hr.depth (KX _ _ lk) rfl S.co S.gen rfl (PySem.W.codeRec_of KX hcd) (hb _ _ _ _ ?_)
 refine wpAny_newFunctionEnv_cells S.kind hkind λenv he s1 x=>?_
 subst he
 refine⟨lim.keeps x.toInCall.keep,codeAny_func ?_⟩
 obtain⟨t,ht,hq⟩:=hbody A outer s H vs Q E (hr.deeper _) hsp
 have I:Inv (iJ CX P w K mg base N qual scope f cdv A outer s H E) [] (start N vs) H s1:=abI S hr.hd e0 hl r x
 refine wpAny_mono (ht [] s1 (start N vs) H _ I hq) (λfl s' hs=>?_) λe s' hs=>hs
 have fin:∀{σ':St} {H':Hp} {v:V} {u:Value},Inv (iJ CX P w K mg base N qual scope f cdv A outer s H E) [] σ' H' s'->RelV v u->Q v H'->CE outer P w H s Q u s' :=
  λ{σ' H' v u} J rv q=>⟨v,H',J.os,J.bare,J.base,J.hok,rv,q⟩
 cases fl with
 |ret u =>
  obtain⟨v,σ',H',J,rv,q⟩:=hs
  exact fin J rv q
 |next =>
  obtain⟨σ',H',J,q⟩:=hs
  exact fin (v:=V.non) (u:=Value.none) J rfl q
 |brk =>
  obtain⟨_,_,_,q⟩:=hs
  exact False.elim q
 |cont =>
  obtain⟨_,_,_,q⟩:=hs
  exact False.elim q
section
variable {X:Cx}{x:Str}{p pos:Pos}{e:Expr}{es:List Expr}{t:TA}{id T:String}{r:List V->Hp->VK->Prop}
noncomputable def wW(r:List V->Hp->VK->Prop)(t:TA):TE:=λσ H Q=>t σ H λvs H1=>r vs H1 Q
theorem MF(hc:fD X (.builtin id) r)(hg:Gl X x)(hm:X.mg x=none)(hv:bootBuiltins x=some (.builtin id))(ha:PA X (e::es) t)(hn:x ≠ "__name__" := by decide) (hdb:(x == ("__debug__" : Str))=false:=by decide)
  (he:starEach (e::es) X.env=(false,eval e X.env)::starEach es X.env:=by rfl) (hpl:(backTo pos (starEach es X.env)).any (·.1)=false:=by rfl):PE X (.Call (.Name x p) (e::es) [] pos) (wW r t):=by
 refine⟨λpins s σ H Q I h=>?_⟩
 refine wpAny_Call_Name_kw (jB I hg hm hv ?_ hn hdb)
 exact PyProof.Rows.callWith_builtin1 (aD (ha pos pins s σ H _ I h) λus s1 ⟨vs,H1,I1,r1,q1⟩=>hc pins s1 σ H1 vs us Q I1 r1 q1) he hpl
theorem abJ(hc:fD X (.type T) r)(hg:Gl X x)(hm:X.mg x=none)(hv:bootBuiltins x=some (.type T))(ha:PA X (e::es) t)(hn:x ≠ "__name__" := by decide) (hdb:(x == ("__debug__" : Str))=false:=by decide)
  (he:starEach (e::es) X.env=(false,eval e X.env)::starEach es X.env:=by rfl) (hpl:(backTo pos (starEach es X.env)).any (·.1)=false:=by rfl):PE X (.Call (.Name x p) (e::es) [] pos) (wW r t):=by
 refine⟨λpins s σ H Q I h=>?_⟩
 refine wpAny_Call_Name_kw (jB I hg hm hv ?_ hn hdb)
 exact PyProof.Rows.callWith_type1 (aD (ha pos pins s σ H _ I h) λus s1 ⟨vs,H1,I1,r1,q1⟩=>hc pins s1 σ H1 vs us Q I1 r1 q1) he hpl
end
end L2
namespace HT
open PySem PyProof.Rows
noncomputable def lexLt:List Int->List Int->Bool
 | [],[]=>false
 | [],_::_=>true
 |_::_,[]=>false
 |x::xs,y::ys=>if x=y then lexLt xs ys else decide (x<y)
theorem abK(x y:Int)(xs ys:List Int):lexLt (x::xs) (y::ys)=if x=y then lexLt xs ys else decide (x<y):=rfl
theorem abL:lexLt [] []=false:=rfl
theorem abM(y:Int)(ys:List Int):lexLt [] (y::ys)=true:=rfl
theorem abN(x:Int)(xs:List Int):lexLt (x::xs) []=false:=rfl
theorem abO(A:Around)(s:Shared)(a:Int)(t:Tok)(c:Int)(u:Tok):∃e,SeqAt.EqAt A s (.int a t) (.int c u) e/\(e=true↔a=c) :=
 ⟨(a == c),SeqAt.EqAt.int_int a t c u,by simp⟩
theorem abP(A:Around)(s:Shared)(a:Int)(t:Tok)(c:Int)(u:Tok)(prog:Program)(w:World)(E:Value->Shared->Prop)(Q:Value->Shared->Prop)(h:Q (.bool (decide (a<c))) s) :
  wpAny (model prog w) A (richCompare .Lt (.int a t) (.int c u)) Q E s :=
 (PyProof.Rows.lt_int h:wpAny (model prog w) A (compareOp .Lt (.int a t) (.int c u)) Q E s)
section
open PySem.SeqAt
open PySem.AutoSeq1 (wpAny_loadPart')
open PySem.MeetsSeq PySem.MeetsSeq2 PySem.MeetsSeq3
theorem abQ(l b:Addr)(items items2:Array Value)(n n2:Nat)(dd dd2:Option Addr)(sl sl2:Array (Option Value))(ns ms:List Int)(hi:IntsAre items.toList ns)(hj:IntsAre items2.toList ms) :
  Meets (Builtin.«tuple.__lt__» ⟨[.ref l,.ref b],[]⟩)
   (λ_ R s=>s.heap.get? l=some {cls:=.type "tuple",dict:=dd,data:=.seq items n,slots:=sl }∧s.heap.get? b=some {cls:=.type "tuple",dict:=dd2,data:=.seq items2 n2,slots:=sl2 } ∧
    R (.ok (.ret (.bool (lexLt ns ms)))) s) :=
 .of_wp λprog w A R s h=>by
  obtain⟨hp,g,d,tk,os⟩:=s; obtain⟨hl,hb,h⟩:=h
  have f2:=AutoSeq1.sub_tuple_tuple
  have z1:items.size=ns.length:=by rw[<-hi.length]; simp
  have z2:items2.size=ms.length:=by rw[<-hj.length]; simp
  wp_walk using wpAny_loadPart' hl,wpAny_loadPart' hb,wpAny_forIn_list _ (λrest b s'=>b.1=none/\s'=⟨hp,g,d,tk,os⟩/\∃(vs ws:List Value) (ns' qz:List Int),rest=vs.zip ws /\
   IntsAre vs ns'/\IntsAre ws qz/\ns'.length+items2.size=qz.length+items.size/\R (.ok (.ret (.bool (lexLt ns' qz)))) ⟨hp,g,d,tk,os⟩) _
  case turn =>
   rintro⟨y,x⟩ rest b s' ⟨hb',rfl,vs,ws,ns',qz,hz,CV,hwi,hlen,hR⟩
   cases CV with
   |nil=>rw[List.zip_nil_left]at hz; cases hz
   |cons a t abR =>
    cases hwi with
    |nil=>rw[List.zip_nil_right]at hz; cases hz
    |cons c u abS =>
     rw[List.zip_cons_cons]at hz
     injection hz with hyx hrest
     injection hyx with hy hx
     subst hy hx
     rw[abK]at hR
     simp only[List.length_cons]at hlen
     obtain⟨e,he,hiff⟩:=abO A.in1 ⟨hp,g,d,tk,os⟩ a t c u
     refine wpAny_bind (he prog w _ _ ?_)
     cases e with
     |true =>
      rw[if_pos (hiff.mp rfl)]at hR
      wp_walk
      exact⟨rfl,rfl,_,_,_,_,hrest,abR,abS,by lia,hR⟩
     |false =>
      rw[if_neg (λq=>absurd (hiff.mpr q) Bool.false_ne_true)]at hR
      have hri:=abP A.in1 ⟨hp,g,d,tk,os⟩ a t c u prog w
      wp_walk using hri
      exact⟨_,rfl,by simpa using hR⟩
  case fin =>
   rintro⟨b1,b2⟩ s' ⟨hb',rfl,vs,ws,ns',qz,hz,CV,hwi,hlen,hR⟩
   simp only at hb'
   subst hb'
   have hv:lexLt ns' qz=decide (items.size<items2.size):=by
    cases CV with
    |nil =>
     cases hwi with
     |nil =>
      simp only[List.length_nil]at hlen
      rw[abL]
      exact(decide_eq_false (by lia)).symm
     |cons c u hw =>
      simp only[List.length_nil,List.length_cons]at hlen
      rw[abM]
      exact(decide_eq_true (by lia)).symm
    |cons a t hv =>
     cases hwi with
     |nil =>
      simp only[List.length_nil,List.length_cons]at hlen
      rw[abN]
      exact(decide_eq_false (by lia)).symm
     |cons c u hw =>
      rw[List.zip_cons_cons]at hz
      cases hz
   rw[hv]at hR
   wp_walk
   exact⟨_,rfl,by simpa[Builtin.Tuple.tupleCompareSizes]using hR⟩
  case h =>
   exact⟨rfl,rfl,items.toList,items2.toList,ns,ms,rfl,hi,hj,by lia,h⟩
end
section
variable {prog:Program}{w:World}{A:Around}{E:Value->Shared->Prop}{s:Shared}
theorem abT(hl:IsTup s.heap l items)(hb:IsTup s.heap b items2)(hi:IntsAre items.toList ns)(hj:IntsAre items2.toList ms)
  (hu:A.units<cLine) (h:Q (.bool (lexLt ns ms)) s):wpAny (model prog w) A (compareOp .Lt (.ref l) (.ref b)) Q E s:=by
 obtain⟨⟨cls,dd,data,sl⟩,ho,hc,n,hd⟩:=id hl
 obtain⟨⟨cls2,dd2,data2,sl2⟩,ho2,hc2,n2,hd2⟩:=id hb
 simp only at hc hd hc2 hd2
 subst hc hd hc2 hd2
 exact richCompare_meets_room (op:=.Lt) ⟨_,ho,rfl⟩ ⟨_,ho2,rfl⟩ PySem.F.slot_tuple_lt PySem.F.entry_tuple_lt (PySem.F.args_tuple_lt_2 _ _) (abQ l b items items2 n n2 dd dd2 sl sl2 ns ms hi hj)
  ⟨ho,ho2,show Value.bool (lexLt ns ms)≠Value.notImplemented/\Q (.bool (lexLt ns ms)) s from⟨(λx=>nomatch x),h⟩⟩ hu
theorem abU(ht:IsTup s.heap t vs.toArray)(hb:IsTup s.heap b ws.toArray)(hv:vs≠[])
  (h1:ws=[]->Q (.ref t) s) (h2:ws≠[]->Q (.ref s.heap.objs.size) {s with heap:=s.heap.push {cls:=.type "tuple",data:=.seq (vs++ws).toArray } })
  (hsz:vs.length+ws.length<=sizeLine):wpAny (model prog w) A (binaryOp .Add (.ref t) (.ref b)) Q E s:=by
 obtain⟨⟨cls,dd,data,sl⟩,ho,hc,n,hd⟩:=id ht
 obtain⟨⟨cls2,dd2,data2,sl2⟩,ho2,hc2,n2,hd2⟩:=id hb
 simp only at hc hd hc2 hd2
 subst hc hd hc2 hd2
 have e:vs.toArray++ws.toArray=(vs++ws).toArray:=by simp
 by_cases hw:ws=[]
 .exact concat_meets ⟨_,ho,rfl⟩ ⟨_,ho2,rfl⟩ noFill_tuple_add seq_tuple_add PySem.F.slot_tuple_add PySem.F.entry_tuple_add (PySem.F.args_tuple_add_2 _ _)
   (tuple_addW1 t b vs.toArray ws.toArray n n2 dd dd2 sl sl2 (by simpa using hv) (by simp[hw])) ⟨ho,ho2,h1 hw⟩
 .refine concat_meets ⟨_,ho,rfl⟩ ⟨_,ho2,rfl⟩ noFill_tuple_add seq_tuple_add PySem.F.slot_tuple_add PySem.F.entry_tuple_add (PySem.F.args_tuple_add_2 _ _)
   (tuple_addW2 t b vs.toArray ws.toArray n n2 dd dd2 sl sl2 (by simpa using hv) (by simpa using hw) (by rw[List.size_toArray,List.size_toArray]; exact hsz)) ⟨ho,ho2,?_⟩
  rw[e]
  exact h2 hw
noncomputable def aP(n d:Nat):Option Int->Nat
 |none=>d
 |some v=>if v<0 then(v+(n:Int)).toNat else min v.toNat n
theorem abV(n d:Nat)(hd:d<=n)(o:Option Int):aP n d o<=n:=by
 cases o with
 |none=>exact hd
 |some v =>
  show(if v<0 then(v+(n:Int)).toNat else min v.toNat n)<=n
  by_cases hv:v<0
  .rw[if_pos hv]; lia
  .rw[if_neg hv]; exact Nat.min_le_right _ _
theorem MJ(v:Int)(n d:Nat):(if v<0 then max (v+(n:Int)) 0 else min v (n:Int))=((aP n d (some v):Nat):Int):=by
 show(if v<0 then max (v+(n:Int)) 0 else min v (n:Int))=(((if v<0 then(v+(n:Int)).toNat else min v.toNat n):Nat):Int)
 by_cases hv:v<0
 .simp only[if_pos hv]; lia
 .simp only[if_neg hv]; lia
theorem abW(lo hi:Option Int)(n:Nat):Builtin.Slice.sliceAdjust lo hi 1 (n:Int)=(((aP n 0 lo:Nat):Int),((aP n n hi:Nat):Int)):=by
 have h1:¬((1:Int)<0):=by lia
 unfold Builtin.Slice.sliceAdjust
 simp only[h1,if_false]
 refine Prod.ext ?_ ?_
 .cases lo with
  |none=>rfl
  |some v=>exact MJ v n 0
 .cases hi with
  |none=>rfl
  |some v=>exact MJ v n n
theorem abX(i j:Nat):Builtin.Slice.slicePlaces (i:Int) (j:Int) 1=j-i:=by
 unfold Builtin.Slice.slicePlaces
 have h1:(1:Int) > 0:=by lia
 simp only[h1,if_true,Int.ediv_one]
 split <;> lia
theorem MK(p:IsPart v o)(h:Q o s):wpAny (model prog w) A (Builtin.Slice.slicePartIndex v) Q E s:=by
 cases p with
 |none=>exact slicePart_none h
 |int i t=>exact slicePart_int h
theorem abY{sl:Addr}{vl vu:Value}{lo hi:Option Int}{n:Nat}{Q:Int × Int × Nat->Shared->Prop}(hs:s.heap.IsSliceOf sl vl vu .none)(pl:IsPart vl lo)(pu:IsPart vu hi)
  (h:Q (((aP n 0 lo:Nat):Int),1,aP n n hi-aP n 0 lo) s):wpAny (model prog w) A (Builtin.Slice.sliceApplied (.ref sl) (pure (n:Int))) Q E s:=by
 obtain⟨os,hos,hcs,hds⟩:=id hs
 unfold Builtin.Slice.sliceApplied Builtin.Slice.sliceFields
 refine wpAny_bind (wpAny_bind (wpAny_field hos hds (x:=vl) rfl (wpAny_bind (wpAny_field hos hds (x:=vu) rfl (wpAny_bind (wpAny_field hos hds (x:=.none) rfl (wpAny_pure ?_)))))))
 refine wpAny_bind (slicePart_none ?_)
 show wpAny _ _ (if((1:Int) == 0)=true then _ else _) _ _ s
 rw[if_neg (by decide)]
 refine wpAny_bind (MK pl (wpAny_bind (MK pu (wpAny_bind (wpAny_pure ?_)))))
 show wpAny _ _ (match Builtin.Slice.sliceAdjust lo hi 1 (n:Int)with|(lo,hi)=>pure (lo,(1:Int),Builtin.Slice.slicePlaces lo hi 1)) _ _ s
 rw[abW lo hi n]
 show wpAny _ _ (pure (((aP n 0 lo:Nat):Int),(1:Int),Builtin.Slice.slicePlaces ((aP n 0 lo:Nat):Int) ((aP n n hi:Nat):Int) 1)) _ _ s
 rw[abX]
 exact wpAny_pure h
theorem abZ(xs:Array Value)(i k:Nat):((List.range k).filterMap λ(m:Nat)=>xs[((i:Int)+(m:Int)*1).toNat]?).toArray=((xs.toList.drop i).take k).toArray:=by
 have e:(λ(m:Nat)=>xs[((i:Int)+(m:Int)*1).toNat]?)=λm=>xs[i+m]? := by
  funext m
  have:((i:Int)+(m:Int)*1).toNat=i+m:=by lia
  rw[this]
 rw[e]
 have:=pick_run xs i k
 rw[List.filterMap_map]at this
 have e2:((λx=>xs[x]?) ∘ λx=>i+x)=λm=>xs[i+m]? := rfl
 rw[e2]at this
 rw[this]
theorem ab0{t sl:Addr}{items:Array Value}{vl vu:Value}{lo hi:Option Int}{Q:Value->Shared->Prop}(ht:IsTup s.heap t items)(hs:s.heap.IsSliceOf sl vl vu .none)(pl:IsPart vl lo)(pu:IsPart vu hi)
  (hw:¬(aP items.size 0 lo=0/\aP items.size items.size hi=items.size))
  (h:Q (.ref s.heap.objs.size) {s with heap:=s.heap.push {cls:=.type "tuple",data:=.seq ((items.toList.drop (aP items.size 0 lo)).take (aP items.size items.size hi-aP items.size 0 lo)).toArray } })
  (hsz:items.size<=sizeLine):wpAny (model prog w) A (getItem (.ref t) (.ref sl)) Q E s:=by
 have wX:sizeOk (.seq ((items.toList.drop (aP items.size 0 lo)).take (aP items.size items.size hi-aP items.size 0 lo)).toArray):=by
  show((items.toList.drop (aP items.size 0 lo)).take (aP items.size items.size hi-aP items.size 0 lo)).toArray.size<=sizeLine
  rw[List.size_toArray,List.length_take,List.length_drop,Array.length_toList]
  lia
 have hj:aP items.size items.size hi<=items.size:=abV _ _ (Nat.le_refl _) hi
 obtain⟨os,hos,hcs,hds⟩:=id hs
 have hTs:s.TypeIs (.ref sl) "slice" := ⟨os,hos,hcs⟩
 unfold getItem
 try with_reducible refine wpAny_holding ?_
 first|refine wpAny_bind (wpAny_pure ?_)|skip
 refine wpAny_bind (wpAny_sequenceKey ht.typeIs (by decide) ?_)
 refine wpAny_bind (wpAny_callSpecial?_slot (name:=Str.ofString "__getitem__") ht.typeIs PyProof.Rows.slot_tuple_getitem
  (wpAny_call_entry PyProof.Rows.slot_tuple_getitem ht.typeIs entry_tuple_getitem ?_ (args_tuple_getitem _ _)))
 show wpAny _ _ (Builtin.Tuple.tupleItemsOf (.ref t) >>= _) _ _ s
 refine wpAny_bind (tupleItemsOf_ ht ?_)
 refine wpAny_bind (wpAny_typeOf hTs ?_)
 rw[if_pos (by decide)]
 refine wpAny_bind (abY hs pl pu ?_)
 have hno:¬((((aP items.size 0 lo:Nat):Int) == 0&&(1:Int) == 1&&(aP items.size items.size hi-aP items.size 0 lo) == items.size)=true):=by
  intro q
  rw[Bool.and_eq_true,Bool.and_eq_true]at q
  have q1:((aP items.size 0 lo:Nat):Int)=0:=eq_of_beq q.1.1
  have q2:aP items.size items.size hi-aP items.size 0 lo=items.size:=eq_of_beq q.2
  exact hw ⟨by lia,by lia⟩
 show wpAny _ _ (if(((aP items.size 0 lo:Nat):Int) == 0&&(1:Int) == 1&&(aP items.size items.size hi-aP items.size 0 lo) == items.size)=true then _ else _) _ _ s
 rw[if_neg hno,abZ]
 first
  |exact wpAny_bind (m:=Builtin.Tuple.tupleExact _) (wpAny_newObj_type (wpAny_pure ⟨_,rfl,wpAny_pure h⟩) wX)
  |exact wpAny_bind (m:=Builtin.Tuple.tupleExact _) (wpAny_newObj_type (wpAny_bind (wpAny_pure (wpAny_pure ⟨_,rfl,wpAny_pure h⟩))) wX)
  |exact wpAny_bind (wpAny_bind (m:=Builtin.Tuple.tupleExact _) (wpAny_newObj_type (wpAny_pure (wpAny_pure ⟨_,rfl,wpAny_pure h⟩)) wX))
  |exact wpAny_bind (wpAny_bind (m:=Builtin.Tuple.tupleExact _) (wpAny_newObj_type (wpAny_pure ⟨_,rfl,wpAny_pure h⟩) wX))
end
end HT
namespace L2
open PySem PySem.Spec PyProof.Rows
noncomputable abbrev TO:=St->Hp->(Option Int->Hp->Prop)->Prop
noncomputable def PO(X:Cx)(e:Option Expr)(t:TO):Prop :=
 ∀(pins:List (Addr × Obj)) (s:Shared) (σ : St) (H:Hp) (Q:Option Int->Hp->Prop),Inv X pins σ H s->t σ H Q ->
  wpAny (model X.prog X.w) X.A (evalPart e X.env) (λu s'=>∃o H',Inv X pins σ H' s'/\IsPart u o/\Q o H') X.xe s
noncomputable def ab1:TO:=λ_ H Q=>Q none H
noncomputable def ab2(t:TE):TO:=λσ H Q=>t σ H λx H1=>∃i,x=.int i/\Q (some i) H1
theorem intsAre_of:∀{us:List Value},Vals (ns.map V.int) us->IntsAre us ns:=by
 induction ns with
 |nil=>intro us r; rw[List.map_nil]at r; cases r; exact .nil
 |cons n ns ih =>
  intro us r
  rw[List.map_cons]at r
  cases r with
  |cons r1 r2 =>
   obtain⟨t,e⟩:=r1
   subst e
   exact .cons n t (ih r2)
section
variable {X:Cx}{e:Expr}{te:TE}{lo hi:Option Expr}{tl th:TO}{pos p2:Pos}
theorem ab3:PO X none ab1:=by
 intro pins s σ H Q I h
 rw[evalPart_none]
 exact wpAny_pure ⟨none,H,I,.none,h⟩
theorem ab4(h:PE X e te):PO X (some e) (ab2 te):=by
 intro pins s σ H Q I hw
 rw[evalPart_some]
 refine aD (h pins s σ H _ I hw) λu s1 ⟨x,H1,I1,r1,q1⟩=>?_
 obtain⟨i,rfl,q⟩:=q1
 obtain⟨t,rfl⟩:=r1
 exact⟨some i,H1,I1,.int i t,q⟩
noncomputable def lE(X:Cx)(r:V->Option Int->Option Int->Hp->VK->Prop):Prop :=
 ∀(pins:List (Addr × Obj)) (s:Shared) (σ : St) (H:Hp) (x:V) (v vl vu:Value) (lo hi:Option Int) (sl:Addr) (Q:VK),Inv X pins σ H s->RelV x v->s.heap.IsSliceOf sl vl vu .none->IsPart vl lo->IsPart vu hi->r x lo hi H Q ->
  ∃T id,typeLookup (.type T) "__getitem__" = pure (some (.builtin id))/\s.TypeIs v T/\wpAny (model X.prog X.w) X.A (getItem v (.ref sl)) (EP X pins σ Q) X.xe s
theorem lE.or(h:lE X r)(h':lE X r'):lE X (λx lo hi H Q=>r x lo hi H Q\/r' x lo hi H Q):=by
 intro pins s σ H x v vl vu lo hi sl Q I rx hs pl pu q
 rcases q with q|q
 .exact h pins s σ H x v vl vu lo hi sl Q I rx hs pl pu q
 .exact h' pins s σ H x v vl vu lo hi sl Q I rx hs pl pu q
noncomputable def tSl(r:V->Option Int->Option Int->Hp->VK->Prop)(te:TE)(tl th:TO):TE:=λσ H Q=>te σ H λx H1=>tl σ H1 λl H2=>th σ H2 λu H3=>r x l u H3 Q
theorem ab5(hr:lE X r)(he:PE X e te)(hl:PO X lo tl)(hu:PO X hi th):PE X (.Subscript e (.Slice lo hi none p2) pos) (tSl r te tl th):=by
 refine⟨λpins s σ H Q I h=>?_⟩
 refine Subscript_ (aD (he pins s σ H _ I h) λv s1 ⟨x,H1,I1,r1,q1⟩=>?_)
 refine wpAny_Slice (aD (hl pins s1 σ H1 _ I1 q1) λvl s2 ⟨l,H2,I2,pl,q2⟩=>aD (hu pins s2 σ H2 _ I2 q2) λvu s3 ⟨u,H3,I3,pu,q3⟩=>?_)
 rw[evalPart_none]
 refine wpAny_pure ?_
 have I4:Inv X pins σ H3 {s3 with heap:=s3.heap.push {cls:=.type "slice",data:=.fields #[vl,vu,.none] } }:=I3.kept (t':=s3.toks) λb ob q=>Heap.get?_push_of_some _ q
 obtain⟨T,id,hT,ht,hg⟩:=hr pins {s3 with heap:=s3.heap.push {cls:=.type "slice",data:=.fields #[vl,vu,.none] } } σ H3 x v vl vu l u s3.heap.objs.size Q I4 r1 (Heap.IsSliceOf.new ..) pl pu q3
 show wpAny (model X.prog X.w) X.A (subscriptTail e (.Slice lo hi none p2) v (.ref s3.heap.objs.size)) (EP X pins σ Q) X.xe {s3 with heap:=s3.heap.push {cls:=.type "slice",data:=.fields #[vl,vu,.none] } }
 exact tail_any (ops:=[.ref s3.heap.objs.size,v]) ht hT hg (by with_unfolding_all rfl)
noncomputable def m7(xs:List V)(lo hi:Option Int):List V:=(xs.drop (HT.aP xs.length 0 lo)).take (HT.aP xs.length xs.length hi-HT.aP xs.length 0 lo)
theorem MN(xs:List V)(lo hi:Option Int):(m7 xs lo hi).length<=xs.length:=by
 unfold m7
 rw[List.length_take,List.length_drop]
 lia
noncomputable def MP(K:PySem.W.Frag):V->Option Int->Option Int->Hp->VK->Prop:=λx lo hi H Q=>∃a xs,x=.ref a/\bw K H a xs /\
 ¬(HT.aP xs.length 0 lo=0/\HT.aP xs.length xs.length hi=xs.length)/\∀p,H p=none->Q (.ref p) (upd H p (.tup (m7 xs lo hi)))
theorem ab6:lE X (MP X.K):=by
 intro pins s σ H x v vl vu lo hi sl Q I rx hs pl pu h
 obtain⟨a,xs,rfl,hx,hw,q⟩:=h
 cases rx
 obtain⟨its,r,ht,hz⟩:=I.tuple hx
 have hlen:its.toArray.size=xs.length:=by rw[List.size_toArray]; exact r.length.symm
 refine⟨"tuple",_,PyProof.Rows.slot_tuple_getitem.lookup,ht.typeIs,?_⟩
 refine HT.ab0 ht hs pl pu (by rw[hlen]; exact hw) ?_ (by rw[hlen]; exact hz)
 rw[hlen]
 refine⟨.ref s.heap.objs.size,_,I.laid (t':=s.toks) (o:=.tup (m7 xs lo hi)) (λb ob q=>Heap.get?_push_of_some _ q) (Nat.le_refl _) ?_,rfl,q _ (I.hok.fresh (Nat.le_refl _))⟩
 exact⟨Nat.le_trans (MN xs lo hi) hz,_,(r.drop (HT.aP xs.length 0 lo)).take (HT.aP xs.length xs.length hi-HT.aP xs.length 0 lo),IsTup.new _ _⟩
noncomputable def M4(K:PySem.W.Frag):R2:=λx y H Q=>∃a b ns ms,x=.ref a/\y=.ref b/\bw K H a (ns.map V.int)/\bw K H b (ms.map V.int)/\Q (.bl (HT.lexLt ns ms)) H
theorem ab7(hu:X.A.units<cLine):aX X (compareOp .Lt) (M4 X.K):=by
 intro pins s σ H x y v u Q I rx ry h
 obtain⟨a,b,ns,ms,rfl,rfl,ha,hb,q⟩:=h
 cases rx
 cases ry
 obtain⟨its,r1,p1,_⟩:=I.tuple ha
 obtain⟨its2,r2,p2,_⟩:=I.tuple hb
 have i1:IntsAre its.toArray.toList ns:=intsAre_of r1
 have i2:IntsAre its2.toArray.toList ms:=intsAre_of r2
 exact HT.abT p1 p2 i1 i2 hu ⟨.bl (HT.lexLt ns ms),H,I,rfl,q⟩
noncomputable def M5(K:PySem.W.Frag):R2:=λx y H Q=>∃a b xs ys,x=.ref a/\y=.ref b/\bw K H a xs/\bw K H b ys/\xs≠[]/\xs.length+ys.length<=sizeLine /\
 (ys=[]->Q (.ref a) H)/\(ys≠[]->∀p,H p=none->Q (.ref p) (upd H p (.tup (xs++ys))))
theorem Vals.CW(r:Vals xs us):us=[]↔xs=[]:=by
 cases r with
 |nil=>simp
 |cons _ _=>simp
theorem ab8:aX X (binaryOp .Add) (M5 X.K):=by
 intro pins s σ H x y v u Q I rx ry h
 obtain⟨a,b,xs,ys,rfl,rfl,ha,hb,hx,hz,q1,q2⟩:=h
 cases rx
 cases ry
 obtain⟨its,r1,p1,_⟩:=I.tuple ha
 obtain⟨its2,r2,p2,_⟩:=I.tuple hb
 refine HT.abU p1 p2 (λz=>hx (r1.CW.mp z)) (λz=>⟨.ref a,H,I,rfl,q1 (r2.CW.mp z)⟩) (λz=>?_) (by rw[<-r1.length,<-r2.length]; exact hz)
 refine⟨.ref s.heap.objs.size,_,I.laid (t':=s.toks) (o:=.tup (xs++ys)) (λb ob q=>Heap.get?_push_of_some _ q) (Nat.le_refl _) ?_,rfl,q2 (λw=>z (r2.CW.mpr w)) _ (I.hok.fresh (Nat.le_refl _))⟩
 exact⟨by rw[List.length_append]; exact hz,_,r1.append r2,IsTup.new _ _⟩
end
noncomputable def gW(n:Nat)(i:Int):Option Nat:=if 0<=i then(if i<n then some i.toNat else none)else if -(n:Int)<=i then some (i+n).toNat else none
noncomputable def cR{α : Type}(xs:List α)(i:Int):Option α := (gW xs.length i).bind λj=>xs[j]?
theorem M6(h:gW n i=some j):seqIndex? i n=some j/\j<n /\ -(n:Int)<=i/\i<n:=by
 unfold gW at h
 by_cases h0:0<=i
 .rw[if_pos h0]at h
  by_cases h1:i<n
  .rw[if_pos h1]at h
   have e:i.toNat=j:=Option.some.inj h
   exact⟨by rw[seqIndex_of h0 h1,e],by lia,by lia,h1⟩
  .rw[if_neg h1]at h; cases h
 .rw[if_neg h0]at h
  by_cases h1 : -(n:Int)<=i
  .rw[if_pos h1]at h
   have e:(i+n).toNat=j:=Option.some.inj h
   exact⟨by rw[seqIndex_neg (by lia) h1,e],by lia,h1,by lia⟩
  .rw[if_neg h1]at h; cases h
theorem CZ{α : Type}{xs:List α}{i:Int}{v : α}(h:cR xs i=some v):∃j,seqIndex? i xs.length=some j/\xs[j]?=some v/\j<xs.length /\ -(xs.length:Int)<=i/\i<xs.length:=by
 unfold cR at h
 cases e:gW xs.length i with
 |none=>rw[e]at h; cases h
 |some j =>
  rw[e]at h
  obtain⟨h1,h2,h3,h4⟩:=M6 e
  exact⟨j,h1,h,h2,h3,h4⟩
noncomputable def M7(b:Expr):Prop:=∀o i,subscripted b false o i=operate [o,i] (getItem o i)
noncomputable def lF(X:Cx)(r:R2):Prop :=
 ∀(value slice:Expr) (pins:List (Addr × Obj)) (s:Shared) (σ : St) (H:Hp) (x y:V) (v u:Value) (Q:VK),Inv X pins σ H s->RelV x v->RelV y u->r x y H Q ->
  subscripted slice false v u=operate [v,u] (getItem v u)->wpAny (model X.prog X.w) X.A (subscriptTail value slice v u) (EP X pins σ Q) X.xe s
noncomputable def MtR(X:Cx)(id:String)(r:V->List V->Hp->VK->Prop):Prop :=
 ∀(pins:List (Addr × Obj)) (s:Shared) (σ : St) (H:Hp) (x:V) (xs:List V) (v:Value) (us:List Value) (Q:VK),Inv X pins σ H s->RelV x v->Vals xs us->r x xs H Q ->
  wpAny (model X.prog X.w) X.A (call (.builtin id) (v::us)) (EP X pins σ Q) X.xe s
section
variable {X:Cx}{a b:Expr}{ta tb:TE}{pos:Pos}
theorem lF.or(h:lF X r)(h':lF X r'):lF X (λx y H Q=>r x y H Q\/r' x y H Q):=by
 intro value slice pins s σ H x y v u Q I rx ry q hs
 rcases q with q|q
 .exact h value slice pins s σ H x y v u Q I rx ry q hs
 .exact h' value slice pins s σ H x y v u Q I rx ry q hs
theorem Dc(hr:lF X r)(ha:PE X a ta)(hb:PE X b tb)(hs:M7 b):PE X (.Subscript a b pos) (tX r ta tb):=by
 refine⟨λpins s σ H Q I h=>?_⟩
 exact Subscript_ (Cz ha hb I h λv u s2 x y H2 I2 rx ry q=>hr a b pins s2 σ H2 x y v u Q I2 rx ry q (hs _ _))
noncomputable def M8(K:PySem.W.Frag):R2:=λx y H Q=>∃p xs i v,x=.ref p/\y=.int i/\aH K H p xs/\cR xs i=some v/\Q v H
noncomputable def M9(K:PySem.W.Frag):R2:=λx y H Q=>∃p xs i v,x=.ref p/\y=.int i/\bw K H p xs/\cR xs i=some v/\Q v H
noncomputable def Nb:R2:=λx y H Q=>∃z i c,x=.str z/\y=.int i/\z.length<=sizeLine/\cR z.cps.toList i=some c/\Q (.str ⟨#[c]⟩) H
theorem ab9:lF X (M8 X.K):=by
 intro value slice pins s σ H x y v u Q I rx ry h hs
 obtain⟨p,xs,i,z,rfl,rfl,hq,he,q⟩:=h
 cases rx
 obtain⟨t,rfl⟩:=ry
 obtain⟨its,r,pl,hz⟩:=I.list hq
 obtain⟨j,h1,h2,h3,h4,h5⟩:=CZ he
 obtain⟨w,ew,oR⟩:=r.get h2
 have hl:=r.length
 have hn:=oV
 have fin:EP X pins σ Q w s:=⟨z,H,I,oR,q⟩
 by_cases h0:0<=i
 .have hj:i.toNat=j:=by
   rw[seqIndex_of h0 h5]at h1
   exact Option.some.inj h1
  exact item_listR pl.isList h0 (by lia) (by rw[hj]; simpa using ew) fin hs
 .have hj:(i+(its.toArray.size:Int)).toNat=j:=by
   rw[seqIndex_neg (by lia) h4]at h1
   rw[List.size_toArray,<-hl]
   exact Option.some.inj h1
  exact subscriptTail_builtinR (x:=w) pl.isList.typeIs slot_list_getitem.lookup
   (wpAny_getItem_list_neg (Q:=λr s'=>r=w/\EP X pins σ Q r s') pl.isList (by lia) (by rw[List.size_toArray] <;> lia) (by lia) (by rw[hj]; simpa using ew) ⟨rfl,fin⟩) hs
theorem acd:lF X (M9 X.K):=by
 intro value slice pins s σ H x y v u Q I rx ry h hs
 obtain⟨p,xs,i,z,rfl,rfl,hq,he,q⟩:=h
 cases rx
 obtain⟨t,rfl⟩:=ry
 obtain⟨its,r,pl,hz⟩:=I.tuple hq
 obtain⟨j,h1,h2,h3,h4,h5⟩:=CZ he
 obtain⟨w,ew,oR⟩:=r.get h2
 have hl:=r.length
 have hn:=oV
 have fin:EP X pins σ Q w s:=⟨z,H,I,oR,q⟩
 exact subscriptTail_builtinR (x:=w) pl.typeIs slot_tuple_getitem.lookup
  (getItem_tuple (j:=j) (Q:=λr s'=>r=w/\EP X pins σ Q r s') pl (by lia) (by lia) (by rw[List.size_toArray,<-hl]; exact h1) (by simpa using ew) ⟨rfl,fin⟩) hs
theorem ace:lF X Nb:=by
 intro value slice pins s σ H x y v u Q I rx ry h hs
 obtain⟨z,i,c,rfl,rfl,hz,he,q⟩:=h
 obtain⟨t,rfl⟩:=rx
 obtain⟨t',rfl⟩:=ry
 obtain⟨j,h1,h2,h3,h4,h5⟩:=CZ he
 have hl:z.cps.toList.length=z.length:=by simp[Str.length]
 rw[hl]at h1 h4 h5
 have hn:=oV
 exact tail_any (typeIs_str s z t) slot_str_getitem.lookup (getItem_str (c:=c) (by
  have e1:decide (i < -(2 ^ 63:Int))=false:=decide_eq_false (by lia)
  have e2:decide (i >= 2 ^ 63)=false:=decide_eq_false (by lia)
  rw[e1,e2,Bool.or_false]) (by rw[h1]; simpa using h2) ⟨.str ⟨#[c]⟩,H,I.tok _,⟨_,rfl⟩,q⟩) hs
noncomputable def Nf(K:PySem.W.Frag):R2:=λx y H Q=>M8 K x y H Q\/M9 K x y H Q\/Nb x y H Q
theorem Dd:lF X (Nf X.K):=ab9.or (acd.or ace)
theorem acf(its:List Value)(n j:Nat)(u:Value):Obj.mapSeq (·.setIfInBounds j u) {cls:=.type "list",data:=.seq its.toArray n }={cls:=.type "list",data:=.seq (its.set j u).toArray n }:=by
 simp[Obj.mapSeq]
theorem Inv.lst{pins:List (Addr × Obj)}{σ : St}{H:Hp}{s:Shared}{p:Addr}{xs:List V}(I:Inv X pins σ H s)(h:H p=some (.lst xs)) :
  ∃(its:List Value) (n:Nat),Vals xs its/\s.heap.get? p=some {cls:=.type "list",data:=.seq its.toArray n }/\xs.length<=sizeLine:=by
 obtain⟨z,its,n,r,e⟩:=I.hok p _ h
 exact⟨its,n,r,e,z⟩
theorem Inv.acg{pins:List (Addr × Obj)}{σ : St}{H:Hp}{s:Shared}{p:Addr}{xs ys:List V}{its its':List Value}{n n':Nat}{f:Obj->Obj}(I:Inv X pins σ H s)(h:H p=some (.lst xs))
  (ho:s.heap.get? p=some {cls:=.type "list",data:=.seq its.toArray n }) (hf:f {cls:=.type "list",data:=.seq its.toArray n }={cls:=.type "list",data:=.seq its'.toArray n' }) (r:Vals ys its') (hz:ys.length<=sizeLine) (t:Nat) :
  Inv X pins σ (upd H p (.lst ys)) {s with heap:=s.heap.update p f,toks:=t }:=by
 have e:(s.heap.update p f).get? p=some {cls:=.type "list",data:=.seq its'.toArray n' }:=by
  rw[Heap.get?_update_self f ho (by rw[hf] <;> rfl),hf]
 refine I.write (x:=p) (e:=p) (by rw[h]; trivial) (.inl rfl) (λb u hb q=>(Heap.get?_update_other _ _ (Ne.symm hb)).trans q) ⟨_,e⟩ ?_
 exact⟨hz,its',n',r,e⟩
noncomputable def ach:V->V->V->Hp->(Hp->Prop)->Prop:=λo i v H Q=>∃p xs k j,o=.ref p/\i=.int k/\H p=some (.lst xs)/\gW xs.length k=some j/\Q (upd H p (.lst (xs.set j v)))
theorem set_list:Lw X ach:=by
 intro pins s σ H o i v ov iv u Q I ro ri rv h
 obtain⟨p,xs,k,j,rfl,rfl,hp,hj,q⟩:=h
 cases ro
 obtain⟨t,rfl⟩:=ri
 obtain⟨its,n,r,ho,hz⟩:=I.lst hp
 obtain⟨h1,h2,h3,h4⟩:=M6 hj
 have hl:=r.length
 have hn:=oV
 have I':Inv X pins σ (upd H p (.lst (xs.set j v))) {s with heap:=s.heap.update p (Obj.mapSeq (·.setIfInBounds j u)) } :=
  I.acg hp ho (acf its n j u) (r.set rv j) (by rw[List.length_set]; exact hz) s.toks
 by_cases h0:0<=k
 .have hk:k.toNat=j:=by
   rw[seqIndex_of h0 h4]at h1
   exact Option.some.inj h1
  exact PySem.W.ki_setAt ho h0 (by lia) (by rw[List.size_toArray,<-hl]; exact h4) (by rw[hk]; exact⟨_,I',q⟩)
 .have hk:(k+(its.toArray.size:Int)).toNat=j:=by
   rw[seqIndex_neg (by lia) h3]at h1
   rw[List.size_toArray,<-hl]
   exact Option.some.inj h1
  exact PySem.W.ki_setBack ho (by lia) (by rw[List.size_toArray,<-hl]; exact h3) (by lia) (by rw[hk]; exact⟨_,I',q⟩)
theorem aci(lo hi:Option Int)(n:Nat):(sliceBounds lo hi none n).1=((HT.aP n 0 lo:Nat):Int)/\(sliceBounds lo hi none n).2.1=((HT.aP n n hi:Nat):Int)/\(sliceBounds lo hi none n).2.2=1:=by
 refine⟨?_,?_,rfl⟩
 .cases lo with
  |none=>simp[sliceBounds,HT.aP]
  |some i =>
   simp only[sliceBounds,HT.aP,Option.getD_none,show(1:Int) > 0 by decide,if_true]
   by_cases h:i<0
   .simp only[h,if_true] <;> lia
   .simp only[h,if_false] <;> lia
 .cases hi with
  |none=>simp[sliceBounds,HT.aP]
  |some i =>
   simp only[sliceBounds,HT.aP,Option.getD_none,show(1:Int) > 0 by decide,if_true]
   by_cases h:i<0
   .simp only[h,if_true] <;> lia
   .simp only[h,if_false] <;> lia
theorem acj(its:List Value)(lo hi:Option Int):slicePick its.toArray lo hi none=((its.drop (HT.aP its.length 0 lo)).take (HT.aP its.length its.length hi-HT.aP its.length 0 lo)).toArray:=by
 obtain⟨h1,h2,h3⟩:=aci lo hi its.toArray.size
 unfold slicePick
 rw[h1,h2,h3]
 simp only[sliceRange_one,pick_run,List.size_toArray] <;> rfl
noncomputable def Ng(K:PySem.W.Frag):V->Option Int->Option Int->Hp->VK->Prop:=λx lo hi H Q=>∃a xs,x=.ref a/\aH K H a xs/\∀p,H p=none->Q (.ref p) (upd H p (.lst (m7 xs lo hi)))
theorem acn:lE X (Ng X.K):=by
 intro pins s σ H x v vl vu lo hi sl Q I rx hs pl pu h
 obtain⟨a,xs,rfl,hx,q⟩:=h
 cases rx
 obtain⟨its,r,ht,hz⟩:=I.list hx
 have hlen:=r.length
 refine⟨"list",_,slot_list_getitem.lookup,ht.isList.typeIs,?_⟩
 refine wpAny_getItem_list_slice ht.isList hs pl pu .none (by simp) ?_ (by rw[List.size_toArray] <;> lia)
 rw[acj,<-hlen]
 refine⟨.ref s.heap.objs.size,_,I.laid (t':=s.toks) (o:=.lst (m7 xs lo hi)) (λb ob q=>Heap.get?_push_of_some _ q) (Nat.le_refl _) ?_,rfl,q _ (I.hok.fresh (Nat.le_refl _))⟩
 exact⟨Nat.le_trans (MN xs lo hi) hz,_,0,(r.drop (HT.aP xs.length 0 lo)).take (HT.aP xs.length xs.length hi-HT.aP xs.length 0 lo),Heap.get?_push_size _ rfl⟩
theorem aco:fD X (.builtin "len") (λxs H Q=>∃p ys,xs=[.ref p]/\(aH X.K H p ys\/bw X.K H p ys)/\Q (.int ys.length) H):=by
 intro pins s σ H xs us Q I r h
 obtain⟨p,ys,rfl,hq,q⟩:=h
 obtain⟨u,rfl,rx⟩:=vals1 r
 cases rx
 have hn:=oV
 rcases hq with hq|hq
 .obtain⟨its,r',pl,hz⟩:=I.list hq
  have hlen:=r'.length
  exact Calls.call_len_list pl.isList (by simp only[List.size_toArray] <;> lia) ⟨.int ys.length,H,I.tok _,⟨s.toks+1,by rw[List.size_toArray,hlen]⟩,q⟩
 .obtain⟨its,r',pl,hz⟩:=I.tuple hq
  have hlen:=r'.length
  exact len_tuple pl (by simp only[List.size_toArray] <;> lia) ⟨.int ys.length,H,I.tok _,⟨s.toks+1,by rw[List.size_toArray,hlen]⟩,q⟩
theorem acp:fD X (.builtin "len") (λxs H Q=>∃z,xs=[.str z]/\z.length<=sizeLine/\Q (.int z.length) H):=by
 intro pins s σ H xs us Q I r h
 obtain⟨z,rfl,hz,q⟩:=h
 obtain⟨u,rfl,t,rfl⟩:=vals1 r
 have hn:=oV
 exact len_str (by lia) ⟨.int z.length,H,I.tok _,⟨_,rfl⟩,q⟩
theorem fD.or(h:fD X f r)(h':fD X f r'):fD X f (λxs H Q=>r xs H Q\/r' xs H Q):=by
 intro pins s σ H xs us Q I rs q
 rcases q with q|q
 .exact h pins s σ H xs us Q I rs q
 .exact h' pins s σ H xs us Q I rs q
theorem acq:fD X (.type "list") (λxs H Q=>∃p ys,xs=[.ref p]/\(aH X.K H p ys\/bw X.K H p ys)/\∀l,H l=none->Q (.ref l) (upd H l (.lst ys))):=by
 intro pins s σ H xs us Q I r h
 obtain⟨p,ys,rfl,hq,q⟩:=h
 obtain⟨u,rfl,rx⟩:=vals1 r
 cases rx
 have fin:∀(its:List Value),Vals ys its->ys.length<=sizeLine->∀(h':Heap) (c':Nat),(∀b o',s.heap.get? b=some o'->h'.get? b=some o') ->
   h'.get? s.heap.objs.size=some {cls:=.type "list",dict:=none,data:=.seq its.toArray c',slots:=#[] }->EP X pins σ Q (.ref s.heap.objs.size) {s with heap:=h' }:=λits r' hz h' c' kp e =>
  ⟨.ref s.heap.objs.size,_,I.laid (t':=s.toks) kp (Nat.le_refl _) (show fV X.prog X.w _ h' _ (.lst ys)from⟨hz,its,c',r',e⟩),rfl,q _ (I.hok.fresh (Nat.le_refl _))⟩
 rcases hq with hq|hq
 .obtain⟨its,r',pl,hz⟩:=I.list hq
  have hlen:=r'.length
  obtain⟨o,ho,hc,n,hd⟩:=pl.isList
  exact call_list_seq p (.inl rfl) ho hc hd (λh' c' kp e=>fin its r' hz h' c' kp e) (by simp only[List.size_toArray] <;> lia)
 .obtain⟨its,r',pl,hz⟩:=I.tuple hq
  have hlen:=r'.length
  obtain⟨o,ho,hc,n,hd⟩:=pl
  exact call_list_seq p (.inr rfl) ho hc hd (λh' c' kp e=>fin its r' hz h' c' kp e) (by simp only[List.size_toArray] <;> lia)
noncomputable def Nh(K:PySem.W.Frag)(T:String)(x:V)(H:Hp):Prop:=match x with
 |.str _=>T = "str"
 |.int _=>T = "int"
 | .ref p=>(T = "list" ∧ ∃xs,aH K H p xs)∨(T = "tuple" ∧ ∃o,K.lookup p=some o∧o.cls=.type "tuple" ∧ o.dict=none)
 |_=>False
theorem acr(I:Inv X pins σ H s)(r:RelV x v)(ty:Nh X.K T x H) :
  s.TypeIs v T/\∀a,v=.ref a->∃ob,s.heap.get? a=some ob/\ob.dict=none:=by
 cases x with
 |str z =>
  obtain⟨t,rfl⟩:=r
  cases(show T = "str" from ty)
  exact⟨typeIs_str s z t,λ_ e=>nomatch e⟩
 |int i =>
  obtain⟨t,rfl⟩:=r
  cases(show T = "int" from ty)
  exact⟨typeIs_int s i t,λ_ e=>nomatch e⟩
 |ref p =>
  cases r
  rcases ty with⟨rfl,xs,hq⟩|⟨rfl,o,hk,hc,hd⟩
  .obtain⟨its,_,pl,_⟩:=I.list hq
   refine⟨pl.isList.typeIs,λa e=>?_⟩
   cases e
   obtain⟨o,n,e,c,hd,_⟩:=pl
   exact⟨o,e,hd⟩
  .refine⟨⟨o,I.gR p o hk,hc⟩,λa e=>?_⟩
   cases e
   exact⟨o,I.gR _ o hk,hd⟩
 |_=>exact False.elim ty
noncomputable def tBM(K:PySem.W.Frag)(T:String)(r:V->List V->Hp->VK->Prop)(to:TE)(t:TA):TE:=λσ H Q=>to σ H λx H1=>Nh K T x H1/\t σ H1 λxs H2=>r x xs H2 Q
variable {o e:Expr}{es:List Expr}{to:TE}{t:TA}{name:Str}{apos cpos:Pos}{T id:String}{r:V->List V->Hp->VK->Prop}
theorem acs(pa:PlainAttrs T)(slot:Slot T name id)(hty:typeOf (.builtin id)=pure (.type "method_descriptor")) (hm:MtR X id r) (ho:PE X o to) (ha:PA X (e::es) t)
  (hbase:attributeBase o name X.env (eval o X.env)=eval o X.env:=by rfl)
  (hfew:((backTo cpos (starEach (e::es) X.env)).all (λx=>!x.1)&&(backToKw cpos (keywordEach [] X.env)).all (λx=>x.1.isSome)
   && decide ((e::es).length+([]:List Keyword).length+(if([]:List Keyword).isEmpty then 0 else 1)<30))=true:=by rfl)
  (hline:(apos.endLine == cpos.line)=true:=by rfl) (hs:starEach (e::es) X.env=(false,eval e X.env)::starEach es X.env:=by rfl) (hplain:(backTo cpos (starEach es X.env)).any (·.1)=false:=by rfl) :
  PE X (.Call (.Attribute o name apos) (e::es) [] cpos) (tBM X.K T r to t):=by
 refine⟨λpins s σ H Q I h=>?_⟩
 refine wpAny_Call_method_late hbase hfew hline rfl (aD (ho pins s σ H _ I h) λv s1 ⟨x,H1,I1,r1,ty,q1⟩=>?_)
 obtain⟨h1,h2⟩:=acr I1 r1 ty
 refine⟨T,id,pa,slot,hty,h1,h2,?_⟩
 have hA:=ha cpos pins s1 σ H1 _ I1 q1
 rw[hs]at hA ⊢
 refine Calls.callWith_builtin (by show(false || (backTo cpos (starEach es X.env)).any (·.1))=false; rw[hplain] <;> rfl) (Calls.evalArgs_plain ?_)
 exact aD hA λus s2 ⟨vs,H2,I2,r2,q2⟩=>hm pins s2 σ H2 x vs v us Q I2 r1 r2 q2
end
noncomputable def Df(X:Cx)(id:String)(r:V->List V->Hp->VK->Prop):Prop :=
 ∀(pins:List (Addr × Obj)) (s:Shared) (σ : St) (H:Hp) (x:V) (xs:List V) (v:Value) (us:List Value) (Q:VK),Inv X pins σ H s->RelV x v->Vals xs us->r x xs H Q ->
  wpAny (model X.prog X.w) X.A (call (.builtin id) (v::us)) (EP X pins σ Q) X.xe s
theorem Vals.one:∀{x:V} {us:List Value},Vals [x] us->∃u,us=[u]/\RelV x u
 |_,_,.cons r .nil=>⟨_,rfl,r⟩
theorem Vals.rep(h:Vals xs us):∀k:Nat,Vals (List.replicate k xs).flatten (List.replicate k us).flatten
 | 0=>.nil
 |k+1=>by
  rw[List.replicate_succ,List.replicate_succ,List.flatten_cons,List.flatten_cons]
  exact Vals.append h (Vals.rep h k)
theorem foldl_rep(its:List Value):∀(k:Nat) (acc:List Value),
  List.foldl (λx1 x2=>x1++x2) acc.toArray (List.replicate k its.toArray)=(acc++(List.replicate k its).flatten).toArray
 | 0,acc=>by simp
 |k+1,acc=>by
  have e:acc.toArray++its.toArray=(acc++its).toArray:=by simp
  have e2:(acc++its)++(List.replicate k its).flatten=acc++(List.replicate (k+1) its).flatten:=by
   rw[List.replicate_succ,List.flatten_cons,List.append_assoc]
  rw[<-e2,<-foldl_rep its k (acc++its),<-e,List.replicate_succ,List.foldl_cons]
section
variable {X:Cx}{pins:List (Addr × Obj)}{σ : St}{H:Hp}{s:Shared}{l b:Addr}{xs ys zs:List V}
theorem Inv.Ni{its its':List Value}{n:Nat}{f:Array Value->Array Value}{t':Nat}(I:Inv X pins σ H s)(hH:H l=some (.lst xs))
  (e:s.heap.get? l=some {cls:=.type "list",data:=.seq its.toArray n }) (hf:f its.toArray=its'.toArray) (hv:Vals ys its') (hz:ys.length<=sizeLine) :
  Inv X pins σ (upd H l (.lst ys)) {s with heap:=s.heap.update l (Obj.mapSeq f),toks:=t' }:=by
 have q:=PySem.IsL.update e f
 rw[hf]at q
 refine I.write (x:=l) (e:=l) (by rw[hH]; exact trivial) (.inl rfl) (λb' u hb hu=>(Heap.get?_update_other s.heap (Obj.mapSeq f) (Ne.symm hb)).trans hu) ⟨_,q⟩ ?_
 exact⟨hz,its',_,hv,q⟩
theorem Inv.wY(I:Inv X pins σ H s)(hv:Vals ys its)(hz:ys.length<=sizeLine) :
  Inv X pins σ (upd H s.heap.objs.size (.lst ys)) {s with heap:=s.heap.push {cls:=.type "list",data:=.seq its.toArray },toks:=t' } :=
 I.laid (λ_ _ q=>Heap.get?_push_of_some _ q) (Nat.le_refl _) ⟨hz,its,0,hv,Heap.get?_push_size _ rfl⟩
theorem Inv.fresh(I:Inv X pins σ H s):H s.heap.objs.size=none:=I.hok.fresh (Nat.le_refl _)
theorem Inv.Nj(I:Inv X pins σ H s)(hH:H l=some (.lst xs)):xs.length<=sizeLine/\∃(its:List Value) (n:Nat),Vals xs its/\xs.length=its.length/\s.heap.get? l=some {cls:=.type "list",data:=.seq its.toArray n }:=by
 obtain⟨z,its,n,r,e⟩:=I.hok l _ hH
 exact⟨z,its,n,r,r.length,e⟩
theorem acu{n:Nat}(h:n<=sizeLine):Builtin.List.listTooLong n=false:=by
 unfold Builtin.List.listTooLong
 exact decide_eq_false (by lia)
end
section
variable {X:Cx}
noncomputable def Dg:V->List V->Hp->VK->Prop:=λx vs H Q=>∃l xs y,x=.ref l/\vs=[y]/\H l=some (.lst xs)/\xs.length<sizeLine/\Q .non (upd H l (.lst (xs++[y])))
theorem Dh:Df X "list.append" Dg:=by
 intro pins s σ H x vs v us Q I rx rv h
 obtain⟨l,xs,y,rfl,rfl,hH,hz,q⟩:=h
 cases rx
 obtain⟨u,rfl,ru⟩:=rv.one
 obtain⟨z,its,n,r,hl,e⟩:=I.Nj hH
 refine call_meets F.slot_list_append ⟨_,e,rfl⟩ F.entry_list_append (F.args_list_append_2 _ _) (PySem.list_append l its.toArray n u (by rw[List.size_toArray]; lia)) ⟨e,?_⟩
 refine⟨.non,_,I.Ni (its':=its++[u]) hH e (by simp) (r.append (.cons ru .nil)) ?_,rfl,q⟩
 rw[List.length_append,List.length_singleton]
 lia
theorem len_rep{α : Type}(xs:List α)(k:Nat):(List.replicate k xs).flatten.length=k*xs.length:=by
 induction k with
 |zero=>simp
 |succ k ih=>rw[List.replicate_succ,List.flatten_cons,List.length_append,ih,Nat.succ_mul,Nat.add_comm]
end
end L2
namespace Nk
open PySem PySem.W PySem.Calls PyProof.Rows
theorem acv:∀(ns:List Int) (vs:List Value),WellAll P h vs (ns.map WData.int)->IntsAre vs ns:=by
 intro ns
 induction ns with
 |nil =>
  intro vs w
  rw[List.map_nil]at w
  cases w
  exact .nil
 |cons n ns ih =>
  intro vs w
  rw[List.map_cons]at w
  cases w with
  |cons a b =>
   cases a
   exact .cons _ _ (ih _ b)
theorem acw{l:OpenLaw}{n:Nat}(hn:l.most=some n){P:Params}{h:Heap}{args:List WData}{vals:List Value}
  (hpre:l.row.toRowW.claim.pre args=true) (hwl:WellAll P h vals args) :
  ∃a vs ns,vals=[Value.ref a]/\args=[WData.list (ns.map WData.int)]/\h.get? a=some {cls:=.type "list",data:=.seq vs.toArray }/\IntsAre vs ns/\ns.length<=n:=by
 have hsh:WShape.hasAll [] args [.list .int]=true:=(pre_splitW hpre).1
 have hc:l.pre.holds [] {args:=args }=true:=(pre_splitW hpre).2
 obtain⟨d,r,rfl,h1,h2⟩:=hasAllW_cons hsh
 obtain rfl:=hasAllW_nil h2
 obtain⟨xs,rfl,h3⟩:=hasW_list h1
 obtain⟨ns,rfl⟩:=items_int h3
 have hlen:ns.length<=n:=by
  unfold OpenLaw.pre at hc
  have h4:(WTm.not (.lt (.lit (.int (n:Int))) (.len (.arg 0)))).holds [] {args:=[.list (ns.map .int)] }=true:=by
   have h4:=(holds_andW hc).1
   rw[hn]at h4
   exact h4
  have h5:=condW_of h4 (w_not (w_lt w_lit (w_len_list (w_arg rfl))))
  rw[List.length_map]at h5
  refine Nat.le_of_not_lt λq=>?_
  have q':(n:Int)<((ns.length:Nat):Int):=by lia
  first
   |(rw[decide_eq_true q']at h5; exact absurd h5 (by decide))
   |(simp at h5; lia)
 cases hwl with
 |cons w1 w2 =>
  cases w2
  cases w1 with
  |list ho hall=>exact⟨_,_,ns,rfl,rfl,ho,acv ns _ hall,hlen⟩
theorem acy(l:OpenLaw)(args:List WData):l.row.toRowW.claim.post args (.bool true) args=true :=
 postW_of (r:=l.row.toRowW) (X:=(true == true))
  (show WShape.has [] (.bool true) .bool=true by first|rfl|decide|simp[WShape.has,WShape.arms,WShape.armsAll])
  (show(WTm.eq .res (.lit (.bool true))).value [] {args:=args,res:=some (.bool true),after:=args }=some (.bool (true == true))from w_eq_bool (w_res rfl) w_lit) rfl
theorem acz{l:OpenLaw}{n:Nat}{q:Program}{loose:List Str}{XP:(Str->Option Value)->Heap->Prop}{YP:World->Heap->Prop}{d:DefRec}
  (hn:l.most=some n) (hdf:d.params.defaults=[])
  (call:∀(w:World) (s₀ s₁ : Shared) (mg mb:Str->Option Value) (fa:Addr) (o:Obj) (pm cd doc:Value) (a:Addr) (vs:List Value) (ns:List Int),
   Ground q loose [] XP w s₀ mg mb s₁.heap->YP w s₁.heap ->
   s₁.heap.get? fa=some o->o.data=.func (docDef d.name d.params d.body d.scope pm cd doc)->s₁.heap.CodeRec cd d.name->mg d.name=some (.ref fa) ->
   s₁.heap.get? a=some {cls:=.type "list",data:=.seq vs.toArray }->IntsAre vs ns->ns.length<=n->s₁.gens = #[] ->
   codeAny (model l.prog w) callerA (.call (.ref fa) ⟨[.ref a],[]⟩) (λr s'=>r=.ok (.ret (.bool true))/\OldK s₁.heap s'.heap/\s'.os=s₁.os/\AllBare s'.gens) s₁) :
  WalkO q loose XP YP l.row.toRowW d [] (λf vs=>PySem.call f vs):=by
 intro w s₀ s₁ mg mb G Y fa o pm cd doc dV kV ho hd hcd hD hmg hg args vals as hpre hlay hrd hwl hlo
 obtain rfl:dV=.none:=Dflts.none hD hdf
 obtain rfl:kV=.none:=Dflts.noKw hD
 obtain⟨a,vs,ns,rfl,rfl,hobj,hints,hlen⟩:=acw hn hpre hwl
 refine enter_call (codeAny_mono (call w s₀ s₁ mg mb fa o pm cd doc a vs ns G Y ho (fd_plain hd) hcd hmg hobj hints hlen hg) λr s' hq=>?_)
 obtain⟨rfl,h2,h3,h4⟩:=hq
 exact⟨.inl ⟨.bool true,.bool true,[],rfl,λ_=>rfl,.bool true,acy l _,λ_=>⟨List.Pairwise.nil,λ_ hm=>(nomatch hm)⟩⟩,h2,h3,h4⟩
end Nk
namespace L2
open PySem PySem.Spec PyProof.Rows
theorem Di:∀{vs:List Value} {ns:List Int},IntsAre vs ns->Vals (ns.map V.int) vs
 |_,_,.nil=>.nil
 |_,_,.cons n t h=>.cons ⟨t,rfl⟩ (Di h)
noncomputable def jE(s:Stmt):Arguments:=match s with
 |.FunctionDef _ a _ _ _ _ _ _ _ _=>a
 |_=>{posonlyargs:=[],args:=[],vararg:=none,kwonlyargs:=[],kw_defaults:=[],kwarg:=none,defaults:=[] }
noncomputable def gY(s:Stmt):List Stmt:=match s with
 |.FunctionDef _ _ b _ _ _ _ _ _ _=>b
 |_=>[]
noncomputable def bV(s:Stmt):Scope:=match s with
 |.FunctionDef _ _ _ _ _ _ sc _ _ _=>sc
 |_=>{kind:=.function,names:=[],isGenerator:=false,isCoroutine:=false }
noncomputable abbrev E0:XK:=λ_ _ _=>False
structure oX(K:PySem.W.Frag)(x qual:Str)(st:Stmt)(f:Addr)(fd:FuncData):Prop where
 ex:∃(oc:Value) (od:Option Addr) (kV doc pm:Value) (an:Option Addr) (cdv ct:Value) (osl:Array (Option Value)),
  fd=PySem.W.fnOf x qual (jE st) (gY st) (bV st) .none kV doc pm an cdv ct/\K.lookup f=some ⟨oc,od,.func fd,osl⟩/\PySem.W.codeIn K cdv qual=true
 kp:PySem.W.keepIn K (.ref f)=true
section
variable {P:Program}{w:World}{K:PySem.W.Frag}{mg:Str->Option Value}{base:Heap}
theorem oX.binds{x qual:Str}{st:Stmt}{f:Addr}{fd:FuncData}{ps:List Str}(F:oX K x qual st f fd)
  (h:∀(kV doc pm:Value) (an:Option Addr) (cdv ct:Value) (us:List Value),us.length=ps.length->bindArgs (PySem.W.fnOf x qual (jE st) (gY st) (bV st) .none kV doc pm an cdv ct) ⟨us,[]⟩=pure (ps.zip us)):Binds K fd ps []:=by
 obtain⟨oc,od,kV,doc,pm,an,cdv,ct,osl,rfl,lk,hcd⟩:=F.ex
 exact .all (h kV doc pm an cdv ct)
theorem Nm{x qual:Str}{st:Stmt}{f:Addr}{oc:Value}{od an:Option Addr}{osl:Array (Option Value)}{kV doc pm cdv ct:Value}(l:K.lookup f=some ⟨oc,od,.func (PySem.W.fnOf x qual (jE st) (gY st) (bV st) .none kV doc pm an cdv ct),osl⟩)
  (c:PySem.W.codeIn K cdv qual=true) (k:PySem.W.keepIn K (.ref f)=true):oX K x qual st f (PySem.W.fnOf x qual (jE st) (gY st) (bV st) .none kV doc pm an cdv ct):=⟨⟨oc,od,kV,doc,pm,an,cdv,ct,osl,rfl,l,c⟩,k⟩
end
theorem Dj(h:n<=1000):n<sizeLine:=Nat.lt_of_le_of_lt h (by decide)
noncomputable def Same(H H':Hp):Prop:=∀b o,H b=some o->H' b=some o
theorem Same.refl(H:Hp):Same H H:=λ_ _ h=>h
theorem Same.trans(a:Same H H1)(b:Same H1 H2):Same H H2:=λc o h=>b c o (a c o h)
theorem Same.free{H H':Hp}(e:Same H H'){l:Addr}(h:H' l=Option.none):H l=Option.none:=by
 cases q:H l with
 |none=>rfl
 |some o =>
  rw[e l o q]at h
  cases h
theorem Same.seq{K:PySem.W.Frag}{H H':Hp}{a:Addr}{xs:List V}(e:Same H H')(h:aH K H a xs):aH K H' a xs:=by
 rcases h with(h|⟨o,h⟩)|h
 .exact .inl (.inl (e _ _ h))
 .exact .inl (.inr ⟨o,e _ _ h⟩)
 .exact .inr h
noncomputable def bG(cells:List (Str × Addr)):List (Str × NameKind)->List (Str × Addr)->List (Str × Addr)
 | [],acc=>acc
 |(n,k)::r,acc=>if k=.free then(match cells.lookup n with|some a=>bG cells r ((n,a)::acc)|none=>bG cells r acc)else bG cells r acc
theorem m8:∀{names:List (Str × NameKind)} {acc:List (Str × Addr)},(bG cells names acc).lookup x=some c->acc.lookup x=some c\/cells.lookup x=some c
 | [],acc,h=>.inl h
 |(n,k)::r,acc,h=>by
  unfold bG at h
  split at h
  .split at h
   .rename_i a ha
    rcases m8 h with q|q
    .by_cases e:x=n
     .subst e
      rw[List.lookup_cons,beq_self_eq_true]at q
      cases q
      exact .inr ha
     .rw[List.lookup_cons,beq_false_of_ne e]at q
      exact .inl q
    .exact .inr q
   .exact m8 h
  .exact m8 h
theorem oY:∀{names:List (Str × NameKind)} {acc:List (Str × Addr)},((acc.lookup x).isSome=true\/((x,NameKind.free)∈names/\(cells.lookup x).isSome=true))->((bG cells names acc).lookup x).isSome=true
 | [],acc,h=>by
  rcases h with h|⟨h,_⟩
  .exact h
  .cases h
 |(n,k)::r,acc,h=>by
  have up:∀a,(acc.lookup x).isSome=true->(List.lookup x ((n,a)::acc)).isSome=true:=λa q=>by
   rw[List.lookup_cons]
   split
   .rfl
   .exact q
  unfold bG
  split
  .rename_i hk
   split
   .rename_i a ha
    refine oY ?_
    rcases h with h|⟨h,hc⟩
    .exact .inl (up a h)
    .rcases List.mem_cons.mp h with e|e
     .cases e
      refine .inl ?_
      rw[List.lookup_cons,beq_self_eq_true]
      rfl
     .exact .inr ⟨e,hc⟩
   .rename_i hn
    refine oY ?_
    rcases h with h|⟨h,hc⟩
    .exact .inl h
    .rcases List.mem_cons.mp h with e|e
     .cases e
      rw[hn]at hc; cases hc
     .exact .inr ⟨e,hc⟩
  .rename_i hk
   refine oY ?_
   rcases h with h|⟨h,hc⟩
   .exact .inl h
   .rcases List.mem_cons.mp h with e|e
    .cases e; exact absurd rfl hk
    .exact .inr ⟨e,hc⟩
theorem wZ(h:∀y∈scope.names,y.2=.free->(env.cells.lookup y.1).isSome=true):closureFor scope env=pure (bG env.cells scope.names []):=by
 suffices q:∀(names:List (Str × NameKind)) (acc:List (Str × Addr)),(∀y∈names,y.2=.free->(env.cells.lookup y.1).isSome=true) ->
   (forIn names acc λx r=>do
    match x with
    |(name,kind)=>if(kind == NameKind.free)=true then do let a <-cellOf env name; pure (ForInStep.yield ((name,a)::r))else pure (ForInStep.yield r):Sem _)=pure (bG env.cells names acc) by
  have z:=q scope.names [] h
  exact(congrArg (λm=>m >>= λcs=>pure cs) z)
 intro names
 induction names with
 |nil=>intro acc _; rfl
 |cons y r ih =>
  intro acc hy
  obtain⟨n,k⟩:=y
  rw[List.forIn_cons]
  unfold bG
  by_cases hk:k=.free
  .subst hk
   have q:=hy (n,.free) List.mem_cons_self rfl
   cases e:env.cells.lookup n with
   |none=>rw[e]at q; cases q
   |some a =>
    have ec:cellOf env n=pure a:=by unfold cellOf; rw[e]
    simp only[ec]
    exact ih _ λz hz=>hy z (List.mem_cons_of_mem _ hz)
  .rw[if_neg hk]
   have hb:(k == NameKind.free)=false:=by simpa using hk
   simp only[hb]
   exact ih _ λz hz=>hy z (List.mem_cons_of_mem _ hz)
noncomputable def Np(scope sc:Scope):Scope :=
 {scope with names:=scope.names.map λ(n,k)=>if(k == .free&&sc.kind == .function&&sc.names.lookup n == some .cell)then(n,.cell)else(n,k) }
theorem Nq{env:Env}:∀{names:List (Str × NameKind)} {x:Str},names.lookup x=some .free ->
  (names.map λ(n,k)=>if(k == NameKind.free&&env.scope.kind == .function&&env.kindOf n == some .cell)then(n,NameKind.cell)else(n,k)).lookup x=some .cell \/
  (names.map λ(n,k)=>if(k == NameKind.free&&env.scope.kind == .function&&env.kindOf n == some .cell)then(n,NameKind.cell)else(n,k)).lookup x=some .free
 | [],_,h=>by simp at h
 |(n,k)::r,x,h=>by
  have ih:=@Nq env r x
  rw[List.map_cons]
  dsimp only
  cases hx:x == n with
  |true =>
   simp only[List.lookup_cons,hx]at h
   cases h
   by_cases hc:(NameKind.free == NameKind.free&&env.scope.kind == .function&&env.kindOf n == some .cell)=true
   .rw[if_pos hc]; simp[List.lookup_cons,hx]
   .rw[if_neg hc]; simp[List.lookup_cons,hx]
  |false =>
   simp only[List.lookup_cons,hx]at h
   by_cases hc:(k == NameKind.free&&env.scope.kind == .function&&env.kindOf n == some .cell)=true
   .rw[if_pos hc]; simp only[List.lookup_cons,hx]; exact ih h
   .rw[if_neg hc]; simp only[List.lookup_cons,hx]; exact ih h
theorem Nr{env:Env}:∀{names:List (Str × NameKind)} {x:Str},
  ((names.map λ(n,k)=>if(k == NameKind.free&&env.scope.kind == .function&&env.kindOf n == some .cell)then(n,NameKind.cell)else(n,k)).lookup x=some .cell \/
  (names.map λ(n,k)=>if(k == NameKind.free&&env.scope.kind == .function&&env.kindOf n == some .cell)then(n,NameKind.cell)else(n,k)).lookup x=some .free)->names.lookup x=some .cell\/names.lookup x=some .free
 | [],_,h=>by simp at h
 |(n,k)::r,x,h=>by
  have ih:=@Nr env r x
  rw[List.map_cons]at h
  dsimp only at h
  cases hx:x == n with
  |true =>
   by_cases hcc:(k == NameKind.free&&env.scope.kind == .function&&env.kindOf n == some .cell)=true
   .have hk:k=.free:=by
     simp only[Bool.and_eq_true,beq_iff_eq]at hcc
     exact hcc.1.1
    subst hk
    exact .inr (by simp only[List.lookup_cons,hx])
   .rw[if_neg hcc]at h
    simp only[List.lookup_cons,hx]at h ⊢
    exact h
  |false =>
   have q:=ih (by
    by_cases hcc:(k == NameKind.free&&env.scope.kind == .function&&env.kindOf n == some .cell)=true
    .rw[if_pos hcc]at h; simp only[List.lookup_cons,hx]at h; exact h
    .rw[if_neg hcc]at h; simp only[List.lookup_cons,hx]at h; exact h)
   simp only[List.lookup_cons,hx]
   exact q
theorem lH:∀(names:List (Str × NameKind)) (n:Nat) (acc:List (Str × Addr)),cellsFrom n names acc=cellsFrom n names []++acc
 | [],_,_=>rfl
 |(x,k)::r,n,acc=>by
  unfold cellsFrom
  split
  .rw[lH r (n+1) ((x,n)::acc),lH r (n+1) [(x,n)],List.append_assoc]
   rfl
  .exact lH r n acc
theorem Dk:∀(names:List (Str × NameKind)) (n:Nat) {x:Str} {c:Addr},(x,c)∈cellsFrom n names []->(x,NameKind.cell)∈names
 | [],_,_,_,h=>by cases h
 |(y,k)::r,n,x,c,h=>by
  unfold cellsFrom at h
  split at h
  .rename_i hk
   have hk:k=.cell:=by simpa using hk
   rw[lH]at h
   rcases List.mem_append.mp h with z|z
   .exact List.mem_cons_of_mem _ (Dk r _ z)
   .have z:=List.mem_singleton.mp z
    cases z
    rw[hk]
    exact List.mem_cons_self
  .exact List.mem_cons_of_mem _ (Dk r _ h)
theorem qC(x:Str):∀(a b:List (Str × Addr)),(a++b).lookup x=(match a.lookup x with|some c=>some c|none=>b.lookup x)
 | [],_=>rfl
 |(y,c)::r,b=>by
  have ih:=qC x r b
  rw[List.cons_append,List.lookup_cons,List.lookup_cons]
  cases h:x == y with
  |true=>rfl
  |false=>exact ih
theorem Nt
  (hQ:∀h',h'.Ns s.heap.objs.size (λ_=>none)->(∀b o,s.heap.get? b=some o->h'.get? b=some o)->CellsOk h' (s.heap.objs.size+1) (cellsFrom (s.heap.objs.size+1) scope.names []) ->
   Q {scope:=scope,locals:=s.heap.objs.size,globals:=globals,cells:=cellsFrom (s.heap.objs.size+1) scope.names cl,qual:=qual,func:=none,code:=env.code,frame:=env.frame,builtins:=env.builtins } {s with heap:=h',toks:=s.toks+([]:List (Str × Value)).length }) :
  wpAny M A (newFunctionEnv scope globals cl [] qual none .none (some env)) Q E s:=by
 simp only[newFunctionEnv,Option.isSome_some,if_true]
 refine wpAny_bind (wpAny_alloc ?_)
 refine wpAny_bind (wpAny_layCells _ (λname kind cells=>by cases hkc:kind == NameKind.cell <;> simp[hkc]) _ _ _ _ ?_)
 have ok:=cellsFrom_ok scope.names (s.heap.push {cls:=.type "dict",data:=.dict #[] }) (s.heap.objs.size+1) [] ⟨λ_ _ hm=>(nomatch hm),List.Pairwise.nil⟩ (by rw[Heap.size_push]; exact Nat.le_refl _)
 rw[Heap.size_push]at ok
 rw[show({s with heap:=s.heap.push {cls:=.type "dict",data:=.dict #[] } }:Shared).heap.objs.size=s.heap.objs.size+1 from Heap.size_push ..]
 exact wpAny_bind (wpAny_pure (wpAny_pure (hQ _ ((Heap.Ns.new s.heap (.type "dict")).keeps (pushCells_keeps _ _)) (λb o e=>pushCells_keeps _ _ b o (Heap.get?_push_of_some _ e)) ok)))
structure m9(sc:Scope)(No N:List Str)(src:List (Option Nat))(scope:Scope):Prop where
 kind:scope.kind=.function
 cells:∀y∈scope.names,y.2=.cell->scope.names.lookup y.1=some .cell
 names:∀y∈scope.names,y.2=.local->scope.names.lookup y.1=some .local
 free:∀y∈scope.names,y.2=.free->sc.names.lookup y.1=some .cell\/sc.names.lookup y.1=some .free
 len:src.length=N.length
 up:∀p∈N.zip src,∀j∈p.2,No[j]?=some p.1/\scope.names.lookup p.1=some .free
noncomputable def bQ(src:List (Option Nat))(σ : St):St:=src.map λo=>o.bind λj=>(σ[j]?).join
noncomputable def aZ(X:Cx)(N:List Str)(scope:Scope)(C:Addr)(s:Shared)(H:Hp)(ex:List Addr):Cx where
 prog:=X.prog
 w:=X.w
 K:=X.K
 mg:=X.mg
 base:=X.base
 A:=X.A
 N:=N
 s₀ := s
 H₀ := H
 env:=compEnvC scope (cellsFrom (C+1) scope.names (bG X.env.cells scope.names [])) C X.env
 outer:=X.stack
 stack:=X.stack
 ex:=ex
 fn:=λx=>scope.names.lookup x == some .cell
 calm:=X.calm
 pn:=[]
 xe:=λ_ _=>False
noncomputable def Dl(Q:VK)(D:Addr)(H:Hp):Prop:=Q (.ref D) H
section
variable {X:Cx}{elt tg iter:Expr}{scope sc:Scope}{pos:Pos}{No N:List Str}{src:List (Option Nat)}{wi:TI}{g:TG}{te:TE}
theorem Nu{pins:List (Addr × Obj)}{σ : St}{H:Hp}{s:Shared}{h₁ : Heap}{fp:List Addr}{tk:Nat}(hsc:X.env.scope=sc)(fH:X.N=No)(S:m9 sc No N src scope)(I:Inv X pins σ H s)
  (hf:∀b∈fp,bO X pins H b) (hlt:∀b∈fp,b<s.heap.objs.size)
  (hns:h₁.Ns s.heap.objs.size (λ_=>none)) (old:∀b o,s.heap.get? b=some o->h₁.get? b=some o) (ck:CellsOk h₁ (s.heap.objs.size+1) (cellsFrom (s.heap.objs.size+1) scope.names [])) :
  Inv (aZ X N scope s.heap.objs.size s H fp) [] (bQ src σ) H {s with heap:=h₁,toks:=tk }:=by
 subst hsc
 subst fH
 have qD:∀x c,(cellsFrom (s.heap.objs.size+1) scope.names (bG X.env.cells scope.names [])).lookup x=some c->(cellsFrom (s.heap.objs.size+1) scope.names []).lookup x=some c\/X.env.cells.lookup x=some c:=λx c h=>by
  rw[lH,qC]at h
  split at h
  .rename_i e
   exact .inl (e.trans h)
  .rcases m8 h with q|q
   .simp at q
   .exact .inr q
 have big:=λx c h=>(ck.empty x c (PySem.mem_of_lookup h)).2
 have Nv:∀x c,X.env.cells.lookup x=some c->c<s.heap.objs.size:=λx c e=>by
  obtain⟨v,q⟩:=I.cell x c e
  exact q.lt
 have ama:∀b∈frs X.stack,b<s.heap.objs.size:=λb hb=>by
  obtain⟨_,o,ho,_⟩:=I.stack.mem hb
  exact Heap.lt_size ho
 refine⟨⟨I.ok.mod,S.kind,I.ok.glob,I.ok.blt,Nat.le_refl _,λx y c h1 h2=>?_,λx hx=>?_,λx c hfn h=>?_,I.ok.hd,I.ok.frames,.inl rfl,λb hb=>⟨Nat.ne_of_lt (hlt b hb),λx c e=>?_⟩,
   I.bs,Nat.le_trans I.ok.mU I.sz,λb o e hb=>?_,λb hb hb'=>?_,I.stack,I.wH⟩,
  rfl,I.bare,Un.kept old,⟨_,hns,λi x v h1 h2 h3=>?_⟩,λx c e=>?_,I.hok.fresh (Nat.le_refl _),λx c e=>?_,λp hp=>absurd (show p∈([]:List (Addr × Obj))from hp) (by simp),I.hok.kept old,?_⟩
 .rcases qD _ _ h1 with z1|z1
  .rcases qD _ _ h2 with z2|z2
   .exact name_of_addr ck.apart (PySem.mem_of_lookup z1) (PySem.mem_of_lookup z2)
   .exact absurd (Nat.le_trans (big _ _ z1) (Nat.le_of_lt (Nv _ _ z2))) (Nat.not_succ_le_self _)
  .rcases qD _ _ h2 with z2|z2
   .exact absurd (Nat.le_trans (big _ _ z2) (Nat.le_of_lt (Nv _ _ z1))) (Nat.not_succ_le_self _)
   .exact I.ok.inj x y c z1 z2
 ·-- every cell or free name has its cell
  rcases Nr hx with m|m
  .exact Option.isSome_iff_exists.mp (PySem.W.cellsFrom_some _ _ _ (.inl m))
  .have m:=PySem.mem_of_lookup m
   have q:=oY (cells:=X.env.cells) (acc:=[]) (.inr ⟨m,by
    obtain⟨c,e⟩:=I.ok.has x (S.free _ m rfl)
    rw[e]; rfl⟩)
   exact Option.isSome_iff_exists.mp (PySem.W.cellsFrom_some _ _ _ (.inr q))
 .have hfn:scope.names.lookup x=some .cell:=by
   have z:(scope.names.lookup x == some .cell)=true:=hfn
   simpa using z
  obtain⟨c',e'⟩:=Option.isSome_iff_exists.mp (PySem.W.cellsFrom_some _ (s.heap.objs.size+1) [] (.inl hfn))
  have h:(cellsFrom (s.heap.objs.size+1) scope.names (bG X.env.cells scope.names [])).lookup x=some c:=h
  rw[lH,qC,e']at h
  cases h
  exact Nat.le_of_succ_le (big _ _ e')
 .rcases qD _ _ e with z|z
  .exact λy=>absurd (Nat.le_trans (big _ _ z) (y▸Nat.le_of_lt (hlt b hb))) (Nat.not_succ_le_self _)
  .exact(hf b hb).2.2.2.2.1 x c z
 .obtain⟨f0,f1,f2,f3,f4,f5⟩:=hf b hb
  rcases f3 with z|z
  .exact I.ok.tO b o e z
  .have q:=Heap.lt_size (I.ok.bs b o e).1
   exact absurd q (Nat.not_lt.mpr z)
 .obtain⟨f0,f1,f2,_⟩:=hf b hb
  rcases List.mem_cons.mp (I.tQ b hb')with z|z
  .exact f1 z
  .exact f2 z
 .have hi:i<src.length:=by
   unfold bQ at h2
   have:=(List.getElem?_eq_some_iff.mp h2).1
   simpa using this
  have h2':((src[i]).bind λj=>(σ[j]?).join)=some v:=by
   unfold bQ at h2
   rw[List.getElem?_map,List.getElem?_eq_getElem hi]at h2
   exact Option.some.inj h2
  cases es:src[i]with
  |none=>rw[es]at h2'; cases h2'
  |some j =>
   rw[es]at h2'
   have hj : σ[j]?=some (some v):=by
    have z:(σ[j]?).join=some v:=h2'
    cases q : σ[j]? with
    |none=>rw[q]at z; cases z
    |some o=>rw[q]at z; have z':o=some v:=z; rw[z']
   have hz:(x,some j)∈N.zip src:=by
    refine List.mem_of_getElem? (i:=i) ?_
    rw[List.getElem?_zip_eq_some]
    exact⟨h1,by rw[List.getElem?_eq_getElem hi,es]⟩
   obtain⟨u1,u2⟩:=S.up _ hz j rfl
   have m:(x,NameKind.free)∈scope.names:=PySem.mem_of_lookup u2
   have kx:=S.free _ m rfl
   obtain⟨m0,hn0,hl0⟩:=id I.loc
   obtain⟨u,r,lk⟩:=hl0 j x v u1 hj (kx.elim (λz=>.inr (.inl z)) λz=>.inr (.inr z))
   refine⟨u,r,?_⟩
   rcases lk with⟨k,_⟩|⟨_,c,e,ic⟩
   .have k':X.env.scope.names.lookup x=some .local:=k
    rcases kx with z|z
    .rw[z]at k'; cases k'
    .rw[z]at k'; cases k'
   .refine .inr ⟨Nq u2,c,?_,?_⟩
    .have q:=oY (cells:=X.env.cells) (acc:=[]) (.inr ⟨m,by rw[e]; rfl⟩)
     obtain⟨c',e'⟩:=Option.isSome_iff_exists.mp q
     have e2:X.env.cells.lookup x=some c':=by
      rcases m8 e' with q|q
      .simp at q
      .exact q
     rw[e]at e2; cases e2
     show(cellsFrom (s.heap.objs.size+1) scope.names (bG X.env.cells scope.names [])).lookup x=some c
     rw[lH,qC]
     split
     .rename_i c2 z
      have y:=S.cells _ (Dk _ _ (PySem.mem_of_lookup z)) rfl
      rw[u2]at y; cases y
     .exact e'
    .obtain⟨o,ho,hd⟩:=ic
     exact⟨o,old _ _ ho,hd⟩
 .rcases qD _ _ e with z|z
  .exact⟨_,(ck.empty x c (PySem.mem_of_lookup z)).1⟩
  .obtain⟨v,o,ho,hd⟩:=I.cell x c z
   exact⟨v,o,old _ _ ho,hd⟩
 .rcases qD _ _ e with z|z
  .exact I.hok.fresh (Nat.le_of_succ_le (big _ _ z))
  .exact I.jA x c z
 .unfold bQ
  rw[List.length_map]
  exact S.len
end
noncomputable def Dm(e C:Addr)(h:Heap):Prop:=∃o vs,h.get? e=some o/\o.cls=.ref C/\o.data=.fields vs
noncomputable def Dn(e C:Addr):HO:=.ext (Dm e C)
noncomputable def Dp:List Str:=["NoBottom", "NoBook", "NoList", "NoRule", "NoCount", "NoLooks", "NoThings", "NotSure", "NoSlack", "NoThing", "NoWorth", "TooMany", "NoText", "NoLine"]
inductive Tr where
 |non|bl (b:Bool)|int (i:Int)|str (x:Str)|tup (ts:List Tr)|lst (ts:List Tr)|bB (c:Str)
mutual
inductive Rep(K:PySem.W.Frag)(H:Hp):V->Tr->Prop
 |non:Rep K H .non .non
 |bl (b:Bool):Rep K H (.bl b) (.bl b)
 |int (i:Int):Rep K H (.int i) (.int i)
 |str (x:Str):Rep K H (.str x) (.str x)
 |tup {a:Addr} {xs:List V} {ts:List Tr} (h:bw K H a xs) (r:au K H xs ts):Rep K H (.ref a) (.tup ts)
 |lst {a:Addr} {xs:List V} {ts:List Tr} (h:aH K H a xs) (r:au K H xs ts):Rep K H (.ref a) (.lst ts)
 |bB {a C:Addr} {c:Str} (h:H a=some (Dn a C)) (m:c∈Dp) (n:PySem.W.nsIn K mainGlobals c=some (some (.ref C))):Rep K H (.ref a) (.bB c)
inductive au(K:PySem.W.Frag)(H:Hp):List V->List Tr->Prop
 |nil:au K H [] []
 |cons {x:V} {t:Tr} {xs:List V} {ts:List Tr} (h:Rep K H x t) (r:au K H xs ts):au K H (x::xs) (t::ts)
end
theorem Same.oZ{K:PySem.W.Frag}{H H':Hp}{a:Addr}{xs:List V}(e:Same H H')(h:bw K H a xs):bw K H' a xs:=by
 rcases h with(h|⟨o,h⟩)|h
 .exact .inl (.inl (e _ _ h))
 .exact .inl (.inr ⟨o,e _ _ h⟩)
 .exact .inr h
mutual
theorem Rep.mono{K:PySem.W.Frag}{H H':Hp}(e:Same H H'):∀{v:V} {t:Tr},Rep K H v t->Rep K H' v t
 |_,_,.non=>.non
 |_,_,.bl b=>.bl b
 |_,_,.int i=>.int i
 |_,_,.str x=>.str x
 |_,_,.tup h r=>.tup (e.oZ h) (au.mono e r)
 |_,_,.lst h r=>.lst (e.seq h) (au.mono e r)
 |_,_,.bB h m n=>.bB (e _ _ h) m n
theorem au.mono{K:PySem.W.Frag}{H H':Hp}(e:Same H H'):∀{v:List V} {t:List Tr},au K H v t->au K H' v t
 |_,_,.nil=>.nil
 |_,_,.cons h r=>.cons (Rep.mono e h) (au.mono e r)
end
theorem au.length{K:PySem.W.Frag}{H:Hp}:∀{v:List V} {t:List Tr},au K H v t->v.length=t.length
 |_,_,.nil=>rfl
 |_,_,.cons _ r=>by rw[List.length_cons,List.length_cons,au.length r]
theorem au.get{K:PySem.W.Frag}{H:Hp}:∀{v:List V} {t:List Tr} {i:Nat} {x:V},au K H v t->v[i]?=some x->∃u,t[i]?=some u/\Rep K H x u
 |_,_,_,_,.nil,e=>by simp at e
 |_,_,0,_,.cons h _,e=>by
  simp at e
  subst e
  exact⟨_,rfl,h⟩
 |_,_,i+1,x,.cons _ r,e=>by
  obtain⟨u,h1,h2⟩:=au.get (i:=i) (x:=x) r (by simpa using e)
  exact⟨u,by simpa using h1,h2⟩
theorem au.app{K:PySem.W.Frag}{H:Hp}:∀{v w:List V} {t u:List Tr},au K H v t->au K H w u->au K H (v++w) (t++u)
 |_,_,_,_,.nil,s=>s
 |_,_,_,_,.cons h r,s=>.cons h (au.app r s)
theorem au.take{K:PySem.W.Frag}{H:Hp}:∀{v:List V} {t:List Tr} (n:Nat),au K H v t->au K H (v.take n) (t.take n)
 |_,_,0,_=>by rw[List.take_zero,List.take_zero]; exact .nil
 |_,_,n+1,.nil=>by simpa using au.nil
 |_,_,n+1,.cons h r=>by
  exact .cons h (au.take n r)
theorem au.drop{K:PySem.W.Frag}{H:Hp}:∀{v:List V} {t:List Tr} (n:Nat),au K H v t->au K H (v.drop n) (t.drop n)
 |_,_,0,r=>by rw[List.drop_zero,List.drop_zero]; exact r
 |_,_,n+1,.nil=>by simpa using au.nil
 |_,_,n+1,.cons h r=>by
  exact au.drop n r
mutual
noncomputable def dep:Tr->Nat
 |.tup ts=>deps ts+1
 |.lst ts=>deps ts+1
 |.bB _=>100
 |_=>0
noncomputable def deps:List Tr->Nat
 | []=>0
 |t::r=>max (dep t) (deps r)
end
mutual
noncomputable def eqT:Tr->Tr->Bool
 |.non,.non=>true
 |.bl a,.bl b=>a == b
 |.bl a,.int b=>(if a then 1 else 0) == b
 |.int a,.bl b=>a == (if b then 1 else 0)
 |.int a,.int b=>a == b
 |.str a,.str b=>a == b
 |.tup a,.tup b=>jF a b
 |.lst a,.lst b=>jF a b
 |.bB a,.bB b=>a == b
 |_,_=>false
noncomputable def jF:List Tr->List Tr->Bool
 | [],[]=>true
 |a::x,b::y=>eqT a b&&jF x y
 |_,_=>false
end
mutual
theorem w6:∀t:Tr,eqT t t=true
 |.non=>rfl
 |.bl b=>by unfold eqT; exact beq_self_eq_true b
 |.int i=>by unfold eqT; exact beq_self_eq_true i
 |.str x=>by unfold eqT; exact beq_self_eq_true x
 |.tup ts=>by unfold eqT; exact Dq ts
 |.lst ts=>by unfold eqT; exact Dq ts
 |.bB c=>by unfold eqT; exact beq_self_eq_true c
theorem Dq:∀ts:List Tr,jF ts ts=true
 | []=>rfl
 |t::r=>by unfold jF; rw[w6 t,Dq r]; rfl
end
theorem uc:∀{a b:List Tr},a.length≠b.length->jF a b=false
 | [],[],h=>absurd rfl h
 | [],_::_,_=>rfl
 |_::_,[],_=>rfl
 |x::a,y::b,h=>by
  unfold jF
  rw[uc (a:=a) (b:=b) (by simpa using h),Bool.and_false]
noncomputable def lJ(a b:List Tr)(j:Nat):Bool:=match a[j]?,b[j]? with
 |some x,some y=>eqT x y
 |_,_=>true
theorem ud:∀{a b:List Tr},a.length=b.length->(List.range a.length).all (lJ a b)=jF a b
 | [],[],_=>rfl
 | [],_::_,h=>by cases h
 |_::_,[],h=>by cases h
 |x::a,y::b,h=>by
  have ih:=ud (a:=a) (b:=b) (by simpa using h)
  rw[List.length_cons,List.range_succ_eq_map,List.all_cons,List.all_map]
  unfold jF
  rw[<-ih]
  rfl
section
variable {X:Cx}{pins:List (Addr × Obj)}{σ : St}{H:Hp}{s:Shared}
theorem Inv.acA(I:Inv X pins σ H s)(h:H a=some (Dn a C))(p:IsTup s.heap a its):False:=by
 obtain⟨o,_,e1,e2,_⟩:=(I.hok a _ h).1
 obtain⟨o',e1',e2',_⟩:=p
 rw[e1]at e1'
 cases e1'
 rw[e2]at e2'
 cases e2'
theorem Inv.acB(I:Inv X pins σ H s)(h:H a=some (Dn a C))(p:PlainL s.heap a its):False:=by
 obtain⟨o,_,e1,e2,_⟩:=(I.hok a _ h).1
 obtain⟨o',_,e1',e2',_⟩:=p
 rw[e1]at e1'
 cases e1'
 rw[e2]at e2'
 cases e2'
mutual
theorem Rep.inj(I:Inv X pins σ H s):∀{v:V} {t u:Tr},dep t<=99->Rep X.K H v t->Rep X.K H v u->t=u
 |_,_,_,_,.non,.non=>rfl
 |_,_,_,_,.bl _,.bl _=>rfl
 |_,_,_,_,.int _,.int _=>rfl
 |_,_,_,_,.str _,.str _=>rfl
 |_,_,_,d,.tup h r,.tup h' r'=>by
  have e:=I.Lr h h'
  subst e
  rw[au.inj I (by unfold dep at d; lia) r r']
 |_,_,_,d,.lst h r,.lst h' r'=>by
  have e:=I.mW h h'
  subst e
  rw[au.inj I (by unfold dep at d; lia) r r']
 |_,_,_,_,.tup h r,.lst h' r'=>by
  obtain⟨_,_,p,_⟩:=I.tuple h
  obtain⟨_,_,p',_⟩:=I.list h'
  exact absurd rfl (SeqAt.ne_of_list_tuple p'.isList p)
 |_,_,_,_,.lst h r,.tup h' r'=>by
  obtain⟨_,_,p,_⟩:=I.tuple h'
  obtain⟨_,_,p',_⟩:=I.list h
  exact absurd rfl (SeqAt.ne_of_list_tuple p'.isList p)
 |_,_,_,d,.bB h _ n,_=>by unfold dep at d; lia
 |_,_,_,_,.tup h r,.bB h' _ _=>by
  obtain⟨_,_,p,_⟩:=I.tuple h
  exact(I.acA h' p).elim
 |_,_,_,_,.lst h r,.bB h' _ _=>by
  obtain⟨_,_,p,_⟩:=I.list h
  exact(I.acB h' p).elim
theorem au.inj(I:Inv X pins σ H s):∀{v:List V} {t u:List Tr},deps t<=99->au X.K H v t->au X.K H v u->t=u
 |_,_,_,_,.nil,.nil=>rfl
 |_,_,_,d,.cons h r,.cons h' r'=>by
  unfold deps at d
  rw[Rep.inj I (by lia) h h',au.inj I (by lia) r r']
end
theorem in1_units(A:Around):A.in1.units<=A.units+1:=by
 show A.units+1<=_
 lia
theorem xg{xs:List V}{its:List Value}{j:Nat}(r:Vals xs its)(h:j<its.toArray.size):∃x,xs[j]?=some x/\RelV x its.toArray[j]:=by
 have h':j<its.length:=by simpa using h
 have hx:j<xs.length:=by rw[r.length]; exact h'
 obtain⟨u,h1,h2⟩:=r.get (List.getElem?_eq_getElem hx)
 refine⟨xs[j],List.getElem?_eq_getElem hx,?_⟩
 have e:u=its.toArray[j]:=by
  rw[List.getElem?_eq_getElem h']at h1
  have:=Option.some.inj h1
  simpa using this.symm
 rw[<-e]; exact h2
theorem Nx{a b:List Tr}{j:Nat}{x y:Tr}(h1:a[j]?=some x)(h2:b[j]?=some y):lJ a b j=eqT x y:=by
 unfold lJ
 rw[h1,h2]
theorem nj:∀{ts:List Tr} {j:Nat} {t:Tr},ts[j]?=some t->dep t<=deps ts
 | [],_,_,h=>by simp at h
 |x::r,0,t,h=>by
  simp at h
  subst h
  unfold deps
  exact Nat.le_max_left _ _
 |x::r,j+1,t,h=>by
  have:=nj (ts:=r) (j:=j) (t:=t) (by simpa using h)
  unfold deps
  exact Nat.le_trans this (Nat.le_max_right _ _)
theorem uf(I:Inv X pins σ H s)(A:Around)(t u:Tr)(x y:V)(xv yv:Value)(hu:A.units+0<cLine)(hd:dep t<=0)(du:dep u<=99)(rx:Rep X.K H x t)(ry:Rep X.K H y u)(vx:RelV x xv)(vy:RelV y yv) :
  SeqAt.RcAt A s xv yv (eqT t u)/\SeqAt.EqAt A s xv yv (eqT t u):=by
 have hu0:A.units<cLine:=by lia
 cases rx with
 |tup h r=>unfold dep at hd; lia
 |lst h r=>unfold dep at hd; lia
 |bB h m n=>unfold dep at hd; lia
 |non =>
  cases vx
  cases ry with
  |non=>cases vy; unfold eqT; exact⟨SeqAt.RcAt.none_none,.same _⟩
  |bl b2=>cases vy; unfold eqT; exact⟨SeqAt.RcAt.none_bool _,SeqAt.EqAt.none_bool _⟩
  |int i2=>obtain⟨_,rfl⟩:=vy; unfold eqT; exact⟨SeqAt.RcAt.none_int _ _,SeqAt.EqAt.none_int _ _⟩
  |str z2=>obtain⟨_,rfl⟩:=vy; unfold eqT; exact⟨SeqAt.RcAt.none_str _ _,SeqAt.EqAt.none_str _ _⟩
  |tup h r=>cases vy; obtain⟨_,_,p,_⟩:=I.tuple h; unfold eqT; exact⟨SeqAt.RcAt.none_tuple p hu0,SeqAt.EqAt.none_tuple p hu0⟩
  |lst h r=>cases vy; obtain⟨_,_,p,_⟩:=I.list h; unfold eqT; exact⟨SeqAt.RcAt.none_list p.isList hu0,SeqAt.EqAt.none_list p.isList hu0⟩
  |bB h m n=>unfold dep at du; lia
 |bl b =>
  cases vx
  cases ry with
  |non=>cases vy; unfold eqT; exact⟨SeqAt.RcAt.bool_none _,SeqAt.EqAt.bool_none _⟩
  |bl b2=>cases vy; unfold eqT; exact⟨SeqAt.RcAt.bool_bool _ _,SeqAt.EqAt.bool_bool _ _⟩
  |int i2=>obtain⟨_,rfl⟩:=vy; unfold eqT; exact⟨SeqAt.RcAt.bool_int _ _ _,SeqAt.EqAt.bool_int _ _ _⟩
  |str z2=>obtain⟨_,rfl⟩:=vy; unfold eqT; exact⟨SeqAt.RcAt.bool_str _ _ _,SeqAt.EqAt.bool_str _ _ _⟩
  |tup h r=>cases vy; obtain⟨_,_,p,_⟩:=I.tuple h; unfold eqT; exact⟨SeqAt.RcAt.bool_tuple _ p hu0,SeqAt.EqAt.bool_tuple _ p hu0⟩
  |lst h r=>cases vy; obtain⟨_,_,p,_⟩:=I.list h; unfold eqT; exact⟨SeqAt.RcAt.bool_list _ p.isList hu0,SeqAt.EqAt.bool_list _ p.isList hu0⟩
  |bB h m n=>unfold dep at du; lia
 |int i =>
  obtain⟨_,rfl⟩:=vx
  cases ry with
  |non=>cases vy; unfold eqT; exact⟨SeqAt.RcAt.int_none _ _,SeqAt.EqAt.int_none _ _⟩
  |bl b2=>cases vy; unfold eqT; exact⟨SeqAt.RcAt.int_bool _ _ _,SeqAt.EqAt.int_bool _ _ _⟩
  |int i2=>obtain⟨_,rfl⟩:=vy; unfold eqT; exact⟨SeqAt.RcAt.int_int _ _ _ _,SeqAt.EqAt.int_int _ _ _ _⟩
  |str z2=>obtain⟨_,rfl⟩:=vy; unfold eqT; exact⟨SeqAt.RcAt.int_str _ _ _ _,SeqAt.EqAt.int_str _ _ _ _⟩
  |tup h r=>cases vy; obtain⟨_,_,p,_⟩:=I.tuple h; unfold eqT; exact⟨SeqAt.RcAt.int_tuple _ _ p hu0,SeqAt.EqAt.int_tuple _ _ p hu0⟩
  |lst h r=>cases vy; obtain⟨_,_,p,_⟩:=I.list h; unfold eqT; exact⟨SeqAt.RcAt.int_list _ _ p.isList hu0,SeqAt.EqAt.int_list _ _ p.isList hu0⟩
  |bB h m n=>unfold dep at du; lia
 |str z =>
  obtain⟨_,rfl⟩:=vx
  cases ry with
  |non=>cases vy; unfold eqT; exact⟨SeqAt.RcAt.str_none _ _,SeqAt.EqAt.str_none _ _⟩
  |bl b2=>cases vy; unfold eqT; exact⟨SeqAt.RcAt.str_bool _ _ _,SeqAt.EqAt.str_bool _ _ _⟩
  |int i2=>obtain⟨_,rfl⟩:=vy; unfold eqT; exact⟨SeqAt.RcAt.str_int _ _ _ _,SeqAt.EqAt.str_int _ _ _ _⟩
  |str z2=>obtain⟨_,rfl⟩:=vy; unfold eqT; exact⟨SeqAt.RcAt.str_str _ _ _ _,SeqAt.EqAt.str_str _ _ _ _⟩
  |tup h r=>cases vy; obtain⟨_,_,p,_⟩:=I.tuple h; unfold eqT; exact⟨SeqAt.RcAt.str_tuple _ _ p hu0,SeqAt.EqAt.str_tuple _ _ p hu0⟩
  |lst h r=>cases vy; obtain⟨_,_,p,_⟩:=I.list h; unfold eqT; exact⟨SeqAt.RcAt.str_list _ _ p.isList hu0,SeqAt.EqAt.str_list _ _ p.isList hu0⟩
  |bB h m n=>unfold dep at du; lia
theorem xq(I:Inv X pins σ H s):∀(n:Nat) (A:Around) (t u:Tr) (x y:V) (xv yv:Value),A.units+n<cLine->dep t<=n->dep t<=99->dep u<=99->Rep X.K H x t->Rep X.K H y u->RelV x xv->RelV y yv ->
  SeqAt.RcAt A s xv yv (eqT t u)/\SeqAt.EqAt A s xv yv (eqT t u):=by
 intro n
 induction n with
 |zero=>exact λA t u x y xv yv hu hd _ du rx ry vx vy=>uf I A t u x y xv yv hu hd du rx ry vx vy
 |succ n ih =>
  intro A t u x y xv yv hu hd qF du rx ry vx vy
  have hu0:A.units<cLine:=by lia
  have hu1:A.in1.units+n<cLine:=by
   have:=in1_units A
   lia
  have he:∀{xs ys:List V} {ts us:List Tr} {its its2:List Value},Vals xs its->Vals ys its2->au X.K H xs ts->au X.K H ys us->deps ts<=n->deps ts<=99->deps us<=99->∀j (h1:j<its.toArray.size) (h2:j<its2.toArray.size),SeqAt.EqAt A.in1 s its.toArray[j] its2.toArray[j] (lJ ts us j):=by
   intro xs ys ts us its its2 r1 r2 q1 q2 hde hd9 Ny j h1 h2
   obtain⟨a,ea,ra⟩:=xg r1 h1
   obtain⟨b,eb,rb⟩:=xg r2 h2
   obtain⟨ta,eta,qa⟩:=q1.get ea
   obtain⟨tb,ug,qb⟩:=q2.get eb
   rw[Nx eta ug]
   exact(ih A.in1 ta tb a b _ _ hu1 (Nat.le_trans (nj eta) hde) (Nat.le_trans (nj eta) hd9) (Nat.le_trans (nj ug) Ny) qa qb ra rb).2
  have dt:∀{ts:List Tr},dep (.tup ts)<=n+1->deps ts<=n:=λ{ts} h=>by unfold dep at h; lia
  have dl:∀{ts:List Tr},dep (.lst ts)<=n+1->deps ts<=n:=λ{ts} h=>by unfold dep at h; lia
  have nt:∀{ts:List Tr},dep (.tup ts)<=99->deps ts<=99:=λ{ts} h=>by unfold dep at h; lia
  have nl:∀{ts:List Tr},dep (.lst ts)<=99->deps ts<=99:=λ{ts} h=>by unfold dep at h; lia
  have refs:∀{a b:Addr} {t u:Tr} {k:Bool},dep t<=99->Rep X.K H (.ref a) t->Rep X.K H (.ref b) u->k=eqT t u->SeqAt.RcAt A s (.ref a) (.ref b) k->SeqAt.EqAt A s (.ref a) (.ref b) k:=λ{a b t u k} d9 r1 r2 ek h=>by
   by_cases e:a=b
   .subst e
    have:=Rep.inj I d9 r1 r2
    subst this
    rw[ek,w6]
    exact .same _
   .exact .of_refs e h
  cases rx with
  | @tup a1 xs1 ts h r =>
   cases vx
   obtain⟨its,rv,p,_⟩:=I.tuple h
   cases ry with
   | @tup a2 xs2 us h' r' =>
    cases vy
    obtain⟨its2,fK,p2,_⟩:=I.tuple h'
    have R:=SeqAt.RcAt.tuples p p2 hu0 (he rv fK r r' (dt hd) (nt qF) (nt du))
    have el:its.toArray.size=ts.length:=by simpa using(rv.length.symm.trans r.length)
    have el2:its2.toArray.size=us.length:=by simpa using(fK.length.symm.trans r'.length)
    rw[el,el2]at R
    have eb:((List.range (min ts.length us.length)).all (lJ ts us)&&ts.length == us.length)=eqT (.tup ts) (.tup us):=by
     unfold eqT
     by_cases e:ts.length=us.length
     .rw[e,Nat.min_self,<-e,ud e,beq_self_eq_true,Bool.and_true]
     .rw[beq_false_of_ne e,Bool.and_false,uc e]
    rw[eb]at R
    exact⟨R,refs qF (.tup h r) (.tup h' r') rfl R⟩
   |lst h' r' =>
    cases vy
    obtain⟨_,_,p2,_⟩:=I.list h'
    unfold eqT
    exact⟨SeqAt.RcAt.tuple_list p p2.isList hu0,.tuple_list p p2.isList hu0⟩
   |bB h' m n=>unfold dep at du; lia
   |non=>cases vy; unfold eqT; exact⟨SeqAt.RcAt.tuple_none p hu0,.tuple_none p hu0⟩
   |bl b=>cases vy; unfold eqT; exact⟨SeqAt.RcAt.tuple_bool _ p hu0,.tuple_bool _ p hu0⟩
   |int i=>obtain⟨_,rfl⟩:=vy; unfold eqT; exact⟨SeqAt.RcAt.tuple_int _ _ p hu0,.tuple_int _ _ p hu0⟩
   |str z=>obtain⟨_,rfl⟩:=vy; unfold eqT; exact⟨SeqAt.RcAt.tuple_str _ _ p hu0,.tuple_str _ _ p hu0⟩
  | @lst a1 xs1 ts h r =>
   cases vx
   obtain⟨its,rv,p,_⟩:=I.list h
   cases ry with
   | @lst a2 xs2 us h' r' =>
    cases vy
    obtain⟨its2,fK,p2,_⟩:=I.list h'
    have el:its.toArray.size=ts.length:=by simpa using(rv.length.symm.trans r.length)
    have el2:its2.toArray.size=us.length:=by simpa using(fK.length.symm.trans r'.length)
    by_cases e:ts.length=us.length
    .have R:=SeqAt.RcAt.lists p.isList p2.isList (by rw[el,el2,e]) hu0 (he rv fK r r' (dl hd) (nl qF) (nl du))
     rw[el,ud e]at R
     have eb:jF ts us=eqT (.lst ts) (.lst us):=by unfold eqT; rfl
     rw[eb]at R
     exact⟨R,refs qF (.lst h r) (.lst h' r') rfl R⟩
    .have R:SeqAt.RcAt A s _ _ false:=SeqAt.RcAt.lists_lengths p.isList p2.isList (by rw[el,el2]; simpa using e) hu0
     have eb:false=eqT (.lst ts) (.lst us):=by unfold eqT; rw[uc e]
     rw[eb]at R
     exact⟨R,refs qF (.lst h r) (.lst h' r') rfl R⟩
   |tup h' r' =>
    cases vy
    obtain⟨_,_,p2,_⟩:=I.tuple h'
    unfold eqT
    exact⟨SeqAt.RcAt.list_tuple p.isList p2 hu0,.list_tuple p.isList p2 hu0⟩
   |bB h' m n=>unfold dep at du; lia
   |non=>cases vy; unfold eqT; exact⟨SeqAt.RcAt.list_none p.isList hu0,.list_none p.isList hu0⟩
   |bl b=>cases vy; unfold eqT; exact⟨SeqAt.RcAt.list_bool _ p.isList hu0,.list_bool _ p.isList hu0⟩
   |int i=>obtain⟨_,rfl⟩:=vy; unfold eqT; exact⟨SeqAt.RcAt.list_int _ _ p.isList hu0,.list_int _ _ p.isList hu0⟩
   |str z=>obtain⟨_,rfl⟩:=vy; unfold eqT; exact⟨SeqAt.RcAt.list_str _ _ p.isList hu0,.list_str _ _ p.isList hu0⟩
  |bB h m n=>unfold dep at qF; lia
  |non=>exact uf I A _ _ _ _ _ _ (by lia) (by unfold dep; lia) du .non ry vx vy
  |bl b=>exact uf I A _ _ _ _ _ _ (by lia) (by unfold dep; lia) du (.bl b) ry vx vy
  |int i=>exact uf I A _ _ _ _ _ _ (by lia) (by unfold dep; lia) du (.int i) ry vx vy
  |str z=>exact uf I A _ _ _ _ _ _ (by lia) (by unfold dep; lia) du (.str z) ry vx vy
end
section
variable {X:Cx}{a b:Expr}{ta tb:TE}{pos:Pos}
noncomputable def Dr(K:PySem.W.Frag):R2:=λx y H Q=>∃t u,Rep K H x t/\Rep K H y u/\dep t<=40/\dep u<=40/\Q (.bl (eqT t u)) H
theorem acC(hu:X.A.units+64<cLine):aX X (compareOp .Eq) (Dr X.K):=by
 intro pins s σ H x y v u Q I rx ry h
 obtain⟨t,t',q1,q2,hd,hd2,q⟩:=h
 exact(xq I 40 X.A t t' x y v u (by lia) hd (by lia) (by lia) q1 q2 rx ry).1 _ _ _ _ ⟨.bl _,H,I,rfl,q⟩
noncomputable def jG(t:Tr)(ts:List Tr):Bool:=ts.any λu=>eqT u t
noncomputable def Ds(K:PySem.W.Frag):R2:=λx y H Q=>∃t ts p xs,Rep K H x t/\y=.ref p/\(aH K H p xs\/bw K H p xs)/\au K H xs ts/\deps ts<=40/\dep t<=40/\Q (.bl (jG t ts)) H
theorem xr{xs:List V}{its:List Value}{ts:List Tr}{K:PySem.W.Frag}{H:Hp}(f:Tr->Bool)(e:Value->Bool)(r:Vals xs its)(q:au K H xs ts)(h:∀x v t,x∈xs->RelV x v->Rep K H x t->t∈ts->e v=f t):its.any e=ts.any f:=by
 induction r generalizing ts with
 |nil=>cases q; rfl
 |cons r1 r2 ih =>
  cases q with
  |cons q1 q2 =>
   rw[List.any_cons,List.any_cons,h _ _ _ List.mem_cons_self r1 q1 List.mem_cons_self,ih q2 λx v t hx hr hq ht=>h x v t (List.mem_cons_of_mem _ hx) hr hq (List.mem_cons_of_mem _ ht)]
theorem qG:∀{ts:List Tr} {t:Tr},t∈ts->dep t<=deps ts:=λ{ts t} h=>by
 obtain⟨i,hi,e⟩:=List.mem_iff_getElem.mp h
 exact nj (j:=i) (by rw[List.getElem?_eq_getElem hi,e])
open Classical in
theorem acD(hu:X.A.units+64<cLine):aX X (compareOp .In) (Ds X.K):=by
 intro pins s σ H x y v u Q I rx ry h
 obtain⟨t,ts,p,xs,q1,rfl,hq,qs,hd,hd2,q⟩:=h
 cases ry
 have hu1:X.A.in1.units+40<cLine:=by
  have:=in1_units X.A
  lia
 -- what == tells of an item,by the item itself
 let e:Value->Bool:=λw'=>if h:∃z tz,z∈xs/\RelV z w'/\Rep X.K H z tz/\tz∈ts then eqT (Classical.choose (Classical.choose_spec h)) t else false
 have ee:∀z w' tz,z∈xs->RelV z w'->Rep X.K H z tz->tz∈ts->e w'=eqT tz t:=λz w' tz h1 h2 h3 h4=>by
  have hx:∃z tz,z∈xs/\RelV z w'/\Rep X.K H z tz/\tz∈ts:=⟨z,tz,h1,h2,h3,h4⟩
  show(if h:_ then _ else _)=_
  rw[dif_pos hx]
  have sp:=Classical.choose_spec (Classical.choose_spec hx)
  have key:∀z z' t1 t2,RelV z w'->RelV z' w'->dep t1<=99->Rep X.K H z t1->Rep X.K H z' t2->t1=t2:=λz z' t1 t2 a1 a2 d9 a3 a4=>by
   obtain rfl:=RelV.inj a1 a2
   exact Rep.inj I d9 a3 a4
  rw[key _ _ _ _ sp.2.1 h2 (by have:=qG sp.2.2.2; lia) sp.2.2.1 h3]
 have mem:∀{its:List Value},Vals xs its->∀w'∈its,SeqAt.EqAt X.A.in1 s w' v (e w'):=by
  intro its r w' hw
  obtain⟨j,hj,ej⟩:=List.mem_iff_getElem.mp hw
  have hjx:j<xs.length:=by rw[r.length]; exact hj
  obtain⟨u',h1,h2⟩:=r.get (List.getElem?_eq_getElem hjx)
  rw[List.getElem?_eq_getElem hj,ej]at h1
  cases h1
  obtain⟨tz,h3,h4⟩:=qs.get (List.getElem?_eq_getElem hjx)
  have hm:=List.mem_of_getElem? h3
  rw[ee _ _ tz (List.getElem_mem hjx) h2 h4 hm]
  exact(xq I 40 X.A.in1 tz t _ x _ v hu1 (Nat.le_trans (qG hm) hd) (by have:=qG hm; lia) (by lia) h4 q1 h2 rx).2
 rcases hq with hq|hq
 .obtain⟨its,r,pl,hz⟩:=I.list hq
  refine SeqAt.in_listAt e pl.isList (λw hw=>mem r w (by simpa using hw)) ⟨.bl _,H,I,rfl,?_⟩
  rw[show its.toArray.any e=its.any e by simp,xr (λz=>eqT z t) e r qs λz w' tz h1 h2 h3 h4=>ee z w' tz h1 h2 h3 h4]
  exact q
 .obtain⟨its,r,pl,hz⟩:=I.tuple hq
  refine SeqAt.in_tupleAt e pl (λw hw=>mem r w (by simpa using hw)) ⟨.bl _,H,I,rfl,?_⟩
  rw[show its.toArray.any e=its.any e by simp,xr (λz=>eqT z t) e r qs λz w' tz h1 h2 h3 h4=>ee z w' tz h1 h2 h3 h4]
  exact q
inductive Ty where|int|bool|str|tuple|list
noncomputable def Ty.name:Ty->String
 |.int => "int" |.bool => "bool" |.str => "str" |.tuple => "tuple" |.list => "list"
noncomputable def qH:Tr->Ty->Bool
 |.bl _,.bool=>true|.bl _,.int=>true|.int _,.int=>true|.str _,.str=>true|.tup _,.tuple=>true|.lst _,.list=>true
 |_,_=>false
noncomputable def Nz(K:PySem.W.Frag):List V->Hp->VK->Prop:=λxs H Q=>∃v t c,xs=[v,.ty (Ty.name c)]/\Rep K H v t/\Q (.bl (qH t c)) H
noncomputable def lK(K:PySem.W.Frag):Prop:=∀c∈Dp,∀C,PySem.W.nsIn K mainGlobals c=some (some (.ref C))->(∀a,PySem.W.KitX K (.ref a) (.ref C) (Dm a C))/\∀y:Ty,PySem.W.kitOne K (.ref C) (.type y.name)=some false
theorem acE(hX:lK X.K):fD X (.builtin "isinstance") (Nz X.K):=by
 intro pins s σ H xs us Q I r h
 obtain⟨v,t,c,rfl,q1,q⟩:=h
 obtain⟨u,w',rfl,ru,oR⟩:=vals2 r
 obtain rfl:w'=Value.type (Ty.name c):=oR
 have fin:∀tk,EP X pins σ Q (.bool (qH t c)) {s with toks:=tk }:=λtk=>⟨.bl _,H,I.tok tk,rfl,q⟩
 cases q1 with
 |non=>cases ru; cases c <;> exact PySem.W.kia_one PySem.W.kitx_none I.gR True.intro (by kernel_rfl) (λz=>nomatch z) fin
 |bl y=>cases ru; cases c <;> exact PySem.W.kia_one PySem.W.kitx_bool I.gR True.intro (by kernel_rfl) (λz=>nomatch z) fin
 |int i=>obtain⟨_,rfl⟩:=ru; cases c <;> exact PySem.W.kia_one PySem.W.kitx_int I.gR True.intro (by kernel_rfl) (λz=>nomatch z) fin
 |str y=>obtain⟨_,rfl⟩:=ru; cases c <;> exact PySem.W.kia_one PySem.W.kitx_str I.gR True.intro (by kernel_rfl) (λz=>nomatch z) fin
 |tup h r =>
  cases ru
  obtain⟨_,_,⟨o,h1,h2,_⟩,_⟩:=I.tuple h
  cases c <;> exact PySem.W.kia_one PySem.W.kitx_tuple I.gR ⟨o,h1,h2⟩ (by kernel_rfl) (λz=>nomatch z) fin
 |lst h r =>
  cases ru
  obtain⟨_,_,p,_⟩:=I.list h
  obtain⟨o,h1,h2,_⟩:=p.isList
  cases c <;> exact PySem.W.kia_one PySem.W.kitx_list I.gR ⟨o,h1,h2⟩ (by kernel_rfl) (λz=>nomatch z) fin
 |bB h m n =>
  cases ru
  obtain⟨z1,z2⟩:=hX _ m _ n
  exact PySem.W.kia_one (z1 _) I.gR (I.hok _ _ h).1 (z2 c) (λz=>nomatch z) fin
noncomputable def Dt(K:PySem.W.Frag):List V->Hp->VK->Prop:=λxs H Q=>∃(p:Addr) (bs:List Bool),xs=[.ref p]/\aH K H p (bs.map V.bl)/\Q (.bl (bs.all id)) H
theorem acF(hc:X.calm=true):fD X (.builtin "all") (Dt X.K):=by
 intro pins s σ H xs us Q I r h
 obtain⟨p,bs,rfl,hq,q⟩:=h
 obtain⟨u,rfl,ru⟩:=vals1 r
 cases ru
 obtain⟨its,rv,pl,hz⟩:=I.list hq
 refine call_all_walk (wpAny_pyIter_list pl.isList ?_)
 obtain⟨ol,hol,hol'⟩:=id pl.isList
 have hlt:p<s.heap.objs.size:=Heap.lt_size hol
 have hlen:its.toArray.size=bs.length:=by simpa using rv.length.symm
 have at_:∀(i:Nat) (v:Value),its.toArray[i]?=some v->∃k,bs[i]?=some k/\v=Value.bool k:=λi v e=>by
  have e':its[i]?=some v:=by simpa using e
  have hi:i<its.length:=(List.getElem?_eq_some_iff.mp e').1
  have hb:i<(bs.map V.bl).length:=by rw[rv.length]; exact hi
  obtain⟨u',h1,h2⟩:=rv.get (List.getElem?_eq_getElem hb)
  rw[e']at h1
  cases h1
  have hb':i<bs.length:=by simpa using hb
  refine⟨bs[i],List.getElem?_eq_getElem hb',?_⟩
  rw[List.getElem_map]at h2
  exact h2
 refine⟨s.heap.objs.size,_,_,_,_,_,λi=>bs.getD i true,rfl,Walks.list (A:=X.A.in1) (I.ok.hd hc) s.heap.objs.size p (Nat.ne_of_lt hlt) its.toArray,⟨⟨_,Heap.get?_push_size _ rfl,rfl,rfl⟩,⟨ol,Heap.get?_push_of_some _ hol,hol'⟩⟩,?_,?_⟩
 .intro i v s' Q' E' hP hQ'
  obtain⟨k,h1,rfl⟩:=at_ i v hP
  have:bs.getD i true=k:=by rw[List.getD_eq_getElem?_getD,h1]; rfl
  dsimp only at hQ'
  rw[this]at hQ'
  exact wpAny_truthy_bool hQ'
 .intro h' tk hk
  have I1:Inv X pins σ H {s with heap:=h',toks:=tk }:=I.kept λb o e=>hk b o (by
   have:=Heap.lt_size e
   simp
   exact Nat.ne_of_lt this) (Heap.get?_push_of_some _ e)
  refine⟨.bl _,H,I1,rfl,?_⟩
  have eq:(List.range its.toArray.size).all (λi=>bs.getD i true)=bs.all id:=by
   rw[hlen]
   clear q hq rv at_ hlen hz
   induction bs with
   |nil=>rfl
   |cons b r ih =>
    rw[List.length_cons,List.range_succ_eq_map,List.all_cons,List.all_map,List.all_cons]
    exact congrArg (b && ·) ih
  rw[eq]
  exact q
end
noncomputable def At(K:PySem.W.Frag)(mg:Str->Option Value)(x:Str)(st:Stmt):Prop:=∃f fd,oX K x x st f fd/\mg x=some (.ref f)
section
variable {X:Cx}{k:Nat}{x:Str}{ps:List Str}{sp:Sp}{p q pos:Pos}{e:Expr}{es:List Expr}{te:TE}{t:TA}
theorem acG(hX:lK X.K)(c:Ty)(he:PE X e te)(h1:X.mg "isinstance" = none) (h2:X.mg x=none) (hb:bootBuiltins x=some (.type c.name):=by decide +kernel) (hg1:Gl X "isinstance" := by rfl) (hg2:Gl X x:=by rfl) (hn:x ≠ "__name__" := by decide) (hd:(x == ("__debug__" : Str))=false:=by decide)
  (hs:starEach (e::[.Name x q]) X.env=(false,eval e X.env)::starEach [.Name x q] X.env:=by rfl):PE X (.Call (.Name "isinstance" p) [e,.Name x q] [] pos) (wW (Nz X.K) (CQ te (CQ (tC (.ty c.name)) Mj))) :=
 MF (acE hX) hg1 h1 PyProof.Rows.boot_isinstance (oW he (oW (aau hg2 h2 hb rfl hn hd) tY) hs) (he:=hs)
end
structure Pj(Pr:Hp->Hp)(H0:Hp):Prop where
 mono:∀{H H':Hp},Same H H'->Same (Pr H) (Pr H')
 sub:∀H,Same (Pr H) H
 new:∀{H:Hp} {r:Addr} {o:HO},Same H0 H->H r=none->Pr (upd H r o) r=some o
theorem Pj.id(H0:Hp):Pj (λH=>H) H0:=⟨λs=>s,λH=>Same.refl H,λ_ _=>cu⟩
theorem Pj.le(p:Pj Pr H0)(s:Same H0 H1):Pj Pr H1:=⟨p.mono,p.sub,λs' h=>p.new (s.trans s') h⟩
theorem g8(h:H p=none)(o:HO):Same H (upd H p o):=λb u q=>by rw[aK (gQ q h)]; exact q
noncomputable def notStar:Expr->Bool
 |.Starred _ _=>false
 |_=>true
theorem fW(h:notStar e=true):starEach (e::es) env=(false,eval e env)::starEach es env:=by
 cases e <;> first|rfl|(unfold notStar at h; cases h)
noncomputable def o7(K:PySem.W.Frag)(T:Tr):TE:=λ_ H Q=>∀v H',Same H H'->(∀Pr,Pj Pr H->Rep K (Pr H') v T)->Q v H'
noncomputable def qI(K:PySem.W.Frag)(Ts:List Tr):TA:=λ_ H Q=>∀vs H',Same H H'->(∀Pr,Pj Pr H->au K (Pr H') vs Ts)->Q vs H'
noncomputable def Du(K:PySem.W.Frag)(Ts:List Tr):TE:=λ_ H Q=>∀a xs H1,Same H H1->H1 a=none->(∀Pr,Pj Pr H->au K (Pr H1) xs Ts)->xs.length=Ts.length->Q (.ref a) (upd H1 a (.lst xs))
theorem PE.imp(h:PE X e t)(i:∀σ H Q,u σ H Q->t σ H Q):PE X e u:=⟨λpins s σ H Q I q=>h pins s σ H Q I (i σ H Q q)⟩
theorem PA.imp(h:PA X e t)(i:∀σ H Q,u σ H Q->t σ H Q):PA X e u:=⟨λpos pins s σ H Q I q=>h pos pins s σ H Q I (i σ H Q q)⟩
mutual
noncomputable def pd:Tr->PyData
 |.non=>.none
 |.bl b=>.bool b
 |.int i=>.int i
 |.str x=>.str x
 |.tup ts=>.tuple (Dv ts)
 |.lst ts=>.list (Dv ts)
 |.bB _=>.none
noncomputable def Dv:List Tr->List PyData
 | []=>[]
 |t::r=>pd t::Dv r
end
noncomputable def nw(H H':Hp):Hp:=λb=>match H b with
 |none=>H' b
 |some _=>none
noncomputable def ig(P:Program)(w:World):gU:=λouter H s E e s'=>∃ea cls a0 H' B,e=.ref ea/\E cls none H'/\s'.os=s.os/\AllBare s'.gens/\Un (frs outer) [] H H' s.heap s'.heap/\cA P w H' B /\
 Heap.FlyingW B outer ea cls a0 s'.heap/\∀b o,s.heap.get? b=some o->b∉frs outer->∃o',B.get? b=some o'
theorem acH(hf:env.frame=some L)(h:b∈frs (env::outer)):b=L\/b∈frs outer:=by
 unfold frs at h
 rw[List.filterMap_cons_some hf]at h
 exact List.mem_cons.mp h
theorem acI(h:b∈frs outer):b∈frs (env::outer):=by
 obtain⟨e,he,q⟩:=List.mem_filterMap.mp h
 exact List.mem_filterMap.mpr ⟨e,List.mem_cons_of_mem _ he,q⟩
theorem acJ(x:cA P w H h)(fr:∀b∈l,H b=none):cA P w H (PySem.W.hideAll h l):=λa o e =>
 (x a o e).stay (λb u hb q=>PySem.W.hideAll_get _ q λhm=>by
  rcases hb with rfl|hb
  .rw[fr _ hm]at e; cases e
  .rw[fr _ hm]at hb; cases hb) (λ_ q=>q) λ_ _ q=>q
section
variable {P:Program}{w:World}{K:PySem.W.Frag}{mg:Str->Option Value}{base:Heap}{N:List Str}{qual:Str}{scope:Scope}{f:Addr}{cd:Value}{A:Around}{outer:List Env}{s:Shared}{H:Hp}{E:XK}{CX:gU}
theorem Un.left{pins:List (Addr × Obj)}{σ : St}{H1 H2:Hp}{s1:Shared}{h2 h3 B:Heap}(I:Inv (iJ CX P w K mg base N qual scope f cd A outer s H E) pins σ H1 s1)
  (u:Un (frs (envOfC qual scope s.heap.objs.size f cd::outer)) [] H1 H2 s1.heap h2) (st:B.StaysIn h2) (kb:∀b o,s1.heap.get? b=some o->b∉frs (envOfC qual scope s.heap.objs.size f cd::outer)->∃o',B.get? b=some o')
  (fl:B.StaysIn h3) (sl:h2.UpToSlots h3):Un (frs outer) [] H H2 s.heap h3/\∀b o,s.heap.get? b=some o->b∉frs outer->∃o',B.get? b=some o':=by
 have ub:=I.base
 have hf:(envOfC qual scope s.heap.objs.size f cd).frame=some s.heap.objs.size:=by
  rcases I.ok.stk with z|z
  .exact absurd (congrArg List.length z) (by show outer.length+1≠outer.length; lia)
  .exact z.2
 have no:∀b o,s.heap.get? b=some o->b∉frs outer->b∉frs (envOfC qual scope s.heap.objs.size f cd::outer):=λb o e n z=>by
  rcases acH hf z with rfl|z
  .exact absurd (Heap.lt_size e) (Nat.lt_irrefl _)
  .exact n z
 have nx:∀b:Addr,b∉([]:List Addr):=λb z=>nomatch z
 have inB:∀b o,s.heap.get? b=some o->b∉frs outer->∃o',B.get? b=some o':=λb o e n=>by
  obtain⟨o1,e1⟩:=ub.there b o e (nx b)
  exact kb b o1 e1 (no b o e n)
 have slots:∀b o,s.heap.get? b=some o->H b=none->b∈frs outer->∃sl,h3.get? b=some {o with slots:=sl }:=λb o e n z=>by
  obtain⟨NK,e1⟩:=ub.slot b o e n z (nx b)
  obtain⟨sl2,e2⟩:=u.slot b _ e1 (ub.free b o e n (nx b)) (acI z) (nx b)
  obtain⟨_,o',e',nf⟩:=I.ok.jd.mem z
  have e'':s.heap.get? b=some o':=e'
  rw[e]at e''
  cases e''
  obtain⟨Dw,e3⟩:=sl b _ e2 nf
  exact⟨Dw,e3⟩
 refine⟨⟨λb o e n z _=>?_,λb o e n z _=>slots b o e n z,λb o e n _=>?_,λb o e _=>?_,λb xs q=>u.tups b xs (ub.tups b xs q),λb o q z=>u.jx b o q (ub.jx b o q z),λb ps q=>?_⟩,inB⟩
 .have e1:=ub.keep b o e n z (nx b)
  have e2:=u.keep b o e1 (ub.free b o e n (nx b)) (no b o e z) (nx b)
  obtain⟨o',e3⟩:=inB b o e z
  have e4:=st b o' e3
  rw[e2]at e4
  cases e4
  exact fl b o e3
 .obtain⟨o1,e1⟩:=ub.there b o e (nx b)
  exact u.free b o1 e1 (ub.free b o e n (nx b)) (nx b)
 .by_cases z:b∈frs outer
  .obtain⟨sl,e1⟩:=slots b o e (I.ok.oK b z) z
   exact⟨_,e1⟩
  .obtain⟨o',e1⟩:=inB b o e z
   exact⟨o',fl b o' e1⟩
 .obtain⟨m1,e1⟩:=ub.jz b ps q
  obtain⟨m2,e2⟩:=u.jz b _ e1
  exact⟨m1++m2,by rw[e2,Array.append_assoc]⟩
end
noncomputable def Raises(X:Cx)(E:XK):Prop:=∀(pins:List (Addr × Obj)) (σ : St) (H:Hp) (s:Shared) (h':Heap) (e C:Addr) (us:List Value),Inv X pins σ H s->Heap.MadeExcOf s.heap h' e (.ref C) us->E (.ref C) none H->X.xe (.ref e) {s with heap:=h' }
theorem NP{P:Program}{w:World}{K:PySem.W.Frag}{mg:Str->Option Value}{base:Heap}{N:List Str}{qual:Str}{scope:Scope}{f:Addr}{cd:Value}{A:Around}{outer:List Env}{s:Shared}{H:Hp}{E:XK} :
  Raises (iJ (ig P w) P w K mg base N qual scope f cd A outer s H E) E:=by
 intro pins σ H1 s1 h' e C us I hx q
 have hs:=I.stack
 have hf:(envOfC qual scope s.heap.objs.size f cd).frame=some s.heap.objs.size:=by
  rcases I.ok.stk with z|z
  .exact absurd (congrArg List.length z) (by show outer.length+1≠outer.length; lia)
  .exact z.2
 have hin:∀env∈(envOfC qual scope s.heap.objs.size f cd::outer),∀a,env.frame=some a->a∈frs (envOfC qual scope s.heap.objs.size f cd::outer):=λenv he b hb=>List.mem_filterMap.mpr ⟨env,he,hb⟩
 have NQ:(PySem.W.hideAll s1.heap (frs (envOfC qual scope s.heap.objs.size f cd::outer))).StaysIn s1.heap:=λb o z=>PySem.W.of_hideAll _ z
 have stH:=λb o z=>hx.keeps b o (NQ b o z)
 refine wpAny_leaves_madeW (base:=PySem.W.hideAll s1.heap (frs (envOfC qual scope s.heap.objs.size f cd::outer))) (h:=s1.heap) I.ok.frames hf NQ (PySem.W.funFrames_hide hs hin) hx λh'' t fl _ _ sl=>?_
 obtain⟨un,ib⟩:=Un.left (B:=PySem.W.hideAll s1.heap (frs (envOfC qual scope s.heap.objs.size f cd::outer))) I (Un.kept (h':=h') hx.keeps) stH (λb o z n=>⟨o,PySem.W.hideAll_get _ z n⟩) fl.1 sl
 exact⟨e,.ref C,.ref t,H1,_,rfl,q,I.os,I.bare,un,acJ I.hok I.wH,fl,ib⟩
theorem NT{P:Program}{w:World}{K:PySem.W.Frag}{mg:Str->Option Value}{base:Heap}{N:List Str}{qual:Str}{scope:Scope}{f:Addr}{cd:Value}{A:Around}{outer:List Env}{s:Shared}{H:Hp}{E:XK} :
  Passes (ig P w) (iJ (ig P w) P w K mg base N qual scope f cd A outer s H E) E:=by
 intro pins σ H1 s1 e s' I h
 obtain⟨ea,cls,a0,H2,B,rfl,q,os,bare,un,hok,fl,kb⟩:=h
 have hf:(envOfC qual scope s.heap.objs.size f cd).frame=some s.heap.objs.size:=by
  rcases I.ok.stk with z|z
  .exact absurd (congrArg List.length z) (by show outer.length+1≠outer.length; lia)
  .exact z.2
 refine wpAny_leaves_onW (base:=B) I.ok.frames hf fl λh'' xu sl=>?_
 obtain⟨un',ib⟩:=Un.left (B:=B) I un fl.1 kb xu.1 sl
 exact⟨ea,cls,a0,H2,B,rfl,q,os.trans I.os,bare,un',hok,xu,ib⟩
noncomputable def acK(E:XK)(C:Addr)(te:TE):TS:=λ_ σ H=>te σ H λv H1=>[v].length=1/\E (.ref C) none H1
theorem acL(R:Raises X E)(O:OwnCls x C bm newId X.mg X.base)(FB:ExcBaseFacts B newId initId bm)(hc:X.calm=true)(ha:PE X e te)
  (hg:Gl X x:=by rfl) (hd:(x == ("__debug__" : Str))=false:=by decide) (hs:starEach [e] X.env=[(false,eval e X.env)]:=by rfl) :
  PS X (.Raise (some (.Call (.Name x np) [e] [] cpos)) none pos) (acK E C te):=by
 refine⟨λpins s σ H D I h=>?_⟩
 obtain⟨tl,N,nm,q,bs,hdct,sn,sub,ab,col,dd,k0,k1,k2,k3,k5,mN,hC,hN,hni,T⟩:=O.obj
 refine wpAny_Raise_call_subT (C:=C) (nm:=nm) (q:=q) (N:=N) (bs:=bs) (bm:=tl) (hdct:=hdct) (sn:=sn) (sub:=sub) (ab:=ab) (col:=col) (dd:=dd) (k0:=k0) (k1:=k1) (k2:=k2) (k3:=k3) (k5:=k5)
  FB (mN:=mN) (T.hasType FB.hasBase) (I.ok.hd hc) (by rw[hs]; rfl) hni (Cm I hg O.bound ⟨rfl,?_⟩ hd)
 have ga:=oW ha tY (by rw[hs]; rfl)
 have z:=ga cpos pins s σ H (λvs H1=>vs.length=1/\E (.ref C) none H1) I (by
  exact h)
 rw[hs]at z ⊢
 refine Calls.evalArgs_plain (wpAny_mono z (λus s₂ h₂=>?_) λ_ _ y=>y)
 obtain⟨vs,H2,I2,rv,hl,hE⟩:=h₂
 refine⟨rfl,?_,I2.bk _ _ hC,hN.keeps I2.bk,T.keeps I2.bk,λh' e' hm=>R pins σ H2 s₂ h' e' C us I2 hm hE⟩
 rw[<-rv.length,hl]
 decide
noncomputable def XP(X:Cx)(pins:List (Addr × Obj))(EX:St->XK)(e:Value)(s':Shared):Prop:=∃σ H s,Inv X pins σ H s/\ig X.prog X.w X.stack H s (EX σ) e s'
noncomputable abbrev TX:=Ends->(St->XK)->St->Hp->Prop
noncomputable abbrev TEX:=(St->XK)->TE
end L2
end
section
namespace L2
open PySem PySem.Spec PyProof.Rows PySem.W PySem.Builtin PySem.Builtin.ObjectAttr PySem.Builtin.Getset_descriptor
structure nq(K:Frag)(C:Addr):Prop where
 ga:findIn K (.ref C) "__getattribute__" = some (some (.builtin "BaseException.__getattribute__"))
 gn:findIn K (.ref C) "__getattr__" = some none
 cl:findIn K (.ref C) "__class__" = some (some (.builtin "object.__class__"))
 ob:mroIn K C (.type "object")=some true
 be:mroIn K C (.type "BaseException")=some true
 is:(clsIn K C).isSome=true
section
variable {prog:Program}{w:World}{A:Around}{E:Value->Shared->Prop}{h:Heap}{g:Array GenState}{d:Drawn}{t:Nat}{os:OsState}{a C:Addr}{o:Obj}{K:Frag}
theorem acM(X:K.In h)(Z:nq K C)(hx:h.get? a=some o)(hc:o.cls=.ref C)(hq:R (.ok (.ret (.ref C))) ⟨h,g,d,t,os⟩) :
  codeAny (model prog w) A (.call (.builtin "getset_descriptor.__get__") ⟨[.builtin "object.__class__",.ref a,.ref C],[]⟩) R ⟨h,g,d,t,os⟩:=by
 have ty:Looks (model prog w) h (typeOf (.ref a)) (.ref C):=hc▸(Looks.ld hx).andThen .now
 have ms:=looks_mroIn (M:=model prog w) X Z.ob
 refine codeAny_call_builtin KF.slot_gs.plain KF.entry_gs (KF.slot_gs.check _ _ _ _ _ _ _ _ KF.type_class (KF.args_gs _ _ _) ?_)
 unfold Builtin.«getset_descriptor.__get__»
 unfold Builtin.Getset_descriptor.descrGet
 rw[dga_obj]
 refine wpAny_bind (wpAny_pure ?_)
 unfold Builtin.Getset_descriptor.descrGetter
 unfold Builtin.Getset_descriptor.descrCheckInstance
 unfold Builtin.Getset_descriptor.descrNameAndClass
 unfold isInstance
 simp only[KF.owner_class]
 repeat lk
 refine⟨Code.quiet_builtin _ (by decide +kernel),codeAny_builtin KF.entry_class ?_⟩
 unfold Builtin.«object.__class__»
 unfold shownTypeOf
 repeat lk
 all_goals first|exact hq|assumption
theorem acN(X:K.In h)(Z:nq K C)(hx:h.get? a=some o)(hc:o.cls=.ref C)(hq:Q (.done (.ret (.ref C))) ⟨h,g,d,t,os⟩) :
  wpAny (model prog w) A (Builtin.«object.__getattribute__» ⟨[.ref a,.str "__class__" tk],[]⟩) Q E ⟨h,g,d,t,os⟩:=by
 have hT5:(⟨h,g,d,t,os⟩:Shared).TypeIs (.builtin "object.__class__") "getset_descriptor" := KF.type_class
 have f6:=F.slot_gs_get.lookup
 have f7:=F.slot_gs_set.lookup
 have lc:=λA (Q:Option Value->Shared->Prop) E (q:Q (some (.builtin "object.__class__")) ⟨h,g,d,t,os⟩)=>looks_findIn (M:=model prog w) X Z.cl A Q E ⟨h,g,d,t,os⟩ (λ_ _ z=>z) q
 repeat(any_goals (first|assumption|(with_reducible refine wpAny_loadPart_at hx ?_; rw[hc])|with_reducible refine lc _ _ _ ?_|wp_step))
 refine acM X Z hx hc ?_
 repeat(any_goals (first|assumption|wp_step))
theorem acO(X:K.In h)(Z:nq K C)(hx:h.get? a=some o)(hc:o.cls=.ref C)(hq:Q () ⟨h,g,d,t,os⟩) :
  wpAny (model prog w) A (checkBuiltinCall "BaseException.__getattribute__" ⟨[.ref a,nameV],[]⟩) Q E ⟨h,g,d,t,os⟩:=by
 have b1:builtinKind "BaseException.__getattribute__" = some .slot:=by decide +kernel
 have b2:splitId "BaseException.__getattribute__" = some ("BaseException", "__getattribute__"):=by decide +kernel
 have ha:=F.args_bexc_ga (.ref a) nameV
 have lc:=λA (Q:Bool->Shared->Prop) E (q:Q true ⟨h,g,d,t,os⟩)=>looks_mroIn (M:=model prog w) X Z.be A Q E ⟨h,g,d,t,os⟩ (λ_ _ z=>z) q
 simp only[checkBuiltinCall,b1,b2]
 refine wpAny_bind ?_
 unfold isInstance
 repeat(first|(with_reducible refine wpAny_loadPart_at hx ?_; rw[hc])|with_reducible refine lc _ _ _ ?_|wp_step)
 exact hq
theorem acP(X:K.In h)(Z:nq K C)(hx:h.get? a=some o)(hc:o.cls=.ref C)(hq:R (.ok (.ret (.ref C))) ⟨h,g,d,t,os⟩) :
  codeAny (model prog w) A (.call (.builtin "BaseException.__getattribute__") ⟨[.ref a,.str "__class__" tk],[]⟩) R ⟨h,g,d,t,os⟩ :=
 codeAny_call_builtin PySem.F.attr_ValueError.ga.plain F.entry_bexc_ga (acO X Z hx hc (acN X Z hx hc hq))
theorem acQ(X:K.In h)(Z:nq K C)(hx:h.get? a=some o)(hc:o.cls=.ref C)(hq:Q (.ref C) ⟨h,g,d,t,os⟩) :
  wpAny (model prog w) A (getAttrBy (.ref a) (.str "__class__" tk) false) Q E ⟨h,g,d,t,os⟩:=by
 have f3:=PySem.F.attr_ValueError.ga.bind (.ref a)
 have hx2:(Value.builtin "BaseException.__getattribute__" == Value.builtin "object.__getattribute__")=false:=by decide +kernel
 have hx1:(onTheHeap (Value.ref C)&&Value.builtin "BaseException.__getattribute__" == Value.builtin "object.__getattribute__")=false:=by rw[hx2]; rfl
 have l1:=λA (Q:Option Value->Shared->Prop) E (q:Q (some (.builtin "BaseException.__getattribute__")) ⟨h,g,d,t,os⟩)=>looks_findIn (M:=model prog w) X Z.ga A Q E ⟨h,g,d,t,os⟩ (λ_ _ z=>z) q
 have l2:=λA (Q:Option Value->Shared->Prop) E (q:Q none ⟨h,g,d,t,os⟩)=>looks_findIn (M:=model prog w) X Z.gn A Q E ⟨h,g,d,t,os⟩ (λ_ _ z=>z) q
 repeat(any_goals (first|assumption|(with_reducible refine wpAny_loadPart_at hx ?_; rw[hc])|with_reducible refine l1 _ _ _ ?_|with_reducible refine l2 _ _ _ ?_|wp_step))
 refine acP X Z hx hc ?_
 repeat(any_goals (first|assumption|wp_step))
theorem acR(X:K.In h)(Z:nq K C)(hx:h.get? a=some o)(hc:o.cls=.ref C)(hq:Q (some (.ref C)) ⟨h,g,d,t+1,os⟩) :
  wpAny (model prog w) A (getAttr? (.ref a) "__class__") Q E ⟨h,g,d,t,os⟩:=by
 repeat(any_goals (first|assumption|with_reducible apply acQ X Z hx hc|wp_step))
theorem acS(Z:nq K C):KitX K (.ref a) (.ref C) (Dm a C) where
 ty:=λ_ _ _ ⟨o,_,h1,h2,_⟩=>h2▸(Looks.ld h1).andThen .now
 it:=λ_ _ X _=>by
  obtain⟨cd,e⟩:=Option.isSome_iff_exists.mp Z.is
  unfold clsIn at e
  split at e
  .rename_i ho
   intro A' Q' E' s' k q
   unfold isType loadHead
   exact wpAny_bind (wpAny_loadPart (k _ _ (X _ _ ho)) (wpAny_pure q))
  .cases e
 ne:=λh tp dd its n sl X htp=>by
  obtain⟨cd,e⟩:=Option.isSome_iff_exists.mp Z.is
  refine Bool.eq_false_iff.mpr λq=>?_
  have q':C=tp:=Value.ref.inj (beq_iff_eq.mp q)
  subst q'
  unfold clsIn at e
  split at e
  .rename_i ho
   have z:=(X _ _ ho).symm.trans htp
   cases z
  .cases e
 ca:=λ{_ _ _ _ _ s} X p k=>by
  obtain⟨h,g,d,t,os⟩:=s
  obtain⟨o,_,h1,h2,_⟩:=p
  exact acR X Z h1 h2 k
end
open PySem
theorem acT(a b:Int):a=b*a.fdiv b+a.fmod b:=by
 have:=Int.mul_fdiv_add_fmod a b
 omega
theorem NZ(a b:Int)(h:b≠0):(a.fmod b).natAbs<b.natAbs:=by
 have h1:=Int.emod_nonneg a h
 have h2:=Int.emod_lt a h
 rw[Int.fmod_eq_emod]
 split
 .omega
 .rename_i hn
  have hb:¬0<=b:=λz=>hn (.inl z)
  have hd:¬b∣a:=λz=>hn (.inr z)
  have h3:a%b≠0:=λz=>hd (Int.dvd_of_emod_eq_zero z)
  omega
theorem N5(a b:Int):Int.gcd b (a.fmod b)=Int.gcd a b:=by
 have e:=acT a b
 apply Nat.dvd_antisymm
 .refine Int.dvd_gcd ?_ ?_
  .have h1:(Int.gcd b (a.fmod b):Int)∣b:=Int.gcd_dvd_left ..
   have h2:(Int.gcd b (a.fmod b):Int)∣a.fmod b:=Int.gcd_dvd_right ..
   have h3:=Int.dvd_add (Int.dvd_mul_of_dvd_left (c:=a.fdiv b) h1) h2
   rw[<-e]at h3
   exact h3
  .exact Int.gcd_dvd_left ..
 .refine Int.dvd_gcd ?_ ?_
  .exact Int.gcd_dvd_right ..
  .have h1:(Int.gcd a b:Int)∣a:=Int.gcd_dvd_left ..
   have h2:(Int.gcd a b:Int)∣b:=Int.gcd_dvd_right ..
   have e2:a.fmod b=a-b*a.fdiv b:=by omega
   rw[e2]
   exact Int.dvd_sub h1 (Int.dvd_mul_of_dvd_left h2)
theorem acU(a:Int):(if a<0 then -a else a)=((Int.gcd a 0:Nat):Int):=by
 rw[Int.gcd_zero_right]
 split <;> omega
theorem qJ(hb:0<b):0<((Int.gcd a b:Nat):Int)/\((Int.gcd a b:Nat):Int)<=b/\1<=b / (Int.gcd a b:Nat)/\Int.gcd (a / (Int.gcd a b:Nat)) (b / (Int.gcd a b:Nat))=1/\(0<=a->0<=a / (Int.gcd a b:Nat)) /\
  a=(a / (Int.gcd a b:Nat))*(Int.gcd a b:Nat)/\b=(b / (Int.gcd a b:Nat))*(Int.gcd a b:Nat):=by
 have hg:0<Int.gcd a b:=Int.gcd_pos_of_ne_zero_right a (by omega)
 have hgi:0<((Int.gcd a b:Nat):Int):=by omega
 have d1:(Int.gcd a b:Int)∣a:=Int.gcd_dvd_left ..
 have d2:(Int.gcd a b:Int)∣b:=Int.gcd_dvd_right ..
 have e1:=Int.ediv_mul_cancel d1
 have e2:=Int.ediv_mul_cancel d2
 refine⟨hgi,Int.le_of_dvd hb d2,?_,Int.gcd_ediv_gcd_ediv_gcd hg,λh=>Int.ediv_nonneg h (by omega),e1.symm,e2.symm⟩
 have:0<b / (Int.gcd a b:Nat):=Int.ediv_pos_of_pos_of_dvd hb (by omega) d2
 omega
open PySem.Spec PyProof.Rows
theorem acV(h1:1<=q)(h2:1<=q')(g1:Int.gcd p q=1)(g2:Int.gcd p' q'=1)(e:p*q'=p'*q):p=p'/\q=q':=by
 have en:p.natAbs*q'.natAbs=p'.natAbs*q.natAbs:=by rw[<-Int.natAbs_mul,<-Int.natAbs_mul,e]
 have c1:Nat.Coprime q.natAbs p.natAbs:=by rw[Nat.coprime_comm]; exact g1
 have c2:Nat.Coprime q'.natAbs p'.natAbs:=by rw[Nat.coprime_comm]; exact g2
 have d1:q.natAbs∣q'.natAbs:=c1.dvd_of_dvd_mul_left ⟨p'.natAbs,by rw[en,Nat.mul_comm]⟩
 have d2:q'.natAbs∣q.natAbs:=c2.dvd_of_dvd_mul_left ⟨p.natAbs,by rw[<-en,Nat.mul_comm]⟩
 have ea:=Nat.dvd_antisymm d1 d2
 have eq:q=q':=by lia
 refine⟨?_,eq⟩
 rw[<-eq]at e
 exact Int.eq_of_mul_eq_mul_right (by lia) e
open PySem.W
theorem acW{K:Frag}{h:Heap}{mg:Str->Option Value}{x:Str}{C:Addr}{bmB:List Value}{newId:String}(X:K.In h)(G:h.Ns mainGlobals mg)(e:nsIn K mainGlobals x=some (some (.ref C)))(q:excIn K C bmB newId=true):OwnCls x C bmB newId mg h:=by
 constructor
 .exact mg_of X G e
 unfold excIn at q
 split at q
 case h_2=>cases q
 rename_i dd cd sl lk
 split at q
 case h_2=>cases q
 rename_i c0 bm y0 y1 y2 y3 nid y5 hm hl
 rw[Bool.and_eq_true,Bool.and_eq_true,Bool.and_eq_true,Bool.and_eq_true,Bool.and_eq_true]at q
 obtain⟨⟨⟨⟨⟨q1,q2⟩,q3⟩,q4⟩,q5⟩,q6⟩:=q
 have r1:=beq_iff_eq.mp q1
 have r2:=beq_iff_eq.mp q2
 have r6:=beq_iff_eq.mp q6
 have r3:cd.hasDel=false:=by simpa using q3
 subst r1 r2
 have hsl:sl = #[y0,y1,y2,y3,some (.builtin nid),y5]:=by
  cases sl with
  |mk l=>exact congrArg Array.mk hl
 subst hsl
 cases cd with
 |mk nm bs mro ns qn hd sn sub ab col del =>
  subst hm r3
  exact⟨bm,ns,nm,qn,bs,hd,sn,sub,ab,col,dd,y0,y1,y2,y3,y5,_,X _ _ lk,.of_isNs (isNs_of_in X q5),nsMap_none_of_in X q5 r6,tail_of_in X q4⟩
section
variable {P:Program}{w:World}{K:Frag}{mg:Str->Option Value}{base:Heap}
theorem oX.okX{x qual:Str}{st:Stmt}{f:Addr}{fd:FuncData}{N ps:List Str}{k:Nat}{sp:Sp}(F:oX K x qual st f fd)(S:qy N ps (bV st))(len:∀vs H Q E,sp vs H Q E->vs.length=ps.length)
  (hbody:∀(cdv:Value) (A:Around) (outer:List Env) (s:Shared) (H:Hp) (vs:List V) (Q:VK) (E:XK),dU k (A.deeper (envOfC qual (bV st) s.heap.objs.size f cdv))->sp vs H Q E ->
   ∃t,eV (iJ (ig P w) P w K mg base N qual (bV st) f cdv A outer s H E) (gY st) t/\t {nx:=λ_ H'=>Q .non H',rt:=Q } (start N vs) H):iI P w K mg base (ig P w) (k+1) f fd ps sp:=by
 obtain⟨oc,od,kV,doc,pm,an,cdv,ct,osl,rfl,lk,hcd⟩:=F.ex
 exact Mz lk hcd S len λA outer s H vs Q E hr h=>hbody cdv A outer s H vs Q E hr h
noncomputable def jX(P:Program)(w:World)(K:Frag)(mg:Str->Option Value)(base:Heap)(k:Nat)(x:Str)(ps:List Str)(sp:Sp):Prop :=
 ∃f fd,iI P w K mg base (ig P w) k f fd ps sp/\Binds K fd ps []/\keepIn K (.ref f)=true/\mg x=some (.ref f)
theorem jX.mono(D:jX P w K mg base j x ps sp)(h:j<=k):jX P w K mg base k x ps sp:=by
 obtain⟨f,fd,h1,h2⟩:=D
 exact⟨f,fd,h1.mono h,h2⟩
theorem At.dfx{k:Nat}{x:Str}{st:Stmt}{N ps:List Str}{sp:Sp}(a:At K mg x st)(S:qy N ps (bV st))
  (hb:∀(kV doc pm:Value) (an:Option Addr) (cdv ct:Value) (us:List Value),us.length=ps.length->bindArgs (fnOf x x (jE st) (gY st) (bV st) .none kV doc pm an cdv ct) ⟨us,[]⟩=pure (ps.zip us))
  (len:∀vs H Q E,sp vs H Q E->vs.length=ps.length)
  (hbody:∀(f:Addr) (cdv:Value) (A:Around) (outer:List Env) (s:Shared) (H:Hp) (vs:List V) (Q:VK) (E:XK),dU k (A.deeper (envOfC x (bV st) s.heap.objs.size f cdv))->sp vs H Q E ->
   ∃t,eV (iJ (ig P w) P w K mg base N x (bV st) f cdv A outer s H E) (gY st) t/\t {nx:=λ_ H'=>Q .non H',rt:=Q } (start N vs) H):jX P w K mg base (k+1) x ps sp:=by
 obtain⟨f,fd,F,m⟩:=a
 exact⟨f,fd,F.okX S len λcdv A outer s H vs Q E hr h=>hbody f cdv A outer s H vs Q E hr h,F.binds hb,F.kp,m⟩
end
section
variable {X:Cx}{k:Nat}{x:Str}{ps:List Str}{sp:Sp}{p pos:Pos}{e:Expr}{es:List Expr}{t:TA}
theorem N6:Passes (ig P w) X E0:=λ_ _ _ _ _ _ _ h=>by
 obtain⟨_,_,_,_,_,_,q,_⟩:=h
 exact q.elim
end
end L2
end
section
namespace L2
open PySem PySem.Spec PyProof.Rows
noncomputable def N7(K:PySem.W.Frag)(l1 l2:Addr):It where
 go:=λi H=>∃xs ys x y,aH K H l1 xs/\aH K H l2 ys/\xs[i]?=some x/\ys[i]?=some y
 jC:=λi H v H'=>∃T x y,v=.ref T/\H T=none/\H'=upd H T (.tup [x,y])/\∀xs ys,aH K H l1 xs->aH K H l2 ys->xs[i]?=some x/\ys[i]?=some y
 stop:=λi H=>∃xs ys,aH K H l1 xs/\aH K H l2 ys/\i=min xs.length ys.length
noncomputable def acX(l1 l2 z TI TO i1 i2:Addr)(i:Nat)(h:Heap):Prop:=IsZip h z TI TO .none/\IsPair h TI (.ref i1) (.ref i2)/\(∃a b,IsPair h TO a b)/\h.IsListIter i1 l1 i/\h.IsListIter i2 l2 i
section
variable {P:Program}{w:World}{K:PySem.W.Frag}
theorem Inv.Dy{pins:List (Addr × Obj)}{tk:Nat}{fp:List Addr}{xs:List V}{its:List Value}(I:Inv X pins σ H s)(hf:∀b∈fp,bO X pins H b)(k:∀b o,b∉fp->s.heap.get? b=some o->h'.get? b=some o)
  (th:∀b∈fp,∃o,h'.get? b=some o) (hT:s.heap.objs.size<=T) (ht:IsTup h' T its.toArray) (rv:Vals xs its) (hz:xs.length<=sizeLine):Inv X pins σ (upd H T (.tup xs)) {s with heap:=h',toks:=tk }:=by
 have fT:H T=none:=I.hok.fresh hT
 have neT:∀b o,s.heap.get? b=some o->b≠T:=λb o e z=>by rw[z]at e; exact absurd (Heap.lt_size e) (Nat.not_lt.mpr hT)
 have uh:∀b o,H b=some o->b≠T:=λb o e z=>by rw[z,fT]at e; cases e
 refine I.step (g':=s.gens) (d':=s.drawn) (ch:=fp) (λb hb=>?_) (λb o _ _ hc e _=>k b o hc e) (λb o _ _ hc e _=>⟨o.slots,k b o hc e⟩) (λb o _ e n=>by rw[aK (neT b o e)]; exact n) (λb o hc e=>⟨o,k b o hc e⟩)
  (λb ys e=>by rw[aK (uh b _ e)]; exact e) (λb o u e=>by rw[aK (uh b _ e)]; exact e) (λb ps e=>⟨#[],by rw[aK (uh b _ e)]; simpa using e⟩) (λm hm=>?_) (λb u e=>?_) I.bare
 .obtain⟨f0,f1,f2,f3,f4,f5⟩:=hf b hb
  exact⟨f3,f1,f4,f5⟩
 .obtain⟨o,es,ep,ho,r⟩:=hm
  exact⟨o,es,ep,k _ o (λz=>(hf _ z).2.1 rfl) ho,r⟩
 .by_cases z:b=T
  .subst z
   rw[cu]at e
   cases e
   exact⟨hz,its,rv,ht⟩
  .rw[aK z]at e
   refine(I.hok b u e).stay (λc o hc q=>k c o (λzc=>?_) q) (λc q=>by rw[aK (uh c _ q)]; exact q) λc ys q=>by rw[aK (uh c _ q)]; exact q
   have:=(hf c zc).1
   rcases hc with rfl|hc
   .rw[this]at e; cases e
   .rw[this]at hc; cases hc
theorem Inv.Dz{pins:List (Addr × Obj)}{tk:Nat}{fp:List Addr}(I:Inv X pins σ H s)(hf:∀b∈fp,bO X pins H b)(k:∀b o,b∉fp->s.heap.get? b=some o->h'.get? b=some o):Inv X pins σ H {s with heap:=h',toks:=tk }:=by
 refine I.step (g':=s.gens) (d':=s.drawn) (ch:=fp) (λb hb=>?_) (λb o _ _ hc e _=>k b o hc e) (λb o _ _ hc e _=>⟨o.slots,k b o hc e⟩) (λb o _ e n=>n) (λb o hc e=>⟨o,k b o hc e⟩)
  (λb ys e=>e) (λb o u e=>e) (λb ps e=>⟨#[],by simpa using e⟩) (λm hm=>?_) (λb u e=>?_) I.bare
 .obtain⟨f0,f1,f2,f3,f4,f5⟩:=hf b hb
  exact⟨f3,f1,f4,f5⟩
 .obtain⟨o,es,ep,ho,r⟩:=hm
  exact⟨o,es,ep,k _ o (λz=>(hf _ z).2.1 rfl) ho,r⟩
 .refine(I.hok b u e).stay (λc o hc q=>k c o (λzc=>?_) q) (λc q=>q) λc ys q=>q
  have:=(hf c zc).1
  rcases hc with rfl|hc
  .rw[this]at e; cases e
  .rw[this]at hc; cases hc
theorem acY{elts:List Expr}{k:Nat}(l1 l2 z TI TO i1 i2:Addr)(D:ZipApart z TI TO i1 i2 l1 l2):Turn P w K (.Tuple elts k pos) (N7 K l1 l2) [z,TI,TO,i1,i2] z (acX l1 l2 z TI TO i1 i2) where
 mem:=by simp
 obj:=λi h st b hb=>by
  obtain⟨hz,hTI,⟨a,c,hTO⟩,⟨o1,e1,_,d1⟩,⟨o2,e2,_,d2⟩⟩:=st
  have hb':b=z\/b=TI\/b=TO\/b=i1\/b=i2:=by simpa using hb
  rcases hb' with rfl|rfl|rfl|rfl|rfl
  .exact⟨_,hz,λv q=>nomatch q⟩
  .exact⟨_,hTI,λv q=>nomatch q⟩
  .exact⟨_,hTO,λv q=>nomatch q⟩
  .exact⟨o1,e1,λv q=>by rw[d1]at q; cases q⟩
  .exact⟨o2,e2,λv q=>by rw[d2]at q; cases q⟩
 keep:=λi h h' st kp=>by
  obtain⟨hz,hTI,⟨a,c,hTO⟩,h1,h2⟩:=st
  exact⟨kp z (by simp) _ hz,kp TI (by simp) _ hTI,⟨a,c,kp TO (by simp) _ hTO⟩,h1.at λo e=>kp i1 (by simp) o e,h2.at λo e=>kp i2 (by simp) o e⟩
 item:=by
  intro X hP hw hK hc i pins s σ H E I hf st hg
  subst hP hw hK
  obtain⟨xs,ys,x,y,q1,q2,hx,hy⟩:=hg
  obtain⟨fX,lM,p1,_⟩:=I.list q1
  obtain⟨its2,fK,p2,_⟩:=I.list q2
  obtain⟨u,hu,ru⟩:=lM.get hx
  obtain⟨v,hv,rv⟩:=fK.get hy
  have W:=WalksT.zip2 (prog:=X.prog) (w:=X.w) (A:=X.A) (I.ok.hd hc) z TI TO i1 i2 l1 l2 D fX.toArray its2.toArray
  have lt1:i<fX.length:=(List.getElem?_eq_some_iff.mp hu).1
  have aR:i<its2.length:=(List.getElem?_eq_some_iff.mp hv).1
  refine W.item i s _ E (by simp; lia) ⟨st.1,st.2.1,st.2.2.1,st.2.2.2.1,st.2.2.2.2,p1.isList,p2.isList⟩ λT vals h' tk hp hT ht mid kk=>?_
  obtain⟨u',v',e1,e2,rfl⟩:=hp
  have eu:u'=u:=by
   have:fX[i]?=some u':=by simpa using e1
   rw[hu]at this; cases this; rfl
  have ev:v'=v:=by
   have:its2[i]?=some v':=by simpa using e2
   rw[hv]at this; cases this; rfl
  subst eu ev
  refine⟨.ref T,rfl,?_⟩
  refine W.go elts k pos i T _ _ E mid λh'' st' um=>?_
  have nT:=W.apart i T _ mid
  have ob:=(λb hb=>(by
   obtain⟨hz,hTI,⟨a,c,hTO⟩,⟨o1,e1,_,d1⟩,⟨o2,e2,_,d2⟩⟩:=st
   have hb':b=z\/b=TI\/b=TO\/b=i1\/b=i2:=by simpa using hb
   rcases hb' with rfl|rfl|rfl|rfl|rfl
   .exact Heap.lt_size hz
   .exact Heap.lt_size hTI
   .exact Heap.lt_size hTO
   .exact Heap.lt_size e1
   .exact Heap.lt_size e2:b<s.heap.objs.size):∀b∈[z,TI,TO,i1,i2],b<s.heap.objs.size)
  have DG:T∉[z,TI,TO,i1,i2]:=λm=>absurd (ob T m) (Nat.not_lt.mpr hT)
  have sub:∀b,b∉[z,TI,TO,i1,i2]->b∉[z,TO,i1,i2]:=λb n m=>n (by simp at m ⊢; rcases m with rfl|rfl|rfl|rfl <;> simp)
  have DK:IsTup h'' T #[u',v']:=by
   obtain⟨o,e,r⟩:=ht
   exact⟨o,um T o nT e,r⟩
  have th:∀b∈[z,TI,TO,i1,i2],∃o,h''.get? b=some o:=λb hb=>by
   obtain⟨hz,hTI,⟨a,c,hTO⟩,⟨o1,e1,_,d1⟩,⟨o2,e2,_,d2⟩,_⟩:=st'
   have hb':b=z\/b=TI\/b=TO\/b=i1\/b=i2:=by simpa using hb
   rcases hb' with rfl|rfl|rfl|rfl|rfl
   .exact⟨_,hz⟩
   .exact⟨_,hTI⟩
   .exact⟨_,hTO⟩
   .exact⟨_,e1⟩
   .exact⟨_,e2⟩
  have I':Inv X pins σ (upd H T (.tup [x,y])) {s with heap:=h'',toks:=tk }:=I.Dy (its:=[u',v']) hf (λb o n e=>um b o (sub b n) (kk b o (sub b n) e)) th hT DK (.cons ru (.cons rv .nil)) (by show 2<=sizeLine; decide)
  refine⟨.ref T,_,I',rfl,⟨T,x,y,rfl,I.hok.fresh hT,rfl,λxs' ys' a1 a2=>?_⟩,⟨st'.1,st'.2.1,st'.2.2.1,st'.2.2.2.1,st'.2.2.2.2.1⟩,λb hb=>?_⟩
  .rw[I.mW a1 q1,I.mW a2 q2]
   exact⟨hx,hy⟩
  .have nb:b≠T:=by
    intro e0
    rw[e0]at hb
    exact DG hb
   rw[aK nb]
   exact(hf b hb).1
 done:=by
  intro X hP hw hK hc i pins s σ H E I hf st hg
  subst hP hw hK
  obtain⟨xs,ys,q1,q2,e⟩:=hg
  obtain⟨fX,lM,p1,_⟩:=I.list q1
  obtain⟨its2,fK,p2,_⟩:=I.list q2
  have W:=WalksT.zip2 (prog:=X.prog) (w:=X.w) (A:=X.A) (I.ok.hd hc) z TI TO i1 i2 l1 l2 D fX.toArray its2.toArray
  have ei:i=min fX.toArray.size its2.toArray.size:=by simp[e,lM.length,fK.length]
  subst ei
  have sub:∀b,b∉[z,TI,TO,i1,i2]->b∉[z,TO,i1,i2]:=λb n m=>n (by simp at m ⊢; rcases m with rfl|rfl|rfl|rfl <;> simp)
  exact W.done s _ E ⟨st.1,st.2.1,st.2.2.1,st.2.2.2.1,st.2.2.2.2,p1.isList,p2.isList⟩ λh' tk kk=>⟨rfl,I.Dz hf λb o n e=>kk b o (sub b n) e⟩
 self:=λA i s Q E st h=>wpAny_pyIter_zip st.1 h
end
section
variable {X:Cx}
noncomputable def acZ(K:PySem.W.Frag)(ta:TA):TI:=λσ H R=>ta σ H λvs H1=>∃l1 l2,vs=[.ref l1,.ref l2]/\(∃xs,aH K H1 l1 xs)/\(∃ys,aH K H1 l2 ys)/\R (N7 K l1 l2) H1
theorem ac0(hm:X.mg "zip" = none) (ha:PA X [a,b] ta) (hg:Gl X "zip" := by rfl) (hs:starEach [a,b] X.env=[(false,eval a X.env),(false,eval b X.env)]:=by rfl) (hs2:starEach [b] X.env=[(false,eval b X.env)]:=by rfl) :
  PI X (.Tuple elts k tpos) (.Call (.Name "zip" p) [a,b] [] pos) (acZ X.K ta):=by
 intro pins s σ H R I h
 refine Call_ (jB I hg hm (show bootBuiltins "zip" = some (.type "zip") by decide +kernel) (PyProof.Rows.callWith_type1 (aD (ha pos pins s σ H _ I h) λus s1 ⟨vs,H1,I1,r1,q1⟩=>?_) (by rw[hs,hs2]) (by rw[hs2]; rfl)))
 obtain⟨l1,l2,e,⟨xs,h1⟩,⟨ys,h2⟩,q⟩:=q1
 subst e
 cases r1 with
 |cons r rr =>
  cases rr with
  |cons r' rr =>
   cases rr
   cases r
   cases r'
   obtain⟨fX,lM,p1,_⟩:=I1.list h1
   obtain⟨its2,fK,p2,_⟩:=I1.list h2
   obtain⟨o1,e1,_⟩:=p1.isList
   obtain⟨o2,e2,_⟩:=p2.isList
   refine call_zip_2 p1.isList p2.isList λh' hz hTI hTO hi1 hi2 hsz hk=>?_
   refine wpAny_pyIter_zip hz ?_
   refine⟨_,[_,_,_,_,_],_,_,H1,rfl,I1.kept (t':=s1.toks) hk,acY l1 l2 _ _ _ _ _ (PySem.W.ktu_apart _ _ _ (Heap.lt_size e1) (Heap.lt_size e2)),⟨hz,hTI,⟨_,_,hTO⟩,hi1,hi2⟩,λc hc=>?_,q⟩
   have hc':c=s1.heap.objs.size+4\/c=s1.heap.objs.size+2\/c=s1.heap.objs.size+3\/c=s1.heap.objs.size\/c=s1.heap.objs.size+1:=by simpa using hc
   have hge:s1.heap.objs.size<=c:=by rcases hc' with rfl|rfl|rfl|rfl|rfl <;> lia
   exact I1.jD hge (I1.hok.fresh hge)
end
end L2
end
section
namespace L2
open PySem
theorem den_pos(r:Rat):1<=(r.den:Int):=by have:=r.den_pos; omega
theorem xH(r:Rat):Rat.divInt r.num (r.den:Int)=r:=Rat.num_divInt_den r
theorem add_eq(r s:Rat):Rat.divInt (r.num*s.den+s.num*r.den) (r.den*s.den)=r+s:=by
 have h:=Rat.divInt_add_divInt r.num s.num (d₁ := r.den) (d₂ := s.den) (by have:=den_pos r; omega) (by have:=den_pos s; omega)
 rw[xH,xH]at h
 exact h.symm
theorem mul_eq(r s:Rat):Rat.divInt (r.num*s.num) (r.den*s.den)=r*s:=by
 have h:=Rat.divInt_mul_divInt r.num s.num (d₁ := r.den) (d₂ := s.den)
 rw[xH,xH]at h
 exact h.symm
open PySem.Spec PyProof.Rows
section
variable {X:Cx}
noncomputable def DN(K:PySem.W.Frag):R2:=λx y H Q=>∃t ts p xs,Rep K H x t/\y=.ref p/\(aH K H p xs\/bw K H p xs)/\au K H xs ts/\deps ts<=40/\dep t<=40/\Q (.bl (!jG t ts)) H
open Classical in
theorem ac1(hu:X.A.units+64<cLine):aX X (compareOp .NotIn) (DN X.K):=by
 intro pins s σ H x y v u Q I rx ry h
 obtain⟨t,ts,p,xs,q1,rfl,hq,qs,hd,hd2,q⟩:=h
 cases ry
 have hu1:X.A.in1.units+40<cLine:=by
  have:=in1_units X.A
  lia
 -- what == tells of an item,by the item itself
 let e:Value->Bool:=λw'=>if h:∃z tz,z∈xs/\RelV z w'/\Rep X.K H z tz/\tz∈ts then eqT (Classical.choose (Classical.choose_spec h)) t else false
 have ee:∀z w' tz,z∈xs->RelV z w'->Rep X.K H z tz->tz∈ts->e w'=eqT tz t:=λz w' tz h1 h2 h3 h4=>by
  have hx:∃z tz,z∈xs/\RelV z w'/\Rep X.K H z tz/\tz∈ts:=⟨z,tz,h1,h2,h3,h4⟩
  show(if h:_ then _ else _)=_
  rw[dif_pos hx]
  have sp:=Classical.choose_spec (Classical.choose_spec hx)
  have key:∀z z' t1 t2,RelV z w'->RelV z' w'->dep t1<=99->Rep X.K H z t1->Rep X.K H z' t2->t1=t2:=λz z' t1 t2 a1 a2 d9 a3 a4=>by
   obtain rfl:=RelV.inj a1 a2
   exact Rep.inj I d9 a3 a4
  rw[key _ _ _ _ sp.2.1 h2 (by have:=qG sp.2.2.2; lia) sp.2.2.1 h3]
 have mem:∀{its:List Value},Vals xs its->∀w'∈its,SeqAt.EqAt X.A.in1 s w' v (e w'):=by
  intro its r w' hw
  obtain⟨j,hj,ej⟩:=List.mem_iff_getElem.mp hw
  have hjx:j<xs.length:=by rw[r.length]; exact hj
  obtain⟨u',h1,h2⟩:=r.get (List.getElem?_eq_getElem hjx)
  rw[List.getElem?_eq_getElem hj,ej]at h1
  cases h1
  obtain⟨tz,h3,h4⟩:=qs.get (List.getElem?_eq_getElem hjx)
  have hm:=List.mem_of_getElem? h3
  rw[ee _ _ tz (List.getElem_mem hjx) h2 h4 hm]
  exact(xq I 40 X.A.in1 tz t _ x _ v hu1 (Nat.le_trans (qG hm) hd) (by have:=qG hm; lia) (by lia) h4 q1 h2 rx).2
 rcases hq with hq|hq
 .obtain⟨its,r,pl,hz⟩:=I.list hq
  refine SeqAt.notIn_listAt e pl.isList (λw hw=>mem r w (by simpa using hw)) ⟨.bl _,H,I,rfl,?_⟩
  rw[show its.toArray.any e=its.any e by simp,xr (λz=>eqT z t) e r qs λz w' tz h1 h2 h3 h4=>ee z w' tz h1 h2 h3 h4]
  exact q
 .obtain⟨its,r,pl,hz⟩:=I.tuple hq
  refine SeqAt.notIn_tupleAt e pl (λw hw=>mem r w (by simpa using hw)) ⟨.bl _,H,I,rfl,?_⟩
  rw[show its.toArray.any e=its.any e by simp,xr (λz=>eqT z t) e r qs λz w' tz h1 h2 h3 h4=>ee z w' tz h1 h2 h3 h4]
  exact q
end
section
variable {X:Cx}
noncomputable def DP(K:PySem.W.Frag):R2:=λx y H Q=>∃t u,Rep K H x t/\Rep K H y u/\dep t<=40/\dep u<=40/\Q (.bl (!eqT t u)) H
theorem ac2(hu:X.A.units+64<cLine):aX X (compareOp .NotEq) (DP X.K):=by
 intro pins s σ H x y v u Q I vx vy h
 obtain⟨t,t',rx,ry,hd,du,q⟩:=h
 have hu0:X.A.units<cLine:=by lia
 have hu1:X.A.in1.units+40<cLine:=by
  have:=in1_units X.A
  lia
 have fin:SeqAt.RcNeAt X.A s v u (!eqT t t')->wpAny (model X.prog X.w) X.A (compareOp .NotEq v u) (EP X pins σ Q) X.xe s:=λh=>h _ _ _ _ ⟨.bl _,H,I,rfl,q⟩
 have items:∀{xs ys:List V} {ts us:List Tr} {its its2:List Value},Vals xs its->Vals ys its2->au X.K H xs ts->au X.K H ys us->deps ts<=40->deps us<=40->∀j (h1:j<its.toArray.size) (h2:j<its2.toArray.size),SeqAt.EqAt X.A.in1 s its.toArray[j] its2.toArray[j] (lJ ts us j):=by
  intro xs ys ts us its its2 r1 r2 q1 q2 hde Ny j h1 h2
  obtain⟨a,ea,ra⟩:=xg r1 h1
  obtain⟨b,eb,rb⟩:=xg r2 h2
  obtain⟨ta,eta,qa⟩:=q1.get ea
  obtain⟨tb,ug,qb⟩:=q2.get eb
  rw[Nx eta ug]
  exact(xq I 40 X.A.in1 ta tb a b _ _ hu1 (Nat.le_trans (nj eta) hde) (by have:=nj eta; lia) (by have:=nj ug; lia) qa qb ra rb).2
 cases rx with
 |bB h m n=>unfold dep at hd; lia
 |non =>
  cases vx
  cases ry with
  |non=>cases vy; unfold eqT at fin; exact fin .none_none
  |bl b2=>cases vy; unfold eqT at fin; exact fin (.none_bool _)
  |int i2=>obtain⟨_,rfl⟩:=vy; unfold eqT at fin; exact fin (.none_int _ _)
  |str z2=>obtain⟨_,rfl⟩:=vy; unfold eqT at fin; exact fin (.none_str _ _)
  |tup h r=>cases vy; obtain⟨_,_,p,_⟩:=I.tuple h; unfold eqT at fin; exact fin (.none_tuple p hu0)
  |lst h r=>cases vy; obtain⟨_,_,p,_⟩:=I.list h; unfold eqT at fin; exact fin (.none_list p.isList hu0)
  |bB h m n=>unfold dep at du; lia
 |bl b =>
  cases vx
  cases ry with
  |non=>cases vy; unfold eqT at fin; exact fin (.bool_none _)
  |bl b2=>cases vy; unfold eqT at fin; exact fin (.bool_bool _ _)
  |int i2=>obtain⟨_,rfl⟩:=vy; unfold eqT at fin; exact fin (.bool_int _ _ _)
  |str z2=>obtain⟨_,rfl⟩:=vy; unfold eqT at fin; exact fin (.bool_str _ _ _)
  |tup h r=>cases vy; obtain⟨_,_,p,_⟩:=I.tuple h; unfold eqT at fin; exact fin (.bool_tuple _ p hu0)
  |lst h r=>cases vy; obtain⟨_,_,p,_⟩:=I.list h; unfold eqT at fin; exact fin (.bool_list _ p.isList hu0)
  |bB h m n=>unfold dep at du; lia
 |int i =>
  obtain⟨_,rfl⟩:=vx
  cases ry with
  |non=>cases vy; unfold eqT at fin; exact fin (.int_none _ _)
  |bl b2=>cases vy; unfold eqT at fin; exact fin (.int_bool _ _ _)
  |int i2=>obtain⟨_,rfl⟩:=vy; unfold eqT at fin; exact fin (.int_int _ _ _ _)
  |str z2=>obtain⟨_,rfl⟩:=vy; unfold eqT at fin; exact fin (.int_str _ _ _ _)
  |tup h r=>cases vy; obtain⟨_,_,p,_⟩:=I.tuple h; unfold eqT at fin; exact fin (.int_tuple _ _ p hu0)
  |lst h r=>cases vy; obtain⟨_,_,p,_⟩:=I.list h; unfold eqT at fin; exact fin (.int_list _ _ p.isList hu0)
  |bB h m n=>unfold dep at du; lia
 |str z =>
  obtain⟨_,rfl⟩:=vx
  cases ry with
  |non=>cases vy; unfold eqT at fin; exact fin (.str_none _ _)
  |bl b2=>cases vy; unfold eqT at fin; exact fin (.str_bool _ _ _)
  |int i2=>obtain⟨_,rfl⟩:=vy; unfold eqT at fin; exact fin (.str_int _ _ _ _)
  |str z2=>obtain⟨_,rfl⟩:=vy; unfold eqT at fin; exact fin (.str_str _ _ _ _)
  |tup h r=>cases vy; obtain⟨_,_,p,_⟩:=I.tuple h; unfold eqT at fin; exact fin (.str_tuple _ _ p hu0)
  |lst h r=>cases vy; obtain⟨_,_,p,_⟩:=I.list h; unfold eqT at fin; exact fin (.str_list _ _ p.isList hu0)
  |bB h m n=>unfold dep at du; lia
 | @tup a1 xs1 ts h1 r1 =>
  cases vx
  obtain⟨its,rv,p,_⟩:=I.tuple h1
  have hd':deps ts<=40:=by unfold dep at hd; lia
  cases ry with
  |non=>cases vy; unfold eqT at fin; exact fin (.tuple_none p hu0)
  |bl b2=>cases vy; unfold eqT at fin; exact fin (.tuple_bool _ p hu0)
  |int i2=>obtain⟨_,rfl⟩:=vy; unfold eqT at fin; exact fin (.tuple_int _ _ p hu0)
  |str z2=>obtain⟨_,rfl⟩:=vy; unfold eqT at fin; exact fin (.tuple_str _ _ p hu0)
  |lst h r=>cases vy; obtain⟨_,_,p2,_⟩:=I.list h; unfold eqT at fin; exact fin (.tuple_list p p2.isList hu0)
  |bB h m n=>unfold dep at du; lia
  | @tup a2 xs2 us h2 r2 =>
   cases vy
   obtain⟨its2,fK,p2,_⟩:=I.tuple h2
   have R:=SeqAt.RcNeAt.tuples (A:=X.A) (e:=lJ ts us) p p2 (by lia) λj k1 k2=>items rv fK r1 r2 hd' (by unfold dep at du; lia) j k1 k2
   have el:its.toArray.size=ts.length:=by simpa using(rv.length.symm.trans r1.length)
   have el2:its2.toArray.size=us.length:=by simpa using(fK.length.symm.trans r2.length)
   rw[el,el2]at R
   have eb:((List.range (min ts.length us.length)).all (lJ ts us)&&ts.length == us.length)=eqT (.tup ts) (.tup us):=by
    unfold eqT
    by_cases e:ts.length=us.length
    .rw[e,Nat.min_self,<-e,ud e,beq_self_eq_true,Bool.and_true]
    .rw[beq_false_of_ne e,Bool.and_false,uc e]
   rw[eb]at R
   exact fin R
 | @lst a1 xs1 ts h1 r1 =>
  cases vx
  obtain⟨its,rv,p,_⟩:=I.list h1
  have hd':deps ts<=40:=by unfold dep at hd; lia
  cases ry with
  |non=>cases vy; unfold eqT at fin; exact fin (.list_none p.isList hu0)
  |bl b2=>cases vy; unfold eqT at fin; exact fin (.list_bool _ p.isList hu0)
  |int i2=>obtain⟨_,rfl⟩:=vy; unfold eqT at fin; exact fin (.list_int _ _ p.isList hu0)
  |str z2=>obtain⟨_,rfl⟩:=vy; unfold eqT at fin; exact fin (.list_str _ _ p.isList hu0)
  |bB h m n=>unfold dep at du; lia
  |tup h r=>cases vy; obtain⟨_,_,p2,_⟩:=I.tuple h; unfold eqT at fin; exact fin (.list_tuple p.isList p2 hu0)
  | @lst a2 xs2 us h2 r2 =>
   cases vy
   obtain⟨its2,fK,p2,_⟩:=I.list h2
   have el:its.toArray.size=ts.length:=by simpa using(rv.length.symm.trans r1.length)
   have el2:its2.toArray.size=us.length:=by simpa using(fK.length.symm.trans r2.length)
   by_cases e:ts.length=us.length
   .have R:=SeqAt.RcNeAt.lists (A:=X.A) (e:=lJ ts us) p.isList p2.isList (by lia) (by lia) λj k1 k2=>items rv fK r1 r2 hd' (by unfold dep at du; lia) j k1 k2
    rw[el]at R
    rw[ud e]at R
    unfold eqT at fin
    exact fin R
   .have R:=SeqAt.RcNeAt.lists_lengths (A:=X.A) p.isList p2.isList (by rw[el,el2]; simpa using e) (by lia)
    unfold eqT at fin
    rw[uc e]at fin
    exact fin R
end
open Classical in
noncomputable def bW(o:Obj):Obj:=if o.cls=.type "list" ∧ ¬(∃its n,o={cls:=.type "list",data:=.seq its n })then{cls:=.none,data:=.fields #[] }else o
noncomputable def aA(K:PySem.W.Frag):PySem.W.Frag:=K.map λp=>(p.1,bW p.2)
theorem je:∀(K:PySem.W.Frag) (a:Addr),(aA K).lookup a=(K.lookup a).map bW
 | [],a=>rfl
 |(c,q)::r,a=>by
  show((c,bW q)::aA r).lookup a=_
  rw[List.lookup_cons,List.lookup_cons]
  cases a == c with
  |true=>rfl
  |false=>exact je r a
theorem ac3{K:PySem.W.Frag}{a:Addr}{o:Obj}(h:(aA K).lookup a=some o)(c:o.cls=.type "tuple"):K.lookup a=some o:=by
 rw[je]at h
 cases e:K.lookup a with
 |none=>rw[e]at h; cases h
 |some q =>
  rw[e]at h
  have h:bW q=o:=Option.some.inj h
  unfold bW at h
  split at h
  .subst h; cases c
  .rw[h]
theorem ac4{K:PySem.W.Frag}{a:Addr}{o:Obj}(h:(aA K).lookup a=some o)(c:o.cls=.type "list"):K.lookup a=some o∧∃its n,o={cls:=.type "list",data:=.seq its n }:=by
 rw[je]at h
 cases e:K.lookup a with
 |none=>rw[e]at h; cases h
 |some q =>
  rw[e]at h
  have h:bW q=o:=Option.some.inj h
  unfold bW at h
  split at h
  .subst h; cases c
  .rename_i n
   subst h
   refine⟨rfl,?_⟩
   by_cases z:∃its n,q={cls:=.type "list",data:=.seq its n }
   .exact z
   .exact(n ⟨c,z⟩).elim
theorem ac5{K:PySem.W.Frag}{a:Addr}{o:Obj}(h:K.lookup a=some o)(c:o.cls=.type "tuple"):(aA K).lookup a=some o:=by
 rw[je,h]
 show some (bW o)=some o
 unfold bW
 rw[if_neg (by rintro⟨z,_⟩; rw[c]at z; injection z with z; exact absurd z (by decide))]
theorem bw.toK{K:PySem.W.Frag}{H:Hp}{a:Addr}{xs:List V}(h:bw (aA K) H a xs):bw K H a xs:=by
 rcases h with h|⟨o,its,n,e,c,r⟩
 .exact .inl h
 .exact .inr ⟨o,its,n,ac3 e c,c,r⟩
noncomputable def iu(K:PySem.W.Frag)(H:Hp)(a:Addr)(xs:List V):Prop:=Rd H a (.lst xs)\/∃(its:Array Value) (n:Nat),K.lookup a=some {cls:=.type "list",data:=.seq its n }/\its.size<=sizeLine/\Vals xs its.toList
theorem aH.xJ{K:PySem.W.Frag}{H:Hp}{a:Addr}{xs:List V}(h:aH (aA K) H a xs):iu K H a xs:=by
 rcases h with h|⟨o,its,n,e,c,_,d,r⟩
 .exact .inl h
 .obtain⟨e2,its',n',rfl⟩:=ac4 e c
  injection d with d1 d2
  subst d1 d2
  exact .inr ⟨its',n',e2,r⟩
theorem iu.toK{K:PySem.W.Frag}{H:Hp}{a:Addr}{xs:List V}(h:iu K H a xs):aH K H a xs:=by
 rcases h with h|⟨its,n,e,r⟩
 .exact .inl h
 .exact .inr ⟨_,its,n,e,rfl,rfl,rfl,r⟩
theorem iu.toN{K:PySem.W.Frag}{H:Hp}{a:Addr}{xs:List V}(h:iu K H a xs):aH (aA K) H a xs:=by
 rcases h with h|⟨its,n,e,r⟩
 .exact .inl h
 .refine .inr ⟨{cls:=.type "list",data:=.seq its n },its,n,?_,rfl,rfl,rfl,r⟩
  rw[je,e]
  show some (bW _)=_
  unfold bW
  rw[if_neg λz=>z.2 ⟨its,n,rfl⟩]
theorem aH.toK{K:PySem.W.Frag}{H:Hp}{a:Addr}{xs:List V}(h:aH (aA K) H a xs):aH K H a xs:=h.xJ.toK
theorem ac6{K:PySem.W.Frag}{N:Addr}{c:Str}{v:Value}(h:PySem.W.nsIn (aA K) N c=some (some v)):PySem.W.nsIn K N c=some (some v):=by
 unfold PySem.W.nsIn at h ⊢
 rw[je]at h
 cases e:K.lookup N with
 |none=>rw[e]at h; cases h
 |some q =>
  rw[e]at h
  by_cases z:q.cls=.type "list" ∧ ¬(∃its n,q={cls:=.type "list",data:=.seq its n })
  .have:bW q={cls:=.none,data:=.fields #[] }:=by unfold bW; rw[if_pos z]
   rw[show(some q).map bW=some (bW q)from rfl,this]at h
   cases h
  .have:bW q=q:=by unfold bW; rw[if_neg z]
   rw[show(some q).map bW=some (bW q)from rfl,this]at h
   exact h
mutual
theorem Rep.toK{K:PySem.W.Frag}{H:Hp}:∀{v:V} {t:Tr},Rep (aA K) H v t->Rep K H v t
 |_,_,.non=>.non
 |_,_,.bl b=>.bl b
 |_,_,.int i=>.int i
 |_,_,.str x=>.str x
 |_,_,.tup h r=>.tup h.toK (au.toK r)
 |_,_,.lst h r=>.lst h.toK (au.toK r)
 |_,_,.bB h m n=>.bB h m (ac6 n)
theorem au.toK{K:PySem.W.Frag}{H:Hp}:∀{v:List V} {t:List Tr},au (aA K) H v t->au K H v t
 |_,_,.nil=>.nil
 |_,_,.cons h r=>.cons (Rep.toK h) (au.toK r)
end
section
variable {X:Cx}
theorem Inv.DQ(I:Inv X pins σ H s)(hH:iu X.K H l xs):xs.length<=sizeLine/\∃(its:List Value) (n:Nat),Vals xs its/\xs.length=its.length/\s.heap.get? l=some {cls:=.type "list",data:=.seq its.toArray n }:=by
 rcases hH with hH|⟨its,n,e,z,r⟩
 .obtain⟨z,its,n,r,e⟩:=hH.ok I.hok
  exact⟨z,its,n,r,r.length,e⟩
 .have l':=r.length.trans Array.length_toList
  exact⟨by rw[l']; exact z,its.toList,n,r,r.length,I.gR _ _ e⟩
noncomputable def N8(K:PySem.W.Frag):R2:=λx y H Q=>∃l b xs zs,x=.ref l/\y=.ref b/\iu K H l xs/\iu K H b zs/\xs.length+zs.length<=sizeLine/\∀p,H p=none->Q (.ref p) (upd H p (.lst (xs++zs)))
theorem ac7:aX X (binaryOp .Add) (N8 X.K):=by
 intro pins s σ H x y v u Q I rx ry h
 obtain⟨l,b,xs,zs,rfl,rfl,hH,hB,hz,q⟩:=h
 cases rx
 cases ry
 obtain⟨z,its,n,r,hl,e⟩:=I.DQ hH
 obtain⟨z2,its2,n2,r2,hl2,e2⟩:=I.DQ hB
 refine PySem.P.add_list e e2 ?_ (by rw[List.size_toArray,List.size_toArray]; lia)
 have ea:its.toArray++its2.toArray=(its++its2).toArray:=by simp
 rw[ea]
 exact⟨.ref _,_,I.wY (t':=s.toks) (r.append r2) (by rw[List.length_append]; lia),rfl,q _ I.fresh⟩
end
noncomputable def Oa(K:PySem.W.Frag):R2:=λx y H Q=>∃l k xs,x=.ref l/\y=.int k/\iu K H l xs /\ -(2 ^ 63)<=k/\k<2 ^ 63/\xs.length*k.toNat<=sizeLine/\∀p,H p=none->Q (.ref p) (upd H p (.lst (List.replicate k.toNat xs).flatten))
theorem ac8{X:Cx}:aX X (binaryOp .Mult) (Oa X.K):=by
 intro pins s σ H x y v u Q I rx ry h
 obtain⟨l,k,xs,rfl,rfl,hH,h1,h2,hz,q⟩:=h
 cases rx
 obtain⟨t,rfl⟩:=ry
 obtain⟨z,its,n,r,hl,e⟩:=I.DQ hH
 have hlen:its.toArray.size*k.toNat<=sizeLine:=by rw[List.size_toArray,<-hl]; exact hz
 have hcap:¬its.toArray.size*k.toNat > (2 ^ 63-1) / 8:=by
  have:(sizeLine:Nat)<=(2 ^ 63-1) / 8:=by decide
  lia
 have hfit:¬(!Builtin.List.listFitsIndex k)=true:=by
  rw[fitsIndex_both h1 h2]
  exact Bool.false_ne_true
 have ac9:¬Builtin.List.listTooLong (its.toArray.size*k.toNat)=true:=by
  rw[acu hlen]
  exact Bool.false_ne_true
 have hnew:List.foldl (λx1 x2=>x1++x2) #[] (List.replicate (if its.toArray.isEmpty=true then 0 else k.toNat) its.toArray)=(List.replicate k.toNat its).flatten.toArray:=by
  have f0:∀m:Nat,List.foldl (λx1 x2=>x1++x2) #[] (List.replicate m its.toArray)=(List.replicate m its).flatten.toArray:=λm=>by
   have:=foldl_rep its m []
   rw[List.nil_append]at this
   exact this
  rw[f0]
  cases its with
  |nil=>simp
  |cons a r'=>rw[if_neg (by simp)]
 refine wpAny_binaryOp_repeat_ref (T := "list") (U := "int") (by decide) ⟨_,e,rfl⟩ (λs'=>typeIs_int s' k t) noFill_list_mul F.fills_int_mul F.slot_int_rmul repeat_list F.slot_int_index.lookup
  (call_meets F.slot_int_rmul (typeIs_int s k t) F.entry_int_rmul (F.args_int_rmul_2 _ _) (int___rmul___int_list k t l its.toArray n)
   ⟨e,rfl,⟨_,e,rfl⟩,call_meets F.slot_list_mul ⟨_,e,rfl⟩ F.entry_list_mul (F.args_list_mul_2 _ _) (AutoListH.list___mul___list_int_3 l its.toArray n k t hfit hcap ac9) ⟨e,?_⟩⟩)
 rw[hnew]
 exact⟨.ref _,_,I.wY (t':=s.toks) (r.rep k.toNat) (by rw[len_rep,Nat.mul_comm]; exact hz),rfl,q _ I.fresh⟩
inductive Rs(α : Type) where
 |bad|ex (c:Str)|ok (a : α)
noncomputable def Rs.bind{α β : Type}:Rs α -> (α -> Rs β)->Rs β
 |.bad,_=>.bad
 |.ex c,_=>.ex c
 |.ok a,f=>f a
noncomputable instance:Monad Rs where
 pure:=.ok
 bind:=Rs.bind
inductive Sl where
 |un|sh (t:Tr)|ow (ts:List Tr)|rf (ts:List Tr)|dp (ts:List Tr)
noncomputable abbrev En:=List Sl
inductive Rv where
 |v (T:Tr) (fr:Bool)|s (i:Nat)
noncomputable abbrev EF:=En->Rs (Rv × En)
noncomputable abbrev BF:=En->Rs (Bool × En)
noncomputable abbrev AF:=En->Rs (List Rv × En)
noncomputable abbrev OF:=En->Rs (Option Int × En)
noncomputable abbrev IF:=En->Rs (List Tr × En)
noncomputable abbrev GF:=Tr->En->Rs En
noncomputable abbrev qK:=List Tr->En->Rs En
inductive Fl where
 |nx|rt (T:Tr) (fr:Bool)|bk|ct
noncomputable abbrev SF:=En->Rs (Fl × En)
noncomputable def Oh:Tr->Bool
 |.lst _=>true
 |_=>false
noncomputable def eX:List Str:=["falling_places", "order_of_bounds"]
noncomputable def Tb(K:PySem.W.Frag)(b:Addr):Prop:=∃x∈eX,∃c,PySem.W.tabIn K x=some (c,b)
noncomputable def Oi(o:Obj)(q:Str):Prop:=∃vs t,o.data=.fields vs/\vs[1]?=some (.str q t)
noncomputable def xK(x:Str):Str:=x++(".<locals>." : Str)++("<lambda>" : Str)
noncomputable def xM(H:Hp)(q:Str)(ps:Array Value):Prop:=TriplesOk ps.toList/\∀pos v,codeAmong pos ps.toList=some v->∃c o,v=.ref c/\H c=some (.cH o (.own 0))/\Oi o q
noncomputable def bJ(K:PySem.W.Frag)(H:Hp):Prop:=∀x∈eX,∀c b,PySem.W.tabIn K x=some (c,b)->∃ps,H b=some (.cj ps)/\xM H (xK x) ps
theorem bJ.cj{K:PySem.W.Frag}{H:Hp}(h:bJ K H){b:Addr}(t:Tb K b):∃ps,H b=some (.cj ps):=by
 obtain⟨x,hx,c,e⟩:=t
 obtain⟨ps,q,_⟩:=h x hx c b e
 exact⟨ps,q⟩
theorem bJ.nt{K:PySem.W.Frag}{H:Hp}(h:bJ K H){b:Addr}{xs:List V}(e:H b=some (.lst xs)):¬Tb K b:=λt=>by
 obtain⟨ps,q⟩:=h.cj t
 rw[e]at q
 cases q
theorem bJ.fr{K:PySem.W.Frag}{H H':Hp}(h:bJ K H)(s:∀b o,(∀xs,o ≠ .lst xs)->H b=some o->H' b=some o):bJ K H':=λx hx c b e=>by
 obtain⟨ps,q,t1,t2⟩:=h x hx c b e
 refine⟨ps,s _ _ (λ_ z=>by cases z) q,t1,λpos v k=>?_⟩
 obtain⟨c,o,e1,e2,e3⟩:=t2 pos v k
 exact⟨c,o,e1,s _ _ (λ_ z=>by cases z) e2,e3⟩
theorem bJ.upd{K:PySem.W.Frag}{H:Hp}(h:bJ K H){a:Addr}{xs:List V}{o:HO}(e:H a=some (.lst xs)):bJ K (L2.upd H a o):=h.fr λb u n q=>by
 rw[aK]
 .exact q
 .rintro rfl
  rw[e]at q
  cases q
  exact n _ rfl
inductive DR(K:PySem.W.Frag)(G H:Hp):List V->List Tr->List Addr->Prop
 |nil:DR K G H [] [] []
 |cl {x:V} {u:Tr} {xs:List V} {ts:List Tr} {bs:List Addr} (n:Oh u=false) (h:Rep K G x u) (r:DR K G H xs ts bs):DR K G H (x::xs) (u::ts) bs
 |rw {b:Addr} {ys:List V} {us:List Tr} {xs:List V} {ts:List Tr} {bs:List Addr} (h:H b=some (.lst ys)) (q:au K G ys us) (r:DR K G H xs ts bs):DR K G H (.ref b::xs) (.lst us::ts) (b::bs)
theorem DR.mono{K:PySem.W.Frag}{G G' H H':Hp}(m:Same G G'):∀{xs:List V} {ts:List Tr} {bs:List Addr},DR K G H xs ts bs->(∀b∈bs,∀o,H b=some o->H' b=some o)->DR K G' H' xs ts bs
 |_,_,_,.nil,_=>.nil
 |_,_,_,.cl n h r,k=>.cl n (h.mono m) (DR.mono m r k)
 |_,_,_,.rw h q r,k=>.rw (k _ (List.mem_cons_self ..) _ h) (q.mono m) (DR.mono m r λb hb=>k b (List.mem_cons_of_mem _ hb))
theorem DR.lst{K:PySem.W.Frag}{G H:Hp}:∀{xs:List V} {ts:List Tr} {bs:List Addr},DR K G H xs ts bs->∀b∈bs,∃ys,H b=some (.lst ys)
 |_,_,_,.cl _ _ r,b,h=>DR.lst r b h
 |_,_,_,.rw q _ r,b,h=>by
  rcases List.mem_cons.mp h with rfl|h
  .exact⟨_,q⟩
  .exact DR.lst r b h
noncomputable abbrev Fp:=Nat->List Addr
noncomputable def Fn(F:Fp)(b:Addr):Prop:=∃i,b∈F i
noncomputable def Oj(K:PySem.W.Frag)(G H:Hp)(v:Option (Option V))(f:List Addr)(ts:List Tr)(P:Addr->Prop):Prop:=∃a xs,v=some (some (.ref a))/\f=[a]/\P a/\H a=some (.lst xs)/\au K G xs ts
noncomputable def lN(K:PySem.W.Frag)(R:Addr->Prop)(G H:Hp)(v:Option (Option V))(f:List Addr):Option Sl->Prop
 |some (.sh T)=>f=[]/\∃u,v=some (some u)/\Rep K G u T
 |some (.ow ts)=>Oj K G H v f ts λa=>¬R a
 |some (.rf ts)=>Oj K G H v f ts R
 |some (.dp ts)=>∃a xs bs,v=some (some (.ref a))/\f=a::bs/\f.Nodup/\(∀b∈f,¬R b)/\H a=some (.lst xs)/\DR K G H xs ts bs
 |_=>f=[]
theorem lN.lst{K:PySem.W.Frag}{R:Addr->Prop}{G H:Hp}{v:Option (Option V)}{f:List Addr}{s:Option Sl}(h:lN K R G H v f s):∀b∈f,∃ys,H b=some (.lst ys):=λb hb=>by
 unfold lN at h
 split at h
 .rw[h.1]at hb; cases hb
 .obtain⟨a,xs,_,rfl,_,q,_⟩:=h; cases List.mem_singleton.mp hb; exact⟨_,q⟩
 .obtain⟨a,xs,_,rfl,_,q,_⟩:=h; cases List.mem_singleton.mp hb; exact⟨_,q⟩
 .obtain⟨a,xs,bs,_,rfl,_,_,q,d⟩:=h
  rcases List.mem_cons.mp hb with rfl|hb
  .exact⟨_,q⟩
  .exact d.lst b hb
 .rw[h]at hb; cases hb
theorem lN.mono{K:PySem.W.Frag}{R:Addr->Prop}{G G' H H':Hp}{v:Option (Option V)}{f:List Addr}{s:Option Sl}(h:lN K R G H v f s)(m:Same G G')(k:∀b∈f,∀o,H b=some o->H' b=some o):lN K R G' H' v f s:=by
 unfold lN at h ⊢
 split at h
 .obtain⟨h1,u,h2,h3⟩:=h; exact⟨h1,u,h2,h3.mono m⟩
 .obtain⟨a,xs,h1,rfl,n,q,r⟩:=h; exact⟨a,xs,h1,rfl,n,k _ (List.mem_singleton.mpr rfl) _ q,r.mono m⟩
 .obtain⟨a,xs,h1,rfl,n,q,r⟩:=h; exact⟨a,xs,h1,rfl,n,k _ (List.mem_singleton.mpr rfl) _ q,r.mono m⟩
 .obtain⟨a,xs,bs,h1,rfl,nd,n,q,d⟩:=h; exact⟨a,xs,bs,h1,rfl,nd,n,k _ (List.mem_cons_self ..) _ q,d.mono m λb hb=>k b (List.mem_cons_of_mem _ hb)⟩
 .exact h
structure Ok(K:PySem.W.Frag)(R:Addr->Prop)(ρ : En)(σ : St)(G H:Hp)(F:Fp):Prop where
 len : ρ.length = σ.length
 sub:Same G H
 tb:bJ K H
 tg:∀b,Tb K b->G b=none
 hid:∀b,Fn F b->G b=none
 rg:∀b,R b->G b=none/\H b≠none
 di:∀i j b,b∈F i->b∈F j->i=j
 sl:∀i,lN K R G H σ[i]? (F i) ρ[i]?
structure Fr(K:PySem.W.Frag)(H:Hp)(F:Fp)(H':Hp):Prop where
 fr:∀b o,H b=some o->¬Fn F b->¬Tb K b->H' b=some o
 tb:bJ K H'
structure aG(K:PySem.W.Frag)(G H:Hp)(F:Fp)(G' H':Hp)(F':Fp):Prop where
 gg:Same G G'
 fr:∀b o,H b=some o->¬Fn F b->¬Tb K b->H' b=some o
 nw:∀b,G' b≠none->G b≠none\/H b=none\/Fn F b
 nf:∀b,Fn F' b->H b=none\/Fn F b
 dm:∀b,H' b=none->H b=none
section
variable {K:PySem.W.Frag}{R:Addr->Prop}{ρ : En}{σ : St}{G H G' H':Hp}{F F':Fp}
theorem aG.refl:aG K G H F G H F:=⟨Same.refl _,λ_ _ h _ _=>h,λ_ h=>.inl h,λ_ h=>.inr h,λ_ h=>h⟩
theorem aG.out(s:aG K G H F G' H' F')(h:H b=some o)(n:¬Fn F b):¬Fn F' b:=λz=>(s.nf b z).elim (λq=>by rw[h]at q; cases q) n
theorem aG.trans(s:aG K G H F G1 H1 F1)(u:aG K G1 H1 F1 G' H' F'):aG K G H F G' H' F' where
 gg:=s.gg.trans u.gg
 fr b o h n t:=u.fr b o (s.fr b o h n t) (s.out h n) t
 nw b h:=(u.nw b h).elim (s.nw b) λh=>.inr (h.elim (λh=>.inl (s.dm b h)) (s.nf b))
 nf b h:=(u.nf b h).elim (λh=>.inl (s.dm b h)) (s.nf b)
 dm b h:=s.dm b (u.dm b h)
theorem aG.back(s:aG K G H F G1 H1 F1)(f:Fr K H1 F1 H'):Fr K H F H':=⟨λb o h n t=>f.fr b o (s.fr b o h n t) (s.out h n) t,f.tb⟩
theorem Ok.fl(e:Ok K R ρ σ G H F)(h:Fn F b):∃ys,H b=some (.lst ys):=h.elim λi h=>(e.sl i).lst b h
theorem Ok.fs(e:Ok K R ρ σ G H F)(h:H b=none):¬Fn F b:=λz=>by
 obtain⟨ys,q⟩:=e.fl z
 rw[h]at q
 cases q
theorem Ok.rn(e:Ok K R ρ σ G H F)(h:H b=none):¬R b:=λz=>(e.rg b z).2 h
structure Gw(K:PySem.W.Frag)(G H G' H':Hp):Prop where
 gg:Same G G'
 hh:∀b o,H b=some o->¬Tb K b->H' b=some o
 sub:Same G' H'
 tb:bJ K H->bJ K H'
 nw:∀b,G' b≠none->G b≠none\/H b=none
theorem bJ.new(h:bJ K H)(q:H p=none):bJ K (L2.upd H p o):=h.fr λb u _ z=>g8 q _ b u z
theorem Gw.refl(s:Same G H):Gw K G H G H:=⟨Same.refl _,λ_ _ h _=>h,s,id,λ_ h=>.inl h⟩
theorem Gw.flt(s:Same G H)(h:H p=none):Gw K G H G (upd H p o):=⟨Same.refl _,λb u q _=>g8 h o b u q,s.trans (g8 h o),λt=>t.new h,λ_ h=>.inl h⟩
theorem Gw.new(s:Same G H)(h:H p=none):Gw K G H (upd G p o) (upd H p o):=⟨g8 (s.free h) o,λb u q _=>g8 h o b u q,λb u q=>by
 by_cases e:b=p
 .subst e; rw[cu]at q ⊢; exact q
 .rw[aK e]at q ⊢; exact s b u q,λt=>t.new h,λb q=>by
 by_cases e:b=p
 .subst e; exact .inr h
 .rw[aK e]at q; exact .inl q⟩
structure Gs(K:PySem.W.Frag)(G H G' H':Hp):Prop where
 gw:Gw K G H G' H'
 sm:Same H H'
theorem Gs.refl(s:Same G H):Gs K G H G H:=⟨.refl s,Same.refl _⟩
theorem Gs.flt(s:Same G H)(h:H p=none):Gs K G H G (upd H p o):=⟨.flt s h,g8 h o⟩
theorem Gs.new(s:Same G H)(h:H p=none):Gs K G H (upd G p o) (upd H p o):=⟨.new s h,g8 h o⟩
theorem Ok.grow(e:Ok K R ρ σ G H F)(w:Gw K G H G' H'):Ok K R ρ σ G' H' F/\aG K G H F G' H' F:=by
 have tb:=w.tb e.tb
 have dm:∀b,H' b=none->H b=none:=λb h=>by
  cases q:H b with
  |none=>rfl
  |some o =>
   by_cases t:Tb K b
   .obtain⟨ps,z⟩:=tb.cj t; rw[h]at z; cases z
   .rw[w.hh b o q t]at h; cases h
 have no:∀b,G b=none->H b≠none->G' b=none:=λb h n=>by
  cases q:G' b with
  |none=>rfl
  |some o=>exact((w.nw b (by rw[q]; exact λz=>by cases z)).elim (λz=>z h) n).elim
 refine⟨⟨e.len,w.sub,tb,λb t=>no b (e.tg b t) λz=>?_,λb h=>no b (e.hid b h) λz=>e.fs z h,λb h=>⟨no b (e.rg b h).1 (e.rg b h).2,λz=>(e.rg b h).2 (dm b z)⟩,e.di,λi=>(e.sl i).mono w.gg λb hb o q=>w.hh b o q ?_⟩,w.gg,λb o h _ t=>w.hh b o h t,λb h=>(w.nw b h).imp id .inl,λb h=>.inr h,dm⟩
 .obtain⟨ps,q⟩:=e.tb.cj t; rw[z]at q; cases q
 .obtain⟨ys,z⟩:=e.fl ⟨i,hb⟩
  exact e.tb.nt z
theorem Ok.show(e:Ok K R ρ σ G H F)(h:H a=some (.lst xs))(n:¬Fn F a)(r:¬R a):Ok K R ρ σ (upd G a (.lst xs)) H F/\Same G (upd G a (.lst xs)):=by
 have m:Same G (upd G a (.lst xs)):=λb o q=>by
  by_cases z:b=a
  .subst z; rw[cu,<-h]; exact(e.sub b o q)
  .rw[aK z]; exact q
 have no:∀b,b≠a->G b=none->upd G a (.lst xs) b=none:=λb z q=>by rw[aK z]; exact q
 refine⟨⟨e.len,λb o q=>?_,e.tb,λb t=>no b (λz=>e.tb.nt h (z▸t)) (e.tg b t),λb z=>no b (λq=>n (q▸z)) (e.hid b z),λb z=>⟨no b (λq=>r (q▸z)) (e.rg b z).1,(e.rg b z).2⟩,e.di,λi=>(e.sl i).mono m λ_ _ _ q=>q⟩,m⟩
 by_cases z:b=a
 .subst z; rw[cu]at q; rw[h]; exact q
 .rw[aK z]at q; exact e.sub b o q
noncomputable def VN(K:PySem.W.Frag)(Hs G H:Hp)(v:V)(T:Tr):Bool->Prop
 |false=>Rep K G v T
 |true=>∃a xs ts,v=.ref a/\T=.lst ts/\Hs a=none/\G a=none/\H a=some (.lst xs)/\au K G xs ts
noncomputable def fJ(K:PySem.W.Frag)(σ : St)(Hs G H:Hp)(F:Fp)(v:V):Rv->Prop
 |.v T fr=>VN K Hs G H v T fr/\(fr=true->∀a,v=.ref a->¬Fn F a)
 |.s i=>σ[i]?=some (some v)
theorem VN.ok(h:VN K H G' H' v T fr)(e:Ok K R ρ σ G H F):fJ K τ H G' H' F v (.v T fr):=⟨h,λz a q=>by
 subst z; subst q
 obtain⟨b,_,_,z,_,n,_⟩:=h
 cases z
 exact e.fs n⟩
theorem fJ.low(h:Rep K G v T):fJ K σ Hs G H F v (.v T false):=⟨h,λz=>by cases z⟩
theorem fJ.step(h:fJ K σ Hs G H F v r)(tb:bJ K H)(s:aG K G H F G' H' F'):fJ K σ Hs G' H' F' v r:=by
 match r,h with
 |.s i,h=>exact h
 |.v T false,h=>exact .low (Rep.mono s.gg h.1)
 |.v T true,⟨⟨a,xs,ts,e1,e2,n,g,q,r⟩,f⟩ =>
  have na:=f rfl a e1
  refine⟨⟨a,xs,ts,e1,e2,n,?_,s.fr a _ q na (tb.nt q),r.mono s.gg⟩,λ_ b z=>?_⟩
  .cases k:G' a with
   |none=>rfl
   |some o=>exact((s.nw a (by rw[k]; exact λz=>by cases z)).elim (λz=>z g) λz=>z.elim (λz=>by rw[q]at z; cases z) na).elim
  .rw[e1]at z; cases z
   exact s.out q na
theorem fJ.back(h:fJ K σ H1 G' H' F' v r)(d:∀b,H1 b=none->H b=none):fJ K σ H G' H' F' v r:=by
 match r,h with
 |.s i,h=>exact h
 |.v T false,h=>exact .low h.1
 |.v T true,⟨⟨a,xs,ts,e1,e2,n,q⟩,f⟩=>exact⟨⟨a,xs,ts,e1,e2,d a n,q⟩,f⟩
noncomputable def Rp(K:PySem.W.Frag)(G H:Hp)(v:V)(T:Tr):Prop:=Rep K G v T\/∃a xs ts,v=.ref a/\T=.lst ts/\H a=some (.lst xs)/\au K G xs ts
theorem Rp.rep(s:Same G H)(h:Rp K G H v T):Rep K H v T:=by
 rcases h with h|⟨a,xs,ts,rfl,rfl,e,r⟩
 .exact h.mono s
 .exact .lst (aH.of e) (r.mono s)
theorem Rp.lst(s:Same G H)(h:Rp K G H v (.lst ts)):∃a xs,v=.ref a/\aH K H a xs/\au K G xs ts:=by
 rcases h with h|⟨a,xs,us,rfl,e0,e,r⟩
 .cases h with
  |lst h r=>exact⟨_,_,rfl,s.seq h,r⟩
 .cases e0
  exact⟨a,xs,rfl,aH.of e,r⟩
theorem Rp.low(h:Rp K G H v T)(n:Oh T=false):Rep K G v T:=by
 rcases h with h|⟨a,xs,us,rfl,rfl,_⟩
 .exact h
 .cases n
theorem Rp.tup(s:Same G H)(h:Rp K G H v (.tup ts)):∃a xs,v=.ref a/\bw K H a xs/\au K G xs ts:=by
 have q:=h.low rfl
 cases q with
 |tup q r=>exact⟨_,_,rfl,s.oZ q,r⟩
theorem Rp.int(h:Rp K G H v (.int i)):v=.int i:=by cases h.low rfl; rfl
theorem Rp.bl(h:Rp K G H v (.bl i)):v=.bl i:=by cases h.low rfl; rfl
theorem Rp.str(h:Rp K G H v (.str i)):v=.str i:=by cases h.low rfl; rfl
theorem Rp.non(h:Rp K G H v .non):v=.non:=by cases h.low rfl; rfl
noncomputable def dr(ρ : En):Rv->Rs Tr
 |.v T _=>.ok T
 |.s i=>match ρ[i]? with
  |some (Sl.ow ts)=>.ok (.lst ts)
  |some (Sl.rf ts)=>.ok (.lst ts)
  |_=>.bad
theorem iK(ρ : En)(r:Rv)(c:Str):dr ρ r ≠ .ex c:=by
 cases r with
 |v T fr=>intro z; cases z
 |s i=>dsimp only[dr]; split <;> (intro z; cases z)
theorem iM(e:Ok K R ρ σ G H F)(h:fJ K σ Hs G H F v r)(q:dr ρ r=.ok T):Rp K G H v T:=by
 match r,h with
 |.v U false,h=>cases q; exact .inl h.1
 |.v U true,⟨⟨a,xs,ts,e1,e2,_,_,z,r⟩,_⟩=>cases q; exact .inr ⟨a,xs,ts,e1,e2,z,r⟩
 |.s i,h =>
  dsimp only[dr]at q
  have z:=e.sl i
  split at q <;> rename_i k <;> (first|cases q; done|skip) <;> (rw[k]at z; obtain⟨a,xs,h1,_,_,h4,h5⟩:=z; rw[h]at h1; cases h1; cases q; exact .inr ⟨a,xs,_,rfl,rfl,h4,h5⟩)
end
structure Tx where
 K:PySem.W.Frag
 xe:Str->Hp->Prop
noncomputable def bK{α : Type}(t:Tx)(H:Hp)(F:Fp)(r:Rs α)(P : α -> Prop):Prop:=match r with
 |.bad=>False
 |.ex c=>∀H',Fr t.K H F H'->t.xe c H'
 |.ok a=>P a
theorem bR{C:Prop}{A B:(Addr->Prop)->En->Hp->Fp->Prop}(k:∀R ρ G F,A R ρ G F->B R ρ G F->C):(∃R ρ G F,A R ρ G F/\B R ρ G F)->C:=λz=>by
 obtain⟨R,ρ,G,F,e,h⟩:=z
 exact k R ρ G F e h
noncomputable def Te(t:Tx)(f:EF):TE:=λσ H Q=>∃R ρ G F,Ok t.K R ρ σ G H F/\bK t H F (f ρ) λp=>∀v G' H' F',Ok t.K R p.2 σ G' H' F'->aG t.K G H F G' H' F'->fJ t.K σ H G' H' F' v p.1->Q v H'
noncomputable def Tt(t:Tx)(f:BF):TT:=λσ H Q=>∃R ρ G F,Ok t.K R ρ σ G H F/\bK t H F (f ρ) λp=>∀G' H' F',Ok t.K R p.2 σ G' H' F'->aG t.K G H F G' H' F'->Q p.1 H'
noncomputable def To(t:Tx)(f:OF):TO:=λσ H Q=>∃R ρ G F,Ok t.K R ρ σ G H F/\bK t H F (f ρ) λp=>∀G' H' F',Ok t.K R p.2 σ G' H' F'->aG t.K G H F G' H' F'->Q p.1 H'
inductive cU(K:PySem.W.Frag)(σ : St)(Hs G H:Hp)(F:Fp):List V->List Rv->Prop
 |nil:cU K σ Hs G H F [] []
 |cons {v:V} {r:Rv} {vs:List V} {rs:List Rv} (h:fJ K σ Hs G H F v r) (q:cU K σ Hs G H F vs rs):cU K σ Hs G H F (v::vs) (r::rs)
noncomputable def Ta(t:Tx)(f:AF):TA:=λσ H Q=>∃R ρ G F,Ok t.K R ρ σ G H F/\bK t H F (f ρ) λp=>∀vs G' H' F',Ok t.K R p.2 σ G' H' F'->aG t.K G H F G' H' F'->cU t.K σ H G' H' F' vs p.1->Q vs H'
section
variable {t:Tx}{R:Addr->Prop}{ρ : En}{σ : St}{G H G0 H0:Hp}{F F0:Fp}
theorem bK.run{α β : Type}{r:Rs α}{g : α -> Rs β}{P : β -> Prop}{P' : α -> Prop}(s:aG t.K G0 H0 F0 G H F)(h:bK t H0 F0 (r.bind g) P)(k:∀a,bK t H0 F0 (g a) P->P' a):bK t H F r P':=by
 cases r with
 |bad=>exact h
 |ex c=>exact λH' f=>h H' (s.back f)
 |ok a=>exact k a h
theorem bK.okb{α β : Type}{r:Rs α}{g : α -> Rs β}{P : β -> Prop}(h:bK t H F (r.bind g) P)(n:∀c,r ≠ .ex c):∃a,r=.ok a/\bK t H F (g a) P:=by
 cases r with
 |bad=>exact h.elim
 |ex c=>exact(n c rfl).elim
 |ok a=>exact⟨a,rfl,h⟩
theorem eE{β : Type}{g:Rv × En->Rs β}{P : β -> Prop}(e:Ok t.K R ρ σ G H F)(s:aG t.K G0 H0 F0 G H F)(h:bK t H0 F0 ((f ρ).bind g) P)(k:∀p,bK t H0 F0 (g p) P->∀v G' H' F',Ok t.K R p.2 σ G' H' F'->aG t.K G H F G' H' F'->fJ t.K σ H G' H' F' v p.1->Q v H'):Te t f σ H Q:=⟨R,ρ,G,F,e,h.run s k⟩
theorem jf{β : Type}{g:List Rv × En->Rs β}{P : β -> Prop}(e:Ok t.K R ρ σ G H F)(s:aG t.K G0 H0 F0 G H F)(h:bK t H0 F0 ((f ρ).bind g) P)(k:∀p,bK t H0 F0 (g p) P->∀v G' H' F',Ok t.K R p.2 σ G' H' F'->aG t.K G H F G' H' F'->cU t.K σ H G' H' F' v p.1->Q v H'):Ta t f σ H Q:=⟨R,ρ,G,F,e,h.run s k⟩
theorem lO{β : Type}{g:Bool × En->Rs β}{P : β -> Prop}(e:Ok t.K R ρ σ G H F)(s:aG t.K G0 H0 F0 G H F)(h:bK t H0 F0 ((f ρ).bind g) P)(k:∀p,bK t H0 F0 (g p) P->∀G' H' F',Ok t.K R p.2 σ G' H' F'->aG t.K G H F G' H' F'->Q p.1 H'):Tt t f σ H Q:=⟨R,ρ,G,F,e,h.run s k⟩
theorem Ol{β : Type}{g:Option Int × En->Rs β}{P : β -> Prop}(e:Ok t.K R ρ σ G H F)(s:aG t.K G0 H0 F0 G H F)(h:bK t H0 F0 ((f ρ).bind g) P)(k:∀p,bK t H0 F0 (g p) P->∀G' H' F',Ok t.K R p.2 σ G' H' F'->aG t.K G H F G' H' F'->Q p.1 H'):To t f σ H Q:=⟨R,ρ,G,F,e,h.run s k⟩
end
local macro_rules | `(tactic| walk_at "x")=>`(tactic| ((repeat' split) <;> (intro z; cases z)))
noncomputable def Pz{α : Type}(r:Rs α)(P : α -> Prop):Prop:=match r with
 |.ok a=>P a
 |_=>False
noncomputable abbrev G1:=Tr->Rs (Tr × Bool)
noncomputable abbrev G2:=Tr->Tr->Rs (Tr × Bool)
noncomputable abbrev GN:=List Tr->Rs (Tr × Bool)
structure cJ(K:PySem.W.Frag)(r:R2)(g:G2):Prop where
 nx:∀a b c,g a b ≠ .ex c
 ok:∀G H x y a b Q,Same G H->Rp K G H x a->Rp K G H y b->Pz (g a b) (λp=>∀v G' H',Gs K G H G' H'->VN K H G' H' v p.1 p.2->Q v H')->r x y H Q
inductive lQ(K:PySem.W.Frag)(G H:Hp):List V->List Tr->Prop
 |nil:lQ K G H [] []
 |cons {x:V} {t:Tr} {xs:List V} {ts:List Tr} (h:Rp K G H x t) (r:lQ K G H xs ts):lQ K G H (x::xs) (t::ts)
structure DW(K:PySem.W.Frag)(r:List V->Hp->VK->Prop)(g:GN):Prop where
 nx:∀as c,g as ≠ .ex c
 ok:∀G H xs as Q,Same G H->lQ K G H xs as->Pz (g as) (λp=>∀v G' H',Gs K G H G' H'->VN K H G' H' v p.1 p.2->Q v H')->r xs H Q
section
variable {K:PySem.W.Frag}
theorem VN.flt(s:Same G H)(hz:H z=none)(r:au K G xs ts):VN K H G (upd H z (.lst xs)) (.ref z) (.lst ts) true:=⟨z,xs,ts,rfl,rfl,hz,s.free hz,cu,r⟩
theorem VN.newT(s:Same G H)(hz:H z=none)(r:au K G xs ts):VN K H (upd G z (.tup xs)) (upd H z (.tup xs)) (.ref z) (.tup ts) false:=Rep.tup (bw.of cu) (r.mono (g8 (s.free hz) _))
theorem au.jg:∀{v:List V} {t:List Tr} {i:Nat} {u:Tr},au K H v t->t[i]?=some u->∃x,v[i]?=some x/\Rep K H x u
 |_,_,_,_,.nil,e=>by simp at e
 |_,_,0,_,.cons h _,e=>by simp at e; subst e; exact⟨_,rfl,h⟩
 |_,_,i+1,_,.cons _ r,e=>by
  obtain⟨x,a,b⟩:=au.jg (i:=i) r (by simpa using e)
  exact⟨x,by simpa using a,b⟩
theorem au.cR(r:au K H xs ts)(h:cR ts i=some t):∃x,L2.cR xs i=some x/\Rep K H x t:=by
 unfold L2.cR at h ⊢
 rw[r.length]
 cases e:gW ts.length i with
 |none=>rw[e]at h; cases h
 |some j =>
  rw[e]at h
  exact r.jg h
theorem big(h:n<=100000):n<=sizeLine:=Nat.le_trans h (by decide)
noncomputable def gI(p:Int->Int->Int):G2
 |.int i,.int j=>.ok (.int (p i j),false)
 |_,_=>.bad
theorem Om:cJ K (dh λi j=>.int (p i j)) (gI p):=⟨λa b c=>by unfold gI; walk_at "x",λG H x y a b Q s rx ry h=>by
 cases a <;> try exact h.elim
 cases b <;> try exact h.elim
 rw[rx.int,ry.int]
 exact⟨_,_,rfl,rfl,h _ G H (.refl s) (.int _)⟩⟩
noncomputable def lR(c:Int->Int->Bool)(p:Int->Int->Int):G2
 |.int i,.int j=>if c i j=true then .ok (.int (p i j),false)else .bad
 |_,_=>.bad
theorem uo(hc:∀i j,c i j=true->C i j):cJ K (rI C λi j=>.int (p i j)) (lR c p):=⟨λa b c=>by unfold lR; walk_at "x",λG H x y a b Q s rx ry h=>by
 cases a <;> try exact h.elim
 cases b <;> try exact h.elim
 rw[rx.int,ry.int]
 dsimp only[lR]at h
 split at h
 .rename_i e
  exact⟨_,_,rfl,rfl,hc _ _ e,h _ G H (.refl s) (.int _)⟩
 .exact h.elim⟩
noncomputable def gB(p:Int->Int->Bool):G2
 |.int i,.int j=>.ok (.bl (p i j),false)
 |_,_=>.bad
theorem DX:cJ K (dh λi j=>.bl (p i j)) (gB p):=⟨λa b c=>by unfold gB; walk_at "x",λG H x y a b Q s rx ry h=>by
 cases a <;> try exact h.elim
 cases b <;> try exact h.elim
 rw[rx.int,ry.int]
 exact⟨_,_,rfl,rfl,h _ G H (.refl s) (.bl _)⟩⟩
noncomputable def jH:G2:=λt u=>if dep t<=40/\dep u<=40 then .ok (.bl (eqT t u),false)else .bad
theorem ada:cJ (aA K) (Dr K) jH:=⟨λa b c=>by unfold jH; walk_at "x",λG H x y a b Q s rx ry h=>by
 unfold jH at h
 split at h
 .rename_i e
  exact⟨a,b,(rx.rep s).toK,(ry.rep s).toK,e.1,e.2,h _ G H (.refl s) (.bl _)⟩
 .exact h.elim⟩
noncomputable def iw:G2:=λt u=>if dep t<=40/\dep u<=40 then .ok (.bl (!eqT t u),false)else .bad
theorem adb:cJ (aA K) (DP K) iw:=⟨λa b c=>by unfold iw; walk_at "x",λG H x y a b Q s rx ry h=>by
 unfold iw at h
 split at h
 .rename_i e
  exact⟨a,b,(rx.rep s).toK,(ry.rep s).toK,e.1,e.2,h _ G H (.refl s) (.bl _)⟩
 .exact h.elim⟩
noncomputable def jh(f:Bool->Bool):G2:=λt u=>match u with
 |.lst us=>if deps us<=40/\dep t<=40 then .ok (.bl (f (jG t us)),false)else .bad
 |.tup us=>if deps us<=40/\dep t<=40 then .ok (.bl (f (jG t us)),false)else .bad
 |_=>.bad
theorem Oo(hr:∀x y H Q,(∃t ts p xs,Rep K H x t/\y=.ref p/\(aH K H p xs\/bw K H p xs)/\au K H xs ts/\deps ts<=40/\dep t<=40/\Q (.bl (f (jG t ts))) H)->r x y H Q):cJ (aA K) r (jh f):=⟨λa b c=>by unfold jh; walk_at "x",λG H x y a b Q s rx ry h=>hr x y H Q (by
 cases b <;> try exact h.elim
 all_goals
  rename_i us
  dsimp only[jh]at h
  split at h
  case isFalse=>exact h.elim
  rename_i e
 .obtain⟨p,xs,rfl,q,r⟩:=ry.tup s
  exact⟨a,us,p,xs,(rx.rep s).toK,rfl,.inr q.toK,(r.mono s).toK,e.1,e.2,h _ G H (.refl s) (.bl _)⟩
 .obtain⟨p,xs,rfl,q,r⟩:=ry.lst s
  exact⟨a,us,p,xs,(rx.rep s).toK,rfl,.inl q.toK,(r.mono s).toK,e.1,e.2,h _ G H (.refl s) (.bl _)⟩)⟩
theorem ade:cJ (aA K) (Ds K) (jh id):=Oo λ_ _ _ _ h=>h
theorem adf:cJ (aA K) (DN K) (jh not):=Oo λ_ _ _ _ h=>h
noncomputable def xO:Tr->Bool
 |.non=>true
 |_=>false
noncomputable def oH(f:Bool->Bool):G2:=λt u=>match u with
 |.non=>.ok (.bl (f (xO t)),false)
 |_=>.bad
theorem Oq(f:Bool->Bool):cJ K (λx y H Q=>y=.non/\Q (.bl (f (decide (x=.non)))) H) (oH f):=⟨λa b c=>by unfold oH; walk_at "x",λG H x y a b Q s rx ry h=>by
 cases b <;> try exact h.elim
 have z:decide (x=.non)=xO a:=by cases rx.rep s <;> rfl
 rw[ry.non,z]
 exact⟨rfl,h _ G H (.refl s) (.bl _)⟩⟩
noncomputable def DY(K:PySem.W.Frag):R2:=λx y H Q=>(dh λi j=>.int (i+j)) x y H Q\/N8 K x y H Q\/(∃i j,x=.str i/\y=.str j/\i.length+j.length<=sizeLine/\Q (.str (i++j)) H)\/M5 K x y H Q
theorem adg:aX X (binaryOp .Add) (DY X.K):=aX.or Ma (aX.or ac7 (aX.or abA ab8))
noncomputable def nu:G2
 |.int i,.int j=>.ok (.int (i+j),false)
 |.lst a,.lst b=>if a.length+b.length<=100000 then .ok (.lst (a++b),true)else .bad
 |.str a,.str b=>if a.length+b.length<=100000 then .ok (.str (a++b),false)else .bad
 |.tup a,.tup b=>if 0<a.length/\a.length+b.length<=100000 then .ok (.tup (a++b),false)else .bad
 |_,_=>.bad
theorem adh:cJ (aA K) (DY K) nu:=⟨λa b c=>by unfold nu; walk_at "x",λG H x y a b Q s rx ry h=>by
 cases a <;> cases b <;> try exact h.elim
 .rw[rx.int,ry.int]
  exact .inl ⟨_,_,rfl,rfl,h _ G H (.refl s) (.int _)⟩
 all_goals
  rename_i us ws
  dsimp only[nu]at h
  split at h
  case isFalse=>exact h.elim
  rename_i e
 .rw[rx.str,ry.str]
  exact .inr (.inr (.inl ⟨us,ws,rfl,rfl,big e,h _ G H (.refl s) (.str _)⟩))
 .have rt:=rx.low rfl
  obtain⟨p,xs,rfl,q,r⟩:=rx.tup s
  obtain⟨p',ys,rfl,q',r'⟩:=ry.tup s
  have l1:=r.length
  have l2:=r'.length
  refine .inr (.inr (.inr ⟨p,p',xs,ys,rfl,rfl,q.toK,q'.toK,?_,by rw[l1,l2]; exact big e.2,λz=>h _ G H (.refl s) ?_,λ_ z hz=>h _ _ _ (.new s hz) (.newT s hz (r.app r'))⟩))
  .rintro rfl
   have e1:=e.1
   rw[<-l1]at e1
   cases e1
  .subst z
   cases r'
   rw[List.append_nil]
   exact rt
 .obtain⟨p,xs,rfl,q,r⟩:=rx.lst s
  obtain⟨p',ys,rfl,q',r'⟩:=ry.lst s
  exact .inr (.inl ⟨p,p',xs,ys,rfl,rfl,q.xJ,q'.xJ,by rw[r.length,r'.length]; exact big e,λz hz=>h _ _ _ (.flt s hz) (.flt s hz (r.app r'))⟩)⟩
noncomputable def fit(i:Int):Bool:=decide (i.natAbs.log2<1048575)
theorem Ot(h:fit i=true):Builtin.Int.intBits i<=2 ^ 20:=by
 have h:=of_decide_eq_true h
 unfold Builtin.Int.intBits
 split
 .decide
 .omega
noncomputable def tiny(i:Int):Bool:=decide (-18446744073709551616<i)&&decide (i<18446744073709551616)
noncomputable def dH(i j:Int):Bool:=(fit i&&fit j) || tiny i || tiny j
noncomputable def xP(i j:Int):Prop:=dH i j=true
theorem xP.ok(h:xP i j):IntMulOk i j:=by
 unfold xP dH at h
 rw[Bool.or_eq_true,Bool.or_eq_true,Bool.and_eq_true]at h
 have tn:∀{k:Int},tiny k=true -> -(2 ^ 64)<k/\k<2 ^ 64:=λ{k} h=>by
  unfold tiny at h
  rw[Bool.and_eq_true]at h
  have h1:=of_decide_eq_true h.1
  have h2:=of_decide_eq_true h.2
  omega
 rcases h with(⟨h1,h2⟩|h)|h
 .exact .of_bits (Ot h1) (Ot h2)
 .exact .of_left (intBits_le_64 (tn h).1 (tn h).2)
 .exact .of_right (intBits_le_64 (tn h).1 (tn h).2)
noncomputable def Ea(K:PySem.W.Frag):R2:=λx y H Q=>(rI xP λi j=>.int (i*j)) x y H Q\/Oa K x y H Q
theorem adi:aX X (binaryOp .Mult) (Ea X.K):=aX.or (qw λ_ _ _ _ _ _ _ hc q=>mul_int q hc.ok) ac8
noncomputable def o8:G2
 |.int i,.int j=>if dH i j=true then .ok (.int (i*j),false)else .bad
 |.lst a,.int k=>if(-1000<=k/\k<=1000)/\a.length<=100 then .ok (.lst (List.replicate k.toNat a).flatten,true)else .bad
 |_,_=>.bad
noncomputable def iH(_ j:Int):Bool:=decide (j≠0)&&decide (j.natAbs.log2<9000)
noncomputable def xQ(i j:Int):Prop:=iH i j=true
theorem adk:aX X (binaryOp .FloorDiv) (rI xQ λi j=>.int (i.fdiv j)):=qw λi j _ _ _ _ _ hc q=>by
 unfold xQ iH at hc
 rw[Bool.and_eq_true]at hc
 exact floordiv_int (of_decide_eq_true hc.1) q (.inl (PyProof.noPylong_of_log2 (of_decide_eq_true hc.2)))
noncomputable def xR:G2:=lR iH Int.fdiv
noncomputable def xU:G2:=lR (λ_ j=>decide (j≠0)) Int.fmod
noncomputable def qL(i j:Int):Bool:=decide (0<=j)&&decide (j<=1000)&&tiny i
noncomputable def tH:G2:=lR qL λi j=>i ^ j.toNat
noncomputable def uq:G2:=gI λi j=>i-j
section
variable {K:PySem.W.Frag}
theorem au.rep(r:au K H xs ts):∀n,au K H (List.replicate n xs).flatten (List.replicate n ts).flatten
 | 0=>.nil
 |n+1=>by
  exact r.app (au.rep r n)
theorem adl:cJ (aA K) (Ea K) o8:=⟨λa b c=>by unfold o8; walk_at "x",λG H x y a b Q s rx ry h=>by
 cases a <;> cases b <;> try exact h.elim
 all_goals
  rename_i us k
  rw[ry.int]
  dsimp only[o8]at h
  split at h
  case isFalse=>exact h.elim
  rename_i e
 .rw[rx.int]
  exact .inl ⟨_,_,rfl,rfl,e,h _ G H (.refl s) (.int _)⟩
 .obtain⟨p,xs,rfl,q,r⟩:=rx.lst s
  refine .inr ⟨p,k,xs,rfl,rfl,q.xJ,by omega,by omega,?_,λz hz=>h _ _ _ (.flt s hz) (.flt s hz (r.rep _))⟩
  rw[r.length]
  exact Nat.le_trans (Nat.mul_le_mul e.2 (show k.toNat<=1000 by omega)) (by decide)⟩
theorem adn:cJ K (rI xQ λi j=>.int (i.fdiv j)) xR:=uo λ_ _ h=>h
theorem ado:cJ K (rI (λ_ j=>j≠0) λi j=>.int (i.fmod j)) xU:=uo λ_ _ h=>of_decide_eq_true h
theorem Ou(i j:Int)(h:qL i j=true):qx i j:=by
 simp only[qL,tiny,Bool.and_eq_true,decide_eq_true_eq]at h
 exact⟨h.1.1,by omega,by omega⟩
theorem adp:cJ K (rI qx λi j=>.int (i ^ j.toNat)) tH:=uo Ou
theorem adq:cJ K (dh λi j=>.int (i-j)) uq:=Om
noncomputable def Eb:G2:=gB λi j=>decide (j<i)
noncomputable def Ec:G2:=gB λi j=>decide (i<=j)
noncomputable def Ed:G2:=gB λi j=>decide (j<=i)
theorem adt:cJ K (dh λi j=>.bl (decide (j<i))) Eb:=DX
theorem adu:cJ K (dh λi j=>.bl (decide (i<=j))) Ec:=DX
theorem adv:cJ K (dh λi j=>.bl (decide (j<=i))) Ed:=DX
noncomputable def intsOf:List Tr->Option (List Int)
 | []=>some []
 |.int i::r=>(intsOf r).map (i :: ·)
 |_::_=>none
theorem ints_of:∀{ts:List Tr} {ns:List Int} {xs:List V},intsOf ts=some ns->au K H xs ts->xs=ns.map V.int
 | [],ns,xs,h,r=>by cases h; cases r; rfl
 |.int i::q,ns,xs,h,r=>by
  obtain⟨ms,e,rfl⟩:=Option.map_eq_some_iff.mp h
  cases r with
  |cons h1 r1 =>
   cases h1
   rw[ints_of e r1]
   rfl
noncomputable def Ef(K:PySem.W.Frag):R2:=λx y H Q=>(dh λi j=>.bl (decide (i<j))) x y H Q\/M4 K x y H Q
theorem adw(hu:X.A.units+64<cLine):aX X (compareOp .Lt) (Ef X.K):=aX.or abn (ab7 (by omega))
noncomputable def qN:G2
 |.int i,.int j=>.ok (.bl (decide (i<j)),false)
 |.tup a,.tup b=>match intsOf a,intsOf b with
  |some ns,some ms=>.ok (.bl (HT.lexLt ns ms),false)
  |_,_=>.bad
 |_,_=>.bad
theorem adx:cJ (aA K) (Ef K) qN:=⟨λa b c=>by unfold qN; walk_at "x",λG H x y a b Q s rx ry h=>by
 cases a <;> cases b <;> try exact h.elim
 .rw[rx.int,ry.int]
  exact .inl ⟨_,_,rfl,rfl,h _ G H (.refl s) (.bl _)⟩
 .dsimp only[qN]at h
  split at h
  case h_2=>exact h.elim
  rename_i ns ms e1 e2
  obtain⟨p,xs,rfl,q,r⟩:=rx.tup s
  obtain⟨p',ys,rfl,q',r'⟩:=ry.tup s
  have z1:=ints_of e1 r
  have z2:=ints_of e2 r'
  subst z1 z2
  exact .inr ⟨p,p',ns,ms,rfl,rfl,q.toK,q'.toK,h _ G H (.refl s) (.bl _)⟩⟩
noncomputable def aW:G2
 |.lst ts,.int i=>match cR ts i with
  |some t=>.ok (t,false)
  |none=>.bad
 |.tup ts,.int i=>match cR ts i with
  |some t=>.ok (t,false)
  |none=>.bad
 | .str z,.int i=>if z.length<=100000 then (match cR z.cps.toList i with
  |some c=>.ok (.str ⟨#[c]⟩,false)
  |none=>.bad)else .bad
 |_,_=>.bad
theorem Ov:cJ (aA K) (Nf K) aW:=⟨λa b c=>by unfold aW; walk_at "x",λG H x y a b Q s rx ry h=>by
 cases a <;> cases b <;> try exact h.elim
 all_goals
  rename_i z i
  rw[ry.int]
  dsimp only[aW]at h
  split at h
  rotate_left
  exact h.elim
 .rename_i e
  rw[rx.str]
  split at h
  .rename_i c ec
   exact .inr (.inr ⟨z,i,c,rfl,rfl,big e,ec,h _ G H (.refl s) (.str _)⟩)
  .exact h.elim
 .rename_i t e
  obtain⟨p,xs,rfl,q,r⟩:=rx.tup s
  obtain⟨v,ev,rv⟩:=r.cR e
  exact .inr (.inl ⟨p,xs,i,v,rfl,rfl,q.toK,ev,h _ G H (.refl s) rv⟩)
 .rename_i t e
  obtain⟨p,xs,rfl,q,r⟩:=rx.lst s
  obtain⟨v,ev,rv⟩:=r.cR e
  exact .inl ⟨p,xs,i,v,rfl,rfl,q.toK,ev,h _ G H (.refl s) rv⟩⟩
structure jY(K:PySem.W.Frag)(r:V->Hp->VK->Prop)(g:G1):Prop where
 nx:∀a c,g a ≠ .ex c
 ok:∀G H x a Q,Same G H->Rp K G H x a->Pz (g a) (λp=>∀v G' H',Gs K G H G' H'->VN K H G' H' v p.1 p.2->Q v H')->r x H Q
noncomputable def g1(g:G1):GN
 | [a]=>g a
 |_=>.bad
theorem qP{r:List V->Hp->VK->Prop}{g:G1}(h:jY K (λx=>r [x]) g):DW K r (g1 g):=⟨λas c=>(by
 unfold g1
 split
 .exact h.nx _ c
 .intro z; cases z),λG H xs as Q s rs q=>by
 cases rs with
 |nil=>exact q.elim
 |cons h1 r1 =>
  cases r1 with
  |nil=>exact h.ok G H _ _ Q s h1 q
  |cons _ _=>exact q.elim⟩
noncomputable def g2(g:G2):GN
 | [a,b]=>g a b
 |_=>.bad
noncomputable def mR:G1
 |.int i=>.ok (.int (-i),false)
 |_=>.bad
theorem Ow:jY K (rU λi=>.int (-i)) mR:=⟨λa c=>by unfold mR; walk_at "x",λG H x a Q s rx h=>by
 cases a <;> try exact h.elim
 rw[rx.int]
 exact⟨_,rfl,h _ G H (.refl s) (.int _)⟩⟩
noncomputable def Eh(K:PySem.W.Frag):List V->Hp->VK->Prop:=λxs H Q=>(∃p ys,xs=[.ref p]/\(aH K H p ys\/bw K H p ys)/\Q (.int ys.length) H)\/(∃z,xs=[.str z]/\z.length<=sizeLine/\Q (.int z.length) H)
theorem ady:fD X (.builtin "len") (Eh X.K):=fD.or aco acp
noncomputable def d8:G1
 |.lst ts=>.ok (.int ts.length,false)
 |.tup ts=>.ok (.int ts.length,false)
 |.str z=>if z.length<=100000 then .ok (.int z.length,false)else .bad
 |_=>.bad
theorem adz:jY (aA K) (λx=>Eh K [x]) d8:=⟨λa c=>by unfold d8; walk_at "x",λG H x a Q s rx h=>by
 cases a <;> try exact h.elim
 .dsimp only[d8]at h
  split at h
  .rename_i z e
   rw[rx.str]
   exact .inr ⟨z,rfl,big e,h _ G H (.refl s) (.int _)⟩
  .exact h.elim
 .obtain⟨p,xs,rfl,q,r⟩:=rx.tup s
  refine .inl ⟨p,xs,rfl,.inr q.toK,?_⟩
  rw[r.length]
  exact h _ G H (.refl s) (.int _)
 .obtain⟨p,xs,rfl,q,r⟩:=rx.lst s
  refine .inl ⟨p,xs,rfl,.inl q.toK,?_⟩
  rw[r.length]
  exact h _ G H (.refl s) (.int _)⟩
noncomputable def ur:G1
 |.int i=>.ok (.int (if i<0 then -i else i),false)
 |_=>.bad
theorem adA:jY K (λx H Q=>∃i,[x]=[V.int i]/\Q (.int (if i<0 then -i else i)) H) ur:=⟨λa c=>by unfold ur; walk_at "x",λG H x a Q s rx h=>by
 cases a <;> try exact h.elim
 rw[rx.int]
 exact⟨_,rfl,h _ G H (.refl s) (.int _)⟩⟩
noncomputable def v8:G1
 |.int i=>.ok (.int i,false)
 |.bl b=>.ok (.int (if b then 1 else 0),false)
 |_=>.bad
theorem adB:jY K (λx H Q=>(∃i,[x]=[V.int i]/\Q (.int i) H)\/∃k,[x]=[V.bl k]/\Q (.int (if k then 1 else 0)) H) v8:=⟨λa c=>by unfold v8; walk_at "x",λG H x a Q s rx h=>by
 cases a <;> try exact h.elim
 .rw[rx.bl]
  exact .inr ⟨_,rfl,h _ G H (.refl s) (.int _)⟩
 .rw[rx.int]
  exact .inl ⟨_,rfl,h _ G H (.refl s) (.int _)⟩⟩
noncomputable def wg:G1
 |.lst ts=>.ok (.lst ts,true)
 |.tup ts=>.ok (.lst ts,true)
 |_=>.bad
theorem adC:jY (aA K) (λx H Q=>∃p ys,[x]=[V.ref p]/\(aH K H p ys\/bw K H p ys)/\∀l,H l=none->Q (.ref l) (upd H l (.lst ys))) wg:=⟨λa c=>by unfold wg; walk_at "x",λG H x a Q s rx h=>by
 cases a <;> try exact h.elim
 .obtain⟨p,xs,rfl,q,r⟩:=rx.tup s
  exact⟨p,xs,rfl,.inr q.toK,λz hz=>h _ _ _ (.flt s hz) (.flt s hz r)⟩
 .obtain⟨p,xs,rfl,q,r⟩:=rx.lst s
  exact⟨p,xs,rfl,.inl q.toK,λz hz=>h _ _ _ (.flt s hz) (.flt s hz r)⟩⟩
noncomputable def aac:G2
 |.int i,.int j=>.ok (.int (if j<i then j else i),false)
 |_,_=>.bad
noncomputable def aad:G2
 |.int i,.int j=>.ok (.int (if j > i then j else i),false)
 |_,_=>.bad
noncomputable def uw:List Tr->Option (List Bool)
 | []=>some []
 |.bl i::r=>(uw r).map (i :: ·)
 |_::_=>none
theorem Oz:∀{ts:List Tr} {ns:List Bool} {xs:List V},uw ts=some ns->au K H xs ts->xs=ns.map V.bl
 | [],ns,xs,h,r=>by cases h; cases r; rfl
 |.bl i::q,ns,xs,h,r=>by
  obtain⟨ms,e,rfl⟩:=Option.map_eq_some_iff.mp h
  cases r with
  |cons h1 r1 =>
   cases h1
   rw[Oz e r1]
   rfl
noncomputable def qQ:G1
 |.lst ts=>match uw ts with
  |some bs=>.ok (.bl (bs.all id),false)
  |none=>.bad
 |_=>.bad
theorem adD:jY (aA K) (λx=>Dt K [x]) qQ:=⟨λa c=>by unfold qQ; walk_at "x",λG H x a Q s rx h=>by
 cases a <;> try exact h.elim
 dsimp only[qQ]at h
 split at h
 .rename_i bs e
  obtain⟨p,xs,rfl,q,r⟩:=rx.lst s
  have z:=Oz e r
  subst z
  exact⟨p,bs,rfl,q.toK,h _ G H (.refl s) (.bl _)⟩
 .exact h.elim⟩
noncomputable def qm:Tr->Rs Bool
 |.bl b=>.ok b
 |_=>.bad
theorem OD(a:Tr)(c:Str):qm a ≠ .ex c:=by cases a <;> (intro z; cases z)
theorem OJ{a:Tr}(h:Rp K G H v a)(q:qm a=.ok b):v=.bl b:=by
 cases a <;> cases q
 exact h.bl
noncomputable def Ei:Tr->Rs Int
 |.int i=>.ok i
 |_=>.bad
theorem adE(a:Tr)(c:Str):Ei a ≠ .ex c:=by cases a <;> (intro z; cases z)
theorem adF{a:Tr}(h:Rp K G H v a)(q:Ei a=.ok b):v=.int b:=by
 cases a <;> cases q
 exact h.int
noncomputable def mQ:Tr->Rs Bool
 |.non=>.ok false
 |.bl b=>.ok b
 |.int i=>.ok (i != 0)
 |.lst ts=>.ok (!ts.isEmpty)
 |.tup ts=>.ok (!ts.isEmpty)
 |.str x=>if x.length<=100000 then .ok ((x.length:Int) != 0)else .bad
 |.bB _=>.bad
theorem adG(a:Tr)(c:Str):mQ a ≠ .ex c:=by unfold mQ; walk_at "x"
theorem O4{α β : Type}{a:List α}{b:List β}(h:a.length=b.length):a.isEmpty=b.isEmpty:=by
 cases a <;> cases b <;> first|rfl|cases h
theorem adH(s:Same G H)(h:Rp (aA K) G H v a)(q:mQ a=.ok b):CP K v H b:=by
 cases a with
 |non=>cases q; rw[h.non]; rfl
 |bl i=>cases q; rw[h.bl]; rfl
 |int i=>cases q; rw[h.int]; rfl
 |str i =>
  dsimp only[mQ]at q
  split at q
  .rename_i e
   cases q
   rw[h.str]
   exact⟨big e,rfl⟩
  .cases q
 |tup ts =>
  cases q
  obtain⟨p,xs,rfl,q,r⟩:=h.tup s
  exact .inr (id ⟨xs,q.toK,by rw[O4 r.length]⟩)
 |lst ts =>
  cases q
  obtain⟨p,xs,rfl,q,r⟩:=h.lst s
  exact .inl ⟨xs,q.toK,by rw[O4 r.length]⟩
 |bB c=>cases q
end
end
end L2
end
section
namespace L2
open PySem
@[irreducible] noncomputable def atName(e:Expr)(k:Str->Pos->Bool):Bool:=match e with
 |.Name x0 x1=>k x0 x1
 |_=>false
theorem JN(h:atName e k=true):∃x0 x1,e=.Name x0 x1/\k x0 x1=true:=by unfold atName at h; cases e <;> first|exact⟨_,_,rfl,h⟩|cases h
@[elab_as_elim] theorem Yb{C:_->Prop}(h:atName e k=true)(f:∀x0 x1,k x0 x1=true->C (.Name x0 x1)):C e:=by obtain⟨_,_,rfl,h'⟩:=JN h; exact f _ _ h'
@[irreducible] noncomputable def xV(e:Expr)(k:Expr->Operator->Expr->Pos->Bool):Bool:=match e with
 |.BinOp x0 x1 x2 x3=>k x0 x1 x2 x3
 |_=>false
theorem JQ(h:xV e k=true):∃x0 x1 x2 x3,e=.BinOp x0 x1 x2 x3/\k x0 x1 x2 x3=true:=by unfold xV at h; cases e <;> first|exact⟨_,_,_,_,rfl,h⟩|cases h
@[elab_as_elim] theorem Yc{C:_->Prop}(h:xV e k=true)(f:∀x0 x1 x2 x3,k x0 x1 x2 x3=true->C (.BinOp x0 x1 x2 x3)):C e:=by obtain⟨_,_,_,_,rfl,h'⟩:=JQ h; exact f _ _ _ _ h'
@[irreducible] noncomputable def o9(e:Expr)(k:UnaryOp->Expr->Pos->Bool):Bool:=match e with
 |.UnaryOp x0 x1 x2=>k x0 x1 x2
 |_=>false
theorem JR(h:o9 e k=true):∃x0 x1 x2,e=.UnaryOp x0 x1 x2/\k x0 x1 x2=true:=by unfold o9 at h; cases e <;> first|exact⟨_,_,_,rfl,h⟩|cases h
@[elab_as_elim] theorem Yd{C:_->Prop}(h:o9 e k=true)(f:∀x0 x1 x2,k x0 x1 x2=true->C (.UnaryOp x0 x1 x2)):C e:=by obtain⟨_,_,_,rfl,h'⟩:=JR h; exact f _ _ _ h'
@[irreducible] noncomputable def ux(e:Expr)(k:Expr->List CmpOp->List Expr->Pos->Bool):Bool:=match e with
 |.Compare x0 x1 x2 x3=>k x0 x1 x2 x3
 |_=>false
theorem JT(h:ux e k=true):∃x0 x1 x2 x3,e=.Compare x0 x1 x2 x3/\k x0 x1 x2 x3=true:=by unfold ux at h; cases e <;> first|exact⟨_,_,_,_,rfl,h⟩|cases h
@[elab_as_elim] theorem Ye{C:_->Prop}(h:ux e k=true)(f:∀x0 x1 x2 x3,k x0 x1 x2 x3=true->C (.Compare x0 x1 x2 x3)):C e:=by obtain⟨_,_,_,_,rfl,h'⟩:=JT h; exact f _ _ _ _ h'
@[irreducible] noncomputable def uy(e:Expr)(k:BoolOp->List Expr->Pos->Bool):Bool:=match e with
 |.BoolOp x0 x1 x2=>k x0 x1 x2
 |_=>false
theorem JV(h:uy e k=true):∃x0 x1 x2,e=.BoolOp x0 x1 x2/\k x0 x1 x2=true:=by unfold uy at h; cases e <;> first|exact⟨_,_,_,rfl,h⟩|cases h
@[elab_as_elim] theorem Yg{C:_->Prop}(h:uy e k=true)(f:∀x0 x1 x2,k x0 x1 x2=true->C (.BoolOp x0 x1 x2)):C e:=by obtain⟨_,_,_,rfl,h'⟩:=JV h; exact f _ _ _ h'
@[irreducible] noncomputable def xW(e:Expr)(k:Expr->Expr->Expr->Pos->Bool):Bool:=match e with
 |.IfExp x0 x1 x2 x3=>k x0 x1 x2 x3
 |_=>false
theorem JW(h:xW e k=true):∃x0 x1 x2 x3,e=.IfExp x0 x1 x2 x3/\k x0 x1 x2 x3=true:=by unfold xW at h; cases e <;> first|exact⟨_,_,_,_,rfl,h⟩|cases h
@[elab_as_elim] theorem Yh{C:_->Prop}(h:xW e k=true)(f:∀x0 x1 x2 x3,k x0 x1 x2 x3=true->C (.IfExp x0 x1 x2 x3)):C e:=by obtain⟨_,_,_,_,rfl,h'⟩:=JW h; exact f _ _ _ _ h'
@[irreducible] noncomputable def nA(e:Expr)(k:Expr->Expr->Pos->Bool):Bool:=match e with
 |.Subscript x0 x1 x2=>k x0 x1 x2
 |_=>false
theorem JX(h:nA e k=true):∃x0 x1 x2,e=.Subscript x0 x1 x2/\k x0 x1 x2=true:=by unfold nA at h; cases e <;> first|exact⟨_,_,_,rfl,h⟩|cases h
@[elab_as_elim] theorem Yi{C:_->Prop}(h:nA e k=true)(f:∀x0 x1 x2,k x0 x1 x2=true->C (.Subscript x0 x1 x2)):C e:=by obtain⟨_,_,_,rfl,h'⟩:=JX h; exact f _ _ _ h'
@[irreducible] noncomputable def iQ(e:Expr)(k:List Expr->Nat->Pos->Bool):Bool:=match e with
 |.Tuple x0 x1 x2=>k x0 x1 x2
 |_=>false
theorem JZ(h:iQ e k=true):∃x0 x1 x2,e=.Tuple x0 x1 x2/\k x0 x1 x2=true:=by unfold iQ at h; cases e <;> first|exact⟨_,_,_,rfl,h⟩|cases h
@[elab_as_elim] theorem Yj{C:_->Prop}(h:iQ e k=true)(f:∀x0 x1 x2,k x0 x1 x2=true->C (.Tuple x0 x1 x2)):C e:=by obtain⟨_,_,_,rfl,h'⟩:=JZ h; exact f _ _ _ h'
@[irreducible] noncomputable def uz(e:Expr)(k:List Expr->Pos->Bool):Bool:=match e with
 |.List x0 x1=>k x0 x1
 |_=>false
theorem J0(h:uz e k=true):∃x0 x1,e=.List x0 x1/\k x0 x1=true:=by unfold uz at h; cases e <;> first|exact⟨_,_,rfl,h⟩|cases h
@[elab_as_elim] theorem Yk{C:_->Prop}(h:uz e k=true)(f:∀x0 x1,k x0 x1=true->C (.List x0 x1)):C e:=by obtain⟨_,_,rfl,h'⟩:=J0 h; exact f _ _ h'
@[irreducible] noncomputable def xX(e:Expr)(k:Option Expr->Option Expr->Option Expr->Pos->Bool):Bool:=match e with
 |.Slice x0 x1 x2 x3=>k x0 x1 x2 x3
 |_=>false
theorem J1(h:xX e k=true):∃x0 x1 x2 x3,e=.Slice x0 x1 x2 x3/\k x0 x1 x2 x3=true:=by unfold xX at h; cases e <;> first|exact⟨_,_,_,_,rfl,h⟩|cases h
@[elab_as_elim] theorem Yl{C:_->Prop}(h:xX e k=true)(f:∀x0 x1 x2 x3,k x0 x1 x2 x3=true->C (.Slice x0 x1 x2 x3)):C e:=by obtain⟨_,_,_,_,rfl,h'⟩:=J1 h; exact f _ _ _ _ h'
@[irreducible] noncomputable def fY(e:Expr)(k:Expr->List Expr->List Keyword->Pos->Bool):Bool:=match e with
 |.Call x0 x1 x2 x3=>k x0 x1 x2 x3
 |_=>false
theorem BR(h:fY e k=true):∃x0 x1 x2 x3,e=.Call x0 x1 x2 x3/\k x0 x1 x2 x3=true:=by unfold fY at h; cases e <;> first|exact⟨_,_,_,_,rfl,h⟩|cases h
@[elab_as_elim] theorem Ym{C:_->Prop}(h:fY e k=true)(f:∀x0 x1 x2 x3,k x0 x1 x2 x3=true->C (.Call x0 x1 x2 x3)):C e:=by obtain⟨_,_,_,_,rfl,h'⟩:=BR h; exact f _ _ _ _ h'
@[irreducible] noncomputable def xY(e:Expr)(k:Expr->Str->Pos->Bool):Bool:=match e with
 |.Attribute x0 x1 x2=>k x0 x1 x2
 |_=>false
theorem J3(h:xY e k=true):∃x0 x1 x2,e=.Attribute x0 x1 x2/\k x0 x1 x2=true:=by unfold xY at h; cases e <;> first|exact⟨_,_,_,rfl,h⟩|cases h
@[elab_as_elim] theorem Yn{C:_->Prop}(h:xY e k=true)(f:∀x0 x1 x2,k x0 x1 x2=true->C (.Attribute x0 x1 x2)):C e:=by obtain⟨_,_,_,rfl,h'⟩:=J3 h; exact f _ _ _ h'
@[irreducible] noncomputable def nC(e:Expr)(k:Expr->List Comprehension->Scope->Pos->Bool):Bool:=match e with
 |.ListComp x0 x1 x2 x3=>k x0 x1 x2 x3
 |_=>false
theorem J4(h:nC e k=true):∃x0 x1 x2 x3,e=.ListComp x0 x1 x2 x3/\k x0 x1 x2 x3=true:=by unfold nC at h; cases e <;> first|exact⟨_,_,_,_,rfl,h⟩|cases h
@[elab_as_elim] theorem Yo{C:_->Prop}(h:nC e k=true)(f:∀x0 x1 x2 x3,k x0 x1 x2 x3=true->C (.ListComp x0 x1 x2 x3)):C e:=by obtain⟨_,_,_,_,rfl,h'⟩:=J4 h; exact f _ _ _ _ h'
@[irreducible] noncomputable def xZ(e:Expr)(k:Arguments->Expr->Scope->Pos->Bool):Bool:=match e with
 |.Lambda x0 x1 x2 x3=>k x0 x1 x2 x3
 |_=>false
theorem J5(h:xZ e k=true):∃x0 x1 x2 x3,e=.Lambda x0 x1 x2 x3/\k x0 x1 x2 x3=true:=by unfold xZ at h; cases e <;> first|exact⟨_,_,_,_,rfl,h⟩|cases h
@[elab_as_elim] theorem Yp{C:_->Prop}(h:xZ e k=true)(f:∀x0 x1 x2 x3,k x0 x1 x2 x3=true->C (.Lambda x0 x1 x2 x3)):C e:=by obtain⟨_,_,_,_,rfl,h'⟩:=J5 h; exact f _ _ _ _ h'
@[irreducible] noncomputable def pq(e:Stmt)(k:List Expr->Expr->Pos->Bool):Bool:=match e with
 |.Assign x0 x1 x2=>k x0 x1 x2
 |_=>false
theorem J6(h:pq e k=true):∃x0 x1 x2,e=.Assign x0 x1 x2/\k x0 x1 x2=true:=by unfold pq at h; cases e <;> first|exact⟨_,_,_,rfl,h⟩|cases h
@[elab_as_elim] theorem Yq{C:_->Prop}(h:pq e k=true)(f:∀x0 x1 x2,k x0 x1 x2=true->C (.Assign x0 x1 x2)):C e:=by obtain⟨_,_,_,rfl,h'⟩:=J6 h; exact f _ _ _ h'
@[irreducible] noncomputable def yc(e:Stmt)(k:Expr->Pos->Bool):Bool:=match e with
 |.Expr x0 x1=>k x0 x1
 |_=>false
theorem J7(h:yc e k=true):∃x0 x1,e=.Expr x0 x1/\k x0 x1=true:=by unfold yc at h; cases e <;> first|exact⟨_,_,rfl,h⟩|cases h
@[elab_as_elim] theorem Yr{C:_->Prop}(h:yc e k=true)(f:∀x0 x1,k x0 x1=true->C (.Expr x0 x1)):C e:=by obtain⟨_,_,rfl,h'⟩:=J7 h; exact f _ _ h'
@[irreducible] noncomputable def yd(e:Stmt)(k:Option Expr->Pos->Bool):Bool:=match e with
 |.Return x0 x1=>k x0 x1
 |_=>false
theorem J8(h:yd e k=true):∃x0 x1,e=.Return x0 x1/\k x0 x1=true:=by unfold yd at h; cases e <;> first|exact⟨_,_,rfl,h⟩|cases h
@[elab_as_elim] theorem Ys{C:_->Prop}(h:yd e k=true)(f:∀x0 x1,k x0 x1=true->C (.Return x0 x1)):C e:=by obtain⟨_,_,rfl,h'⟩:=J8 h; exact f _ _ h'
@[irreducible] noncomputable def yg(e:Stmt)(k:Expr->List Stmt->List Stmt->Pos->Bool):Bool:=match e with
 |.If x0 x1 x2 x3=>k x0 x1 x2 x3
 |_=>false
theorem J9(h:yg e k=true):∃x0 x1 x2 x3,e=.If x0 x1 x2 x3/\k x0 x1 x2 x3=true:=by unfold yg at h; cases e <;> first|exact⟨_,_,_,_,rfl,h⟩|cases h
@[elab_as_elim] theorem Yt{C:_->Prop}(h:yg e k=true)(f:∀x0 x1 x2 x3,k x0 x1 x2 x3=true->C (.If x0 x1 x2 x3)):C e:=by obtain⟨_,_,_,_,rfl,h'⟩:=J9 h; exact f _ _ _ _ h'
@[irreducible] noncomputable def yh(e:Stmt)(k:Option Expr->Option Expr->Pos->Bool):Bool:=match e with
 |.Raise x0 x1 x2=>k x0 x1 x2
 |_=>false
theorem Ka(h:yh e k=true):∃x0 x1 x2,e=.Raise x0 x1 x2/\k x0 x1 x2=true:=by unfold yh at h; cases e <;> first|exact⟨_,_,_,rfl,h⟩|cases h
@[elab_as_elim] theorem Yu{C:_->Prop}(h:yh e k=true)(f:∀x0 x1 x2,k x0 x1 x2=true->C (.Raise x0 x1 x2)):C e:=by obtain⟨_,_,_,rfl,h'⟩:=Ka h; exact f _ _ _ h'
@[irreducible] noncomputable def yj(e:Stmt)(k:Expr->List Stmt->List Stmt->Pos->Bool):Bool:=match e with
 |.While x0 x1 x2 x3=>k x0 x1 x2 x3
 |_=>false
theorem Kc(h:yj e k=true):∃x0 x1 x2 x3,e=.While x0 x1 x2 x3/\k x0 x1 x2 x3=true:=by unfold yj at h; cases e <;> first|exact⟨_,_,_,_,rfl,h⟩|cases h
@[elab_as_elim] theorem Yv{C:_->Prop}(h:yj e k=true)(f:∀x0 x1 x2 x3,k x0 x1 x2 x3=true->C (.While x0 x1 x2 x3)):C e:=by obtain⟨_,_,_,_,rfl,h'⟩:=Kc h; exact f _ _ _ _ h'
@[irreducible] noncomputable def yp(e:Stmt)(k:Expr->Expr->List Stmt->List Stmt->Pos->Bool):Bool:=match e with
 |.For x0 x1 x2 x3 x4=>k x0 x1 x2 x3 x4
 |_=>false
theorem Kd(h:yp e k=true):∃x0 x1 x2 x3 x4,e=.For x0 x1 x2 x3 x4/\k x0 x1 x2 x3 x4=true:=by unfold yp at h; cases e <;> first|exact⟨_,_,_,_,_,rfl,h⟩|cases h
@[elab_as_elim] theorem Yw{C:_->Prop}(h:yp e k=true)(f:∀x0 x1 x2 x3 x4,k x0 x1 x2 x3 x4=true->C (.For x0 x1 x2 x3 x4)):C e:=by obtain⟨_,_,_,_,_,rfl,h'⟩:=Kd h; exact f _ _ _ _ _ h'
@[irreducible] noncomputable def lU(e:Comprehension)(k:Expr->Expr->List Expr->Int->Bool):Bool:=k e.target e.iter e.ifs e.is_async
theorem Kf(h:lU e k=true):∃x0 x1 x2 x3,e=⟨x0,x1,x2,x3⟩/\k x0 x1 x2 x3=true:=by unfold lU at h; cases e; exact⟨_,_,_,_,rfl,h⟩
@[elab_as_elim] theorem Yx{C:_->Prop}(h:lU e k=true)(f:∀x0 x1 x2 x3,k x0 x1 x2 x3=true->C (⟨x0,x1,x2,x3⟩)):C e:=by obtain⟨_,_,_,_,rfl,h'⟩:=Kf h; exact f _ _ _ _ h'
@[irreducible] noncomputable def yq(e:Keyword)(k:Option Str->Expr->Pos->Bool):Bool:=k e.arg e.value e.pos
theorem Kg(h:yq e k=true):∃x0 x1 x2,e=⟨x0,x1,x2⟩/\k x0 x1 x2=true:=by unfold yq at h; cases e; exact⟨_,_,_,rfl,h⟩
@[elab_as_elim] theorem Yy{C:_->Prop}(h:yq e k=true)(f:∀x0 x1 x2,k x0 x1 x2=true->C (⟨x0,x1,x2⟩)):C e:=by obtain⟨_,_,_,rfl,h'⟩:=Kg h; exact f _ _ _ h'
@[irreducible] noncomputable def yr(e:Arg)(k:Str->Option Expr->Pos->Bool):Bool:=k e.arg e.annotation e.pos
theorem Kh(h:yr e k=true):∃x0 x1 x2,e=⟨x0,x1,x2⟩/\k x0 x1 x2=true:=by unfold yr at h; cases e; exact⟨_,_,_,rfl,h⟩
@[elab_as_elim] theorem Yz{C:_->Prop}(h:yr e k=true)(f:∀x0 x1 x2,k x0 x1 x2=true->C (⟨x0,x1,x2⟩)):C e:=by obtain⟨_,_,_,rfl,h'⟩:=Kh h; exact f _ _ _ h'
@[irreducible] noncomputable def yt(e:Arguments)(k:List Arg->List Arg->Option Arg->List Arg->List (Option Expr)->Option Arg->List Expr->Bool):Bool:=k e.posonlyargs e.args e.vararg e.kwonlyargs e.kw_defaults e.kwarg e.defaults
theorem Km(h:yt e k=true):∃x0 x1 x2 x3 x4 x5 x6,e=⟨x0,x1,x2,x3,x4,x5,x6⟩/\k x0 x1 x2 x3 x4 x5 x6=true:=by unfold yt at h; cases e; exact⟨_,_,_,_,_,_,_,rfl,h⟩
@[elab_as_elim] theorem YB{C:_->Prop}(h:yt e k=true)(f:∀x0 x1 x2 x3 x4 x5 x6,k x0 x1 x2 x3 x4 x5 x6=true->C (⟨x0,x1,x2,x3,x4,x5,x6⟩)):C e:=by obtain⟨_,_,_,_,_,_,_,rfl,h'⟩:=Km h; exact f _ _ _ _ _ _ _ h'
@[irreducible] noncomputable def aQ{α : Type}(l:List α)(k : α -> List α -> Bool):Bool:=match l with
 |x::y=>k x y
 |_=>false
theorem JL{α : Type}{l:List α}{k : α -> List α -> Bool}(h:aQ l k=true):∃x y,l=x::y/\k x y=true:=by unfold aQ at h; cases l <;> first|exact⟨_,_,rfl,h⟩|cases h
@[elab_as_elim] theorem YC{α : Type}{l:List α}{k : α -> List α -> Bool}{C:_->Prop}(h:aQ l k=true)(f:∀x y,k x y=true->C (x::y)):C l:=by obtain⟨_,_,rfl,h'⟩:=JL h; exact f _ _ h'
@[irreducible] noncomputable def aV{α : Type}(l:List α)(k:Bool):Bool:=l.isEmpty&&k
theorem JM{α : Type}{l:List α}{k:Bool}(h:aV l k=true):l=[]/\k=true:=by unfold aV at h; cases l <;> first|exact⟨rfl,h⟩|cases h
@[elab_as_elim] theorem YD{α : Type}{l:List α}{k:Bool}{C:_->Prop}(h:aV l k=true)(f:k=true->C ([])):C l:=by obtain⟨rfl,h'⟩:=JM h; exact f h'
@[irreducible] noncomputable def pA{α : Type}(l:Option α)(k : α -> Bool):Bool:=match l with
 |some x=>k x
 |_=>false
theorem Ko{α : Type}{l:Option α}{k : α -> Bool}(h:pA l k=true):∃x,l=some x/\k x=true:=by unfold pA at h; cases l <;> first|exact⟨_,rfl,h⟩|cases h
@[elab_as_elim] theorem YF{α : Type}{l:Option α}{k : α -> Bool}{C:_->Prop}(h:pA l k=true)(f:∀x,k x=true->C (some x)):C l:=by obtain⟨_,rfl,h'⟩:=Ko h; exact f _ h'
@[irreducible] noncomputable def pB{α : Type}(l:Option α)(k:Bool):Bool:=l.isNone&&k
theorem Kp{α : Type}{l:Option α}{k:Bool}(h:pB l k=true):l=none/\k=true:=by unfold pB at h; cases l <;> first|exact⟨rfl,h⟩|cases h
@[elab_as_elim] theorem YG{α : Type}{l:Option α}{k:Bool}{C:_->Prop}(h:pB l k=true)(f:k=true->C (none)):C l:=by obtain⟨rfl,h'⟩:=Kp h; exact f h'
@[irreducible] noncomputable def iR{α : Type} [DecidableEq α](a b : α)(k:Bool):Bool:=decide (a=b)&&k
theorem Kq{α : Type} [DecidableEq α]{a b : α}{k:Bool}(h:iR a b k=true):a=b/\k=true:=by simpa[iR]using h
@[elab_as_elim] theorem YH{α : Type} [DecidableEq α]{a b : α}{k:Bool}{C : α -> Prop}(h:iR a b k=true)(f:k=true->C b):C a:=by obtain⟨e,q⟩:=Kq h; subst e; exact f q
open PySem.Spec PyProof.Rows
noncomputable def pC(i:Int):TE:=λ_ H Q=>Q (.int i) H
noncomputable def kI:Const->Option Int
 |.int i=>some i
 |_=>none
noncomputable def bI(o:Operator)(i j:Int):Option Int:=match o with
 |.Sub=>some (i-j)
 |.Add=>some (i+j)
 |.Pow=>if 0<=j/\j<=100/\i.natAbs<=1000 then some (i ^ j.toNat)else none
 |_=>none
noncomputable def uI(o:UnaryOp)(i:Int):Option Int:=match o with
 |.USub=>some (-i)
 |_=>none
noncomputable def cI:Expr->Option Int
 |.Constant c _ _=>kI c
 |.UnaryOp o e _=>(cI e).bind (uI o)
 |.BinOp a o b _=>(cI a).bind λi=>(cI b).bind λj=>bI o i j
 |_=>none
theorem adI(h:kI c=some i):PE X (.Constant c k p) (pC i):=by
 cases c <;> first|(cases h; exact Ck)|cases h
theorem adJ(h:uI o i=some k)(he:PE X e (pC i)):PE X (.UnaryOp o e p) (pC k):=by
 cases o <;> first|(cases h; exact(CG CK he).imp λσ H Q q=>⟨i,rfl,q⟩)|cases h
theorem adK(h:bI o i j=some k)(ha:PE X a (pC i))(hb:PE X b (pC j)):PE X (.BinOp a o b p) (pC k):=by
 cases o <;> try cases h
 .exact(wR Ma ha hb).imp λσ H Q q=>⟨i,j,rfl,rfl,q⟩
 .exact(wR Mf ha hb).imp λσ H Q q=>⟨i,j,rfl,rfl,q⟩
 .dsimp only[bI]at h
  split at h
  .rename_i c
   cases h
   exact(wR Mg ha hb).imp λσ H Q q=>⟨i,j,rfl,rfl,⟨c.1,by lia,by lia⟩,q⟩
  .cases h
theorem yu(e:Expr)(k:Int)(h:cI e=some k):PE X e (pC k):=by
 cases e with
 |Constant c _ _=>exact adI h
 |UnaryOp o a _ =>
  have h:(cI a).bind (uI o)=some k:=h
  cases e1:cI a with
  |none=>rw[e1]at h; cases h
  |some i=>rw[e1]at h; exact adJ h (yu a i e1)
 |BinOp a o b _ =>
  have h:((cI a).bind λi=>(cI b).bind λj=>bI o i j)=some k:=h
  cases e1:cI a with
  |none=>rw[e1]at h; cases h
  |some i =>
   cases e2:cI b with
   |none=>rw[e1,e2]at h; cases h
   |some j=>rw[e1,e2]at h; exact adK h (yu a i e1) (yu b j e2)
 |_=>cases h
noncomputable def kT:Const->Option Tr
 |.none=>some .non
 |.bool b=>some (.bl b)
 |.str x=>some (.str x)
 |.int i=>some (.int i)
 |_=>none
mutual
noncomputable def cT:Expr->Option Tr
 |.Constant c _ _=>kT c
 |.Tuple es _ _=>(fZ es).map .tup
 |.List es _=>(fZ es).map .lst
 |.UnaryOp o a p=>(cI (.UnaryOp o a p)).map .int
 |.BinOp a o b p=>(cI (.BinOp a o b p)).map .int
 |_=>none
noncomputable def fZ:List Expr->Option (List Tr)
 | []=>some []
 |e::r=>match cT e,fZ r with
  |some T,some Ts=>if Ts.length<1000 then some (T::Ts)else none
  |_,_=>none
end
theorem yw:∀{es:List Expr} {Ts:List Tr},fZ es=some Ts->Ts.length<=1000
 | [],Ts,h=>by
  cases h
  decide
 |e::r,Ts,h=>by
  unfold fZ at h
  split at h
  .split at h
   .cases h
    rename_i h1
    rw[List.length_cons]
    lia
   .cases h
  .cases h
section
variable {X:Cx}{e:Expr}{es:List Expr}{T:Tr}{Ts:List Tr}{pos:Pos}{k:Nat}{G:PySem.W.Frag}
theorem adL:PA X [] (qI G []):=tY.imp λσ H Q q=>q [] H (Same.refl _) λ_ _=>.nil
theorem adM(h:PE X e (o7 G T))(r:PA X es (qI G Ts))(hs:starEach (e::es) X.env=(false,eval e X.env)::starEach es X.env):PA X (e::es) (qI G (T::Ts)) :=
 (oW h r hs).imp λσ H Q q v H1 s1 rv vs H2 s2 rs=>q (v::vs) H2 (s1.trans s2) λPr p=>.cons ((rv Pr p).mono (p.mono s2)) (rs Pr (p.le s1))
theorem O5(h:PA X es (qI G Ts))(hl:Ts.length<=1000):PE X (.Tuple es k pos) (o7 G (.tup Ts)) :=
 (CT h).imp λσ H Q q vs H1 s1 rs=>by
  by_cases hv:vs.length<=sizeLine
  .exact⟨hv,λa ha=>q (.ref a) _ (s1.trans (g8 ha _)) λPr p=>.tup (bw.of ((p.le s1).new (Same.refl _) ha)) ((rs Pr p).mono (p.mono (g8 ha _)))⟩
  .exact absurd (Nat.le_of_lt (Dj (by rw[(rs _ (Pj.id H)).length]; exact hl))) hv
theorem O6(h:PA X es (qI G Ts))(hl:Ts.length<=1000):PE X (.List es pos) (Du G Ts) :=
 (Ml h).imp λσ H Q q vs H1 s1 rs=>by
  have e:=(rs _ (Pj.id H)).length
  exact⟨Nat.le_of_lt (Dj (by rw[e]; exact hl)),λa ha=>q a vs H1 s1 ha rs e⟩
theorem adN(h:PE X e (Du G Ts)):PE X e (o7 G (.lst Ts)) :=
 h.imp λσ H Q q a xs H1 s1 ha rs _=>q (.ref a) _ (s1.trans (g8 ha _)) λPr p=>.lst (aH.of ((p.le s1).new (Same.refl _) ha)) ((rs Pr p).mono (p.mono (g8 ha _)))
theorem O7(h:(cI e).map Tr.int=some T):PE X e (o7 G T):=by
 cases e1:cI e with
 |none=>rw[e1]at h; cases h
 |some i =>
  rw[e1]at h; cases h
  exact(yu e i e1).imp λσ H Q q=>q _ H (Same.refl _) λ_ _=>.int i
end
theorem adO(h:cT e=some T):starEach (e::es) env=(false,eval e env)::starEach es env:=by
 cases e <;> first|rfl|(unfold cT at h; cases h)
theorem adP(h:kT c=some T):PE X (.Constant c k p) (o7 G T):=by
 cases c <;> try cases h
 .exact Ld.imp λσ H Q q=>q _ H (Same.refl _) λ_ _=>.non
 .exact Lb.imp λσ H Q q=>q _ H (Same.refl _) λ_ _=>.bl _
 .exact Ck.imp λσ H Q q=>q _ H (Same.refl _) λ_ _=>.int _
 .exact Le.imp λσ H Q q=>q _ H (Same.refl _) λ_ _=>.str _
mutual
theorem adQ(e:Expr)(T:Tr)(h:cT e=some T):PE X e (o7 G T):=by
 cases e with
 |Constant c _ _=>exact adP (by unfold cT at h; exact h)
 |Tuple es _ _ =>
  unfold cT at h
  cases e:fZ es with
  |none=>rw[e]at h; cases h
  |some Ts =>
   rw[e]at h
   cases h
   exact O5 (uD es Ts e) (yw e)
 |List es _ =>
  unfold cT at h
  cases e:fZ es with
  |none=>rw[e]at h; cases h
  |some Ts =>
   rw[e]at h
   cases h
   exact adN (O6 (uD es Ts e) (yw e))
 |UnaryOp o a p=>exact O7 (by unfold cT at h; exact h)
 |BinOp a o b p=>exact O7 (by unfold cT at h; exact h)
 |_=>unfold cT at h; cases h
theorem uD:∀(es:List Expr) (Ts:List Tr),fZ es=some Ts->PA X es (qI G Ts)
 | [],Ts,h=>by
  unfold fZ at h; cases h
  exact adL
 |e::r,Ts,h=>by
  unfold fZ at h
  cases e1:cT e with
  |none=>rw[e1]at h; cases h
  |some T =>
   cases e2:fZ r with
   |none=>rw[e1,e2]at h; cases h
   |some Us =>
    rw[e1,e2]at h
    dsimp only at h
    split at h
    .cases h
     exact adM (adQ e T e1) (uD r Us e2) (adO e1)
    .cases h
end
theorem adR(h:fZ es=some Ts):PE X (.List es pos) (Du G Ts):=O6 (uD es Ts h) (yw h)
theorem adS(h:fZ es=some Ts):PE X (.Tuple es k pos) (o7 G (.tup Ts)):=O5 (uD es Ts h) (yw h)
class NF where
 f:Value->Int
section
variable [NF]{kf:Value->Int × Int}
noncomputable def q1(kf:Value->Int × Int)(xs:Array Keyed)(i:Nat):Int:=match xs[i]? with|some p=>(kf p.1).1|none=>0
noncomputable def q2(kf:Value->Int × Int)(xs:Array Keyed)(i:Nat):Int:=match xs[i]? with|some p=>(kf p.1).2|none=>0
noncomputable def qr(xs:Array Keyed)(i:Nat):Int:=match xs[i]? with|some p=>NF.f p.2|none=>0
noncomputable def Kl(kf:Value->Int × Int)(xs:Array Keyed)(i j:Nat):Prop:=q1 kf xs i<q1 kf xs j\/(q1 kf xs i=q1 kf xs j/\q2 kf xs i<q2 kf xs j)
noncomputable instance {kf:Value->Int × Int}{xs:Array Keyed}{i j:Nat}:Decidable (Kl kf xs i j):=by unfold Kl; infer_instance
noncomputable def Ke(kf:Value->Int × Int)(xs:Array Keyed)(i j:Nat):Prop:=q1 kf xs i=q1 kf xs j/\q2 kf xs i=q2 kf xs j
noncomputable def Lq(kf:Value->Int × Int)(xs:Array Keyed)(i j:Nat):Prop:=Kl kf xs i j\/(Ke kf xs i j/\qr xs i<qr xs j)
noncomputable def eY(kf:Value->Int × Int)(xs:Array Keyed)(m:Nat):Prop:=∀i j,i<j->j<m->Lq kf xs i j
noncomputable def cL(kf:Value->Int × Int)(xs:Array Keyed)(m:Nat):Prop:=∀i j,i<j->j<m->Lq kf xs j i
noncomputable def jZ(kf:Value->Int × Int)(xs:Array Keyed)(m q:Nat):Prop:=(∀i j,i<j->j<m->i<q->Lq kf xs j i/\(q<=j->Kl kf xs j i))/\∀i j,q<=i->i<j->j<m->Ke kf xs i j/\qr xs i<qr xs j
noncomputable def Pre(N:Nat)(xs:Array Keyed)(m:Nat):Prop:=(∀k:Nat,k<m->qr xs k<m)/\∀k:Nat,m<=k->k<N->qr xs k=k
theorem lV(h:xs[i]?=ys[j]?):qr xs i=qr ys j:=by unfold qr; rw[h]
theorem yx(h:xs[i]?=ys[j]?):q1 kf xs i=q1 kf ys j:=by unfold q1; rw[h]
theorem yC(h:xs[i]?=ys[j]?):q2 kf xs i=q2 kf ys j:=by unfold q2; rw[h]
theorem f9(hj:j<=xs.size)(k:Nat):(i<=k/\k<j/\(mirror xs i j ((j-i) / 2))[k]?=xs[i+j-1-k]?)\/(¬(i<=k/\k<j)/\(mirror xs i j ((j-i) / 2))[k]?=xs[k]?):=by
 have e:=getElem?_mirror_all (i:=i) hj k
 by_cases h:i<=k/\k<j
 .rw[if_pos h]at e; exact .inl ⟨h.1,h.2,e⟩
 .rw[if_neg h]at e; exact .inr ⟨h,e⟩
theorem lW(h1:xs[i]?=ys[i']?)(h2:xs[j]?=ys[j']?):Lq kf xs i j↔Lq kf ys i' j':=by
 unfold Lq Kl Ke; rw[lV h1,lV h2,yx h1,yx h2,yC h1,yC h2]
theorem yD(h1:xs[i]?=ys[i']?)(h2:xs[j]?=ys[j']?):Kl kf xs i j↔Kl kf ys i' j':=by
 unfold Kl; rw[yx h1,yx h2,yC h1,yC h2]
theorem Kl.tr(a:Kl kf xs i j)(b:Kl kf xs j k):Kl kf xs i k:=by
 unfold Kl at *
 generalize q1 kf xs i=a1,q2 kf xs i=a2,q1 kf xs j=b1,q2 kf xs j=b2,q1 kf xs k=c1,q2 kf xs k=c2 at *
 lia
theorem Kl.no(a:¬Kl kf xs i j)(b:¬Kl kf xs j i):Ke kf xs i j:=by
 unfold Kl at *
 unfold Ke
 generalize q1 kf xs i=a1,q2 kf xs i=a2,q1 kf xs j=b1,q2 kf xs j=b2 at *
 lia
theorem Ke.s(a:Ke kf xs i j):Ke kf xs j i:=⟨a.1.symm,a.2.symm⟩
theorem Ke.t(a:Ke kf xs i j)(b:Ke kf xs j k):Ke kf xs i k:=⟨a.1.trans b.1,a.2.trans b.2⟩
theorem Ke.l(a:Ke kf xs i j)(b:Kl kf xs j k):Kl kf xs i k:=by
 unfold Kl at *
 rw[a.1,a.2]
 exact b
theorem Ke.r(a:Kl kf xs i j)(b:Ke kf xs j k):Kl kf xs i k:=by
 unfold Kl at *
 rw[<-b.1,<-b.2]
 exact a
theorem Kl.tq(a:Kl kf xs i j)(b:Lq kf xs j k):Kl kf xs i k:=b.elim a.tr λz=>Ke.r a z.1
theorem Kl.qt(a:Lq kf xs i j)(b:Kl kf xs j k):Kl kf xs i k:=a.elim (λz=>z.tr b) λz=>z.1.l b
theorem Lq.mk(a:¬Kl kf xs j i)(b:qr xs i<qr xs j):Lq kf xs i j:=by
 by_cases h:Kl kf xs i j
 .exact .inl h
 .exact .inr ⟨Kl.no h a,b⟩
theorem Pre.f9(h:Pre N xs m)(hj:j<=xs.size)(hm:j<=m):Pre N (mirror xs i j ((j-i) / 2)) m:=by
 refine⟨λk hk=>?_,λk hk hN=>?_⟩
 .rcases L2.f9 hj k with⟨a,b,e⟩|⟨n,e⟩
  .rw[lV e]; exact h.1 _ (by lia)
  .rw[lV e]; exact h.1 _ hk
 .rcases L2.f9 hj k with⟨a,b,e⟩|⟨n,e⟩
  .lia
  .rw[lV e]; exact h.2 _ hk hN
theorem cL.turn(h:cL kf xs m)(hm:m<=xs.size):eY kf (mirror xs 0 m ((m-0) / 2)) m:=λi j hij hj=>by
 rcases f9 (i:=0) hm i with⟨_,_,e1⟩|⟨n,_⟩
 .rcases f9 (i:=0) hm j with⟨_,_,e2⟩|⟨n,_⟩
  .rw[lW e1 e2]; exact h _ _ (by lia) (by lia)
  .lia
 .lia
theorem jZ.turn(h:jZ kf xs m q)(hm:m<=xs.size)(hq:q<m):cL kf (mirror xs q m ((m-q) / 2)) m:=λi j hij hj=>by
 rcases f9 (i:=q) hm i with⟨a,b,e1⟩|⟨n,e1⟩ <;> rcases f9 (i:=q) hm j with⟨a',b',e2⟩|⟨n',e2⟩
 .rw[lW e2 e1]
  have z:=h.2 (q+m-1-j) (q+m-1-i) (by lia) (by lia) (by lia)
  exact .inr z
 .lia
 .rw[lW e2 e1]
  exact(h.1 i (q+m-1-j) (by lia) (by lia) (by lia)).1
 .rw[lW e2 e1]
  exact(h.1 i j hij hj (by lia)).1
theorem jZ.one(h:jZ kf xs m q)(hq:m<=q+1):cL kf xs m:=λi j hij hj=>(h.1 i j hij hj (by lia)).1
end
section
variable [NF]{prog:Program}{w:World}{A:Around}{E:Value->Shared->Prop}{s:Shared}{N:Nat}{kd:SortKind}{kf:Value->Int × Int}
structure SB(a₀ : Array Keyed)(kd:SortKind)(st:SortSt):Prop where
 pm:(arrOf st).Perm a₀
 kn:kindOf st=kd
 fl:failedOf st=none
 pd:pendingOf st = #[]
theorem SB.sz{st:SortSt}(h:SB a₀ kd st):(arrOf st).size=a₀.size:=h.pm.size_eq
theorem SB.put{st:SortSt}(h:SB a₀ kd st)(p:xs.Perm (arrOf st)):SB a₀ kd (setArr st xs):=⟨p.trans h.pm,h.kn,h.fl,h.pd⟩
noncomputable def Asks(prog:Program)(w:World)(A:Around)(E:Value->Shared->Prop)(s:Shared)(a₀ : Array Keyed)(kd:SortKind)(kf:Value->Int × Int):Prop :=
 ∀(st:SortSt) (i j:Nat) (Q:Option Bool->SortSt->Prop),SB a₀ kd st->i<a₀.size->j<a₀.size->Q (some (decide (Kl kf (arrOf st) i j))) st->wpS (model prog w) A E s (ltAt' i j) Q st
variable {a₀ : Array Keyed}(ask:Asks prog w A E s a₀ kd kf)
include ask
theorem O8{st:SortSt}(hn:n<=a₀.size)(ha:1<=a)(han:a<=n)(B:SB a₀ kd st)(p:Pre a₀.size (arrOf st) a)(h0:eY kf (arrOf st) a)
  (h:∀m,a<=m->m<=n->eY kf (arrOf st) m->Pre a₀.size (arrOf st) m->(m=n\/(m<n/\Kl kf (arrOf st) m (m-1)))->Q (none,m) st):wpS (model prog w) A E s (ascLoop a n) Q st:=by
 have up:∀x,a<=x->x<=n->Pre a₀.size (arrOf st) x:=λx h1 h2=>⟨λk hk=>by
  by_cases z:k<a
  .have:=p.1 k z; lia
  .rw[p.2 k (by lia) (by lia)]; lia,λk h3 h4=>p.2 k (by lia) h4⟩
 refine wpS_forRange (I:=λx c t=>t=st/\c=(none,x)/\x<=n/\eY kf (arrOf st) x) ?_ ?_ ⟨rfl,rfl,han,h0⟩
 .rintro x c t h1 h2 ⟨rfl,rfl,_,hs⟩
  refine wpS_bind (ask _ _ _ _ B (by lia) (by lia) ?_)
  by_cases l:Kl kf (arrOf t) x (x-1)
  .rw[decide_eq_true l]
   exact wpS_pure (h x h1 (by lia) hs (up x h1 (by lia)) (.inr ⟨h2,l⟩))
  .rw[decide_eq_false l]
   refine wpS_pure ⟨rfl,rfl,h2,λi j hij hj=>?_⟩
   by_cases z:j<x
   .exact hs i j hij z
   .have ej:j=x:=by lia
    subst ej
    have r1:=(up j h1 (by lia)).1 i hij
    have r2:=(up j h1 (by lia)).2 j (Nat.le_refl _) (by lia)
    by_cases z:i=j-1
    .subst z
     exact Lq.mk l (by rw[r2]; exact r1)
    .have y:=hs i (j-1) (by lia) (by lia)
     exact Lq.mk (λz=>l (z.tq y)) (by rw[r2]; exact r1)
 .rintro c t ⟨rfl,rfl,_,hs⟩
  rw[show max a n=n by lia]at hs ⊢
  exact h n han (Nat.le_refl _) hs (up n han (Nat.le_refl _)) (.inl rfl)
theorem O9{st:SortSt}(hn:n<=a₀.size)(h1:1<=m)(hm:m<=n)(B:SB a₀ kd st)(p:Pre a₀.size (arrOf st) m)(d:cL kf (arrOf st) m)
  (h:∀m t,SB a₀ kd t->1<=m->m<=n->eY kf (arrOf t) m->Pre a₀.size (arrOf t) m->Q (some m) t):wpS (model prog w) A E s (tail3 m n) Q st:=by
 unfold tail3
 have z:m<=(arrOf st).size:=by rw[B.sz]; lia
 refine wpS_bind (wpS_reverse ?_)
 have B':SB a₀ kd (setArr st (mirror (arrOf st) 0 m ((m-0) / 2))):=B.put (mirror_perm _ _ _ _)
 exact wpS_bind (O8 ask hn h1 hm B' (p.f9 z (Nat.le_refl _)) (d.turn z) λk k1 k2 k3 k4 _=>wpS_pure (h k _ B' (by lia) k2 k3 k4))
theorem adT{st:SortSt}(hn:n<=a₀.size)(h1:1<=m)(hm:m<=n)(B:SB a₀ kd st)(p:Pre a₀.size (arrOf st) m)(d:jZ kf (arrOf st) m (m-1))
  (h:∀x e t,SB a₀ kd t->m<=x->x<=n->e+1<=x->jZ kf (arrOf t) x (x-(e+1))->Pre a₀.size (arrOf t) x->Q (none,x,e) t):wpS (model prog w) A E s (descLoop m n) Q st:=by
 unfold descLoop
 refine wpS_forRange (I:=λx c t=>∃e,c=(none,x,e)/\SB a₀ kd t/\x<=n/\e+1<=x/\jZ kf (arrOf t) x (x-(e+1))/\Pre a₀.size (arrOf t) x) ?_ ?_ ⟨0,rfl,B,hm,by lia,d,p⟩
 .rintro x c t k1 k2 ⟨e,rfl,B',_,ke,d',p'⟩
  dsimp only
  have z:x<=(arrOf t).size:=by rw[B'.sz]; lia
  have pu:∀ys:Array Keyed,Pre a₀.size ys x->Pre a₀.size ys (x+1):=λys q=>⟨λk hk=>by
   by_cases y:k<x
   .have:=q.1 k y; lia
   .rw[q.2 k (by lia) (by lia)]; lia,λk h3 h4=>q.2 k (by lia) h4⟩
  refine wpS_bind (ask _ _ _ _ B' (by lia) (by lia) ?_)
  by_cases l:Kl kf (arrOf t) x (x-1)
  .rw[decide_eq_true l]
   have next:∀ys:Array Keyed,cL kf ys x->(∀i,i<x->Kl kf ys x i)->jZ kf ys (x+1) x:=λys y1 y2=>⟨λi j hij hj hi=>by
    by_cases y:j<x
    .exact⟨y1 i j hij y,λz=>by lia⟩
    .have:j=x:=by lia
     subst this
     exact⟨.inl (y2 i hi),λ_=>y2 i hi⟩,λi j h1 h2 h3=>by lia⟩
   have low:∀i,i<x->Kl kf (arrOf t) x i:=λi hi=>by
    by_cases y:i=x-1
    .rw[y]; exact l
    .by_cases y2:i<x-(e+1)
     .exact l.tq (d'.1 i (x-1) (by lia) (by lia) y2).1
     .exact Ke.r l (d'.2 i (x-1) (by lia) (by lia) (by lia)).1.s
   by_cases g:e > 0
   .rw[if_pos g]
    refine wpS_bind (wpS_reverse (wpS_pure ⟨0,rfl,B'.put (mirror_perm _ _ _ _),k2,by lia,?_,pu _ (p'.f9 z (Nat.le_refl _))⟩))
    rw[show x+1-(0+1)=x by lia]
    refine next _ (d'.turn z (by lia)) λi hi=>?_
    rcases f9 (i:=x-(e+1)) z x with⟨_,b,_⟩|⟨_,e1⟩
    .lia
    .rcases f9 (i:=x-(e+1)) z i with⟨_,_,e2⟩|⟨_,e2⟩
     .rw[yD e1 e2]; exact low _ (by lia)
     .rw[yD e1 e2]; exact low _ hi
   .rw[if_neg g]
    refine wpS_pure ⟨0,rfl,B',k2,by lia,?_,pu _ p'⟩
    rw[show x+1-(0+1)=x by lia]
    exact next _ (d'.one (by lia)) low
  .rw[decide_eq_false l]
   refine wpS_bind (ask _ _ _ _ B' (by lia) (by lia) ?_)
   by_cases g:Kl kf (arrOf t) (x-1) x
   .rw[decide_eq_true g]
    exact wpS_pure (h x e t B' k1 (by lia) ke d' p')
   .rw[decide_eq_false g]
    have eq:Ke kf (arrOf t) (x-1) x:=Kl.no g l
    refine wpS_pure ⟨e+1,rfl,B',k2,by lia,?_,pu _ p'⟩
    rw[show x+1-(e+1+1)=x-(e+1) by lia]
    refine⟨λi j hij hj hi=>?_,λi j hi hij hj=>?_⟩
    .by_cases y:j<x
     .exact d'.1 i j hij y hi
     .have:j=x:=by lia
      subst this
      have y:=(d'.1 i (j-1) (by lia) (by lia) hi).2 (by lia)
      have y':Kl kf (arrOf t) j i:=eq.s.l y
      exact⟨.inl y',λ_=>y'⟩
    .by_cases y:j<x
     .exact d'.2 i j hi hij y
     .have:j=x:=by lia
      subst this
      have r1:=p'.1 i hij
      have r2:=p'.2 j (Nat.le_refl _) (by lia)
      refine⟨?_,by lia⟩
      by_cases y:i=j-1
      .rw[y]; exact eq
      .exact(d'.2 i (j-1) hi (by lia) (by lia)).1.t eq
 .rintro c t ⟨e,rfl,B',_,ke,d',p'⟩
  rw[show max m n=n by lia]at ke d' p' ⊢
  exact h n e t B' hm (Nat.le_refl _) ke d' p'
theorem Pa{st:SortSt}(hn:n<=a₀.size)(hm:m+1<=n)(B:SB a₀ kd st)(p:Pre a₀.size (arrOf st) (m+1))(d:jZ kf (arrOf st) (m+1) m)
  (h:∀m t,SB a₀ kd t->1<=m->m<=n->eY kf (arrOf t) m->Pre a₀.size (arrOf t) m->Q (some m) t):wpS (model prog w) A E s (descPart m n) Q st:=by
 refine wpS_bind (wpS_lift (wpAny_rule ⟨rfl,?_⟩))
 refine wpS_bind (adT ask hn (by lia) hm B p (by rw[show m+1-1=m by lia]; exact d) λx e t B' k1 k2 ke d' p'=>?_)
 have z:x<=(arrOf t).size:=by rw[B'.sz]; lia
 show wpS _ _ _ _ (if e > 0 then(reverseSlice' (x-(e+1)) x >>= λ_=>tail3 x n)else tail3 x n) _ _
 by_cases g:e > 0
 .rw[if_pos g]
  exact wpS_bind (wpS_reverse (O9 ask hn (by lia) k2 (B'.put (mirror_perm _ _ _ _)) (p'.f9 z (Nat.le_refl _)) (d'.turn z (by lia)) h))
 .rw[if_neg g]
  exact O9 ask hn (by lia) k2 B' p' (d'.one (by lia)) h
theorem adU{st:SortSt}(hn:n<=a₀.size)(h1:1<=n)(B:SB a₀ kd st)(p:Pre a₀.size (arrOf st) 0)
  (h:∀m t,SB a₀ kd t->1<=m->m<=n->eY kf (arrOf t) m->Pre a₀.size (arrOf t) m->Q (some m) t):wpS (model prog w) A E s (countRun' 0 n) Q st:=by
 rw[countRun0_eq]
 have p1:Pre a₀.size (arrOf st) 1:=⟨λk hk=>by rw[p.2 k (by lia) (by lia)]; lia,λk h3 h4=>p.2 k (by lia) h4⟩
 refine wpS_bind (O8 ask hn (Nat.le_refl 1) h1 B p1 (λi j _ _=>by lia) λm m1 m2 hs hp ho=>?_)
 by_cases e:m=n
 .rw[if_pos (by simpa using e)]
  exact wpS_pure (h m st B m1 m2 hs hp)
 .rw[if_neg (by simpa using e)]
  obtain⟨ml,l⟩:=ho.resolve_left e
  have pn:∀ys:Array Keyed,Pre a₀.size ys m->Pre a₀.size ys (m+1):=λys q=>⟨λk hk=>by
   by_cases y:k<m
   .have:=q.1 k y; lia
   .rw[q.2 k (by lia) (by lia)]; lia,λk h3 h4=>q.2 k (by lia) h4⟩
  by_cases g:m > 1
  .rw[if_pos g]
   refine wpS_bind (ask _ _ _ _ B (by lia) (by lia) ?_)
   by_cases r:Kl kf (arrOf st) 0 (m-1)
   .rw[decide_eq_true r]
    exact wpS_pure (h m st B m1 m2 hs hp)
   .rw[decide_eq_false r]
    have z:m<=(arrOf st).size:=by rw[B.sz]; lia
    have all:∀i j,i<j->j<m->Ke kf (arrOf st) i j/\qr (arrOf st) i<qr (arrOf st) j:=λi j hij hj=>by
     have a1:=hs i j hij hj
     have a2:i=0\/Lq kf (arrOf st) 0 i:=by
      by_cases y:i=0
      .exact .inl y
      .exact .inr (hs 0 i (by lia) (by lia))
     have a3:j=m-1\/Lq kf (arrOf st) j (m-1):=by
      by_cases y:j=m-1
      .exact .inl y
      .exact .inr (hs j (m-1) (by lia) (by lia))
     rcases a1 with k1|k1
     .have k2:Kl kf (arrOf st) 0 j:=by
       rcases a2 with y|y
       .rw[y]at k1; exact k1
       .exact Kl.qt y k1
      refine absurd ?_ r
      rcases a3 with y|y
      .rw[y]at k2; exact k2
      .exact k2.tq y
     .exact k1
    have ds:jZ kf (arrOf st) m 0:=⟨λi j _ _ hi=>by lia,λi j _ hij hj=>all i j hij hj⟩
    refine wpS_bind (wpS_reverse (Pa ask hn (by lia) (B.put (mirror_perm _ _ _ _)) (pn _ (hp.f9 z (Nat.le_refl _))) ?_ h))
    have dd:=ds.turn z (by lia)
    have low:∀i,i<m->Kl kf (arrOf st) m i:=λi hi=>by
     by_cases y:i=m-1
     .rw[y]; exact l
     .exact Ke.r l (all i (m-1) (by lia) (by lia)).1.s
    have Pb:∀i,i<m->Kl kf (mirror (arrOf st) 0 m ((m-0) / 2)) m i:=λi hi=>by
     rcases f9 (i:=0) z m with⟨_,b,_⟩|⟨_,e1⟩
     .lia
     .rcases f9 (i:=0) z i with⟨_,_,e2⟩|⟨_,e2⟩
      .rw[yD e1 e2]; exact low _ (by lia)
      .rw[yD e1 e2]; exact low _ hi
    refine⟨λi j hij hj hi=>?_,λi j _ _ _=>by lia⟩
    by_cases y:j<m
    .exact⟨dd i j hij y,λz=>by lia⟩
    .have:j=m:=by lia
     subst this
     exact⟨.inl (Pb i hi),λ_=>Pb i hi⟩
  .rw[if_neg g]
   have e1:m=1:=by lia
   subst e1
   refine Pa ask hn (by lia) B (pn _ hp) ⟨λi j hij hj hi=>?_,λi j _ _ _=>by lia⟩ h
   have i0:i=0:=by lia
   have j1:j=1:=by lia
   subst i0 j1
   exact⟨.inl l,λ_=>l⟩
theorem adV{st:SortSt}(hn:n<=a₀.size)(h1:1<=ok)(hok:ok<=n)(B:SB a₀ kd st)(p:Pre a₀.size (arrOf st) ok)(d:eY kf (arrOf st) ok)
  (h:∀t,SB a₀ kd t->eY kf (arrOf t) n->Q true t):wpS (model prog w) A E s (binarySort' 0 n ok) Q st:=by
 rw[binarySort'_eq]
 simp only[Nat.zero_add]
 refine wpS_bind (wpS_mono (wpS_forRange (I:=λk c t=>c=(none,())/\SB a₀ kd t/\k<=n/\eY kf (arrOf t) k/\Pre a₀.size (arrOf t) k) (Q:=λc t=>c=(none,())/\SB a₀ kd t/\eY kf (arrOf t) n) ?_ ?_ ?_) ?_)
 .rintro k c t k1 k2 ⟨rfl,B',_,d',p'⟩
  have hk:k<a₀.size:=by lia
  have rk:=p'.2 k (Nat.le_refl _) hk
  refine wpS_bind (wpS_mono (wpS_forRange (I:=λx c u=>u=t/\∃l r,c=(none,l,r)/\l<=r/\r<=k/\r-l<=k-x/\(∀i,i<l->¬Kl kf (arrOf t) k i)/\∀i,r<=i->i<k->Kl kf (arrOf t) k i)
   (Q:=λc u=>u=t/\∃l r,c=(none,l,r)/\l<=k/\(∀i,i<l->¬Kl kf (arrOf t) k i)/\∀i,l<=i->i<k->Kl kf (arrOf t) k i) ?_ ?_ ?_) ?_)
  .rintro x c u _ hx ⟨rfl,l,r,rfl,g1,g2,g3,lo,hi⟩
   dsimp only
   by_cases g:l >= r
   .rw[if_pos g]
    have:l=r:=by lia
    subst this
    exact wpS_pure ⟨rfl,l,l,rfl,g2,lo,hi⟩
   .rw[if_neg g]
    refine wpS_bind (ask _ _ _ _ B' hk (by lia) ?_)
    by_cases le:Kl kf (arrOf u) k ((l+r) / 2)
    .rw[decide_eq_true le]
     refine wpS_pure ⟨rfl,l,(l+r) / 2,rfl,by lia,by lia,by lia,lo,λi h1 h2=>?_⟩
     by_cases y:i=(l+r) / 2
     .rw[y]; exact le
     .exact le.tq (d' ((l+r) / 2) i (by lia) h2)
    .rw[decide_eq_false le]
     refine wpS_pure ⟨rfl,(l+r) / 2+1,r,rfl,by lia,by lia,by lia,λi h1=>?_,hi⟩
     by_cases y:i=(l+r) / 2
     .rw[y]; exact le
     .exact λz=>le (z.tq (d' i ((l+r) / 2) (by lia) (by lia)))
  .rintro c u ⟨rfl,l,r,rfl,g1,g2,g3,lo,hi⟩
   have:l=r:=by lia
   subst this
   exact⟨rfl,l,l,rfl,g2,lo,hi⟩
  .exact⟨rfl,0,k,rfl,by lia,by lia,by lia,λi hi=>by lia,λi g1 g2=>by lia⟩
  .rintro c u ⟨rfl,l,r,rfl,lk,lo,hi⟩
   rw[moveDown'_eq]
   refine wpS_bind (wpS_modify (wpS_pure ⟨rfl,B'.put (bubble_perm _ _ _),k2,?_,?_⟩))
   all_goals
    have ks:k<(arrOf u).size:=by rw[B'.sz]; exact hk
    have bb:=getElem?_bubble ks (k-l) (by lia)
    rw[show k-(k-l)=l by lia]at bb
    have b1:(bubble (arrOf u) k (k-l))[l]?=(arrOf u)[k]? := by rw[bb,if_pos rfl]
    have b2:∀i,l<i->i<=k->(bubble (arrOf u) k (k-l))[i]?=(arrOf u)[i-1]? := λi g1 g2=>by rw[bb,if_neg (by lia),if_pos ⟨g1,g2⟩]
    have b3:∀i,i<l->(bubble (arrOf u) k (k-l))[i]?=(arrOf u)[i]? := λi g1=>by rw[bb,if_neg (by lia),if_neg (by lia)]
    have b4:∀i,k<i->(bubble (arrOf u) k (k-l))[i]?=(arrOf u)[i]? := λi g1=>by rw[bb,if_neg (by lia),if_neg (by lia)]
   .intro i j hij hj
    show Lq kf (bubble (arrOf u) k (k-l)) i j
    rcases Nat.lt_trichotomy i l with y|y|y <;> rcases Nat.lt_trichotomy j l with y'|y'|y'
    .rw[lW (b3 i y) (b3 j y')]; exact d' i j hij (by lia)
    .subst y'
     rw[lW (b3 i y) b1]
     exact Lq.mk (lo i y) (by rw[rk]; exact p'.1 i (by lia))
    .rw[lW (b3 i y) (b2 j y' (by lia))]; exact d' i (j-1) (by lia) (by lia)
    .lia
    .lia
    .subst y
     rw[lW b1 (b2 j y' (by lia))]
     exact .inl (hi _ (by lia) (by lia))
    .lia
    .lia
    .rw[lW (b2 i y (by lia)) (b2 j y' (by lia))]; exact d' _ _ (by lia) (by lia)
   .refine⟨λi hi'=>?_,λi g1 g2=>?_⟩
    .show qr (bubble (arrOf u) k (k-l)) i<_
     rcases Nat.lt_trichotomy i l with y|y|y
     .rw[lV (b3 i y)]; have:=p'.1 i (by lia); lia
     .subst y; rw[lV b1,rk]; lia
     .rw[lV (b2 i y (by lia))]; have:=p'.1 (i-1) (by lia); lia
    .show qr (bubble (arrOf u) k (k-l)) i=_
     rw[lV (b4 i (by lia))]
     exact p'.2 i (by lia) g2
 .rintro c t ⟨rfl,B',kn,d',p'⟩
  refine⟨rfl,B',?_⟩
  rwa[show max (max ok 1) n=n by lia]at d'
 .rw[show max ok 1=ok by lia]
  exact⟨rfl,B,hok,d,p⟩
 .rintro c t ⟨rfl,B',d'⟩
  exact wpS_pure (h t B' d')
theorem adW{st:SortSt}(B:SB a₀ kd st)(h2:2<=a₀.size)(h64:a₀.size<64)(p:Pre a₀.size (arrOf st) 0)
  (h:∀t,(arrOf t).Perm a₀ -> failedOf t=none->eY kf (arrOf t) a₀.size->Q () t):wpS (model prog w) A E s sortRuns' Q st:=by
 rw[sortRuns'_eq]
 refine wpS_bind (wpS_get ?_)
 have mr:minRun' (arrOf st).size (arrOf st).size 0=a₀.size:=by
  rw[B.sz]
  obtain⟨f,hf⟩:∃f,a₀.size=f+1:=⟨a₀.size-1,by lia⟩
  have:minRun' (f+1) (f+1) 0=f+1:=by rw[minRun'_succ,if_pos (by lia)]
  rw[hf]; exact this
 dsimp only
 rw[mr,B.sz]
 have fin:∀t,SB a₀ kd t->eY kf (arrOf t) a₀.size->(arrOf (setPending t ((pendingOf t).push (0,a₀.size,0)))).Perm a₀/\failedOf (setPending t ((pendingOf t).push (0,a₀.size,0)))=none/\pendingOf (setPending t ((pendingOf t).push (0,a₀.size,0))) = #[(0,a₀.size,0)]/\eY kf (arrOf (setPending t ((pendingOf t).push (0,a₀.size,0)))) a₀.size :=
  λt B' d'=>⟨B'.pm,B'.fl,by show(pendingOf t).push _=_; rw[B'.pd]; rfl,d'⟩
 refine wpS_bind (wpS_mono (wpS_forRange (I:=λx c t=>(x=0/\c=(none,0)/\SB a₀ kd t/\Pre a₀.size (arrOf t) 0)\/(1<=x/\c=(none,a₀.size)/\(arrOf t).Perm a₀/\failedOf t=none/\pendingOf t = #[(0,a₀.size,0)]/\eY kf (arrOf t) a₀.size))
  (Q:=λc t=>c=(none,a₀.size)/\(arrOf t).Perm a₀/\failedOf t=none/\pendingOf t = #[(0,a₀.size,0)]/\eY kf (arrOf t) a₀.size) ?_ ?_ (.inl ⟨rfl,rfl,B,p⟩)) ?_)
 .rintro x c t _ hx (⟨rfl,rfl,B',p'⟩|⟨hx1,rfl,D⟩)
  .skip
   rw[if_neg (by lia)]
   simp only[Nat.sub_zero,Nat.min_self,Nat.zero_add]
   refine wpS_bind (adU ask (Nat.le_refl _) (by lia) B' p' λm u B2 m1 m2 d2 p2=>?_)
   show wpS _ _ _ _ (if m<a₀.size then _ else _) _ _
   by_cases g:m<a₀.size
   .rw[if_pos g]
    refine wpS_bind (wpS_lift (wpAny_rule ⟨rfl,?_⟩))
    refine wpS_bind (adV ask (Nat.le_refl _) m1 m2 B2 p2 d2 λv B3 d3=>?_)
    refine wpS_bind (wpS_get ?_)
    rw[show(pendingOf v).back? = none by rw[B3.pd]; rfl]
    exact wpS_bind (wpS_modify (wpS_pure (.inr ⟨by lia,rfl,fin v B3 d3⟩)))
   .rw[if_neg g]
    have e:m=a₀.size:=by lia
    subst e
    refine wpS_bind (wpS_get ?_)
    rw[show(pendingOf u).back? = none by rw[B2.pd]; rfl]
    exact wpS_bind (wpS_modify (wpS_pure (.inr ⟨by lia,rfl,fin u B2 d2⟩)))
  .skip
   rw[if_pos (Nat.le_refl _)]
   exact wpS_pure ⟨rfl,D⟩
 .rintro c t (⟨hx,_,_⟩|⟨_,hc,D⟩)
  .lia
  .exact⟨hc,D⟩
 .rintro c t ⟨rfl,D⟩
  refine wpS_bind (wpS_mono (wpS_forRange (I:=λ_ c u=>u=t/\c=(none,())) (Q:=λc u=>u=t/\c=(none,())) ?_ (λ_ _ z=>z) ⟨rfl,rfl⟩) ?_)
  .rintro x c u _ _ ⟨rfl,rfl⟩
   refine wpS_bind (wpS_get ?_)
   rw[if_pos (by rw[D.2.2.1]; exact Nat.le_refl 1)]
   exact wpS_pure ⟨rfl,rfl⟩
  .rintro c u ⟨rfl,rfl⟩
   exact wpS_pure (h _ D.1 D.2.1 D.2.2.2)
end
open PySem.W
section
variable {X:Cx}{pins:List (Addr × Obj)}{σ : St}{H:Hp}{s:Shared}
theorem Inv.track(I:Inv X pins σ H s)(f:bO X pins H a)(e:s.heap.get? a=some {cls:=.type "list",data:=.seq its.toArray n }) (r:Vals xs its) (hz:xs.length<=sizeLine):Inv X pins σ (upd H a (.lst xs)) s:=by
 obtain⟨f0,f1,f2,f3,f4,f5⟩:=f
 have ok:cA X.prog X.w (upd H a (.lst xs)) s.heap:=λb u q=>by
  by_cases hb:b=a
  .subst hb; rw[cu]at q; cases q; exact⟨hz,its,n,r,e⟩
  .rw[aK hb]at q
   exact(I.hok b u q).stay (λc v _ z=>z) (λc z=>by rw[aK (gQ z f0)]; exact z) λc ys z=>by rw[aK (gQ z f0)]; exact z
 exact I.step (h':=s.heap) (g':=s.gens) (t':=s.toks) (d':=s.drawn) (ch:=[a]) (λb hb=>by
   have:b=a:=by simpa using hb
   subst this
   exact⟨f3,f1,f4,f5⟩) (λb o _ _ _ q _=>q) (λb o _ _ _ q _=>⟨o.slots,q⟩) (λb o hb _ q=>by rw[aK (by simpa using hb)]; exact q) (λb o _ q=>⟨o,q⟩)
  (λb ys q=>by rw[aK (gQ q f0)]; exact q) (λb o u q=>by rw[aK (gQ q f0)]; exact q) (λb ps q=>⟨#[],by rw[aK (gQ q f0),q]; simp⟩) (λm q=>q) ok I.bare
theorem Inv.sub(I:Inv X pins σ H s)(h:∀p∈mV,p∈pins):Inv X mV σ H s:=I.wJ λp hp=>I.pin p (List.mem_append_right _ (h p hp))
theorem Inv.pD(I:Inv X pins σ H s)(f:bO X pins H a)(e:s.heap.get? a=some o)(d:∀v,o.data ≠ .cell v):Inv X ((a,o)::pins) σ H s:=I.wJ λp hp=>by
 rcases List.mem_cons.mp hp with rfl|hp
 .exact⟨e,f.1,f.2.1,f.2.2.1,d⟩
 .exact I.pin p (List.mem_append_right _ hp)
theorem bO.pD(f:bO X pins H b)(n:a≠b):bO X ((a,o)::pins) H b:=⟨f.1,f.2.1,f.2.2.1,f.2.2.2.1,f.2.2.2.2.1,λp hp=>by
 rcases List.mem_append.mp hp with hp|hp
 .exact f.2.2.2.2.2 p (List.mem_append_left _ hp)
 .rcases List.mem_cons.mp hp with rfl|hp
  .exact n
  .exact f.2.2.2.2.2 p (List.mem_append_right _ hp)⟩
theorem Inv.wr(I:Inv X pins σ H s)(f:bO X pins H a):Inv X pins σ H {s with heap:=s.heap.update a (Obj.mapSeq g),toks:=t' }:=by
 obtain⟨f0,f1,f2,f3,f4,f5⟩:=f
 exact I.turned (it:=a) (λb o hb e=>((Heap.SameBut.update s.heap a _).2 b hb).trans e) f0 f1 f3 f4 f5
end
noncomputable instance nfI:NF:=⟨numOf⟩
noncomputable def lX(n:Nat)(kz:Nat->Int × Int)(ys:List Nat):Prop:=ys.Perm (List.range n)/\ys.Pairwise λi j=>((kz i).1<(kz j).1\/((kz i).1=(kz j).1/\(kz i).2<(kz j).2))\/(((kz i).1=(kz j).1/\(kz i).2=(kz j).2)/\i<j)
structure lY(X:Cx)(Kv:Hp->Value->Int × Int->Prop)(kd:SortKind):Prop where
 kind:∀(H:Hp) (keys:Array Value) (kz:Nat->Int × Int),2<=keys.size->(∀i v,keys[i]?=some v->Kv H v (kz i))->∀{pins σ s Q E},Inv X pins σ H s->Q kd s->wpAny (model X.prog X.w) X.A.in1.in1 (keyKind' keys) Q E s
 ask:∀{pins σ H s} {E:Value->Shared->Prop} (a₀ : Array Keyed) (kf:Value->Int × Int),Inv X pins σ H s->(∀p,p∈a₀.toList->Kv H p.1 (kf p.1))->Asks X.prog X.w X.A.in1.in1 E s a₀ kd kf
section
variable {X:Cx}
theorem Pg:lY X (λ_ v k=>∃t,v=.int k.1 t/\k.2=0) oneType' where
 kind:=λH keys kz h2 hk pins σ s Q E I q=>by
  have hi:IntsAre keys.toList (keys.toList.map numOf):=by
   refine intsAre_map _ λv hv=>?_
   obtain⟨i,hi,e⟩:=List.getElem_of_mem hv
   obtain⟨t,z,_⟩:=hk i v (by rw[<-e]; simp[Array.getElem?_eq_getElem (show i<keys.size by simpa using hi)])
   exact⟨_,t,z⟩
  rw[ksk_kind hi h2]
  exact wpAny_pure q
 ask:=λa₀ kf I h st i j Q B hi hj q=>by
  have h0:IntKeys a₀ := λp hp=>by
   obtain⟨t,z,_⟩:=h p hp
   exact⟨_,t,z⟩
  have B':SBase a₀ st:=⟨B.pm,B.kn,B.fl,B.pd⟩
  have at_:∀i,i<a₀.size->q1 kf (arrOf st) i=K (arrOf st) i/\q2 kf (arrOf st) i=0:=λi hi=>by
   obtain⟨t,p,e⟩:=B'.at h0 hi
   have hi':i<(arrOf st).size:=by rw[B.sz]; exact hi
   have hm:(arrOf st)[i]∈a₀.toList:=(Array.perm_iff_toList_perm.mp B.pm).mem_iff.mp (by simp)
   obtain⟨t',z,z2⟩:=h _ hm
   have e':(arrOf st)[i]?=some (arrOf st)[i]:=getElem?_pos _ i hi'
   have e2:(arrOf st)[i]=(Value.int (K (arrOf st) i) t,p):=by rw[e']at e; exact Option.some.inj e
   rw[e2]at z z2
   unfold q1 q2
   rw[e]
   refine⟨?_,z2⟩
   injection z with z
   exact z.symm
  refine wpS_ltK B' h0 hi hj ?_
  have:decide (Kl kf (arrOf st) i j)=decide (K (arrOf st) i<K (arrOf st) j):=by
   rw[decide_eq_decide]
   unfold Kl
   rw[(at_ i hi).1,(at_ j hj).1,(at_ i hi).2,(at_ j hj).2]
   lia
  rw[this]at q
  exact q
end
section
variable {X:Cx}{pins:List (Addr × Obj)}{σ : St}{H:Hp}{s:Shared}{Kv:Hp->Value->Int × Int->Prop}{kd:SortKind}{a kS:Addr}{n:Nat}{kz:Nat->Int × Int}{vs:List Value}
theorem Ph{st:SortSt}(I:Inv X pins σ H s)(fk:bO X pins H kS)(fa:bO X pins H a)(ne:kS≠a)(hk:s.heap.get? kS=some (seqObj "list" keys e)) (ha:s.heap.get? a=some (seqObj "list" #[] e1)) (hks:keys.size<=64) (hst:(arrOf st).size<=64) (fl:failedOf st=none)
  (h:∀s' c,Inv X pins σ H s'->s'.heap.get? a=some (seqObj "list" ((arrOf st).map (·.2)) c)->P (.done (.ret .none)) s'):wpAny (model X.prog X.w) X.A.in1.in1 (ksk_tail a false e1 (.ref kS) st) P E s:=by
 refine wpAny_bind (listUpdate_at hk rfl ?_ (by rw[sizeLine_eq]; lia) (Nat.zero_le _))
 refine wpAny_bind (wpAny_letGo ?_)
 have I1:=I.wr (g:=λ_=>#[]) (t':=s.toks) fk
 have ha1:(s.heap.update kS (Obj.mapSeq λ_=>(#[]:Array Value))).get? a=some (seqObj "list" #[] e1):=((Heap.SameBut.update s.heap kS _).2 a (Ne.symm ne)).trans ha
 refine wpAny_bind (seqEpoch_at ha1 rfl ?_)
 refine wpAny_bind (listUpdate_at ha1 rfl ?_ (Nat.zero_le _) (by simp only[Bool.false_eq_true,if_false,Array.size_map]; rw[sizeLine_eq]; lia))
 rw[fl]
 simp only[bne_self_eq_false,Bool.false_eq_true,if_false]
 exact wpAny_pure (h _ _ (I1.wr (t':=s.toks) fa) (get?_update_seq ha1 _))
theorem adX(T:lY X Kv kd)(I:Inv X pins σ H s)(fk:bO X pins H kS)(fa:bO X pins H a)(ne:kS≠a)(hk:s.heap.get? kS=some (seqObj "list" keys e)) (ha:s.heap.get? a=some (seqObj "list" #[] e1))
  (hv:∀(i:Nat) (v:Value),vs[i]?=some v->∃t,v=Value.int i t) (hl:vs.length=n) (hkn:keys.size=n) (h64:n<64) (hK:∀i v,keys[i]?=some v->Kv H v (kz i)) (inj:∀v k k',Kv H v k->Kv H v k'->k=k')
  (h:∀s' c out,Inv X pins σ H s'->s'.heap.get? a=some (seqObj "list" out c)->(∃ys,lX n kz ys/\Vals (ys.map λi:Nat=>V.int i) out.toList)->P (.done (.ret .none)) s'):wpAny (model X.prog X.w) X.A.in1.in1 (ksk_end a false vs.toArray e1 (.ref kS) keys) P E s:=by
 have qR:(keys.zip vs.toArray).size=n:=by rw[Array.size_zip,hkn,List.size_toArray,hl,Nat.min_self]
 have uE:∀i,i<n->∃v t,(keys.zip vs.toArray)[i]?=some (v,.int i t)/\Kv H v (kz i):=λi hi=>by
  obtain⟨t,e2⟩:=hv i vs[i] (by simp[hl,hi])
  have e1:keys[i]?=some keys[i]:=getElem?_pos _ _ (by lia)
  refine⟨keys[i],t,?_,hK i _ e1⟩
  rw[<-Array.getElem?_toList,ksk_zip,List.getElem?_zip_eq_some]
  refine⟨by simp[Array.getElem?_toList,e1],?_⟩
  show vs[i]?=some (Value.int i t)
  rw[List.getElem?_eq_getElem (by lia),e2]
 -- what the sorted array says
 have fin:∀(kf:Value->Int × Int) (xs:Array Keyed),(∀(i:Nat) v t,(keys.zip vs.toArray)[i]?=some (v,Value.int i t)->kf v=kz i)->xs.Perm (keys.zip vs.toArray)->eY kf xs n->∃ys,lX n kz ys/\Vals (ys.map λi:Nat=>V.int i) (xs.map (·.2)).toList:=λkf xs hkf hp hs=>by
  have hpl:=Array.perm_iff_toList_perm.mp hp
  have mem:∀p∈xs.toList,∃i t,i<n/\p.2=.int (i:Nat) t/\kf p.1=kz i:=λp hp'=>by
   obtain⟨i,hi,e⟩:=List.getElem_of_mem (hpl.mem_iff.mp hp')
   have hi':i<n:=by rw[Array.length_toList,qR]at hi; exact hi
   obtain⟨v,t,e1,_⟩:=uE i hi'
   have e2:(keys.zip vs.toArray)[i]?=some p:=by rw[<-Array.getElem?_toList,List.getElem?_eq_getElem hi,e]
   rw[e1]at e2
   cases e2
   exact⟨i,t,hi',rfl,hkf i v t e1⟩
  refine⟨xs.toList.map λp=>(numOf p.2).toNat,⟨?_,?_⟩,?_⟩
  .have h1:=hpl.map λp:Keyed=>(numOf p.2).toNat
   refine h1.trans (List.Perm.of_eq ?_)
   refine List.ext_getElem? λi=>?_
   by_cases hi:i<n
   .obtain⟨v,t,e1,_⟩:=uE i hi
    rw[List.getElem?_map,Array.getElem?_toList,e1,List.getElem?_range hi]
    simp[numOf]
   .rw[List.getElem?_eq_none (by simp[qR]; lia),List.getElem?_eq_none (by simp; lia)]
  .rw[List.pairwise_map,List.pairwise_iff_getElem]
   intro i j hi hj hij
   have sz:xs.size=n:=by rw[hp.size_eq,qR]
   have hi':i<xs.size:=by simpa using hi
   have hj':j<xs.size:=by simpa using hj
   have z:=hs i j hij (by lia)
   obtain⟨a1,t1,_,b1,c1⟩:=mem _ (List.getElem_mem hi)
   obtain⟨a2,t2,_,b2,c2⟩:=mem _ (List.getElem_mem hj)
   have x1:xs[i]?=some xs.toList[i]:=by rw[<-Array.getElem?_toList,List.getElem?_eq_getElem hi]
   have x2:xs[j]?=some xs.toList[j]:=by rw[<-Array.getElem?_toList,List.getElem?_eq_getElem hj]
   unfold Lq Kl Ke q1 q2 qr at z
   rw[x1,x2]at z
   dsimp only at z
   rw[b1,b2,c1,c2]at z
   rw[b1,b2]
   simp only[NF.f,nfI,numOf,Int.toNat_natCast]at z ⊢
   lia
  .rw[Array.toList_map,List.map_map]
   have go:∀l:List Keyed,(∀p∈l,∃i t,i<n/\p.2=.int (i:Nat) t/\kf p.1=kz i)->Vals (l.map ((λi:Nat=>V.int i) ∘ λp:Keyed=>(numOf p.2).toNat)) (l.map (·.2)):=λl=>by
    induction l with
    |nil=>intro _; exact .nil
    |cons p r ih =>
     intro hm
     refine .cons ?_ (ih λq hq=>hm q (List.mem_cons_of_mem _ hq))
     obtain⟨i,t,_,e,_⟩:=hm p (List.mem_cons_self ..)
     exact⟨t,by simp[e,numOf]⟩
   exact go _ mem
 -- a function of the keys
 obtain⟨kf,hkf⟩:∃kf:Value->Int × Int,∀v k,Kv H v k->kf v=k:=by
  classical
  refine⟨λv=>if q:∃k,Kv H v k then q.choose else(0,0),λv k hk=>?_⟩
  have q:∃k,Kv H v k:=⟨k,hk⟩
  dsimp only
  rw[dif_pos q]
  exact inj v _ _ q.choose_spec hk
 have Pk:∀(i:Nat) v t,(keys.zip vs.toArray)[i]?=some (v,Value.int i t)->kf v=kz i:=λi v t e=>by
  have hi:i<n:=by
   have:=(Array.getElem?_eq_some_iff.mp e).1
   lia
  obtain⟨v',t',e1,q⟩:=uE i hi
  rw[e1]at e
  cases e
  exact hkf _ _ q
 unfold ksk_end
 simp only[Bool.false_eq_true,if_false]
 rw[List.size_toArray,hl]
 by_cases h2:n<2
 .rw[if_pos h2,if_pos h2]
  refine wpAny_bind (wpAny_pure ?_)
  rw[StateT.run_pure]
  refine wpAny_bind (wpAny_pure ?_)
  refine Ph (st:=SortSt.mk' general' (keys.zip vs.toArray) #[] 7 none) I fk fa ne hk ha (by lia) (by show(keys.zip vs.toArray).size<=64; lia) rfl λs' c I' e'=>h s' c _ I' e' (fin kf _ Pk (Array.Perm.refl _) λi j hij hj=>by lia)
 .rw[if_neg h2,if_neg h2]
  refine wpAny_bind (T.kind H keys kz (by lia) hK I ?_)
  have ask:=T.ask (E:=E) (s:=s) (keys.zip vs.toArray) kf I (λp hp=>by
   obtain⟨i,hi,e⟩:=List.getElem_of_mem hp
   have hi':i<n:=by rw[Array.length_toList,qR]at hi; exact hi
   obtain⟨v,t,e1,q⟩:=uE i hi'
   have e2:(keys.zip vs.toArray)[i]?=some p:=by rw[<-Array.getElem?_toList,List.getElem?_eq_getElem hi,e]
   rw[e1]at e2
   cases e2
   rw[hkf _ _ q]
   exact q)
  have B:SB (keys.zip vs.toArray) kd (SortSt.mk' kd (keys.zip vs.toArray) #[] 7 none):=⟨Array.Perm.refl _,rfl,rfl,rfl⟩
  have p0:Pre (keys.zip vs.toArray).size (arrOf (SortSt.mk' kd (keys.zip vs.toArray) #[] 7 none)) 0:=⟨λk hk=>by lia,λk _ hk=>by
   obtain⟨v,t,e1,_⟩:=uE k (by lia)
   show qr (keys.zip vs.toArray) k=k
   unfold qr
   rw[e1]
   rfl⟩
  refine wpAny_bind (wpAny_mono (adW (Q:=λ_ t=>(arrOf t).Perm (keys.zip vs.toArray)/\failedOf t=none/\eY kf (arrOf t) (keys.zip vs.toArray).size) ask B (by lia) (by lia) p0 λt a1 a2 a3=>⟨a1,a2,a3⟩) ?_ λ_ _ z=>z)
  rintro⟨⟨⟩,t⟩ s' ⟨rfl,hp,hf,hs⟩
  rw[qR]at hs
  exact Ph I fk fa ne hk ha (by lia) (by rw[hp.size_eq,qR]; lia) hf λs' c I' e'=>h s' c _ I' e' (fin kf _ Pk hp hs)
end
section
variable {X:Cx}{pins:List (Addr × Obj)}{σ : St}{H:Hp}{s:Shared}{Kv:Hp->Value->Int × Int->Prop}{kd:SortKind}{n:Nat}{kz:Nat->Int × Int}{vs:List Value}{f:Value}
theorem bO.up(h:bO X pins H b)(e:H' b=none):bO X pins H' b:=⟨e,h.2⟩
noncomputable def Ej(X:Cx)(pins:List (Addr × Obj))(σ : St)(H:Hp)(Kv:Hp->Value->Int × Int->Prop)(n:Nat)(kz:Nat->Int × Int)(f:Value):Prop :=
 ∀(mV:List (Addr × Obj)) (i:Nat) (t:Tok) (s':Shared) (H':Hp),i<n->(∀p∈pins,p∈mV)->Same H H'->Inv X mV σ H' s' ->
  wpAny (model X.prog X.w) X.A.in1.in1 (call f [.int i t]) (λv s''=>∃cD,Same H' cD/\Kv cD v (kz i)/\Inv X mV σ cD s'') (λ_ _=>False) s'
theorem adY(T:lY X Kv kd)(mono:∀{H H':Hp} {v k},Same H H'->Kv H v k->Kv H' v k)(inj:∀{pins:List (Addr × Obj)} {σ : St} {H:Hp} {s:Shared},Inv X pins σ H s->∀v k k',Kv H v k->Kv H v k'->k=k')
  (I:Inv X pins σ H s) (fk:bO X pins H kS) (fa:bO X pins H a) (ne:kS≠a) (hk:s.heap.get? kS=some (seqObj "list" #[] 0)) (ha:s.heap.get? a=some (seqObj "list" #[] e1))
  (hv:∀(i:Nat) (v:Value),vs[i]?=some v->∃t,v=Value.int i t) (hl:vs.length=n) (h64:n<64) (key:Ej X pins σ H Kv n kz f)
  (h:∀s' c out H',Same H H'->H' a=none->Inv X pins σ H' s'->s'.heap.get? a=some (seqObj "list" out c)->(∃ys,lX n kz ys/\Vals (ys.map λi:Nat=>V.int i) out.toList)->P (.done (.ret .none)) s') :
  wpAny (model X.prog X.w) X.A.in1.in1 (ksk_rest a f false vs.toArray e1 (.ref kS)) P E s:=by
 unfold ksk_rest
 refine wpAny_bind (wpAny_rule ?_)
 rw[<-Array.forIn_toList]
 refine wpAny_bind (ksk_fold (λi s'=>∃H' kA e,Same H H'∧H' kS=none∧H' a=none∧Inv X pins σ H' s'∧s'.heap.get? kS=some (seqObj "list" kA e)∧s'.heap.get? a=some (seqObj "list" #[] e1)∧kA.size=i∧∀(j:Nat) v,kA[j]?=some v→Kv H' v (kz j)) vs 0 s
  ⟨H,#[],0,Same.refl _,fk.1,fa.1,I,hk,ha,rfl,λj v z=>by simp at z⟩ ?_ ?_)
 .rintro j x s' hx ⟨H',kA,e,sm,nk,na,I',hk',ha',sz,hK⟩
  rw[Nat.zero_add]at sz ⊢
  have hj:j<vs.length:=(List.getElem?_eq_some_iff.mp hx).1
  obtain⟨t,rfl⟩:=hv j x hx
  have fk':=fk.up nk
  have fa':=fa.up na
  have I2:=(I'.pD fa' ha' (λv z=>by cases z)).pD (fk'.pD (Ne.symm ne)) hk' (λv z=>by cases z)
  refine wpAny_bind (wpAny_attempt (wpAny_mono (key _ j t s' H' (by lia) (λp hp=>List.mem_cons_of_mem _ (List.mem_cons_of_mem _ hp)) sm I2) (λv s'' he=>?_) λ_ _ z=>z.elim))
  obtain⟨cD,Pn,kv,I3⟩:=he
  have p1:=I3.pin (kS,seqObj "list" kA e) (List.mem_append_right _ (List.mem_cons_self ..))
  have p2:=I3.pin (a,seqObj "list" #[] e1) (List.mem_append_right _ (List.mem_cons_of_mem _ (List.mem_cons_self ..)))
  have I4:=I3.sub λp hp=>List.mem_cons_of_mem _ (List.mem_cons_of_mem _ hp)
  refine wpAny_bind (listUpdate_at p1.1 rfl ?_ (by rw[sizeLine_eq]; lia) (Nat.le_trans (Nat.le_of_eq (Array.size_push ..)) (by rw[sizeLine_eq]; lia)))
  refine wpAny_pure ⟨rfl,cD,kA.push v,_,sm.trans Pn,p1.2.1,p2.2.1,I4.wr (t':=s''.toks) (fk.up p1.2.1),get?_update_seq p1.1 _,((Heap.SameBut.update s''.heap kS _).2 a (Ne.symm ne)).trans p2.1,by rw[Array.size_push,sz],λi u q=>?_⟩
  rw[Array.getElem?_push]at q
  split at q
  .rename_i z
   cases q
   rw[z,sz]
   exact kv
  .exact mono Pn (hK i u q)
 .rintro s' ⟨H',kA,e,sm,nk,na,I',hk',ha',sz,hK⟩
  refine wpAny_bind (listItems_at hk' rfl ?_)
  exact adX T I' (fk.up nk) (fa.up na) ne hk' ha' hv hl (by lia) h64 hK (inj I') λs'' c out Ek e'' q=>h s'' c out H' sm na Ek e'' q
theorem adZ(T:lY X Kv kd)(mono:∀{H H':Hp} {v k},Same H H'->Kv H v k->Kv H' v k)(inj:∀{pins:List (Addr × Obj)} {σ : St} {H:Hp} {s:Shared},Inv X pins σ H s->∀v k k',Kv H v k->Kv H v k'->k=k')
  (I:Inv X pins σ H s) (fa:bO X pins H a) (ha:s.heap.get? a=some (seqObj "list" vs.toArray c0))
  (hv:∀(i:Nat) (v:Value),vs[i]?=some v->∃t,v=Value.int i t) (hl:vs.length=n) (h64:n<64) (key:Ej X pins σ H Kv n kz f)
  (h:∀s' c out H',Same H H'->H' a=none->Inv X pins σ H' s'->s'.heap.get? a=some (seqObj "list" out c)->(∃ys,lX n kz ys/\Vals (ys.map λi:Nat=>V.int i) out.toList)->P (.done (.ret .none)) s') :
  wpAny (model X.prog X.w) X.A.in1.in1 (ksk_tree a f false) P E s:=by
 refine wpAny_bind (listItems_at ha rfl ?_)
 refine wpAny_bind (listUpdate_at ha rfl ?_ (by rw[List.size_toArray,sizeLine_eq]; lia) (Nat.zero_le _))
 have I1:=I.wr (g:=λ_=>#[]) (t':=s.toks) fa
 obtain⟨e1,ha1⟩:∃e1,(s.heap.update a (Obj.mapSeq λ_=>(#[]:Array Value))).get? a=some (seqObj "list" #[] e1):=⟨_,get?_update_seq ha _⟩
 refine wpAny_bind (seqEpoch_at ha1 rfl ?_)
 refine wpAny_bind (wpAny_newTuple ?_ (by show vs.toArray.toList.length<=_; rw[List.toList_toArray,sizeLine_eq]; lia))
 refine wpAny_bind (wpAny_newList ?_ (Nat.zero_le _))
 have I2:Inv X pins σ H {s with heap:=(s.heap.update a (Obj.mapSeq λ_=>(#[]:Array Value))).push {cls:=.type "tuple",data:=.seq vs.toArray.toList.toArray } }:=I1.kept (t':=s.toks) λb o e=>Heap.get?_push_of_some _ e
 have I3:Inv X pins σ H {s with heap:=((s.heap.update a (Obj.mapSeq λ_=>(#[]:Array Value))).push {cls:=.type "tuple",data:=.seq vs.toArray.toList.toArray }).push {cls:=.type "list",data:=.seq ([]:List Value).toArray } }:=I2.kept (t':=s.toks) λb o e=>Heap.get?_push_of_some _ e
 have lt:a<((s.heap.update a (Obj.mapSeq λ_=>(#[]:Array Value))).push {cls:=.type "tuple",data:=.seq vs.toArray.toList.toArray }).objs.size:=by
  rw[size_push',Heap.size_update]
  exact Nat.lt_succ_of_lt (Heap.lt_size ha)
 refine wpAny_holding ?_
 exact adY T mono inj I3 (I2.jD (Nat.le_refl _) (I2.hok.fresh (Nat.le_refl _))) fa (Nat.ne_of_gt lt) (Heap.get?_push_size _ rfl) (Heap.get?_push_of_some _ (Heap.get?_push_of_some _ ha1)) hv hl h64 key h
theorem ad0(hh:A.handled=none)(hr:IsRange s.heap r 0 n 1 t u v)(hn:n<=1000)
  (h:∀h' tk (vs:List Value),(∀b o,s.heap.get? b=some o->h'.get? b=some o)->vs.length=n->(∀(i:Nat) (v:Value),vs[i]?=some v->∃t,v=Value.int i t)->Q vs {s with heap:=h',toks:=tk }) :
  wpAny (model P w) A (collect (.ref r)) Q E s:=by
 refine wpAny_bind (wpAny_runValue (codeAny_builtin F.entry_proto_collect ?_))
 refine wpAny_bind (wpAny_newList ?_ (Nat.zero_le _))
 refine wpAny_pure ⟨plainId_quiet F.plain_list_iadd _,codeAny_builtin F.entry_list_iadd ?_⟩
 have El:Builtin.Range.rangeSize 0 (n:Int) 1=n:=by rw[rangeSize_one]; split <;> lia
 have keep:∀b o,s.heap.get? b=some o->(s.heap.push {cls:=.type "list",data:=.seq ([]:List Value).toArray }).get? b=some o:=λb o e=>Heap.get?_push_of_some _ e
 refine wpAny_extend_range (A:=A) (R:=λr s'=>match r with
  | Except.ok (Flow.ret v)=>wpAny (model P w) A (match v with
   |Value.ref a=>do
    let __do_lift <-load a
    match __do_lift.data with
     |Data.seq xs epoch=>pure xs.toList
     |x=>unsupported "internal:collect"
   |x=>unsupported "internal:collect") Q E s'
  |Except.ok a=>False
  |Except.error e=>E e s') (s:={s with heap:=s.heap.push {cls:=.type "list",data:=.seq ([]:List Value).toArray } }) hh (keep _ _ hr) (small_one (by lia) (by lia) (by lia) (by lia)) El (by lia) s.heap.objs.size (.ref s.heap.objs.size) 0 (Heap.get?_push_size _ rfl) λh' tk acc c hk hS hi=>?_
 refine wpAny_bind (wpAny_load hS ?_)
 refine wpAny_pure (h h' tk acc.toList (λb o e=>hk b o (Nat.ne_of_lt (Heap.lt_size e)) (keep b o e)) (by rw[Array.length_toList]; exact hi.1) λi v e=>?_)
 rw[Array.getElem?_toList]at e
 obtain⟨t,z⟩:=hi.2 i v e
 exact⟨t,by rw[z]; simp⟩
theorem ad1(T:lY X Kv kd)(mono:∀{H H':Hp} {v k},Same H H'->Kv H v k->Kv H' v k)(inj:∀{pins:List (Addr × Obj)} {σ : St} {H:Hp} {s:Shared},Inv X pins σ H s->∀v k k',Kv H v k->Kv H v k'->k=k')
  (I:Inv X pins σ H s) (hh:X.A.handled=none) (hr:IsRange s.heap r 0 n 1 t u v) (h64:n<64) (key:Ej X pins σ H Kv n kz (.ref q))
  (h:∀s' D ys H',Same H H'->H' D=none->Inv X pins σ (upd H' D (.lst (ys.map λi:Nat=>V.int i))) s'->lX n kz ys->Q (.ref D) s') :
  wpAny (model X.prog X.w) X.A (call (.builtin "sorted") [.ref r] [(Str.ofString "key",.ref q)]) Q E s:=by
 refine call_function_entry_kw kind_sorted plain_sorted entry_sorted (ksk_s1 _ _) ?_
 refine wpAny_bind (m:=checkCount "sorted" 1 1 _) (wpAny_pure ?_)
 refine wpAny_bind (ad0 (A:=X.A.in1) hh hr (by lia) λh1 tk vs keep hl hv=>?_)
 have I1:Inv X pins σ H {s with heap:=h1,toks:=tk }:=I.kept keep
 refine wpAny_bind (wpAny_newList ?_ (by rw[sizeLine_eq]; lia))
 have I2:Inv X pins σ H {s with heap:=h1.push {cls:=.type "list",data:=.seq vs.toArray },toks:=tk }:=I1.kept (t':=tk) λb o e=>Heap.get?_push_of_some _ e
 have ha:(h1.push {cls:=.type "list",data:=.seq vs.toArray }).get? h1.objs.size=some (seqObj "list" vs.toArray 0):=Heap.get?_push_size _ rfl
 refine wpAny_bind (wpAny_holding (wpAny_call_entry_kw slot_list_sort ⟨_,ha,rfl⟩ entry_list_sort ?_ (ksk_l1 _ _)))
 rw[ksk_t1]
 have fa:=I1.jD (Nat.le_refl _) (I1.hok.fresh (Nat.le_refl _))
 refine adZ T mono inj I2 fa ha hv hl h64 key λs' c out H' sm na I' e' ⟨ys,hs,hv'⟩=>⟨_,rfl,?_⟩
 refine wpAny_pure ⟨_,rfl,h s' _ ys H' sm na (I'.track (its:=out.toList) (n:=c) (fa.up na) e' hv' ?_) hs⟩
 have:=hs.1.length_eq
 rw[List.length_map,this,List.length_range,sizeLine_eq]
 lia
end
noncomputable def yE(X:Cx)(A:Around)(N:List Str)(qual:Str)(scope:Scope)(f:Addr)(cd:Value)(s:Shared)(H:Hp):Cx where
 prog:=X.prog
 w:=X.w
 K:=X.K
 mg:=X.mg
 base:=X.base
 A:=A.deeper (envX qual scope s.heap.objs.size f cd (bG X.env.cells scope.names []))
 N:=N
 s₀ := s
 H₀ := H
 env:=envX qual scope s.heap.objs.size f cd (bG X.env.cells scope.names [])
 outer:=X.stack
 stack:=envX qual scope s.heap.objs.size f cd (bG X.env.cells scope.names [])::X.stack
 ex:=[]
 fn:=λ_=>false
 calm:=true
 pn:=[]
 xe:=λ_ _=>False
structure yF(sc:Scope)(No:List Str)(x:Str)(Ns:List Str)(src:List (Option Nat))(scope:Scope):Prop where
 c:m9 sc No (x::Ns) (none::src) scope
 Pq:∀y∈scope.names,y.2 ≠ .cell
 par:scope.names.lookup x=some .local
 co:scope.isCoroutine=false
 gen:scope.isGenerator=false
section
variable {X:Cx}{pins:List (Addr × Obj)}{σ : St}{H:Hp}{s:Shared}{sc scope:Scope}{No Ns:List Str}{src:List (Option Nat)}{x qual:Str}
theorem ad2(hsc:X.env.scope=sc)(fH:X.N=No)(S:yF sc No x Ns src scope)(hfr:A.frames=some X.stack)(hhd:A.handled=none)(I:Inv X pins σ H s)(rv:RelV v u)
  (hns:h₁.Ns s.heap.objs.size (λy=>([(x,u)]:List (Str × Value)).reverse.lookup y)) (old:∀b o,s.heap.get? b=some o->h₁.get? b=some o) :
  Inv (yE X A (x::Ns) qual scope f cd s H) [] (some v::bQ src σ) H {s with heap:=h₁,toks:=tk }:=by
 subst hsc
 subst fH
 have uF:∀x c,(bG X.env.cells scope.names []).lookup x=some c->X.env.cells.lookup x=some c:=λx c h=>by
  rcases m8 h with q|q
  .simp at q
  .exact q
 refine⟨⟨I.ok.mod,S.c.kind,rfl,rfl,Nat.le_refl _,λx y c h1 h2=>I.ok.inj x y c (uF _ _ h1) (uF _ _ h2),λy hy=>?_,λx c h=>(Bool.false_ne_true h).elim,λ_=>hhd,Around.frames_deeper hfr,.inr ⟨rfl,rfl⟩,λb hb=>absurd (show b∈([]:List Addr)from hb) (by simp),
   I.bs,Nat.le_trans I.ok.mU I.sz,λb o e=>by intro hb; exact absurd (show b∈([]:List Addr)from hb) (by simp),λb hb=>absurd (show b∈([]:List Addr)from hb) (by simp),I.stack,I.wH⟩,
  rfl,I.bare,Un.kept old,⟨_,hns,λi y w' h1 h2 h3=>?_⟩,λy c e=>?_,I.hok.fresh (Nat.le_refl _),λy c e=>I.jA y c (uF y c e),λp hp=>absurd (show p∈([]:List (Addr × Obj))from hp) (by simp),I.hok.kept old,?_⟩
 .skip
  have m:(y,NameKind.free)∈scope.names:=by
   rcases hy with z|z
   .exact absurd rfl (S.Pq _ (PySem.mem_of_lookup z))
   .exact PySem.mem_of_lookup z
  have q:=oY (cells:=X.env.cells) (acc:=[]) (.inr ⟨m,by
   obtain⟨c,e⟩:=I.ok.has y (S.c.free _ m rfl)
   rw[e]; rfl⟩)
  exact Option.isSome_iff_exists.mp q
 .cases i with
  |zero =>
   have h1:some x=some y:=h1
   cases h1
   cases h2
   exact⟨u,rv,.inl ⟨S.par,by show([(x,u)]:List (Str × Value)).reverse.lookup x=some u; simp⟩⟩
  |succ i =>
   have h1:Ns[i]?=some y:=h1
   have h2:(bQ src σ)[i]?=some (some w'):=h2
   have hi:i<src.length:=by
    unfold bQ at h2
    have:=(List.getElem?_eq_some_iff.mp h2).1
    simpa using this
   have h2':((src[i]).bind λj=>(σ[j]?).join)=some w':=by
    unfold bQ at h2
    rw[List.getElem?_map,List.getElem?_eq_getElem hi]at h2
    exact Option.some.inj h2
   cases es:src[i]with
   |none=>rw[es]at h2'; cases h2'
   |some j =>
    rw[es]at h2'
    have hj : σ[j]?=some (some w'):=by
     have z:(σ[j]?).join=some w':=h2'
     cases q : σ[j]? with
     |none=>rw[q]at z; cases z
     |some o=>rw[q]at z; have z':o=some w':=z; rw[z']
    have hz:(y,some j)∈(x::Ns).zip (none::src):=by
     refine List.mem_of_getElem? (i:=i+1) ?_
     rw[List.getElem?_zip_eq_some]
     exact⟨by simpa using h1,by simp[List.getElem?_eq_getElem hi,es]⟩
    obtain⟨u1,u2⟩:=S.c.up _ hz j rfl
    have m:(y,NameKind.free)∈scope.names:=PySem.mem_of_lookup u2
    have kx:=S.c.free _ m rfl
    obtain⟨m0,hn0,hl0⟩:=id I.loc
    obtain⟨u',r,lk⟩:=hl0 j y w' u1 hj (kx.elim (λz=>.inr (.inl z)) λz=>.inr (.inr z))
    refine⟨u',r,?_⟩
    rcases lk with⟨k,_⟩|⟨_,c,e,ic⟩
    .have k':X.env.scope.names.lookup y=some .local:=k
     rcases kx with z|z <;> (rw[z]at k'; cases k')
    .refine .inr ⟨.inr u2,c,?_,?_⟩
     .have q:=oY (cells:=X.env.cells) (acc:=[]) (.inr ⟨m,by rw[e]; rfl⟩)
      obtain⟨c',e'⟩:=Option.isSome_iff_exists.mp q
      have e2:=uF y c' e'
      rw[e]at e2; cases e2
      exact e'
     .obtain⟨o,ho,hd⟩:=ic
      exact⟨o,old _ _ ho,hd⟩
 .obtain⟨v,o,ho,hd⟩:=I.cell y c (uF y c e)
  exact⟨v,o,old _ _ ho,hd⟩
 .have:=S.c.len
  show _=(x::Ns).length
  rw[List.length_cons]at this ⊢
  rw[List.length_cons]
  unfold bQ
  rw[List.length_map]
  exact this
theorem ad3(hsc:X.env.scope=sc)(fH:X.N=No)(S:yF sc No x Ns src scope)(hfr:A.frames=some X.stack)(hhd:A.handled=none)(hroom:A.depth<recursionLimit)
  (I:Inv X pins σ H s) (ho:s.heap.get? f=some (kla_obj "<lambda>" qual params body scope (bG X.env.cells scope.names []) pm c' ctv)) (hcd:s.heap.CodeRec (.ref c') qual) (rv:RelV v u)
  (hbind:bindArgs (kla_fn "<lambda>" qual params body scope (bG X.env.cells scope.names []) pm (.ref c') ctv) ⟨[u],[]⟩=pure [(x,u)])
  (he:∀s H,PE (yE X A (x::Ns) qual scope f (.ref c') s H) body te) (hq:te (some v::bQ src σ) H Q):wpAny (model X.prog X.w) A (call (.ref f) [u]) (EP X pins σ Q) E s:=by
 refine wpAny_call (kla_callFunE hroom ho rfl S.co S.gen rfl hcd ?_)
 rw[hbind]
 refine wpAny_pure (wpAny_newFunctionEnv S.Pq (λy hy=>?_) (λh₁ hns hsb=>⟨I.nolimit.fresh _ hsb,?_⟩) S.c.kind)
 .have:y=(x,u):=by simpa using hy
  subst this
  exact S.par
 have old:=λb o e=>hsb.extBut b o (Nat.ne_of_lt (Heap.lt_size e)) (Heap.get?_push_of_some _ e)
 have J:=ad2 (A:=A) (f:=f) (cd:=.ref c') (qual:=qual) (tk:=s.toks+[(x,u)].length) hsc fH S hfr hhd I rv hns old
 refine kla_codeExpr (wpAny_mono (he s H [] _ _ H Q J hq) (λw' s' hw=>?_) λ_ _ z=>z.elim)
 obtain⟨v',H',J',r',q'⟩:=hw
 exact⟨v',H',I.call' (ch:=[]) J'.os J'.base J'.hok J'.bare (λb hb=>absurd hb (by simp)),r',q'⟩
end
noncomputable def lZ(mg:Str→Option Value)(base:Heap):Prop:=∃bm ob,mg "__builtins__" = some (.ref bm)∧bm≠builtinsNs∧bm≠mainGlobals∧base.get? bm=some ob∧ob.cls=.type "module" ∧ ob.dict=some builtinsNs∧ob.data=.plain
theorem Pu:∀{l:List Value},TriplesOk l->TriplesOk (l++[.int a t,.int b u,c])
 | [],_=>trivial
 |.int _ _ :: .int _ _::_::r,h=>Pu (l:=r) h
theorem Px:∀{l:List Value},TriplesOk l->codeAmong pos (l++[.int a t,.int b u,c])=some v->codeAmong pos l=some v\/v=c
 | [],_,h=>by
  have h:(if _ then some c else none)=some v:=h
  split at h
  .cases h; exact .inr rfl
  .cases h
 |.int x _ :: .int y _::z::r,o,h=>by
  have h:(if(x == pos.line&&y == pos.col)=true then some z else codeAmong pos (r++[.int a t,.int b u,c]))=some v:=h
  show(if(x == pos.line&&y == pos.col)=true then some z else codeAmong pos r)=some v\/_
  split at h
  .rename_i q
   rw[if_pos q]
   exact .inl h
  .rename_i q
   rw[if_neg q]
   exact Px (l:=r) o h
section
variable {X:Cx}{pins:List (Addr × Obj)}{σ : St}{H:Hp}{s:Shared}{sc scope:Scope}{No Ns:List Str}{src:List (Option Nat)}{x:Str}
structure yH(P:Addr)(q:Str)(H H':Hp):Prop where
 kp:∀b o,H b=some o->b≠P->H' b=some o
 tb:∃ps,H' P=some (.cj ps)/\xM H' q ps
theorem ad4(hsc:X.env.scope=sc)(S:yF sc No x Ns src scope)(hcode:X.env.code=.ref c)(C:CodeHd X.base c P)(B:lZ X.mg X.base)
  (hdef:defaultsOf params X.env=([],[])) (I:Inv X pins σ H s) (hP:H P=some (.cj ps)) (ok:xM H (X.env.qual++("<lambda>" : Str)) ps)
  (h:∀f c' ctv pm H' s' oc,yH P (X.env.qual++("<lambda>" : Str)) H H'→Inv X ((f,kla_obj "<lambda>" (X.env.qual++("<lambda>" : Str)) params body scope (bG X.env.cells scope.names []) pm c' ctv)::pins) σ H' s'→H' c'=some (.cH oc (.own 0))→Oi oc (X.env.qual++("<lambda>" : Str))→Q (.ref f) s') :
  wpAny (model X.prog X.w) A (eval (.Lambda params body scope pos) X.env) Q E s:=by
 have hcl:closureFor scope X.env=pure (bG X.env.cells scope.names []):=wZ λy hy e=>by
  have k:=S.c.free y hy e
  rw[<-hsc]at k
  obtain⟨c,q⟩:=I.ok.has y.1 k
  rw[q]; rfl
 have oP:s.heap.get? P=some (tabObj ps):=I.hok P _ hP
 have nP:mainGlobals≠P:=λz=>by
  obtain⟨o,es,ep,e,hd,_⟩:=I.ok.mod.glob
  have:=(I.bs _ _ e).2
  rw[z,hP]at this
  cases this
 have hg:s.heap.Ns mainGlobals X.mg:=let⟨o,es,ep,e,r⟩:=I.ok.mod.glob; ⟨o,es,ep,I.bk _ _ e,r⟩
 have hB:s.heap.BuiltinsAt X.mg P:=by
  obtain⟨bm,ob,b1,b2,b3,b4,b5,b6,b7⟩:=B
  refine⟨bm,ob,b1,b2,b3,λz=>?_,I.bk _ _ b4,b5,b6,b7⟩
  have:=(I.bs _ _ b4).2
  rw[z,hP]at this
  cases this
 have C':CodeHd s.heap c P:=C.keeps I.bk
 refine kla_eval hdef ?_
 cases hf:codeAmong pos ps.toList with
 |some cv =>
  obtain⟨c',oc,rfl,e1,e2⟩:=ok.2 pos cv hf
  refine kla_makeFunctionHit (mg:=X.mg) hcl I.ok.glob hg hcode C' oP ok.1 hf hB λctv h' tk keep hsz=>?_
  have I1:Inv X pins σ H {s with heap:=h',toks:=tk }:=I.kept keep
  have I2:Inv X pins σ H {s with heap:=h'.push (kla_obj "<lambda>" (X.env.qual++("<lambda>" : Str)) params body scope (bG X.env.cells scope.names []) ((X.mg "__name__").getD .none) c' ctv),toks:=tk }:=I1.kept (t':=tk) λb o e=>Heap.get?_push_of_some _ e
  refine h _ c' ctv _ H _ oc ⟨λ_ _ q _=>q,ps,hP,ok⟩ (I2.pD (I1.jD (Nat.le_refl _) (I1.hok.fresh (Nat.le_refl _))) (Heap.get?_push_size _ rfl) (λv z=>by cases z)) e1 e2
 |none =>
  refine kla_makeFunction (mg:=X.mg) hcl I.ok.glob hg hcode C' oP ok.1 hf nP hB λc' ctv h' tk ext hge hlt hrec htb=>?_
  obtain⟨c2,oc,vs,t,e2,hoc,hd,hv⟩:=hrec
  cases e2
  have nc:H c'=none:=I.hok.fresh hge
  have cP:c'≠P:=λz=>by rw[z,hP]at nc; cases nc
  have ne:∀b u,H b=some u->b≠c':=λb u q=>gQ q nc
  have up:∀b u,H b=some u->b≠P->(upd (upd H P (.cj (ps ++ #[rawInt pos.line,rawInt pos.col,.ref c']))) c' (.cH oc (.own 0))) b=some u:=λb u q z=>by rw[aK (ne b u q),aK z]; exact q
  have Em:(upd (upd H P (.cj (ps ++ #[rawInt pos.line,rawInt pos.col,.ref c']))) c' (.cH oc (.own 0))) P=some (.cj (ps ++ #[rawInt pos.line,rawInt pos.col,.ref c'])):=by rw[aK (Ne.symm cP)]; exact cu
  have keep:∀b o,b≠P->s.heap.get? b=some o->h'.get? b=some o:=λb o z e=>ext b o z e
  have hok:cA X.prog X.w (upd (upd H P (.cj (ps ++ #[rawInt pos.line,rawInt pos.col,.ref c']))) c' (.cH oc (.own 0))) h':=λb u q=>by
   by_cases z1:b=c'
   .subst z1
    rw[cu]at q
    cases q
    exact⟨hoc,oc,hoc⟩
   .by_cases z2:b=P
    .subst z2
     rw[Em]at q
     cases q
     exact htb
    .rw[aK z1,aK z2]at q
     refine(I.hok b u q).stay (λd v hd' e=>keep d v ?_ e) (λd z=>up d _ z ?_) λd ys z=>up d _ z ?_
     .rcases hd' with rfl|hd'
      .exact z2
      .rintro rfl
       rw[hP]at hd'
       cases hd'
     .rintro rfl
      rw[hP]at z
      cases z
     .rintro rfl
      rw[hP]at z
      cases z
  have qu:∀b,H b=none->b≠P:=λb n z=>by rw[z,hP]at n; cases n
  have I1:Inv X pins σ (upd (upd H P (.cj (ps ++ #[rawInt pos.line,rawInt pos.col,.ref c']))) c' (.cH oc (.own 0))) {s with heap:=h',toks:=tk } :=
   I.step (h':=h') (g':=s.gens) (d':=s.drawn) (t':=tk) (ch:=[]) (λ_ z=>nomatch z) (λb o _ _ _ e n=>keep b o (qu b n) e) (λb o _ _ _ e n=>⟨o.slots,keep b o (qu b n) e⟩)
    (λb o _ e n=>by
     rw[aK (λz=>by rw[z]at e; exact absurd (Heap.lt_size e) (Nat.not_lt.mpr hge)),aK (qu b n)]; exact n)
    (λb o _ e=>by
     by_cases z:b=P
     .subst z; exact⟨_,htb⟩
     .exact⟨o,keep b o z e⟩)
    (λb ys q=>up b _ q (by rintro rfl; rw[hP]at q; cases q)) (λb o u q=>up b _ q (by rintro rfl; rw[hP]at q; cases q))
    (λb qs q=>by
     by_cases z:b=P
     .subst z
      rw[hP]at q
      cases q
      exact⟨_,Em⟩
     .exact⟨#[],by rw[up b _ q z]; simp⟩)
    (λm q=>q.extBut ext (qu _ I.free)) hok I.bare
  have I2:=I1.kept (t':=tk) (h':=h'.push (kla_obj "<lambda>" (X.env.qual++("<lambda>" : Str)) params body scope (bG X.env.cells scope.names []) ((X.mg "__name__").getD .none) c' ctv)) λb o e=>Heap.get?_push_of_some _ e
  refine h _ c' ctv _ _ _ oc ⟨up,_,Em,?_,λpos' v q=>?_⟩ (I2.pD (I1.jD (Nat.le_refl _) (I1.hok.fresh (Nat.le_refl _))) (Heap.get?_push_size _ rfl) (λv z=>by cases z)) cu ⟨vs,t,hd,hv⟩
  .have:(ps ++ #[rawInt pos.line,rawInt pos.col,.ref c']).toList=ps.toList++[rawInt pos.line,rawInt pos.col,.ref c']:=by simp
   rw[this]
   exact Pu ok.1
  .have:(ps ++ #[rawInt pos.line,rawInt pos.col,.ref c']).toList=ps.toList++[rawInt pos.line,rawInt pos.col,.ref c']:=by simp
   rw[this]at q
   rcases Px ok.1 q with q|q
   .obtain⟨d,o,z1,z2,z3⟩:=ok.2 pos' v q
    exact⟨d,o,z1,up d _ z2 (by rintro rfl; rw[hP]at z2; cases z2),z3⟩
   .exact⟨c',oc,q,cu,vs,t,hd,hv⟩
end
noncomputable abbrev KW:=Hp->V->Int × Int->Prop
noncomputable def yJ:KW:=λ_ v k=>v=.int k.1/\k.2=0
noncomputable def Py(Kw:KW)(P:Addr)(q:Str)(src:List (Option Nat))(ta:TA)(te:TE):TE:=λσ H Q=>ta σ H λvs H1=>∃(n:Nat) (kz:Nat->Int × Int),vs=[.int n]/\n<64/\(∃ps,H1 P=some (.cj ps)/\xM H1 q ps)/\∀H2,yH P q H1 H2 ->
 (∀(i:Nat),i<n->∀H3,Same H2 H3->te (some (.int i)::bQ src σ) H3 λv H4=>Kw H4 v (kz i)/\Same H3 H4)/\∀D (ys:List Nat) H3,Same H2 H3->H3 D=none->lX n kz ys->Q (.ref D) (upd H3 D (.lst (ys.map λi:Nat=>V.int i)))
section
variable {X:Cx}{sc scope:Scope}{No Ns:List Str}{src:List (Option Nat)}{x:Str}{Kw:KW}{kd:SortKind}
theorem ad5(T:lY X (λH u k=>∃v,RelV v u/\Kw H v k) kd)(mono:∀{H H':Hp} {v k},Same H H'->Kw H v k->Kw H' v k)(inj:∀{pins:List (Addr × Obj)} {σ : St} {H:Hp} {s:Shared},Inv X pins σ H s->∀u k k',(∃v,RelV v u/\Kw H v k)->(∃v,RelV v u/\Kw H v k')->k=k')
  (hr:dU k X.A) (h1:X.mg "sorted" = none) (h2:X.mg "range" = none) (hsc:X.env.scope=sc) (fH:X.N=No) (S:yF sc No x Ns src scope) (hcode:X.env.code=.ref c) (C:CodeHd X.base c P) (B:lZ X.mg X.base) (hdef:defaultsOf params X.env=([],[]))
  (ha:PA X [e] ta) (hbind:∀(pm cd ctv u:Value),bindArgs (kla_fn "<lambda>" (X.env.qual++("<lambda>" : Str)) params body scope (bG X.env.cells scope.names []) pm cd ctv) ⟨[u],[]⟩=pure [(x,u)])
  (he:∀A f cd s H,PE (yE X A (x::Ns) (X.env.qual++("<lambda>" : Str)) scope f cd s H) body te)
  (hg:X.env.kindOf "sorted" = some .globalImplicit:=by kernel_rfl) (hg2:X.env.kindOf "range" = some .globalImplicit:=by kernel_rfl) (hs:notStar e=true:=by kernel_rfl) :
  PE X (.Call (.Name "sorted" p) [.Call (.Name "range" p2) [e] [] pos2] [⟨some (Str.ofString "key"),.Lambda params body scope amb,kp⟩] pos) (Py Kw P (X.env.qual++("<lambda>" : Str)) src ta te):=by
 refine⟨λpins s σ H Q I h=>?_⟩
 refine wpAny_Call_Name_kw (jB I hg h1 (by decide +kernel:bootBuiltins "sorted" = some (.builtin "sorted")) ?_ (by decide +kernel) (by kernel_rfl))
 refine callWith_kw (Calls.spliced_cons (wpAny_Call_Name_kw (jB I hg2 h2 boot_range (PyProof.Rows.callWith_type1 (aD (ha pos2 pins s σ H _ I h) λus s1 ⟨vs,H1,I1,r1,q1⟩=>?_) (fW hs) rfl) (by decide +kernel) (by kernel_rfl))))
 obtain⟨n,kz,rfl,h64,⟨ps,hP,ok⟩,hq⟩:=q1
 obtain⟨u1,rfl,t1,rfl⟩:=vals1 r1
 refine call_range_1 ?_
 have rfp:=I1.jD (Nat.le_refl _) (I1.hok.fresh (Nat.le_refl _))
 have I2:Inv X pins σ H1 {s1 with heap:=s1.heap.push {cls:=.type "range",data:=.fields #[.int 0 s1.toks,.int n t1,.int 1 (s1.toks+1)] },toks:=s1.toks+1+1 }:=I1.kept λb o e=>Heap.get?_push_of_some _ e
 have I3:=I2.pD rfp (Heap.get?_push_size _ rfl) (λv z=>by cases z)
 refine Calls.spliced_nil ?_
 refine kws_cons (ad4 hsc S hcode C B hdef I3 hP ok λf c' ctv pm H2 s2 oc lh I4 e1 e2=>?_)
 refine kws_nil ?_
 have pr:=I4.pin _ (List.mem_append_right _ (List.mem_cons_of_mem _ (List.mem_cons_self ..)))
 obtain⟨key,fin⟩:=hq H2 lh
 refine ad1 T (λ{H H' u k} sm ⟨v,a1,a2⟩=>⟨v,a1,mono sm a2⟩) inj I4 hr.hd pr.1 h64 (λmV i t s' H' hi sub sm I'=>?_) λs' D ys H3 sm nD I' hs'=>⟨.ref D,_,I'.sub λp hp=>List.mem_cons_of_mem _ (List.mem_cons_of_mem _ hp),rfl,fin D ys H3 sm nD hs'⟩
 have pf:=I'.pin _ (List.mem_append_right _ (sub _ (List.mem_cons_self ..)))
 have hcd:s'.heap.CodeRec (.ref c') (X.env.qual++("<lambda>" : Str)):=by
  obtain⟨vs,t,a1,a2⟩:=e2
  exact⟨c',oc,vs,t,rfl,(I'.hok c' _ (sm _ _ e1)).1,a1,a2⟩
 refine aD (ad3 (A:=X.A.in1.in1) (v:=.int i) (te:=te) (Q:=λv H4=>Kw H4 v (kz i)/\Same H' H4) hsc fH S I.ok.frames hr.hd hr.depth I' pf.1 hcd ⟨t,rfl⟩ (hbind _ _ _ _) (λs H=>he _ _ _ _ _) (key i hi H' sm)) λu s'' ⟨v,H4,Ek,rv,q1,q2⟩=>⟨H4,q2,⟨v,rv,q1⟩,Ek⟩
theorem ad6:lY X (λH u k=>∃v,RelV v u/\yJ H v k) oneType' where
 kind:=λH keys kz h2 hk pins σ s Q E I q=>Pg.kind H keys kz h2 (λi v e=>by
  obtain⟨w,r,rfl,z⟩:=hk i v e
  obtain⟨t,rfl⟩:=r
  exact⟨t,rfl,z⟩) I q
 ask:=λa₀ kf I h=>Pg.ask a₀ kf I λp hp=>by
  obtain⟨w,r,z1,z⟩:=h p hp
  subst z1
  obtain⟨t,r⟩:=r
  exact⟨t,r,z⟩
theorem ad7(_:Inv X pins σ H s)(u:Value)(k k':Int × Int)(h:∃v,RelV v u/\yJ H v k)(h':∃v,RelV v u/\yJ H v k'):k=k':=by
 obtain⟨v,r,rfl,z⟩:=h
 obtain⟨v',r',rfl,z'⟩:=h'
 obtain⟨t,rfl⟩:=r
 obtain⟨t',r'⟩:=r'
 injection r' with r' _
 exact Prod.ext r' (z.trans z'.symm)
end
noncomputable def qT(K:PySem.W.Frag)(mg:Str->Option Value)(x:Str)(st:Stmt)(c:Addr):Prop:=∃f fd,oX K x x st f fd/\mg x=some (.ref f)/\fd.code=.ref c
section
variable {P:Program}{w:World}{K:PySem.W.Frag}{mg:Str->Option Value}{base:Heap}
theorem qT.ad8{c:Addr}{k:Nat}{x:Str}{st:Stmt}{N ps:List Str}{sp:Sp}(a:qT K mg x st c)(S:qy N ps (bV st))
  (hb:∀(kV doc pm:Value) (an:Option Addr) (cdv ct:Value) (us:List Value),us.length=ps.length->bindArgs (fnOf x x (jE st) (gY st) (bV st) .none kV doc pm an cdv ct) ⟨us,[]⟩=pure (ps.zip us))
  (len:∀vs H Q E,sp vs H Q E->vs.length=ps.length)
  (hbody:∀(f:Addr) (A:Around) (outer:List Env) (s:Shared) (H:Hp) (vs:List V) (Q:VK) (E:XK),dU k (A.deeper (envOfC x (bV st) s.heap.objs.size f (.ref c)))->sp vs H Q E ->
   ∃t,eV (iJ (ig P w) P w K mg base N x (bV st) f (.ref c) A outer s H E) (gY st) t/\t {nx:=λ_ H'=>Q .non H',rt:=Q } (start N vs) H):jX P w K mg base (k+1) x ps sp:=by
 obtain⟨f,fd,F,m,hc⟩:=a
 refine⟨f,fd,?_,F.binds hb,F.kp,m⟩
 obtain⟨oc,od,kV,doc,pm,an,cdv,ct,osl,rfl,lk,hcd⟩:=F.ex
 have hc:cdv=.ref c:=hc
 subst hc
 exact Mz lk hcd S len λA outer s H vs Q E hr h=>hbody f A outer s H vs Q E hr h
end
noncomputable def uG(K:PySem.W.Frag)(x:Str):Option (Addr × Addr):=match K.lookup mainGlobals with
 |some o=>if o.cls == .type "list" then none else(match nsIn K mainGlobals x with
  | some (some (.ref f))=>(match K.lookup f with
   |some o=>if o.cls == .type "list" then none else(match o.data with
    | .func fd=>(match fd.code with
     | .ref c=>(match K.lookup c with
      |some o=>if o.cls == .type "list" then none else tabIn K x
      |_=>none)
     |_=>none)
    |_=>none)
   |_=>none)
  |_=>none)
 |_=>none
theorem Eo{o:Obj}(h:(o.cls == .type "list")=false):bW o=o:=by
 unfold bW
 rw[if_neg]
 rintro⟨z,_⟩
 rw[z]at h
 exact absurd h (by decide +kernel)
theorem ad9{K:PySem.W.Frag}{x:Str}{o:Obj}(h:K.lookup mainGlobals=some o)(n:(o.cls == .type "list")=false):nsIn (aA K) mainGlobals x=nsIn K mainGlobals x:=by
 have e:(aA K).lookup mainGlobals=K.lookup mainGlobals:=by
  rw[je,h]
  show some (bW o)=some o
  rw[Eo n]
 unfold nsIn
 rw[e]
theorem yK{K:PySem.W.Frag}{x:Str}{z:Addr × Addr}(h:uG K x=some z):tabIn K x=some z/\tabIn (aA K) x=some z:=by
 unfold uG at h
 split at h
 .rename_i o1 h1
  split at h
  .cases h
  .rename_i n1
   split at h
   .rename_i f hf
    split at h
    .rename_i o2 h2
     split at h
     .cases h
     .rename_i n2
      split at h
      .rename_i fd hd
       split at h
       .rename_i c hc
        split at h
        .rename_i o3 h3
         split at h
         .cases h
         .rename_i n3
          refine⟨h,?_⟩
          rw[<-h]
          unfold tabIn
          rw[ad9 h1 (by simpa using n1),hf]
          dsimp only
          rw[je,h2]
          dsimp only[Option.map]
          rw[Eo (by simpa using n2)]
          obtain⟨a1,a2,a3,a4⟩:=o2
          dsimp only at hd
          subst hd
          dsimp only
          rw[hc]
          dsimp only
          rw[je,h3]
          dsimp only[Option.map]
          rw[Eo (by simpa using n3)]
        .cases h
       .cases h
      .cases h
    .cases h
   .cases h
 .cases h
theorem Ep{o:Obj}{d:Data}(h:(bW o).data=d)(n:d ≠ .fields #[]):bW o=o:=by
 unfold bW at h ⊢
 split at h
 .exact(n h.symm).elim
 .rename_i q
  rw[if_neg q]
theorem PB{K:PySem.W.Frag}{x:Str}{z:Addr × Addr}(h:tabIn (aA K) x=some z):tabIn K x=some z:=by
 unfold tabIn at h
 split at h
 .rename_i f hf
  have g1:nsIn K mainGlobals x=some (some (.ref f)):=by
   unfold nsIn at hf
   rw[je]at hf
   cases e:K.lookup mainGlobals with
   |none=>rw[e]at hf; cases hf
   |some o =>
    rw[e]at hf
    unfold nsIn
    rw[e]
    have q:bW o=o:=by
     dsimp only[Option.map]at hf
     split at hf
     .rename_i a b es ep c eq
      have eq:bW o=⟨a,b,.dict es ep,c⟩:=Option.some.inj eq
      exact Ep (d:=.dict es ep) (by rw[eq]) (by intro z; cases z)
     .cases hf
    dsimp only[Option.map]at hf
    rw[q]at hf
    exact hf
  split at h
  .rename_i a b fd osl hfo
   have g2:K.lookup f=some ⟨a,b,.func fd,osl⟩:=by
    rw[je]at hfo
    cases e:K.lookup f with
    |none=>rw[e]at hfo; cases hfo
    |some o =>
     rw[e]at hfo
     have eq:bW o=⟨a,b,.func fd,osl⟩:=Option.some.inj hfo
     rw[Ep (d:=.func fd) (by rw[eq]) (by intro z; cases z)]at eq
     rw[eq]
   split at h
   .rename_i c hc
    split at h
    .rename_i a' b' vs PJ hco
     split at h
     .rename_i Pp hv
      cases h
      have g3:K.lookup c=some ⟨a',b',.fields vs,PJ⟩:=by
       rw[je]at hco
       cases e:K.lookup c with
       |none=>rw[e]at hco; cases hco
       |some o =>
        rw[e]at hco
        have eq:bW o=⟨a',b',.fields vs,PJ⟩:=Option.some.inj hco
        rw[Ep (d:=.fields vs) (by rw[eq]) (by intro z; injection z with z; subst z; simp at hv)]at eq
        rw[eq]
      unfold tabIn
      rw[g1]
      dsimp only
      rw[g2]
      dsimp only
      rw[hc]
      dsimp only
      rw[g3]
      dsimp only
      rw[hv]
     .cases h
    .cases h
   .cases h
  .cases h
 .cases h
structure uH(K:PySem.W.Frag)(mg:Str->Option Value)(base:Heap)(x:Str)(c P:Addr):Prop where
 nm:x∈eX
 hd:CodeHd base c P
 bm:lZ mg base
 tab:tabIn (aA K) x=some (c,P)
 un:∀x'∈eX,∀c',tabIn (aA K) x'=some (c',P)->x'=x
theorem yL{K:PySem.W.Frag}{x:Str}{f c P:Addr}{o1:Obj}{oc:Value}{od:Option Addr}{fd:FuncData}{sl:Array (Option Value)}{cc:Value}{cd:Option Addr}{vs:Array Value}{cs:Array (Option Value)}(a:nsIn K mainGlobals x=some (some (.ref f)))(l1:K.lookup mainGlobals=some o1)(n1:(o1.cls == .type "list")=false)
  (l2:K.lookup f=some ⟨oc,od,.func fd,sl⟩) (n2:(oc == .type "list")=false) (hc:fd.code=.ref c) (l3:K.lookup c=some ⟨cc,cd,.fields vs,cs⟩) (n3:(cc == .type "list")=false) (hv:vs[11]?=some (.ref P)):uG K x=some (c,P):=by
 unfold uG
 rw[l1]
 dsimp only
 rw[if_neg (by rw[n1]; exact Bool.false_ne_true),a]
 dsimp only
 rw[l2]
 dsimp only
 rw[if_neg (by rw[n2]; exact Bool.false_ne_true),hc]
 dsimp only
 rw[l3]
 dsimp only
 rw[if_neg (by rw[n3]; exact Bool.false_ne_true)]
 unfold tabIn
 rw[a]
 dsimp only
 rw[l2]
 dsimp only
 rw[hc]
 dsimp only
 rw[l3]
 dsimp only
 rw[hv]
theorem aea{K:PySem.W.Frag}{x:Str}(a:nsIn K mainGlobals x=some none):tabIn K x=none:=by
 unfold tabIn
 rw[a]
theorem PK{K:PySem.W.Frag}{mg:Str->Option Value}{base:Heap}{x:Str}{c P:Addr}(nm:x∈eX)(hc:∀x∈eX,∀c b,tabIn K x=some (c,b)->CodeHd base c b)(bm:lZ mg base)(q:uG K x=some (c,P))(ho:∀x'∈eX,x'=x\/∀c',tabIn K x'≠some (c',P)):uH K mg base x c P :=
 ⟨nm,hc x nm c P (yK q).1,bm,(yK q).2,λx' hx' c' e=>(ho x' hx').elim id λz=>(z c' (PB e)).elim⟩
end L2
end
section
namespace L2
open PySem PySem.Spec PyProof.Rows
noncomputable abbrev FP:=List Tr->Rs (Tr × Bool)
abbrev yM:List Value:=[.type "ValueError",.type "Exception",.type "BaseException",.type "object"]
noncomputable abbrev tx(cl:Str->Addr)(E:XK)(X:Cx):Tx:=⟨aA X.K,λc H'=>E (.ref (cl c)) none H'⟩
noncomputable def pG(K:PySem.W.Frag)(cl:Str->Addr)(n:Nat)(f:FP):Sp:=λvs H Q E=>∃G ts,vs.length=n/\au (aA K) G vs ts/\Same G H/\bJ (aA K) H/\(∀b,Tb (aA K) b->G b=none) /\
 bK ⟨aA K,λc H'=>E (.ref (cl c)) none H'⟩ H (λ_=>[]) (f ts) λp=>∀v G' H',Gw (aA K) G H G' H'->VN (aA K) H G' H' v p.1 p.2->Q v H'
noncomputable def Gk(K:PySem.W.Frag)(mg:Str->Option Value)(x:Str)(v:V)(T:Tr):Prop:=∃u,mg x=some u/\RelV v u/\∀H,Rep (aA K) H v T
inductive Ey
 |fn (x:Str) (ps:List Str) (f:FP) (l:Nat)
 |gk (x:Str) (T:Tr)
structure Cc where
 P:Program
 w:World
 K:PySem.W.Frag
 mg:Str->Option Value
 base:Heap
 cl:Str->Addr
noncomputable def Ey.nF(c:Cc):Ey->Prop
 |.fn x ps f l=>jX c.P c.w c.K c.mg c.base l x ps (pG c.K c.cl ps.length f)
 |.gk x T=>∃v,Gk c.K c.mg x v T
noncomputable abbrev Ey.ok(cl:Str->Addr)(X:Cx)(y:Ey):Prop:=y.nF ⟨X.prog,X.w,X.K,X.mg,X.base,cl⟩
structure Gx where
 N:List Str
 sc:Scope
 fn:Str->Bool
 B:List Str
 R:List Str
 nx:Bool
 k:Nat
 L:List Str
structure Ox(cl:Str->Addr)(Γ : Gx)(E:XK)(X:Cx):Prop where
 N:X.N = Γ.N
 s:X.env.scope = Γ.sc
 d:X.N.Nodup
 l:X.calm=true
 r:dU Γ.k X.A
 e:Passes (ig X.prog X.w) X E
 B:∀x∈Γ.B,X.mg x=none
 R:∀x∈Γ.R,OwnCls x (cl x) yM "ValueError.__new__" X.mg X.base/\Raises X E
 x:lK X.K
 f:X.fn = Γ.fn
 n : Γ.nx=true->X.xe=λ_ _=>False
 lm:∀x∈Γ.L,∃c P,uH X.K X.mg X.base x c P/\X.env.code=.ref c/\X.env.qual++("<lambda>" : Str)=xK x
structure Vn{τ : Type}(J:(Str->Addr)->XK->Cx -> τ -> Prop) where
 ck:Gx -> τ -> Bool
 cs:List Ey
 ok:∀{cl E Γ X e},(∀y∈cs,y.ok cl X)->Ox cl Γ E X->ck Γ e=true->J cl E X e
noncomputable abbrev VE(f:EF):=Vn λcl E X e=>PE X e (Te (tx cl E X) f)
noncomputable abbrev VT(f:BF):=Vn λcl E X e=>PT X e (Tt (tx cl E X) f)
noncomputable abbrev VO(f:OF):=Vn λcl E X e=>PO X e (To (tx cl E X) f)
noncomputable abbrev VA(f:AF):=Vn λcl E X e=>PA X e (Ta (tx cl E X) f)/\(∀ρ p,f ρ=.ok p->p.1.length=e.length)/\∀x∈e,notStar x=true
theorem an{a b:Bool}:(a&&b)=true↔a=true/\b=true:=by simp
theorem ml{P:Ey->Prop}{l m:List Ey}(h:∀y∈l++m,P y):∀y∈l,P y:=λy q=>h y (List.mem_append_left _ q)
theorem mr{P:Ey->Prop}{l m:List Ey}(h:∀y∈l++m,P y):∀y∈m,P y:=λy q=>h y (List.mem_append_right _ q)
theorem PT.imp(h:PT X e t)(i:∀σ H Q,u σ H Q->t σ H Q):PT X e u:=⟨λpins s σ H Q I q=>h pins s σ H Q I (i σ H Q q)⟩
theorem PO.imp(h:PO X e t)(i:∀σ H Q,u σ H Q->t σ H Q):PO X e u:=λpins s σ H Q I q=>h pins s σ H Q I (i σ H Q q)
noncomputable def bx(i:Nat):EF:=λρ=>match ρ[i]? with
 |some (.sh T)=>.ok (.v T false,ρ)
 |some (.ow _)=>.ok (.s i,ρ)
 |some (.rf _)=>.ok (.s i,ρ)
 |_=>.bad
noncomputable def j4(Γ : Gx)(i:Nat)(x:Str):Bool := Γ.N[i]? == some x&&(Γ.sc.names.lookup x == some .local || Γ.sc.names.lookup x == some .cell || Γ.sc.names.lookup x == some .free) && !(x == ("__debug__" : Str)) && !(x == ("__classdict__" : Str))
theorem qU(o:Ox cl Γ E X)(h:j4 Γ i x=true):PE X (.Name x p) (tU i):=by
 simp only[j4,an]at h
 obtain⟨⟨⟨h1,h2⟩,h3⟩,h4⟩:=h
 exact La (by rw[o.N]; exact eq_of_beq h1) (by rw[o.s]; unfold wC; simpa[or_assoc]using h2) (by simpa using h3) (by simpa using h4)
theorem aeb(h:Te t (bx i) σ H Q):tU i σ H Q:=by
 obtain⟨R,ρ,G,F,e,h⟩:=h
 have z:=e.sl i
 unfold bx at h
 split at h <;> rename_i k <;> (try exact h.elim) <;> rw[k]at z
 .obtain⟨_,v,h1,h2⟩:=z
  exact⟨v,h1,h v G H F e .refl (.low h2)⟩
 all_goals
  obtain⟨a,xs,h1,_⟩:=z
  exact⟨_,h1,h _ G H F e .refl h1⟩
noncomputable def aj(i:Nat):VE (bx i) where
 ck Γ e:=atName e λx _=>j4 Γ i x
 cs:=[]
 ok _ o h:=by
  walk_at "o"
  exact(qU o h).imp λ_ _ _=>aeb
noncomputable def eC(T:Tr):EF:=λρ=>.ok (.v T false,ρ)
theorem uJ(r:∀H,Rep t.K H v T)(h:Te t (eC T) σ H Q):tC v σ H Q:=by
 obtain⟨R,ρ,G,F,e,h⟩:=h
 exact h v G H F e .refl (.low (r _))
noncomputable def vC(T:Tr):VE (eC T) where
 ck _ e:=match e,T with
  |.Constant (.int i) _ _,.int j=>decide (i=j)
  |.Constant (.str i) _ _,.str j=>i == j
  |.Constant (.bool i) _ _,.bl j=>i == j
  |.Constant .none _ _,.non=>true
  |_,_=>false
 cs:=[]
 ok _ o h:=by
  split at h
  .cases of_decide_eq_true h; exact Ck.imp λ_ _ _=>uJ λ_=>.int _
  .cases eq_of_beq h; exact Le.imp λ_ _ _=>uJ λ_=>.str _
  .cases eq_of_beq h; exact Lb.imp λ_ _ _=>uJ λ_=>.bl _
  .exact Ld.imp λ_ _ _=>uJ λ_=>.non
  .cases h
noncomputable def ji(Γ : Gx)(x:Str):Bool := Γ.sc.names.lookup x == some .globalImplicit && !(x == ("__debug__" : Str))
theorem dI(o:Ox cl Γ E X)(h:ji Γ x=true):Gl X x/\(x == ("__debug__" : Str))=false:=by
 simp only[ji,an]at h
 exact⟨by show X.env.scope.names.lookup _=_; rw[o.s]; exact eq_of_beq h.1,by simpa using h.2⟩
noncomputable def vG(x:Str)(T:Tr):VE (eC T) where
 ck Γ e:=atName e λy _=>x == y&&ji Γ x
 cs:=[.gk x T]
 ok g o h:=by
  walk_at "o"
  simp only[an]at h
  cases eq_of_beq h.1
  obtain⟨v,u,h1,h2,h3⟩:=g _ (List.mem_singleton.mpr rfl)
  exact(aat (dI o h.2).1 h1 h2 (dI o h.2).2).imp λ_ _ _=>uJ h3
section
variable {t:Tx}{R:Addr->Prop}{ρ : En}{σ : St}{G H G0 H0 G' H':Hp}{F F0:Fp}{Q:VK}
theorem Ok.fin(e:Ok t.K R ρ σ G H F)(s:aG t.K G0 H0 F0 G H F)(w:Gw t.K G H G' H')(n:VN t.K H G' H' v T fr)(h:∀v G' H' F',Ok t.K R ρ σ G' H' F'->aG t.K G0 H0 F0 G' H' F'->fJ t.K σ H0 G' H' F' v (.v T fr)->Q v H'):Q v H':=by
 obtain⟨e',s'⟩:=e.grow w
 exact h v G' H' F e' (s.trans s') ((n.ok e).back s.dm)
noncomputable def j5(g:G2)(fa fb:EF):EF:=λρ=>(fa ρ).bind λp=>(fb p.2).bind λq=>(dr q.2 p.1).bind λa=>(dr q.2 q.1).bind λb=>(g a b).bind λz=>.ok (.v z.1 z.2,q.2)
theorem yN(o:cJ t.K r g)(h:Te t (j5 g fa fb) σ H Q):tX r (Te t fa) (Te t fb) σ H Q:=by
 obtain⟨R,ρ,G,F,e,h⟩:=h
 refine eE e .refl h λp h x G1 H1 F1 e1 s1 v1=>eE e1 s1 h λq h y G2 H2 F2 e2 s2 v2=>?_
 obtain⟨a,k1,h⟩:=h.okb (iK _ _)
 obtain⟨b,k2,h⟩:=h.okb (iK _ _)
 obtain⟨z,k3,h⟩:=h.okb (o.nx a b)
 refine o.ok G2 H2 x y a b Q e2.sub (iM e2 (v1.step e1.tb s2) k1) (iM e2 v2 k2) (by rw[k3]; exact λv G' H' w vn=>e2.fin (s1.trans s2) w.gw vn h)
noncomputable def v2(o:Operator)(r:PySem.W.Frag->R2)(g:G2)(hp:∀X,aX X (binaryOp o) (r X.K))(hs:∀K,cJ (aA K) (r K) g)(a:VE aB)(b:VE bD):VE (j5 g aB bD) where
 ck Γ e:=xV e λx p y _=>decide (p=o)&&a.ck Γ x&&b.ck Γ y
 cs:=a.cs++b.cs
 ok q O h:=by
  walk_at "o"
  simp only[an]at h
  cases of_decide_eq_true h.1.1
  exact(wR (hp _) (a.ok (ml q) O h.1.2) (b.ok (mr q) O h.2)).imp λ_ _ _=>yN (hs _)
noncomputable def Er(g:G1)(fa:EF):EF:=λρ=>(fa ρ).bind λp=>(dr p.2 p.1).bind λa=>(g a).bind λz=>.ok (.v z.1 z.2,p.2)
theorem aec(o:jY t.K r g)(h:Te t (Er g fa) σ H Q):LR r (Te t fa) σ H Q:=by
 obtain⟨R,ρ,G,F,e,h⟩:=h
 refine eE e .refl h λp h x G1 H1 F1 e1 s1 v1=>?_
 obtain⟨a,k1,h⟩:=h.okb (iK _ _)
 obtain⟨z,k3,h⟩:=h.okb (o.nx a)
 exact o.ok G1 H1 x a Q e1.sub (iM e1 v1 k1) (by rw[k3]; exact λv G' H' w vn=>e1.fin s1 w.gw vn h)
noncomputable def Es(a:VE aB):VE (Er mR aB) where
 ck Γ e:=o9 e λaM x _=>iR aM .USub (a.ck Γ x)
 cs:=a.cs
 ok q O h:=by
  walk_at "o"
  exact(CG CK (a.ok q O h)).imp λ_ _ _=>aec Ow
noncomputable def gh(fa:EF):BF:=λρ=>(fa ρ).bind λp=>(dr p.2 p.1).bind λa=>(qm a).bind λb=>.ok (b,p.2)
theorem uK{Q:Bool->Hp->Prop}(h:Tt t (gh fa) σ H Q):mZ (Te t fa) σ H Q:=by
 obtain⟨R,ρ,G,F,e,h⟩:=h
 refine eE e .refl h λp h x G1 H1 F1 e1 s1 v1=>?_
 obtain⟨a,k1,h⟩:=h.okb (iK _ _)
 obtain⟨b,k2,h⟩:=h.okb (OD _)
 exact⟨b,OJ (iM e1 v1 k1) k2,h G1 H1 F1 e1 s1⟩
noncomputable def yP(fa:EF):BF:=λρ=>(fa ρ).bind λp=>(dr p.2 p.1).bind λa=>(mQ a).bind λb=>.ok (b,p.2)
noncomputable def Et(f g:BF):BF:=λρ=>(f ρ).bind λp=>if p.1=true then g p.2 else .ok (false,p.2)
noncomputable def Eu(f g:BF):BF:=λρ=>(f ρ).bind λp=>if p.1=true then .ok (true,p.2)else g p.2
noncomputable def yQ(f:BF):BF:=λρ=>(f ρ).bind λp=>.ok (!p.1,p.2)
theorem bK.go{α : Type}{r:Rs α}{P P' : α -> Prop}(s:aG t.K G0 H0 F0 G H F)(h:bK t H0 F0 r P)(k:∀a,P a->P' a):bK t H F r P':=by
 cases r with
 |bad=>exact h
 |ex c=>exact λH' f=>h H' (s.back f)
 |ok a=>exact k a h
theorem yR(e:Ok t.K R ρ σ G H F)(s:aG t.K G0 H0 F0 G H F)(h:bK t H0 F0 (f ρ) λp=>∀v G' H' F',Ok t.K R p.2 σ G' H' F'->aG t.K G0 H0 F0 G' H' F'->fJ t.K σ H0 G' H' F' v p.1->Q v H'):Te t f σ H Q :=
 ⟨R,ρ,G,F,e,h.go s λp h v G' H' F' e' s' v'=>h v G' H' F' e' (s.trans s') (v'.back s.dm)⟩
theorem PL{Q:Bool->Hp->Prop}(e:Ok t.K R ρ σ G H F)(s:aG t.K G0 H0 F0 G H F)(h:bK t H0 F0 (f ρ) λp=>∀G' H' F',Ok t.K R p.2 σ G' H' F'->aG t.K G0 H0 F0 G' H' F'->Q p.1 H'):Tt t f σ H Q :=
 ⟨R,ρ,G,F,e,h.go s λp h G' H' F' e' s'=>h G' H' F' e' (s.trans s')⟩
theorem aed{Q:Bool->Hp->Prop}(h:Tt t (yQ f) σ H Q):Lh (Tt t f) σ H Q:=by
 obtain⟨R,ρ,G,F,e,h⟩:=h
 exact lO e .refl h λp h G1 H1 F1 e1 s1=>h G1 H1 F1 e1 s1
theorem aee{Q:Bool->Hp->Prop}(h:Tt t (Et f g) σ H Q):Lf (Tt t f) (Tt t g) σ H Q:=by
 obtain⟨R,ρ,G,F,e,h⟩:=h
 refine lO e .refl h λp h G1 H1 F1 e1 s1=>?_
 split at h <;> rename_i c
 .rw[if_pos c]; exact PL e1 s1 h
 .rw[if_neg c]; exact h G1 H1 F1 e1 s1
theorem aef{Q:Bool->Hp->Prop}(h:Tt t (Eu f g) σ H Q):Lg (Tt t f) (Tt t g) σ H Q:=by
 obtain⟨R,ρ,G,F,e,h⟩:=h
 refine lO e .refl h λp h G1 H1 F1 e1 s1=>?_
 split at h <;> rename_i c
 .rw[if_pos c]; exact h G1 H1 F1 e1 s1
 .rw[if_neg c]; exact PL e1 s1 h
noncomputable def eB(b:Bool):Rv:=.v (.bl b) false
noncomputable def Ew(f g:EF):EF:=λρ=>(gh f ρ).bind λp=>if p.1=true then g p.2 else .ok (eB false,p.2)
noncomputable def Ez(f g:EF):EF:=λρ=>(gh f ρ).bind λp=>if p.1=true then .ok (eB true,p.2)else g p.2
noncomputable def EY(f:EF):EF:=λρ=>(gh f ρ).bind λp=>.ok (eB (!p.1),p.2)
noncomputable def uL(c:BF)(f g:EF):EF:=λρ=>(c ρ).bind λp=>if p.1=true then f p.2 else g p.2
theorem aeg(h:Te t (uL c f g) σ H Q):Lp (Tt t c) (Te t f) (Te t g) σ H Q:=by
 obtain⟨R,ρ,G,F,e,h⟩:=h
 refine lO e .refl h λp h G1 H1 F1 e1 s1=>?_
 split at h <;> rename_i c
 .rw[if_pos c]; exact yR e1 s1 h
 .rw[if_neg c]; exact yR e1 s1 h
theorem aeh(h:Te t (Ew f g) σ H Q):Li (Te t f) (Te t g) σ H Q:=by
 obtain⟨R,ρ,G,F,e,h⟩:=h
 refine uK (lO (f:=gh f) e .refl h λp h G1 H1 F1 e1 s1=>?_)
 split at h <;> rename_i c
 .rw[if_pos c]; exact yR e1 s1 h
 .rw[if_neg c]; exact h _ G1 H1 F1 e1 s1 (.low (.bl _))
theorem aei(h:Te t (Ez f g) σ H Q):Lj (Te t f) (Te t g) σ H Q:=by
 obtain⟨R,ρ,G,F,e,h⟩:=h
 refine uK (lO (f:=gh f) e .refl h λp h G1 H1 F1 e1 s1=>?_)
 split at h <;> rename_i c
 .rw[if_pos c]; exact h _ G1 H1 F1 e1 s1 (.low (.bl _))
 .rw[if_neg c]; exact yR e1 s1 h
theorem aej(h:Te t (EY f) σ H Q):Ln (Te t f) σ H Q:=by
 obtain⟨R,ρ,G,F,e,h⟩:=h
 exact uK (lO (f:=gh f) e .refl h λp h G1 H1 F1 e1 s1=>h _ G1 H1 F1 e1 s1 (.low (.bl _)))
end
noncomputable def PN(a:VE aB):VE (EY aB) where
 ck Γ e:=o9 e λaM x _=>iR aM .Not (a.ck Γ x)
 cs:=a.cs
 ok q O h:=by
  walk_at "o"
  exact(aaD (a.ok q O h)).imp λ_ _ _=>aej
noncomputable abbrev VQ(f:EF):=Vn λcl E X e=>PE X e (Te (tx cl E X) f)/\PT X e (Tt (tx cl E X) (gh f))
noncomputable def vK(a:VQ f):VE f:=⟨a.ck,a.cs,λq O h=>(a.ok q O h).1⟩
noncomputable def tK(a:VQ f):VT (gh f):=⟨a.ck,a.cs,λq O h=>(a.ok q O h).2⟩
theorem mZ.imp{a b:TE}(i:∀Q,a σ H Q->b σ H Q)(h:mZ a σ H Q):mZ b σ H Q:=i _ h
structure Cq(g:G2) where
 o:CmpOp
 r:PySem.W.Frag->R2
 p:∀X:Cx,X.A.units+64<cLine->aX X (compareOp o) (r X.K)
 s:∀K,cJ (aA K) (r K) g
theorem qW(o:Ox cl Γ E X):X.A.units+64<cLine:=by have:=o.r.un; lia
noncomputable def aN(z:Cq g)(a:VE aB)(b:VE bD):VQ (j5 g aB bD) where
 ck Γ e:=ux e λx aM bh _=>aQ aM λp bF=>aV bF (aQ bh λy bY=>aV bY (decide (p=z.o)&&a.ck Γ x&&b.ck Γ y && !behindInMarks p y))
 cs:=a.cs++b.cs
 ok q O h:=by
  walk_at "o"
  simp only[an]at h
  obtain⟨⟨⟨h1,h2⟩,h3⟩,h4⟩:=h
  cases of_decide_eq_true h1
  have pa:=a.ok (ml q) O h2
  have pb:=b.ok (mr q) O h3
  have h4:=(Bool.not_eq_true' _).mp h4
  exact⟨(abu (z.p _ (qW O)) pa pb h4).imp λ_ _ _=>yN (z.s _),(abv (z.p _ (qW O)) pa pb h4).imp λ_ _ _ h=>mZ.imp (λ_=>yN (z.s _)) (uK h)⟩
noncomputable def Fb(g g':G2)(fa fb fc:EF):EF:=λρ=>(fa ρ).bind λp=>(fb p.2).bind λq=>(dr q.2 p.1).bind λa=>(dr q.2 q.1).bind λb=>(g a b).bind λz=>(qm z.1).bind λk =>
 if k=true then(fc q.2).bind λs=>(dr s.2 q.1).bind λb=>(dr s.2 s.1).bind λc=>(g' b c).bind λz=>.ok (.v z.1 z.2,s.2)else .ok (eB false,q.2)
theorem PX(o:cJ t.K r g)(o':cJ t.K r' g')(h:Te t (Fb g g' fa fb fc) σ H Q):CN r r' (Te t fa) (Te t fb) (Te t fc) σ H Q:=by
 obtain⟨R,ρ,G,F,e,h⟩:=h
 refine eE e .refl h λp h x G1 H1 F1 e1 s1 v1=>eE e1 s1 h λq h y G2 H2 F2 e2 s2 v2=>?_
 obtain⟨a,k1,h⟩:=h.okb (iK _ _)
 obtain⟨b,k2,h⟩:=h.okb (iK _ _)
 obtain⟨z,k3,h⟩:=h.okb (o.nx a b)
 obtain⟨k,k4,h⟩:=h.okb (OD _)
 refine o.ok G2 H2 x y a b _ e2.sub (iM e2 (v1.step e1.tb s2) k1) (iM e2 v2 k2) (by
  rw[k3]
  refine λv G3 H3 w vn=>?_
  obtain⟨e3,s3⟩:=e2.grow w.gw
  have Fd:=(s1.trans s2).trans s3
  refine⟨k,OJ (K:=t.K) (G:=G3) (H:=H3) (.inl ?_) k4,?_⟩
  .obtain⟨T,fr⟩:=z
   cases fr
   .exact vn
   .obtain⟨_,_,_,_,rfl,_⟩:=vn; cases k4
  split at h <;> rename_i c
  .rw[if_pos c]
   refine eE e3 Fd h λu h w G4 H4 F4 e4 s4 v4=>?_
   obtain⟨b',k5,h⟩:=h.okb (iK _ _)
   obtain⟨c',k6,h⟩:=h.okb (iK _ _)
   obtain⟨z',k7,h⟩:=h.okb (o'.nx b' c')
   exact o'.ok G4 H4 y w b' c' Q e4.sub (iM e4 ((v2.step e2.tb s3).step e3.tb s4) k5) (iM e4 v4 k6) (by rw[k7]; exact λv G' H' w vn=>e4.fin (Fd.trans s4) w.gw vn h)
  .rw[if_neg c]
   exact h _ G3 H3 F2 e3 Fd (.low (.bl _)))
noncomputable def qX(z:Cq g)(z':Cq g')(a:VE aB)(b:VE bD)(d:VE d_f):VQ (Fb g g' aB bD d_f) where
 ck Γ e:=ux e λx aM bh _=>aQ aM λp bF=>aQ bF λp' bY=>aV bY (aQ bh λy cV=>aQ cV λw dJ=>aV dJ (decide (p=z.o)&&decide (p'=z'.o)&&a.ck Γ x&&b.ck Γ y&&d.ck Γ w && !lastMarks [p,p'] [y,w]))
 cs:=a.cs++(b.cs++d.cs)
 ok q O h:=by
  walk_at "o"
  simp only[an]at h
  obtain⟨⟨⟨⟨⟨h1,h2⟩,h3⟩,h4⟩,h5⟩,h6⟩:=h
  cases of_decide_eq_true h1
  cases of_decide_eq_true h2
  have pa:=a.ok (ml q) O h3
  have pb:=b.ok (ml (mr q)) O h4
  have pd:=d.ok (mr (mr q)) O h5
  have h6:=(Bool.not_eq_true' _).mp h6
  exact⟨(abw (z.p _ (qW O)) (z'.p _ (qW O)) pa pb pd h6).imp λ_ _ _=>PX (z.s _) (z'.s _),(abx (z.p _ (qW O)) (z'.p _ (qW O)) pa pb pd h6).imp λ_ _ _ h=>mZ.imp (λ_=>PX (z.s _) (z'.s _)) (uK h)⟩
noncomputable def cM(a:VT aB):VT (yQ aB) where
 ck Γ e:=o9 e λaM x _=>iR aM .Not (a.ck Γ x)
 cs:=a.cs
 ok q O h:=by
  walk_at "o"
  exact(aaz (a.ok q O h)).imp λ_ _ _=>aed
noncomputable def P0:Expr->Bool
 |.UnaryOp .Not _ _=>false
 |.BoolOp .. => false
 |.IfExp .. => false
 |.Compare .. => false
 |_=>true
theorem aek(h:P0 e=true):∀whole,isTrue e env whole=(do let v <-whole; standAt e.pos; holding [v] (truthy v)):=by
 intro w
 cases e <;> try cases h
 all_goals first|rfl|skip
 next o _ _=>cases o <;> first|rfl|cases h
noncomputable def bZ(a:VE aB):VT (yP aB) where
 ck Γ e:=P0 e&&a.ck Γ e
 cs:=a.cs
 ok q O h:=by
  simp only[an]at h
  refine(abz (a.ok q O h.2) (aek h.1)).imp λσ H Q=>bR λR ρ G F e h=>eE e .refl h λp h x G1 H1 F1 e1 s1 v1=>?_
  obtain⟨a,k1,h⟩:=h.okb (iK _ _)
  obtain⟨b,k2,h⟩:=h.okb (adG _)
  exact⟨b,adH e1.sub (iM e1 v1 k1) k2,h G1 H1 F1 e1 s1⟩
theorem PW.imp(h:PW X e t)(i:∀σ H Q,u σ H Q->t σ H Q):PW X e u:=⟨λwh pins s σ H Q I q=>h.run wh pins s σ H Q I (i σ H Q q)⟩
noncomputable abbrev VW(b:BoolOp)(f:BF):=Vn λcl E X e=>∀p,PW X (.BoolOp b e p) (Tt (tx cl E X) f)
noncomputable def w1(b:BoolOp)(a:VT aB):VW b (aB) where
 ck Γ e:=aQ e λx aM=>aV aM (a.ck Γ x)
 cs:=a.cs
 ok q O h:=by
  walk_at "o"
  exact λp=>by cases b <;> first|exact aav (a.ok q O h)|exact aaw (a.ok q O h)
noncomputable def wA(a:VT aB)(r:VW .And dK):VW .And (Et aB dK) where
 ck Γ e:=aQ e λx aM=>aQ aM λy l=>a.ck Γ x&&r.ck Γ (y::l)
 cs:=a.cs++r.cs
 ok q O h:=by
  walk_at "o"
  simp only[an]at h
  exact λp=>(aax (a.ok (ml q) O h.1) (r.ok (mr q) O h.2 p)).imp λ_ _ _=>aee
noncomputable def wO(a:VT aB)(r:VW .Or dK):VW .Or (Eu aB dK) where
 ck Γ e:=aQ e λx aM=>aQ aM λy l=>a.ck Γ x&&r.ck Γ (y::l)
 cs:=a.cs++r.cs
 ok q O h:=by
  walk_at "o"
  simp only[an]at h
  exact λp=>(aay (a.ok (ml q) O h.1) (r.ok (mr q) O h.2 p)).imp λ_ _ _=>aef
noncomputable def tW(b:BoolOp)(r:VW b dK):VT (dK) where
 ck Γ e:=uy e λp l _=>decide (p=b)&&r.ck Γ l
 cs:=r.cs
 ok q O h:=by
  walk_at "o"
  simp only[an]at h
  cases of_decide_eq_true h.1
  exact(r.ok q O h.2 _).pt
noncomputable abbrev VV(b:BoolOp)(f:EF):=Vn λcl E X e=>∀p,PE X (.BoolOp b e p) (Te (tx cl E X) f)
noncomputable def u1(b:BoolOp)(a:VE aB):VV b (aB) where
 ck Γ e:=aQ e λx aM=>aV aM (a.ck Γ x)
 cs:=a.cs
 ok q O h:=by
  walk_at "o"
  exact λp=>aaA (a.ok q O h)
noncomputable def uA(a:VE aB)(r:VV .And dK):VV .And (Ew aB dK) where
 ck Γ e:=aQ e λx aM=>aQ aM λy l=>a.ck Γ x&&r.ck Γ (y::l)
 cs:=a.cs++r.cs
 ok q O h:=by
  walk_at "o"
  simp only[an]at h
  exact λp=>(aaB (a.ok (ml q) O h.1) (r.ok (mr q) O h.2 p)).imp λ_ _ _=>aeh
noncomputable def uO(a:VE aB)(r:VV .Or dK):VV .Or (Ez aB dK) where
 ck Γ e:=aQ e λx aM=>aQ aM λy l=>a.ck Γ x&&r.ck Γ (y::l)
 cs:=a.cs++r.cs
 ok q O h:=by
  walk_at "o"
  simp only[an]at h
  exact λp=>(aaC (a.ok (ml q) O h.1) (r.ok (mr q) O h.2 p)).imp λ_ _ _=>aei
noncomputable def vV(b:BoolOp)(r:VV b dK):VE (dK) where
 ck Γ e:=uy e λp l _=>decide (p=b)&&r.ck Γ l
 cs:=r.cs
 ok q O h:=by
  walk_at "o"
  simp only[an]at h
  cases of_decide_eq_true h.1
  exact r.ok q O h.2 _
noncomputable def yS(t:VT Fe)(a:VE aB)(b:VE bD):VE (uL Fe aB bD) where
 ck Γ e:=xW e λz x y _=>t.ck Γ z&&a.ck Γ x&&b.ck Γ y
 cs:=t.cs++(a.cs++b.cs)
 ok q O h:=by
  walk_at "o"
  simp only[an]at h
  exact(aaE (t.ok (ml q) O h.1.1) (a.ok (ml (mr q)) O h.1.2) (b.ok (mr (mr q)) O h.2)).imp λ_ _ _=>aeg
noncomputable def yU:Expr->Bool
 |.Slice .. => false
 |_=>true
theorem Fg(h:yU b=true):M7 b:=λo i=>by
 cases b <;> first|rfl|cases h
noncomputable def aq(a:VE aB)(b:VE bD):VE (j5 aW aB bD) where
 ck Γ e:=nA e λx y _=>yU y&&a.ck Γ x&&b.ck Γ y
 cs:=a.cs++b.cs
 ok q O h:=by
  walk_at "o"
  simp only[an]at h
  exact(Dc Dd (a.ok (ml q) O h.1.2) (b.ok (mr q) O h.2) (Fg h.1.1)).imp λ_ _ _=>yN Ov
section
variable {t:Tx}{K:PySem.W.Frag}{R:Addr->Prop}{ρ : En}{σ : St}{G H G0 H0 G' H':Hp}{F F0:Fp}{Q:VK}
theorem cU.step(tb:bJ K H)(s:aG K G H F G' H' F'):∀{vs:List V} {rs:List Rv},cU K σ Hs G H F vs rs->cU K σ Hs G' H' F' vs rs
 |_,_,.nil=>.nil
 |_,_,.cons h r=>.cons (h.step tb s) (cU.step tb s r)
theorem cU.back(d:∀b,H1 b=none->H b=none):∀{vs:List V} {rs:List Rv},cU K σ H1 G' H' F' vs rs->cU K σ H G' H' F' vs rs
 |_,_,.nil=>.nil
 |_,_,.cons h r=>.cons (h.back d) (cU.back d r)
theorem cU.length:∀{vs:List V} {rs:List Rv},cU K σ Hs G H F vs rs->vs.length=rs.length
 |_,_,.nil=>rfl
 |_,_,.cons _ r=>by rw[List.length_cons,List.length_cons,cU.length r]
noncomputable def drs(ρ : En):List Rv->Rs (List Tr)
 | []=>.ok []
 |r::rs=>(dr ρ r).bind λt=>(drs ρ rs).bind λts=>.ok (t::ts)
theorem yV{α β : Type}{r:Rs α}{f : α -> Rs β}(h1:∀c,r ≠ .ex c)(h2:∀a c,f a ≠ .ex c)(c:Str):r.bind f ≠ .ex c:=by
 cases r with
 |bad=>intro z; cases z
 |ex d=>exact(h1 d rfl).elim
 |ok a=>exact h2 a c
theorem bT{α β : Type}{r:Rs α}{f : α -> Rs β}{b : β}(h:r.bind f=.ok b):∃a,r=.ok a/\f a=.ok b:=by
 cases r with
 |bad=>cases h
 |ex c=>cases h
 |ok a=>exact⟨a,rfl,h⟩
theorem yW(ρ : En):∀(rs:List Rv) (c:Str),drs ρ rs ≠ .ex c
 | [],c=>by intro z; cases z
 |r::rs,c=>yV (iK ρ r) (λ_=>yV (yW ρ rs) λ_ _ z=>by cases z) c
theorem yX(e:Ok K R ρ σ G H F):∀{vs:List V} {rs:List Rv} {ts:List Tr},cU K σ Hs G H F vs rs->drs ρ rs=.ok ts->lQ K G H vs ts
 |_,_,_,.nil,q=>by cases q; exact .nil
 |_,_,_,.cons h r,q=>by
  obtain⟨t,q1,q⟩:=bT q
  obtain⟨ts,q2,q⟩:=bT q
  cases q
  exact .cons (iM e h q1) (yX e r q2)
noncomputable def cls:List Rv->Rs (List Tr)
 | []=>.ok []
 |.v t _::rs=>(cls rs).bind λts=>.ok (t::ts)
 |.s _::_=>.bad
theorem uM:∀(rs:List Rv) (c:Str),cls rs ≠ .ex c
 | [],c=>by intro z; cases z
 |.s _::_,c=>by intro z; cases z
 |.v t _::rs,c=>yV (uM rs) (λ_ _ z=>by cases z) c
theorem cU.vis(nR:∀b,Hs b=none->¬R b):∀{vs:List V} {rs:List Rv} {ts:List Tr} {G1:Hp},cU K σ Hs G H F vs rs->cls rs=.ok ts->Same G G1->Ok K R ρ σ G1 H F->(∀b,G1 b≠none->G b≠none\/Hs b=none) ->
  ∃G2,Same G1 G2/\Ok K R ρ σ G2 H F/\(∀b,G2 b≠none->G b≠none\/Hs b=none)/\au K G2 vs ts
 |_,_,_,G1,.nil,q,_,e,n=>by cases q; exact⟨G1,Same.refl _,e,n,.nil⟩
 |_,.s _::_,_,_,.cons _ _,q,_,_,_=>by cases q
 |_,.v T false::rs,_,G1,.cons h r,q,m,e,n=>by
  obtain⟨ts,q1,q⟩:=bT q
  cases q
  obtain⟨G2,m2,e2,n2,r2⟩:=cU.vis nR r q1 m e n
  exact⟨G2,m2,e2,n2,.cons (Rep.mono (m.trans m2) h.1) r2⟩
 |_,.v T true::rs,_,G1,.cons ⟨⟨a,xs,us,e1,e2,hs,_,ha,ra⟩,f⟩ r,q,m,e,n=>by
  obtain⟨ts,q1,q⟩:=bT q
  cases q
  obtain⟨e',m'⟩:=e.show ha (f rfl a e1) (nR a hs)
  obtain⟨G2,m2,e3,n2,r2⟩:=cU.vis nR r q1 (m.trans m') e' λb z=>by
   by_cases y:b=a
   .subst y; exact .inr hs
   .rw[aK y]at z; exact n b z
  subst e1; subst e2
  exact⟨G2,m'.trans m2,e3,n2,.cons (.lst (aH.of (m2 a _ cu)) (ra.mono (m.trans (m'.trans m2)))) r2⟩
theorem Ok.vis(e:Ok K R ρ σ G H F)(e0:Ok K R ρ0 σ0 G0 H0 F0)(s:aG K G0 H0 F0 G H F)(h:cU K σ H0 G H F vs rs)(q:cls rs=.ok ts):∃G2,Ok K R ρ σ G2 H F/\aG K G0 H0 F0 G2 H F/\Same G G2/\au K G2 vs ts:=by
 obtain⟨G2,m,e2,n,r⟩:=h.vis (λb=>e0.rn) q (Same.refl _) e λb z=>.inl z
 exact⟨G2,e2,⟨s.gg.trans m,s.fr,λb z=>(n b z).elim (s.nw b) λz=>.inr (.inl z),s.nf,s.dm⟩,m,r⟩
noncomputable def qY:Rv->Rs Tr
 |.v T _=>.ok T
 |.s _=>.bad
theorem Qa(r:Rv)(c:Str):qY r ≠ .ex c:=by cases r <;> (intro z; cases z)
theorem Ok.pH(e:Ok K R ρ σ G H F)(e0:Ok K R ρ0 σ0 G0 H0 F0)(s:aG K G0 H0 F0 G H F)(h:fJ K σ H0 G H F v r)(q:qY r=.ok T):∃G2,Ok K R ρ σ G2 H F/\aG K G0 H0 F0 G2 H F/\Same G G2/\Rep K G2 v T:=by
 cases r with
 |s i=>cases q
 |v U fr =>
  cases q
  obtain⟨G2,e2,s2,m,r⟩:=e.vis (vs:=[v]) e0 s (.cons h .nil) rfl
  cases r with
  |cons r _=>exact⟨G2,e2,s2,m,r⟩
noncomputable def dR:AF:=λρ=>.ok ([],ρ)
noncomputable def cF(f:EF)(g:AF):AF:=λρ=>(f ρ).bind λp=>(g p.2).bind λq=>.ok (p.1::q.1,q.2)
end
noncomputable def ao:VA dR where
 ck _ e:=e.isEmpty
 cs:=[]
 ok:=@λ_ _ _ X e _ _ h=>by
  cases e <;> try cases h
  exact⟨tY.imp λσ H Q=>bR λR ρ G F e h=>h [] G H F e .refl .nil,λρ p h=>(by cases h; rfl),λ_ z=>nomatch z⟩
noncomputable def ak(a:VE aB)(r:VA dK):VA (cF aB dK) where
 ck Γ e:=aQ e λx y=>notStar x&&a.ck Γ x&&r.ck Γ y
 cs:=a.cs++r.cs
 ok q O h:=by
  walk_at "o"
  simp only[an]at h
  obtain⟨pb,lb,nb⟩:=r.ok (mr q) O h.2
  exact⟨(oW (a.ok (ml q) O h.1.2) pb (fW h.1.1)).imp λσ H Q=>bR λR ρ G F e h=>eE e .refl h λp h x G1 H1 F1 e1 s1 v1=>jf e1 s1 h λq h xs G2 H2 F2 e2 s2 v2=>h (x::xs) G2 H2 F2 e2 (s1.trans s2) (.cons (v1.step e1.tb s2) (v2.back s1.dm)),λρ p q=>(by
   obtain⟨a,q1,q⟩:=bT q
   obtain⟨b,q2,q⟩:=bT q
   cases q
   rw[List.length_cons,lb _ _ q2,List.length_cons]),List.forall_mem_cons.mpr ⟨h.1.1,nb⟩⟩
theorem qZ:∀{es:List Expr},(∀x∈es,notStar x=true)->∀env,(backTo pos (starEach es env)).any (·.1)=false
 | [],_,_=>rfl
 |e::es,h,env=>by
  rw[fW (h e (List.mem_cons_self ..))]
  exact qZ (λx q=>h x (List.mem_cons_of_mem _ q)) env
noncomputable def Qc(g:AF):EF:=λρ=>(g ρ).bind λp=>(cls p.1).bind λts=>if ts.length<=1000 then .ok (.v (.lst ts) true,p.2)else .bad
noncomputable def Qd(g:AF):EF:=λρ=>(g ρ).bind λp=>(cls p.1).bind λts=>if ts.length<=1000 then .ok (.v (.tup ts) false,p.2)else .bad
noncomputable def fL(a:VA aB):VE (Qd aB) where
 ck Γ e:=iQ e λl _ _=>a.ck Γ l
 cs:=a.cs
 ok q O h:=by
  walk_at "o"
  refine(CT (a.ok q O h).1).imp λσ H Q=>bR λR ρ G F e h=>jf e .refl h λp h vs G1 H1 F1 e1 s1 v1=>?_
  obtain⟨ts,k1,h⟩:=h.okb (uM _)
  obtain⟨G2,e2,s2,_,r⟩:=e1.vis e s1 v1 k1
  split at h
  .exact⟨by rw[r.length]; exact Nat.le_trans ‹_› (by decide),λp hp=>e2.fin s2 (.new e2.sub hp) (.newT e2.sub hp r) h⟩
  .exact h.elim
noncomputable def dM(a:VA aB):VE (Qc aB) where
 ck Γ e:=uz e λl _=>a.ck Γ l
 cs:=a.cs
 ok q O h:=by
  walk_at "o"
  refine(Ml (a.ok q O h).1).imp λσ H Q=>bR λR ρ G F e h=>jf e .refl h λp h vs G1 H1 F1 e1 s1 v1=>?_
  obtain⟨ts,k1,h⟩:=h.okb (uM _)
  obtain⟨G2,e2,s2,_,r⟩:=e1.vis e s1 v1 k1
  split at h
  .exact⟨by rw[r.length]; exact Nat.le_trans ‹_› (by decide),λp hp=>e2.fin s2 (.flt e2.sub hp) (.flt e2.sub hp r) h⟩
  .exact h.elim
open Classical in
noncomputable def pI(G H0:Hp):Hp->Hp:=λH b=>if H0 b=none then H b else if H b=G b then G b else none
theorem Fi(G H0:Hp):Pj (pI G H0) H0:=⟨λs b o h=>(by
  unfold pI at h ⊢
  split at h
  .rw[if_pos ‹_›]; exact s b o h
  .rw[if_neg ‹_›]
   split at h
   .rename_i e
    rw[h]at e ⊢
    rw[if_pos (s b o e)]
   .cases h),λH b o h=>(by
  unfold pI at h
  split at h
  .exact h
  .split at h
   .rw[‹H b=G b›]; exact h
   .cases h),λs h=>by
  unfold pI
  rw[if_pos (s.free h),cu]⟩
theorem Qe{K:PySem.W.Frag}(g:Same G H)(s:Same H H'):Gw K G H (pI G H H') H':=⟨λb o h=>by
  have q:=s b o (g b o h)
  unfold pI
  rw[if_neg (by rw[g b o h]; exact λz=>by cases z),q,h]
  exact if_pos rfl,λb o h _=>s b o h,(Fi G H).sub H',λt=>t.fr λb o _ h=>s b o h,λb h=>by
  unfold pI at h
  split at h
  .exact .inr ‹_›
  .split at h
   .exact .inl h
   .exact(h rfl).elim⟩
noncomputable def Kr(Ts:List Tr):EF:=λρ=>.ok (.v (.lst Ts) true,ρ)
mutual
noncomputable def Qf:Tr->Tr->Bool
 |.non,.non=>true
 |.bl a,.bl b=>a == b
 |.int a,.int b=>decide (a=b)
 |.str a,.str b=>a == b
 |.tup a,.tup b=>uN a b
 |.lst a,.lst b=>uN a b
 |_,_=>false
noncomputable def uN:List Tr->List Tr->Bool
 | [],[]=>true
 |a::l,b::m=>Qf a b&&uN l m
 |_,_=>false
end
mutual
theorem ael:∀{a b:Tr},Qf a b=true->a=b
 |.non,b,h=>by cases b <;> first|rfl|cases h
 |.bl a,b,h=>by cases b <;> first|cases h; done|rw[eq_of_beq h]
 |.int a,b,h=>by cases b <;> first|cases h; done|rw[of_decide_eq_true h]
 |.str a,b,h=>by cases b <;> first|cases h; done|rw[eq_of_beq h]
 |.tup a,b,h=>by cases b <;> first|cases h; done|rw[yZ h]
 |.lst a,b,h=>by cases b <;> first|cases h; done|rw[yZ h]
 |.bB a,b,h=>by cases h
theorem yZ:∀{a b:List Tr},uN a b=true->a=b
 | [],[],_=>rfl
 |a::l,b::m,h=>by
  obtain⟨h1,h2⟩:=an.mp h
  rw[ael h1,yZ h2]
end
noncomputable def Fj:Option (List Tr)->List Tr->Bool
 |some Us,Ts=>uN Us Ts
 |none,_=>false
theorem Qg(h:Fj o Ts=true):o=some Ts:=by
 cases o <;> first|cases h; done|rw[yZ h]
noncomputable def mD(Ts:List Tr):VE (eC (.tup Ts)) where
 ck _ e:=iQ e λl _ _=>Fj (fZ l) Ts
 cs:=[]
 ok:=@λ_ _ _ X e _ _ h=>by
  walk_at "o"
  refine(adS (G:=aA X.K) (Qg h)).imp λσ H Q ⟨R,ρ,G,F,e,h⟩ v H' s r=>?_
  exact e.fin .refl (Qe e.sub s) (show VN _ _ _ _ _ _ false from r _ (Fi _ _)) h
noncomputable def Fo(Ts:List Tr):VE (Kr Ts) where
 ck _ e:=uz e λl _=>Fj (fZ l) Ts
 cs:=[]
 ok:=@λ_ _ _ X e _ _ h=>by
  walk_at "o"
  refine(adR (G:=aA X.K) (Qg h)).imp λσ H Q ⟨R,ρ,G,F,e,h⟩ a xs H1 s ha r _=>?_
  obtain⟨e1,s1⟩:=e.grow (Qe e.sub s)
  exact e1.fin s1 (.flt e1.sub ha) (.flt e1.sub ha (r _ (Fi _ _))) h
noncomputable def v7:OF:=λρ=>.ok (none,ρ)
noncomputable def zf(fa:EF):OF:=λρ=>(fa ρ).bind λp=>(dr p.2 p.1).bind λa=>(Ei a).bind λb=>.ok (some b,p.2)
noncomputable def oN:VO v7 where
 ck _ e:=e.isNone
 cs:=[]
 ok:=@λ_ _ _ X e _ _ h=>by
  cases e <;> try cases h
  exact ab3.imp λσ H Q=>bR λR ρ G F e h=>h G H F e .refl
noncomputable def oS(a:VE aB):VO (zf aB) where
 ck Γ e:=pA e λx=>a.ck Γ x
 cs:=a.cs
 ok q O h:=by
  walk_at "o"
  refine(ab4 (a.ok q O h)).imp λσ H Q=>bR λR ρ G F e h=>eE e .refl h λp h x G1 H1 F1 e1 s1 v1=>?_
  obtain⟨a,k1,h⟩:=h.okb (iK _ _)
  obtain⟨b,k2,h⟩:=h.okb (adE _)
  exact⟨b,adF (iM e1 v1 k1) k2,h G1 H1 F1 e1 s1⟩
noncomputable def cut{α : Type}(xs:List α)(lo hi:Option Int):List α := (xs.drop (HT.aP xs.length 0 lo)).take (HT.aP xs.length xs.length hi-HT.aP xs.length 0 lo)
theorem au.cut{K:PySem.W.Frag}{H:Hp}{xs:List V}{ts:List Tr}(r:au K H xs ts)(lo hi:Option Int):au K H (m7 xs lo hi) (L2.cut ts lo hi):=by
 unfold m7 L2.cut
 rw[r.length]
 exact(r.drop _).take _
noncomputable def Qh(K:PySem.W.Frag):V->Option Int->Option Int->Hp->VK->Prop:=λx lo hi H Q=>Ng K x lo hi H Q\/MP K x lo hi H Q
theorem aem:lE X (Qh X.K):=lE.or acn ab6
noncomputable def jR(lo hi:Option Int):G1
 |.lst ts=>.ok (.lst (cut ts lo hi),true)
 |.tup ts=>if ¬(HT.aP ts.length 0 lo=0/\HT.aP ts.length ts.length hi=ts.length)then .ok (.tup (cut ts lo hi),false)else .bad
 |_=>.bad
theorem Qi{K:PySem.W.Frag}(lo hi:Option Int):jY (aA K) (λx H Q=>Qh K x lo hi H Q) (jR lo hi):=⟨λa c=>by unfold jR; (repeat' split) <;> (intro z; cases z),λG H x a Q s rx h=>by
 cases a <;> try exact h.elim
 .dsimp only[jR]at h
  split at h
  .obtain⟨b,xs,rfl,q,r⟩:=rx.tup s
   exact .inr ⟨b,xs,rfl,q.toK,by rw[r.length]; assumption,λy hy=>h _ _ _ (.new s hy) (.newT s hy (r.cut _ _))⟩
  .exact h.elim
 .obtain⟨b,xs,rfl,q,r⟩:=rx.lst s
  exact .inl ⟨b,xs,rfl,q.toK,λy hy=>h _ _ _ (.flt s hy) (.flt s hy (r.cut _ _))⟩⟩
noncomputable def zj(fa:EF)(fl fh:OF):EF:=λρ=>(fa ρ).bind λp=>(fl p.2).bind λl=>(fh l.2).bind λh=>(dr h.2 p.1).bind λa=>(jR l.1 h.1 a).bind λz=>.ok (.v z.1 z.2,h.2)
noncomputable def uP(a:VE aB)(l:VO l_f)(r:VO dK):VE (zj aB l_f dK) where
 ck Γ e:=nA e λx aM _=>xX aM λy z bh _=>pB bh (a.ck Γ x&&l.ck Γ y&&r.ck Γ z)
 cs:=a.cs++(l.cs++r.cs)
 ok q O h:=by
  walk_at "o"
  simp only[an]at h
  refine(ab5 aem (a.ok (ml q) O h.1.1) (l.ok (ml (mr q)) O h.1.2) (r.ok (mr (mr q)) O h.2)).imp λσ H Q=>bR λR ρ G F e h=>eE e .refl h λp h x G1 H1 F1 e1 s1 v1=>Ol e1 s1 h λl h G2 H2 F2 e2 s2=>Ol e2 (s1.trans s2) h λu h G3 H3 F3 e3 s3=>?_
  obtain⟨a,k1,h⟩:=h.okb (iK _ _)
  obtain⟨z,k2,h⟩:=h.okb ((Qi (K:=[]) _ _).nx _)
  exact(Qi l.1 u.1).ok G3 H3 x a Q e3.sub (iM e3 (v1.step e1.tb (s2.trans s3)) k1) (by rw[k2]; exact λv G' H' w vn=>e3.fin ((s1.trans s2).trans s3) w.gw vn h)
noncomputable def nH(Γ : Gx)(x:Str)(as:VA j6):Expr->Bool
 |.Call (.Name y _) (e::es) [] _=>y == x&&ji Γ x&&as.ck Γ (e::es)
 |_=>false
theorem rm(h:nH Γ x as e=true):∃p a es q,e=.Call (.Name x p) (a::es) [] q/\ji Γ x=true/\as.ck Γ (a::es)=true:=by
 unfold nH at h
 split at h
 case h_2=>cases h
 simp only[an]at h
 cases eq_of_beq h.1.1
 exact⟨_,_,_,_,rfl,h.1.2,h.2⟩
noncomputable def mF(g:GN)(fa:AF):EF:=λρ=>(fa ρ).bind λp=>(drs p.2 p.1).bind λas=>(g as).bind λz=>.ok (.v z.1 z.2,p.2)
theorem Qj{t:Tx}(o:DW t.K r g)(h:Te t (mF g fa) σ H Q):wW r (Ta t fa) σ H Q:=by
 obtain⟨R,ρ,G,F,e,h⟩:=h
 refine jf e .refl h λp h xs G1 H1 F1 e1 s1 v1=>?_
 obtain⟨as,k1,h⟩:=h.okb (yW _ _)
 obtain⟨z,k3,h⟩:=h.okb (o.nx as)
 exact o.ok G1 H1 xs as Q e1.sub (yX e1 v1 k1) (by rw[k3]; exact λv G' H' w vn=>e1.fin s1 w.gw vn h)
noncomputable def vB(x:Str)(u:Value)(r:PySem.W.Frag->List V->Hp->VK->Prop)(g:List Tr->Rs (Tr × Bool))(hv:bootBuiltins x=some u/\x ≠ "__name__" /\ ((∃i,u=.builtin i)\/∃i,u=.type i)) (hp:∀{cl Γ E X},Ox cl Γ E X->fD X u (r X.K)) (hs:∀K,DW (aA K) (r K) g) (as:VA j6):VE (mF g j6) where
 ck Γ e := Γ.B.contains x&&nH Γ x as e
 cs:=as.cs
 ok q o h:=by
  obtain⟨h1,h⟩:=an.mp h
  obtain⟨p,a,es,p',rfl,h2,h3⟩:=rm h
  obtain⟨pa,la,na⟩:=as.ok q o h3
  obtain⟨hv1,hv2,⟨i,rfl⟩|⟨i,rfl⟩⟩:=hv
  .exact(MF (hp o) (dI o h2).1 (o.B x (by simpa using h1)) hv1 pa hv2 (dI o h2).2 (fW (na _ (List.mem_cons_self ..))) (qZ (λy m=>na y (List.mem_cons_of_mem _ m)) _)).imp λ_ _ _=>Qj (hs _)
  .exact(abJ (hp o) (dI o h2).1 (o.B x (by simpa using h1)) hv1 pa hv2 (dI o h2).2 (fW (na _ (List.mem_cons_self ..))) (qZ (λy m=>na y (List.mem_cons_of_mem _ m)) _)).imp λ_ _ _=>Qj (hs _)
noncomputable def Qk(c:Ty)(fa:EF):EF:=λρ=>(fa ρ).bind λp=>(dr p.2 p.1).bind λa=>.ok (eB (qH a c),p.2)
noncomputable def zq(x:Str)(ty:Ty)(hb:bootBuiltins x=some (.type ty.name)/\x ≠ "__name__") (a:VE aB):VE (Qk ty aB) where
 ck Γ e:=fY e λaM bh bF _=>atName aM λy _=>aQ bh λb bY=>aQ bY λcV dJ=>atName cV λz _=>aV dJ (aV bF (y == ("isinstance" : Str)&&ji Γ y&&z == x&&ji Γ z&&Γ.B.contains y&&Γ.B.contains z&&a.ck Γ b&&notStar b))
 cs:=a.cs
 ok q o h:=by
  walk_at "o"
  simp only[an]at h
  obtain⟨⟨⟨⟨⟨⟨⟨h1,h2⟩,h3⟩,h4⟩,h5⟩,h6⟩,h7⟩,h8⟩:=h
  cases eq_of_beq h1
  cases eq_of_beq h3
  refine(acG o.x ty (a.ok q o h7) (o.B _ (by simpa using h5)) (o.B _ (by simpa using h6)) hb.1 (dI o h2).1 (dI o h4).1 hb.2 (dI o h4).2 (fW h8)).imp λσ H Q=>bR λR ρ G F e h=>eE e .refl h λp h x G1 H1 F1 e1 s1 v1=>?_
  obtain⟨a,k1,h⟩:=h.okb (iK _ _)
  exact⟨x,a,ty,rfl,((iM e1 v1 k1).rep e1.sub).toK,h _ G1 H1 F1 e1 s1 (.low (.bl _))⟩
mutual
noncomputable def rA:Tr->Bool
 |.tup ts=>uQ ts
 |.lst _=>false
 |_=>true
noncomputable def uQ:List Tr->Bool
 | []=>true
 |t::r=>rA t&&uQ r
end
noncomputable def Ft(G G':Hp):Prop:=∀b o,(∀xs,o ≠ .lst xs)->G b=some o->G' b=some o
mutual
theorem Rep.flat{K:PySem.W.Frag}{G G':Hp}(m:Ft G G'):∀{v:V} {T:Tr},Rep K G v T->rA T=true->Rep K G' v T
 |_,_,.non,_=>.non
 |_,_,.bl b,_=>.bl b
 |_,_,.int i,_=>.int i
 |_,_,.str x,_=>.str x
 |_,_,.tup h r,n=>by
  refine .tup ?_ (au.flat m r (by unfold rA at n; exact n))
  rcases h with(h|⟨o,h⟩)|h
  .exact .inl (.inl (m _ _ (λ_ z=>by cases z) h))
  .exact .inl (.inr ⟨o,m _ _ (λ_ z=>by cases z) h⟩)
  .exact .inr h
 |_,_,.lst h r,n=>by unfold rA at n; cases n
 |_,_,.bB h k n,_=>.bB (m _ _ (λ_ z=>by cases z) h) k n
theorem au.flat{K:PySem.W.Frag}{G G':Hp}(m:Ft G G'):∀{v:List V} {T:List Tr},au K G v T->uQ T=true->au K G' v T
 |_,_,.nil,_=>.nil
 |_,_,.cons h r,n=>by
  unfold uQ at n
  obtain⟨n1,n2⟩:=an.mp n
  exact .cons (Rep.flat m h n1) (au.flat m r n2)
end
noncomputable def wL(G H:Hp):Hp:=λb=>match G b with
 |some o=>some o
 |none=>match H b with
  |some (.lst xs)=>some (.lst xs)
  |_=>none
theorem rB(h:G b=some o):wL G H b=some o:=by unfold wL; rw[h]
theorem uR(h:wL G H b=some o):G b=some o\/G b=none/\H b=some o/\∃xs,o=.lst xs:=by
 unfold wL at h
 split at h
 .exact .inl (by rw[<-h]; assumption)
 .split at h <;> cases h
  exact .inr ⟨‹_›,‹_›,_,rfl⟩
theorem Ql(h:H b=some (.lst xs))(n:G b=none):wL G H b=some (.lst xs):=by unfold wL; rw[n,h]
noncomputable def wB(G H G':Hp):Hp:=λb=>match wL G H b with
 |some _=>G b
 |none=>G' b
noncomputable def pJ:Rv->Bool
 |.s _=>true
 |_=>false
noncomputable def rC(z:Tr × Bool):Bool:=rA z.1 || (z.2&&(match z.1 with
 |.lst us=>uQ us
 |_=>false))
section
variable {K:PySem.W.Frag}{G H G' H':Hp}
theorem aen(s:Same G H)(w:Gw K (wL G H) H G' H'):Gw K G H (wB G H G') H':=by
 have low:Same (wB G H G') G':=λb o h=>by
  unfold wB at h
  split at h
  .exact w.gg b o (rB h)
  .exact h
 refine⟨λb o h=>by unfold wB; rw[rB h]; exact h,w.hh,low.trans w.sub,w.tb,λb h=>?_⟩
 cases q:G b with
 |some o=>exact .inl λz=>by cases z
 |none =>
  unfold wB at h
  split at h
  .exact(h q).elim
  .rename_i z
   exact .inr ((w.nw b h).elim (λy=>(y z).elim) id)
theorem Qm(w:Gw K (wL G H) H G' H'):Ft G' (wB G H G'):=λb o n h=>by
 unfold wB
 split
 .rename_i u z
  have y:=w.gg b _ z
  rw[h]at y
  cases y
  rcases uR z with z|⟨_,_,xs,z⟩
  .exact z
  .exact(n xs z).elim
 .exact h
theorem VN.flat(s:Same G H)(w:Gw K (wL G H) H G' H')(h:VN K H G' H' v T fr)(f:rC (T,fr)=true):VN K H (wB G H G') H' v T fr:=by
 cases fr with
 |false=>exact Rep.flat (Qm w) h (by simpa[rC]using f)
 |true =>
  obtain⟨a,xs,ts,e1,rfl,e3,e4,e5,r⟩:=h
  refine⟨a,xs,ts,e1,rfl,e3,?_,e5,r.flat (Qm w) (by simpa[rC,rA]using f)⟩
  unfold wB
  split
  .exact s.free e3
  .exact e4
theorem lQ.reps(s:Same G H):∀{vs:List V} {ts:List Tr},lQ K G H vs ts->au K (wL G H) vs ts
 |_,_,.nil=>.nil
 |_,_,.cons (.inl h) r=>.cons (h.mono λ_ _=>rB) (lQ.reps s r)
 |_,_,.cons (.inr ⟨a,xs,ts,e1,e2,q,r0⟩) r=>by
  subst e1 e2
  refine .cons (.lst (aH.of ?_) (r0.mono λ_ _=>rB)) (lQ.reps s r)
  cases z:G a with
  |none=>exact Ql q z
  |some o=>have y:=s a o z; rw[q]at y; cases y; exact rB z
end
theorem Qn:∀{rs:List Rv} {ts:List Tr},drs ρ rs=.ok ts->rs.any pJ=false->cls rs=.ok ts
 | [],_,h,_=>h
 |.s _::_,_,_,n=>by simp[pJ]at n
 |.v T fr::rs,_,h,n=>by
  obtain⟨ts,q2,q⟩:=bT (show((drs ρ rs).bind _)=_ from h)
  cases q
  unfold cls
  rw[Qn q2 (by simpa[pJ]using n)]
  rfl
noncomputable def iy(f:FP)(fa:AF):EF:=λρ=>(fa ρ).bind λp=>(drs p.2 p.1).bind λas=>(f as).bind λz=>if p.1.any pJ=true/\rC z=false then .bad else .ok (.v z.1 z.2,p.2)
theorem Fr.none{K:PySem.W.Frag}(h:Fr K H (λ_=>[]) H'):Fr K H F H':=⟨λb o q _=>h.fr b o q λ⟨_,z⟩=>(by cases z),h.tb⟩
theorem aeo(hn:∀ρ p,fa ρ=.ok p->p.1.length=n)(h:Te (tx cl E X) (iy f fa) σ H Q):Mq (pG X.K cl n f) [] E (Ta (tx cl E X) fa) σ H Q:=by
 obtain⟨R,ρ,G,F,e,h⟩:=h
 cases ek:fa ρ with
 |bad=>rw[iy,ek]at h; exact h.elim
 |ex c=>exact⟨R,ρ,G,F,e,by rw[iy,ek]at h; rw[ek]; exact h⟩
 |ok p =>
 refine⟨R,ρ,G,F,e,?_⟩
 simp only[iy,ek,Rs.bind]at h
 rw[ek]
 intro vs G1 H1 F1 e1 s1 v1
 obtain⟨as,k1,h⟩:=h.okb (yW _ _)
 show pG X.K cl n f (vs++[]) H1 Q E
 rw[List.append_nil]
 have fin:∀Gc,au (aA X.K) Gc vs as->Same Gc H1->(∀b,Tb (aA X.K) b->Gc b=none)->(∀z,f as=.ok z->∀v G' H',Gw (aA X.K) Gc H1 G' H'->VN (aA X.K) H1 G' H' v z.1 z.2->Q v H')->pG X.K cl n f vs H1 Q E:=λGc r s tg k=>by
  refine⟨Gc,as,by rw[v1.length,hn ρ p ek],r,s,e1.tb,tg,?_⟩
  cases ef:f as with
  |bad=>rw[ef]at h; exact h.elim
  |ex c=>rw[ef]at h; exact λH' q=>h H' (s1.back q.none)
  |ok z=>exact k z ef
 by_cases a:p.1.any pJ=true
 .refine fin (wL G1 H1) ((yX e1 v1 k1).reps e1.sub) (λb o q=>(uR q).elim (e1.sub b o) λq=>q.2.1) (λb t=>?_) λz ef v G' H' w vn=>?_
  .cases q:wL G1 H1 b with
   |none=>rfl
   |some o =>
    rcases uR q with q|⟨_,q,xs,rfl⟩
    .rw[e1.tg b t]at q; cases q
    .exact(e1.tb.nt q t).elim
  .simp only[ef,Rs.bind]at h
   split at h
   .exact h.elim
   .rename_i c
    exact e1.fin s1 (aen e1.sub w) (vn.flat e1.sub w (by cases q:rC z with|true=>rfl|false=>exact(c ⟨a,q⟩).elim)) h
 .obtain⟨G2,e2,s2,_,r⟩:=e1.vis e s1 v1 (Qn k1 (by simpa using a))
  refine fin G2 r e2.sub e2.tg λz ef v G' H' w vn=>?_
  simp only[ef,Rs.bind]at h
  rw[if_neg λy=>a y.1]at h
  exact e2.fin s2 w vn h
noncomputable def vF(x:Str)(ps:List Str)(f:FP)(l:Nat)(as:VA j6):VE (iy f j6) where
 ck Γ e:=fY e λ_ m _ _=>m.length == ps.length&&decide (l <= Γ.k)&&nH Γ x as e
 cs:=.fn x ps f l::as.cs
 ok q o h:=by
  obtain⟨_,_,_,_,e0,h⟩:=BR h
  subst e0
  simp only[an]at h
  obtain⟨⟨h1,h0⟩,h⟩:=h
  obtain⟨p,a,es,p',e',h2,h3⟩:=rm h
  cases e'
  obtain⟨D,q⟩:=List.forall_mem_cons.mp q
  obtain⟨pa,la,na⟩:=as.ok q o h3
  rw[eq_of_beq h1]at la
  obtain⟨d,fd,d1,d2,d3,d4⟩:=jX.mono D (of_decide_eq_true h0)
  exact(abG d1 o.r (dI o h2).1 d4 d3 d2 .nil o.e pa (dI o h2).2 (fW (na _ (List.mem_cons_self ..))) (qZ (λy m=>na y (List.mem_cons_of_mem _ m)) _)).imp λ_ _ _=>aeo la
noncomputable def iz(F:Fp)(i:Nat)(f:List Addr):Fp:=λj=>if j=i then f else F j
theorem rD(h:Fn (iz F i f) b):b∈f\/∃j,j≠i/\b∈F j:=by
 obtain⟨j,h⟩:=h
 unfold iz at h
 split at h
 .exact .inl h
 .exact .inr ⟨j,‹_›,h⟩
section
variable {t:Tx}{K:PySem.W.Frag}{R:Addr->Prop}{ρ ρ':En}{σ σ':St}{G H G0 H0 G' H':Hp}{F F0 F':Fp}{Q:VK}
theorem Ok.one(e:Ok K R ρ σ G H F)(i:Nat)(f:List Addr)(len : ρ'.length = σ'.length)(ne:∀j,j≠i -> ρ'[j]?=ρ[j]? /\ σ'[j]?=σ[j]?)(gg:Same G G')(sub:Same G' H')(tb:bJ K H')(hG:∀b,G' b≠none->G b≠none\/(∀j,j≠i->b∉F j)/\¬Tb K b/\¬R b)
  (hh:∀j,j≠i->∀b∈F j,∀o,H b=some o->H' b=some o) (hr:∀b,R b->H' b≠none) (hf:∀b∈f,G' b=none/\∀j,j≠i->b∉F j) (si:lN K R G' H' σ'[i]? f ρ'[i]?):Ok K R ρ' σ' G' H' (iz F i f):=by
 have no:∀b,G b=none->(∃j,j≠i/\b∈F j)\/Tb K b\/R b->G' b=none:=λb q c=>by
  cases z:G' b with
  |none=>rfl
  |some o =>
   rcases hG b (by rw[z]; exact λz=>by cases z)with y|⟨y1,y2,y3⟩
   .exact(y q).elim
   .rcases c with⟨j,c1,c2⟩|c|c
    .exact(y1 j c1 c2).elim
    .exact(y2 c).elim
    .exact(y3 c).elim
 refine⟨len,sub,tb,λb t=>no b (e.tg b t) (.inr (.inl t)),λb h=>?_,λb h=>⟨no b (e.rg b h).1 (.inr (.inr h)),hr b h⟩,λj k b h1 h2=>?_,λj=>?_⟩
 .rcases rD h with h|⟨j,n,h⟩
  .exact(hf b h).1
  .exact no b (e.hid b ⟨j,h⟩) (.inl ⟨j,n,h⟩)
 .unfold iz at h1 h2
  split at h1 <;> split at h2
  .rw[‹j=i›,‹k=i›]
  .exact((hf b h1).2 k ‹_› h2).elim
  .exact((hf b h2).2 j ‹_› h1).elim
  .exact e.di j k b h1 h2
 .unfold iz
  split
  .rw[‹j=i›]; exact si
  .rw[(ne j ‹_›).1,(ne j ‹_›).2]
   exact(e.sl j).mono gg (hh j ‹_›)
theorem jk{α : Type}{l:List α}{a : α}(h:j≠i):(l.set i a)[j]?=l[j]? := List.getElem?_set_ne (Ne.symm h)
theorem gj{α : Type}{l:List α}{a : α}(h:i<l.length):(l.set i a)[i]?=some a:=by
 rw[List.getElem?_set_self',List.getElem?_eq_getElem h]
 rfl
theorem rE{α : Type}{l:List α}{a : α}(h:¬i<l.length):l.set i a=l:=List.set_eq_of_length_le (Nat.le_of_not_lt h)
theorem aG.sub(h:∀b,Fn F' b->Fn F b):aG K G H F G H F':=⟨Same.refl _,λ_ _ h _ _=>h,λ_ h=>.inl h,λb z=>.inr (h b z),λ_ h=>h⟩
theorem Ok.zx(e:Ok K R ρ σ G H F)(i:Nat)(r:Rep K G v T):∃F',Ok K R (ρ.set i (.sh T)) (σ.set i (some v)) G H F'/\∀b,Fn F' b->Fn F b:=by
 by_cases l:i < ρ.length
 .refine⟨iz F i [],e.one i [] (by rw[List.length_set,List.length_set,e.len]) (λj n=>⟨jk n,jk n⟩) (Same.refl _) e.sub e.tb (λb h=>.inl h) (λ_ _ _ _ _ h=>h) (λb h=>(e.rg b h).2) (λb h=>by cases h) ?_,λb h=>?_⟩
  .rw[gj l,gj (e.len▸l)]
   exact⟨rfl,v,rfl,r⟩
  .rcases rD h with h|⟨j,_,h⟩
   .cases h
   .exact⟨j,h⟩
 .rw[rE l,rE (e.len▸l)]
  exact⟨F,e,λb h=>h⟩
theorem Ok.Qo(e:Ok K R ρ σ G H F)(i:Nat)(h:H a=some (.lst xs))(g:G a=none)(n:¬Fn F a)(nR:¬R a)(r:au K G xs ts):∃F',Ok K R (ρ.set i (.ow ts)) (σ.set i (some (.ref a))) G H F'/\∀b,Fn F' b->b=a\/Fn F b:=by
 by_cases l:i < ρ.length
 .refine⟨iz F i [a],e.one i [a] (by rw[List.length_set,List.length_set,e.len]) (λj n=>⟨jk n,jk n⟩) (Same.refl _) e.sub e.tb (λb h=>.inl h) (λ_ _ _ _ _ h=>h) (λb h=>(e.rg b h).2) (λb h=>?_) ?_,λb h=>?_⟩
  .cases List.mem_singleton.mp h
   exact⟨g,λj _ z=>n ⟨j,z⟩⟩
  .rw[gj l,gj (e.len▸l)]
   exact⟨a,xs,rfl,rfl,nR,h,r⟩
  .rcases rD h with h|⟨j,_,h⟩
   .exact .inl (List.mem_singleton.mp h)
   .exact .inr ⟨j,h⟩
 .rw[rE l,rE (e.len▸l)]
  exact⟨F,e,λb h=>.inr h⟩
noncomputable def con(ρ : En)(i:Nat):Rs (List Tr):=match ρ[i]? with
 |some (.ow ts)=>.ok ts
 |some (.rf ts)=>.ok ts
 |_=>.bad
theorem Fv(ρ : En)(i:Nat)(c:Str):con ρ i ≠ .ex c:=by
 unfold con
 split <;> (intro z; cases z)
noncomputable def cN(i:Nat)(us:List Tr)(ρ : En):En:=match ρ[i]? with
 |some (.ow _)=>ρ.set i (.ow us)
 |some (.rf _)=>ρ.set i (.rf us)
 |_=>ρ
theorem Ok.con(e:Ok K R ρ σ G H F)(q:con ρ i=.ok ts):∃a xs,σ[i]?=some (some (.ref a))/\F i=[a]/\H a=some (.lst xs)/\au K G xs ts:=by
 have z:=e.sl i
 unfold L2.con at q
 split at q <;> rename_i k <;> cases q <;> (rw[k]at z; obtain⟨a,xs,h1,h2,_,h3,h4⟩:=z; exact⟨a,xs,h1,h2,h3,h4⟩)
theorem Fw(h:j≠i):(cN i ts ρ)[j]?=ρ[j]? := by
 unfold cN
 split
 .exact jk h
 .exact jk h
 .rfl
theorem Fx:(cN i us ρ).length = ρ.length:=by
 unfold cN
 split
 .rw[List.length_set]
 .rw[List.length_set]
 .rfl
theorem Ok.mov(e:Ok K R ρ σ G H F)(q:L2.con ρ i=.ok ts)(f:F i=[a])(g:Gw K G (upd H a (.lst ys)) G' H')(hx:H' a=some (.lst xs))(r:au K G' xs us):Ok K R (cN i us ρ) σ G' H' F/\aG K G H F G' H' F:=by
 have ha:Fn F a:=⟨i,by rw[f]; exact List.mem_singleton.mpr rfl⟩
 obtain⟨zs,hz⟩:=e.fl ha
 have ne:∀b o,H b=some o->b≠a->¬Tb K b->H' b=some o:=λb o h n t=>g.hh b o (by rw[aK n]; exact h) t
 have nn:∀b,upd H a (.lst ys) b=none->H b=none:=λb h=>by
  by_cases z:b=a
  .subst z; rw[cu]at h; cases h
  .rw[aK z]at h; exact h
 have tb:=g.tb (e.tb.upd hz)
 have dm:∀b,H' b=none->H b=none:=λb h=>by
  cases q:H b with
  |none=>rfl
  |some o =>
   by_cases z:b=a
   .subst z; rw[hx]at h; cases h
   .by_cases t:Tb K b
    .obtain⟨ps,y⟩:=tb.cj t; rw[h]at y; cases y
    .rw[ne b o q z t]at h; cases h
 have nw:∀b,G' b≠none->G b≠none\/H b=none:=λb h=>(g.nw b h).imp id (nn b)
 have eF:iz F i [a]=F:=by funext j; unfold iz; split <;> first|rfl|rw[‹j=i›,f]
 refine⟨eF▸e.one i [a] (by rw[Fx,e.len]) (λj n=>⟨Fw n,rfl⟩) g.gg g.sub tb (λb h=>(nw b h).imp id λz=>⟨λj _ y=>e.fs z ⟨j,y⟩,λt=>?_,e.rn z⟩) (λj n b hb o h=>?_) (λb h z=>(e.rg b h).2 (dm b z)) (λb h=>?_) ?_,g.gg,λb o h n t=>ne b o h (λz=>n (z▸ha)) t,λb h=>(nw b h).imp id .inl,λb h=>.inr h,dm⟩
 .obtain⟨ps,y⟩:=e.tb.cj t; rw[z]at y; cases y
 .obtain⟨us,q⟩:=e.fl ⟨j,hb⟩
  exact ne b o h (λz=>n (e.di j i b hb (by rw[f,z]; exact List.mem_singleton.mpr rfl))) (e.tb.nt q)
 .cases List.mem_singleton.mp h
  refine⟨?_,λj n z=>n (e.di j i a z (by rw[f]; exact List.mem_singleton.mpr rfl))⟩
  cases q:G' a with
  |none=>rfl
  |some o=>exact((nw a (by rw[q]; exact λz=>by cases z)).elim (λz=>z (e.hid a ha)) λz=>by rw[hz]at z; cases z).elim
 .have z:=e.sl i
  unfold L2.con at q
  unfold cN
  split at q <;> rename_i k <;> cases q <;>
  .rw[k]at z
   obtain⟨b,_,h1,h2,h3,_⟩:=z
   rw[f]at h2
   cases h2
   rw[gj (List.getElem?_eq_some_iff.mp k).1]
   exact⟨a,xs,h1,rfl,h3,hx,r⟩
theorem Ok.put(e:Ok K R ρ σ G H F)(q:L2.con ρ i=.ok ts)(f:F i=[a])(r:au K G xs us):Ok K R (cN i us ρ) σ G (upd H a (.lst xs)) F/\aG K G H F G (upd H a (.lst xs)) F:=by
 refine e.mov q f (ys:=xs) (.refl λb o h=>?_) cu r
 rw[aK λz=>?_]
 .exact e.sub b o h
 .rw[z,e.hid a ⟨i,by rw[f]; exact List.mem_singleton.mpr rfl⟩]at h
  cases h
end
noncomputable abbrev GM:=List Tr->List Tr->Rs (List Tr × Tr)
structure Fy(r:V->List V->Hp->VK->Prop)(m:GM):Prop where
 nx:∀ts as c,m ts as ≠ .ex c
 ok:∀(K:PySem.W.Frag) (G:Hp) a xs ts vs as H Q ts' T,H a=some (.lst xs)->au K G xs ts->au K G vs as->m ts as=.ok (ts',T)->(∀xs' v,au K G xs' ts'->Rep K G v T->Q v (upd H a (.lst xs')))->r (.ref a) vs H Q
noncomputable def zA(i:Nat)(m:GM)(fa:AF):EF:=λρ=>(con ρ i).bind λ_=>(fa ρ).bind λp=>(cls p.1).bind λas=>(con p.2 i).bind λts=>(m ts as).bind λz=>.ok (.v z.2 false,cN i z.1 p.2)
theorem aep(h:∀x∈e::es,notStar x=true)(l:(e::es).length<30):((backTo p (starEach (e::es) env)).all (λx=>!x.1)&&(backToKw p (keywordEach [] env)).all (λx=>x.1.isSome)&&decide ((e::es).length+([]:List Keyword).length+(if([]:List Keyword).isEmpty then 0 else 1)<30))=true:=by
 have:(backTo p (starEach (e::es) env)).all (λx=>!x.1)=true:=by
  have:=qZ (pos:=p) h env
  rw[List.all_eq_not_any_not]
  simpa using this
 rw[this]
 simpa[keywordEach,backToKw]using l
noncomputable def vM(nm:Str)(id:String)(r:V→List V→Hp→VK→Prop)(m:GM)(hp:Slot "list" nm id∧typeOf (.builtin id)=pure (.type "method_descriptor")∧∀X,Df X id r) (hs:Fy r m) (i:Nat) (as:VA j6):VE (zA i m j6) where
 ck Γ e:=fY e λaM bh bF q=>xY aM λbY a p=>atName bY λx _=>aQ bh λy l=>aV bF (a == nm&&j4 Γ i x&&decide ((y::l).length<30)&&p.endLine == q.line&&as.ck Γ (y::l))
 cs:=as.cs
 ok q o h:=by
  walk_at "o"
  simp only[an]at h
  obtain⟨⟨⟨⟨h1,h2⟩,h3⟩,h4⟩,h5⟩:=h
  cases eq_of_beq h1
  obtain⟨pa,la,na⟩:=as.ok q o h5
  refine(acs PySem.F.plainAttrs_list hp.1 hp.2.1 (hp.2.2 _) (qU o h2) pa rfl (aep na (of_decide_eq_true h3)) h4 (fW (na _ (List.mem_cons_self ..))) (qZ (λy m=>na y (List.mem_cons_of_mem _ m)) _)).imp λσ H Q=>bR λR ρ G F e h=>?_
  obtain⟨us,k0,h⟩:=h.okb (Fv _ _)
  obtain⟨a,xs,hi,_,hx,_⟩:=e.con k0
  refine⟨_,hi,.inl ⟨rfl,xs,aH.of hx⟩,jf e .refl h λp h vs G1 H1 F1 e1 s1 v1=>?_⟩
  obtain⟨as,k1,h⟩:=h.okb (uM _)
  obtain⟨ts,k2,h⟩:=h.okb (Fv _ _)
  obtain⟨⟨ts',T⟩,k3,h⟩:=h.okb (hs.nx _ _)
  obtain⟨G2,e2,s2,_,r⟩:=e1.vis e s1 v1 k1
  obtain⟨a',ys,hi',hf,hy,ry⟩:=e2.con k2
  rw[hi]at hi'
  cases hi'
  refine hs.ok _ G2 a ys ts vs as H1 Q ts' T hy ry r k3 λxs' v r' rv=>?_
  obtain⟨e3,s3⟩:=e2.put k2 hf r'
  exact h v G2 _ F1 e3 (s2.trans s3) (.low rv)
noncomputable def pK:GM:=λts as=>match as with
 | [T]=>if ts.length<=100000 then .ok (ts++[T],.non)else .bad
 |_=>.bad
theorem aer:Fy Dg pK:=⟨λts as c=>by unfold pK; (repeat' split) <;> (intro z; cases z),λK G a xs ts vs as H Q ts' T hx r ra q h=>by
 unfold pK at q
 (repeat' split at q) <;> cases q
 cases ra with
 |cons h1 r1 =>
  cases r1
  exact⟨a,xs,_,rfl,rfl,hx,Nat.lt_of_le_of_lt (by rw[r.length]; assumption) (by decide),h _ _ (r.app (.cons h1 .nil)) .non⟩⟩
structure Rt(K:PySem.W.Frag)(R:Addr->Prop)(G H:Hp)(F:Fp)(G' H':Hp)(v:V)(T:Tr)(fr:Bool):Prop where
 gg:Same G G'
 fm:Fr K H F H'
 sub:Same G' H'
 nw:∀b,G' b≠none->G b≠none\/H b=none\/Fn F b
 rg:∀b,R b->G' b=none
 vl:match fr with
  |false=>Rep K G' v T
  |true=>∃a xs ts,v=.ref a/\T=.lst ts/\(H a=none\/Fn F a)/\¬R a/\G' a=none/\H' a=some (.lst xs)/\au K G' xs ts
noncomputable def nJ(t:Tx)(R:Addr->Prop)(G H:Hp)(F:Fp)(D:Ends)(p:Fl × En):Prop:=match p.1 with
 |.nx=>∀σ' G' H' F',Ok t.K R p.2 σ' G' H' F'->aG t.K G H F G' H' F'->D.nx σ' H'
 |.bk=>∀σ' G' H' F',Ok t.K R p.2 σ' G' H' F'->aG t.K G H F G' H' F'->D.bk σ' H'
 |.ct=>∀σ' G' H' F',Ok t.K R p.2 σ' G' H' F'->aG t.K G H F G' H' F'->D.ct σ' H'
 |.rt T fr=>∀v G' H',Rt t.K R G H F G' H' v T fr->D.rt v H'
noncomputable def Ts(t:Tx)(f:SF):TS:=λD σ H=>∃R ρ G F,Ok t.K R ρ σ G H F/\bK t H F (f ρ) (nJ t R G H F D)
theorem Te.imp{t:Tx}(h:Te t f σ H Q)(k:∀v H',Q v H'->Q' v H'):Te t f σ H Q':=by
 obtain⟨R,ρ,G,F,e,h⟩:=h
 exact⟨R,ρ,G,F,e,h.go (aG.refl (G:=G)) λp h v G' H' F' e' s' v'=>k v H' (h v G' H' F' e' s' v')⟩
theorem PS.imp(h:PS X e t)(i:∀D σ H,u D σ H->t D σ H):PS X e u:=⟨λpins s σ H D I q=>h pins s σ H D I (i D σ H q)⟩
theorem eV.imp(h:eV X e t)(i:∀D σ H,u D σ H->t D σ H):eV X e u:=⟨λpins s σ H D I q=>h pins s σ H D I (i D σ H q)⟩
noncomputable abbrev VS(f:SF):=Vn λcl E X e=>PS X e (Ts (tx cl E X) f)
noncomputable abbrev VB(f:SF):=Vn λcl E X e=>eV X e (Ts (tx cl E X) f)
section
variable {t:Tx}{K:PySem.W.Frag}{R:Addr->Prop}{ρ : En}{σ : St}{G H G0 H0 G' H':Hp}{F F0 F':Fp}{D:Ends}
theorem Rt.back(s:aG K G0 H0 F0 G H F)(h:Rt K R G H F G' H' v T fr):Rt K R G0 H0 F0 G' H' v T fr:=by
 have ff:∀b,H b=none\/Fn F b->H0 b=none\/Fn F0 b:=λb=>λz=>z.elim (λz=>.inl (s.dm b z)) (s.nf b)
 refine⟨s.gg.trans h.gg,s.back h.fm,h.sub,λb z=>(h.nw b z).elim (s.nw b) λz=>.inr (ff b z),h.rg,?_⟩
 cases fr with
 |false=>exact h.vl
 |true =>
  obtain⟨a,xs,ts,e1,e2,e3,q⟩:=h.vl
  exact⟨a,xs,ts,e1,e2,ff a e3,q⟩
theorem nJ.back(s:aG t.K G0 H0 F0 G H F)(h:nJ t R G0 H0 F0 D p):nJ t R G H F D p:=by
 obtain⟨fl,ρ⟩:=p
 cases fl with
 |nx=>exact λσ' G' H' F' e u=>h σ' G' H' F' e (s.trans u)
 |bk=>exact λσ' G' H' F' e u=>h σ' G' H' F' e (s.trans u)
 |ct=>exact λσ' G' H' F' e u=>h σ' G' H' F' e (s.trans u)
 |rt T fr=>exact λv G' H' r=>h v G' H' (r.back s)
theorem uT(e:Ok t.K R ρ σ G H F)(s:aG t.K G0 H0 F0 G H F)(h:bK t H0 F0 (f ρ) (nJ t R G0 H0 F0 D)):Ts t f D σ H:=⟨R,ρ,G,F,e,h.go s λ_=>nJ.back s⟩
end
noncomputable def Qp:SF:=λρ=>.ok (.nx,ρ)
noncomputable def b0:VB Qp where
 ck _ e:=e.isEmpty
 cs:=[]
 ok:=@λ_ _ _ X e _ _ h=>by
  cases e <;> try cases h
  exact aaH.imp λD σ H=>bR λR ρ G F e h=>h σ G H F e .refl
noncomputable def b1(a:VS aB):VB aB where
 ck Γ e:=aQ e λx aM=>aV aM (a.ck Γ x)
 cs:=a.cs
 ok q O h:=by
  walk_at "o"
  exact aaJ (a.ok q O h)
noncomputable def zB(f g:SF):SF:=λρ=>(f ρ).bind λp=>match p.1 with
 |.nx=>g p.2
 |fl=>.ok (fl,p.2)
theorem aes{t:Tx}(h:Ts t (zB f g) D σ H):Ls (Ts t f) (Ts t g) D σ H:=by
 obtain⟨R,ρ,G,F,e,h⟩:=h
 refine⟨R,ρ,G,F,e,h.run (aG.refl (G:=G)) λp h=>?_⟩
 obtain⟨fl,ρ1⟩:=p
 cases fl with
 |nx=>exact λσ1 G1 H1 F1 e1 s1=>uT e1 s1 h
 |rt T fr=>exact h
 |bk=>exact h
 |ct=>exact h
noncomputable def bC(a:VS aB)(r:VB dK):VB (zB aB dK) where
 ck Γ e:=aQ e λx l=>a.ck Γ x&&r.ck Γ l
 cs:=a.cs++r.cs
 ok q O h:=by
  walk_at "o"
  simp only[an]at h
  exact(aaI (a.ok (ml q) O h.1) (r.ok (mr q) O h.2)).imp λ_ _ _=>aes
noncomputable def j7(K:PySem.W.Frag)(g:GF)(js:List Nat):TG:=λv σ H Q=>∃R ρ G F T,Ok K R ρ σ G H F/\Rep K G v T/\Pz (g T ρ) λρ'=>∀σ' F',Ok K R ρ' σ' G H F'->(∀b,Fn F' b->Fn F b)->(∀k,k∉js -> σ'[k]?=σ[k]?)->Q σ' H
noncomputable def aeu(K:PySem.W.Frag)(g:qK)(js:List Nat):oO:=λvs σ H Q=>∃R ρ G F Ts,Ok K R ρ σ G H F/\au K G vs Ts/\Pz (g Ts ρ) λρ'=>∀σ' F',Ok K R ρ' σ' G H F'->(∀b,Fn F' b->Fn F b)->(∀k,k∉js -> σ'[k]?=σ[k]?)->Q σ' H
theorem PG.imp(h:PG X e t)(i:∀v σ H Q,u v σ H Q->t v σ H Q):PG X e u:=λpins s σ H v w Q I r q=>h pins s σ H v w Q I r (i _ σ H Q q)
theorem mY.imp(h:mY X e t)(i:∀v σ H Q,u v σ H Q->t v σ H Q):mY X e u:=λpins s σ H v w Q I r q=>h pins s σ H v w Q I r (i _ σ H Q q)
theorem Pz.ok{α : Type}{r:Rs α}{P : α -> Prop}(h:Pz r P):∃a,r=.ok a/\P a:=by
 cases r with
 |ok a=>exact⟨a,rfl,h⟩
 |_=>exact h.elim
noncomputable abbrev VG(f:GF)(js:List Nat):=Vn λcl E X e=>PG X e (j7 (aA X.K) f js)/\(∀T ρ y,f T ρ ≠ .ex y)/\notStar e=true
noncomputable abbrev zE(f:qK)(js:List Nat):=Vn λcl E X e=>mY X e (aeu (aA X.K) f js)/\(∀T ρ y,f T ρ ≠ .ex y)/\∀env,(assignEach e env).length=e.length/\(assignEach e env).findIdx? (·.1)=none
noncomputable def zF(Γ : Gx)(i:Nat)(x:Str):Bool := Γ.N[i]? == some x&&(Γ.sc.names.lookup x == some .local || Γ.sc.names.lookup x == some .cell&&Γ.fn x)
noncomputable def Wr(X:Cx)(i:Nat)(x:Str):Prop:=X.N[i]?=some x/\Loc X.env.scope x/\(X.fn x=true\/X.env.scope.names.lookup x=some .local)
theorem Fz(o:Ox cl Γ E X)(h:zF Γ i x=true):Wr X i x:=by
 obtain⟨h1,h2⟩:=an.mp h
 refine⟨by rw[o.N]; exact eq_of_beq h1,?_⟩
 unfold Loc
 rw[o.s,o.f]
 rcases(Bool.or_eq_true _ _).mp h2 with h|h
 .exact⟨.inl (eq_of_beq h),.inr (eq_of_beq h)⟩
 .exact⟨.inr (eq_of_beq (an.mp h).1),.inl (an.mp h).2⟩
noncomputable def gN(i:Nat):GF:=λT ρ=>.ok (ρ.set i (.sh T))
theorem Qq(T:Tr)(ρ : En)(c:Str):gN i T ρ ≠ .ex c:=by intro z; cases z
theorem Qs{K:PySem.W.Frag}(h:j7 K (gN i) [i] v σ H Q):lC i v σ H Q:=by
 obtain⟨R,ρ,G,F,T,e,r,h⟩:=h
 obtain⟨F',e',s⟩:=e.zx i r
 exact h _ F' e' s λk n=>jk λz=>n (by rw[z]; exact List.mem_singleton.mpr rfl)
noncomputable def gV(i:Nat):VG (gN i) [i] where
 ck Γ e:=atName e λx _=>zF Γ i x
 cs:=[]
 ok q o h:=by
  walk_at "o"
  obtain⟨w1,w2,w3⟩:=Fz o h
  exact⟨(aaQ o.d w1 w2 w3).imp λ_ _ _ _=>Qs,Qq,rfl⟩
noncomputable def uU:qK:=λTs ρ=>match Ts with
 | []=>.ok ρ
 |_=>.bad
noncomputable def j8(f:GF)(g:qK):qK:=λTs ρ=>match Ts with
 |T::r=>(f T ρ).bind λρ'=>g r ρ'
 | []=>.bad
noncomputable def gq:zE uU [] where
 ck _ e:=e.isEmpty
 cs:=[]
 ok:=@λ_ _ _ X e _ _ h=>by
  cases e <;> try cases h
  refine⟨aaT.imp λvs σ H Q ⟨R,ρ,G,F,Ts,e,r,h⟩=>?_,λT _ _=>by cases T <;> (intro z; cases z),λ_=>⟨rfl,rfl⟩⟩
  cases r with
  |nil=>exact⟨rfl,h σ F e (λ_ z=>z) λ_ _=>rfl⟩
  |cons _ _=>exact h.elim
theorem FJ(h:notStar e=true):assignEach (e::es) env=(false,assign e env)::assignEach es env:=by
 cases e <;> first|rfl|cases h
noncomputable def bL(a:VG aB a_j)(r:zE dK FN):zE (j8 aB dK) (a_j++FN) where
 ck Γ e:=aQ e λx y=>a.ck Γ x&&r.ck Γ y
 cs:=a.cs++r.cs
 ok q O h:=by
  walk_at "o"
  simp only[an]at h
  obtain⟨pa,na,ea⟩:=a.ok (ml q) O h.1
  obtain⟨pb,nb,eb⟩:=r.ok (mr q) O h.2
  refine⟨(aaU pa pb (by rw[FJ ea]; rfl)).imp λvs σ H Q ⟨R,ρ,G,F,Ts,e,r,h⟩=>?_,λTs ρ c=>?_,λenv=>?_⟩
  .cases r with
   |nil=>exact h.elim
   | @cons x T xs Ts r1 r2 =>
    obtain⟨ρ2,k,h⟩:=h.ok
    obtain⟨ρ1,k1,k2⟩:=bT k
    refine⟨x,xs,rfl,R,ρ,G,F,T,e,r1,?_⟩
    rw[k1]
    intro σ1 F1 e1 f1 n1
    refine⟨R,ρ1,G,F1,Ts,e1,r2,?_⟩
    rw[k2]
    refine λσ2 F2 e2 f2 n2=>h σ2 F2 e2 (λb z=>f1 b (f2 b z)) λk n=>?_
    rw[List.mem_append,not_or]at n
    rw[n2 k n.2,n1 k n.1]
  .cases Ts with
   |nil=>intro z; cases z
   |cons T r=>exact yV (na T ρ) (λρ'=>nb r ρ') c
  .rw[FJ ea]
   obtain⟨e1,e2⟩:=eb env
   exact⟨by rw[List.length_cons,e1,List.length_cons],by rw[List.findIdx?_cons,e2]; rfl⟩
noncomputable def gT(n:Nat)(f:qK):GF:=λT ρ=>match T with
 |.tup Ts=>if Ts.length=n then f Ts ρ else .bad
 |_=>.bad
noncomputable def gA(n:Nat)(r:zE dK FN):VG (gT n dK) FN where
 ck Γ e:=iQ e λl _ _=>l.length == n&&r.ck Γ l
 cs:=r.cs
 ok q o h:=by
  walk_at "o"
  simp only[an]at h
  obtain⟨pb,nb,eb⟩:=r.ok q o h.2
  refine⟨(aaW o.l pb ((eb _).1.trans (eq_of_beq h.1)) (eb _).2).imp λv σ H Q ⟨R,ρ,G,F,T,e,r,h⟩=>?_,λT ρ y=>?_,rfl⟩
  .cases T <;> try exact h.elim
   dsimp only[gT]at h
   split at h
   case isFalse=>exact h.elim
   cases r with
   | @tup a xs _ q r=>exact⟨a,xs,rfl,(e.sub.oZ q).toK,by rw[r.length]; assumption,R,ρ,G,F,_,e,r,h⟩
  .cases T <;> first|(intro z; cases z; done)|(dsimp only[gT]; split <;> first|exact nb _ _ _|(intro z; cases z))
noncomputable def rF:Expr->Bool
 |.ListComp .. => false
 |.SetComp .. => false
 |.DictComp .. => false
 |_=>true
theorem zG(h:rF e=true):swapsWith e t l env=pure false:=by
 cases e <;> first|rfl|(unfold rF at h; cases h)
noncomputable abbrev VC(f:EF):=Vn λcl E X e=>PE X e (Te (tx cl E X) f)/\∀i y p sp,Wr X i y->PS X (.Assign [.Name y p] e sp) (lD (Te (tx cl E X) f) (lC i))
noncomputable def eZ(a:VC f):VE f:=⟨a.ck,a.cs,λq O h=>(a.ok q O h).1⟩
noncomputable def aE(a:VE aB):VC aB where
 ck Γ e:=rF e&&a.ck Γ e
 cs:=a.cs
 ok q o h:=by
  simp only[an]at h
  have pa:=a.ok q o h.2
  exact⟨pa,λi y p sp w=>Lz o.d w.1 w.2.1 pa (zG h.1) w.2.2⟩
noncomputable def uV(Γ : Gx)(i:Nat)(a:VC f):Stmt->Bool
 |.Assign [.Name x _] v _=>zF Γ i x&&a.ck Γ v
 |_=>false
theorem FQ{a:VC f}(q:∀y∈a.cs,y.ok cl X)(o:Ox cl Γ E X)(h:uV Γ i a e=true):PS X e (lD (Te (tx cl E X) f) (lC i)):=by
 unfold uV at h
 split at h
 case h_2=>cases h
 simp only[an]at h
 exact(a.ok q o h.2).2 _ _ _ _ (Fz o h.1)
noncomputable def rG(f:EF)(g:GF):SF:=λρ=>(f ρ).bind λp=>match p.1 with
 |.v T _=>(g T p.2).bind λρ'=>.ok (.nx,ρ')
 |.s _=>.bad
theorem Qt{t:Tx}(nx:∀T ρ y,g T ρ ≠ .ex y)(h:Ts t (rG f g) D σ H):lD (Te t f) (j7 t.K g js) D σ H:=by
 obtain⟨R,ρ,G,F,e,h⟩:=h
 refine eE e .refl h λp h v G1 H1 F1 e1 s1 v1=>?_
 obtain⟨r,ρ1⟩:=p
 cases r with
 |s i=>exact h.elim
 |v T fr =>
  obtain⟨G2,e2,s2,_,r⟩:=e1.pH e s1 v1 rfl
  obtain⟨ρ',k,h⟩:=h.okb (nx T ρ1)
  exact⟨R,ρ1,G2,F1,T,e2,r,by rw[k]; exact λσ' F' e' hf _=>h σ' G2 H1 F' e' (s2.trans (.sub hf))⟩
noncomputable def sA(i:Nat)(a:VC aB):VS (rG aB (gN i)) where
 ck Γ e:=uV Γ i a e
 cs:=a.cs
 ok q o h:=(FQ q o h).imp λ_ _ _ h=>Te.imp (Qt (js:=[i]) Qq h) λ_ _=>Qs
noncomputable def FT(i:Nat)(f:EF):SF:=λρ=>(f ρ).bind λp=>match p.1 with
 |.v (.lst ts) true=>.ok (.nx,p.2.set i (.ow ts))
 |_=>.bad
noncomputable def sO(i:Nat)(a:VC aB):VS (FT i aB) where
 ck Γ e:=uV Γ i a e
 cs:=a.cs
 ok q o h:=by
  refine(FQ q o h).imp λD σ H=>bR λR ρ G F e h=>eE e .refl h λp h v G1 H1 F1 e1 s1 v1=>?_
  obtain⟨r,ρ1⟩:=p
  dsimp only at h
  split at h
  case h_2=>exact h.elim
  obtain⟨⟨a,xs,us,rfl,z,n,g,hx,r⟩,f⟩:=v1
  cases z
  obtain⟨F',e',hf⟩:=e1.Qo i hx g (f rfl a rfl) (e.rn n) r
  exact h _ G1 H1 F' e' ⟨s1.gg,s1.fr,s1.nw,λb z=>(hf b z).elim (λz=>.inl (z▸n)) (s1.nf b),s1.dm⟩
noncomputable def Qu:Expr->Bool
 |.Tuple .. => false
 |_=>true
theorem aev(h:Qu v=true):swappedStores [.Tuple l k p] v env=pure none:=by
 cases v <;> first|rfl|cases h
noncomputable def uW(a:VE aB)(g:VG gC jm):VS (rG aB gC) where
 ck Γ e:=pq e λaM v _=>aQ aM λbh bF=>iQ bh λl k p=>aV bF (rF v&&Qu v&&a.ck Γ v&&g.ck Γ (.Tuple l k p))
 cs:=a.cs++g.cs
 ok q o h:=by
  walk_at "o"
  simp only[an]at h
  obtain⟨⟨⟨h1,h2⟩,h3⟩,h4⟩:=h
  obtain⟨pg,ng,eg⟩:=g.ok (mr q) o h4
  exact(Ly (a.ok (ml q) o h3) pg (by unfold swapsWithSole; exact zG h1) (aev h2) (by rw[FJ eg]; rfl)).imp λ_ _ _=>Qt ng
noncomputable def FW(Γ : Gx)(i:Nat)(x:Str):Bool := Γ.N[i]? == some x&&Γ.sc.names.lookup x == some .local
theorem rH(o:Ox cl Γ E X)(h:FW Γ i x=true):X.N[i]?=some x/\X.env.scope.names.lookup x=some .local:=by
 obtain⟨h1,h2⟩:=an.mp h
 exact⟨by rw[o.N]; exact eq_of_beq h1,by rw[o.s]; exact eq_of_beq h2⟩
theorem aew{env:Env}(n1:notStar u=true)(n2:notStar v=true)(k1:env.scope.names.lookup x=some .local)(k2:env.scope.names.lookup y=some .local)(h4:p.line=p'.line)(e1:(foldedForSure 8 u&&foldedForSure 8 v)=false)(e2:(constantsAlone 8 u&&constantsAlone 8 v)=false)(h8:x≠y)(h9:env.scope.kind=.function):swappedStores [.Tuple [.Name x p,.Name y p'] k q] (.Tuple [u,v] k' q') env=pure (some [x,y]):=by
 have kx:env.kindOf x=some .local:=k1
 have ky:env.kindOf y=some .local:=k2
 have hb:env.blockKind=.function:=by unfold Env.blockKind; rw[h9]; rfl
 unfold swappedStores
 have hy:(y == x)=false:=by simpa using λz=>h8 (z.symm)
 have hx:(x == y)=false:=by simpa using h8
 simp[hb,kx,ky,h4,List.eraseDups,List.filterMap_cons,Expr.pos,List.eraseDupsBy,List.eraseDupsBy.loop,hx,hy]
 rw[if_neg]
 .rw[if_neg λh=>(by rw[h.1,h.2]at e1; cases e1),if_neg λh=>(by rw[h.1,h.2]at e2; cases e2)]
 .rintro(h|h)
  .cases u <;> first|cases h; done|cases n1
  .cases v <;> first|cases h; done|cases n2
noncomputable def Qv(i j:Nat)(fa:AF):SF:=λρ=>(fa ρ).bind λp=>(cls p.1).bind λTs=>match Ts with
 | [T,U]=>.ok (.nx,(p.2.set i (.sh T)).set j (.sh U))
 |_=>.bad
noncomputable def Ga(i j:Nat)(a:VA aB):VS (Qv i j aB) where
 ck Γ e:=pq e λaM bh _=>aQ aM λbF bY=>iQ bF λcV _ _=>aQ cV λdJ gD=>atName dJ λx p=>aQ gD λmG mH=>atName mG λy p'=>aV mH (aV bY (iQ bh λGb _ _=>aQ Gb λu Gd=>aQ Gd λv Ge=>aV Ge (FW Γ i x&&FW Γ j y&&decide (i≠j)&&decide (p.line=p'.line)&&a.ck Γ [u,v] && !(foldedForSure 8 u&&foldedForSure 8 v) && !(constantsAlone 8 u&&constantsAlone 8 v)&&decide (x≠y)&&decide (Γ.sc.kind=.function))))
 cs:=a.cs
 ok q o h:=by
  walk_at "o"
  simp only[an]at h
  obtain⟨⟨⟨⟨⟨⟨⟨⟨h1,h2⟩,h3⟩,h4⟩,h5⟩,h6⟩,h7⟩,h8⟩,h9⟩:=h
  obtain⟨pa,_,na⟩:=a.ok q o h5
  refine(aa0 o.l o.d (rH o h1).1 (rH o h2).1 (of_decide_eq_true h3) (rH o h1).2 (rH o h2).2 pa (aew (na _ (List.mem_cons_self ..)) (na _ (List.mem_cons_of_mem _ (List.mem_cons_self ..))) (rH o h1).2 (rH o h2).2 (of_decide_eq_true h4) ((Bool.not_eq_true' _).mp h6) ((Bool.not_eq_true' _).mp h7) (of_decide_eq_true h8) (by rw[o.s]; exact of_decide_eq_true h9)) rfl).imp λD σ H=>bR λR ρ G F e h=>jf e .refl h λp h vs G1 H1 F1 e1 s1 v1=>?_
  obtain⟨Ts,k1,h⟩:=h.okb (uM _)
  obtain⟨G2,e2,s2,_,r⟩:=e1.vis e s1 v1 k1
  split at h
  case h_2=>exact h.elim
  cases r with
  |cons r1 r =>
   cases r with
   |cons r2 r =>
    cases r
    obtain⟨F3,e3,f3⟩:=e2.zx i r1
    obtain⟨F4,e4,f4⟩:=e3.zx j r2
    exact⟨_,_,rfl,h _ G2 H1 F4 e4 (s2.trans (.sub λb z=>f3 b (f4 b z)))⟩
noncomputable def Gf(f:EF):SF:=λρ=>(f ρ).bind λp=>.ok (.nx,p.2)
noncomputable def dw(a:VE aB):VS (Gf aB) where
 ck Γ e:=yc e λx _=>rF x&&a.ck Γ x
 cs:=a.cs
 ok q o h:=by
  walk_at "o"
  simp only[an]at h
  exact(aaL (a.ok q o h.2) (zG h.1)).imp λD σ H=>bR λR ρ G F e h=>eE e .refl h λp h v G1 H1 F1 e1 s1 v1=>h σ G1 H1 F1 e1 s1
noncomputable def Gg(f:EF):SF:=λρ=>(f ρ).bind λp=>match p.1 with
 |.v T fr=>.ok (.rt T fr,p.2)
 |.s i=>match p.2[i]? with
  |some (.ow ts)=>.ok (.rt (.lst ts) true,p.2)
  |_=>.bad
noncomputable def aC(a:VE aB):VS (Gg aB) where
 ck Γ e:=yd e λaM _=>pA aM λx=>a.ck Γ x
 cs:=a.cs
 ok q o h:=by
  walk_at "o"
  refine(aaN (a.ok q o h)).imp λD σ H=>bR λR ρ G F e h=>eE e .refl h λp h v G1 H1 F1 e1 s1 v1=>?_
  obtain⟨r,ρ1⟩:=p
  have rg:=λb z=>(e1.rg b z).1
  match r,h,v1 with
  |.v T false,h,v1=>exact h v G1 H1 ⟨s1.gg,⟨s1.fr,e1.tb⟩,e1.sub,s1.nw,rg,v1.1⟩
  |.v T true,h,⟨⟨a,xs,ts,q1,q2,n,g,q3,q4⟩,_⟩=>exact h v G1 H1 ⟨s1.gg,⟨s1.fr,e1.tb⟩,e1.sub,s1.nw,rg,a,xs,ts,q1,q2,.inl n,e.rn n,g,q3,q4⟩
  |.s i,h,v1 =>
   dsimp only at h
   split at h
   case h_2=>exact h.elim
   rename_i ts k
   have z:=e1.sl i
   rw[k]at z
   obtain⟨a,xs,h1,h2,h3,h4,h5⟩:=z
   have f:Fn F1 a:=⟨i,by rw[h2]; exact List.mem_singleton.mpr rfl⟩
   have v1 : σ[i]?=some (some v):=v1
   rw[h1]at v1
   cases v1
   exact h _ G1 H1 ⟨s1.gg,⟨s1.fr,e1.tb⟩,e1.sub,s1.nw,rg,a,xs,ts,rfl,rfl,s1.nf a f,h3,e1.hid a f,h4,h5⟩
noncomputable def Gh(c:BF)(f g:SF):SF:=λρ=>(c ρ).bind λp=>if p.1=true then f p.2 else g p.2
noncomputable def sI(t:VT Fe)(a:VB aB)(b:VB bD):VS (Gh Fe aB bD) where
 ck Γ e:=yg e λz x y _=>t.ck Γ z&&a.ck Γ x&&b.ck Γ y
 cs:=t.cs++(a.cs++b.cs)
 ok q o h:=by
  walk_at "o"
  simp only[an]at h
  refine(aaP (t.ok (ml q) o h.1.1) (a.ok (ml (mr q)) o h.1.2) (b.ok (mr (mr q)) o h.2)).imp λD σ H=>bR λR ρ G F e h=>lO e .refl h λp h G1 H1 F1 e1 s1=>?_
  split at h <;> rename_i c
  .rw[if_pos c]; exact uT e1 s1 h
  .rw[if_neg c]; exact uT e1 s1 h
noncomputable def cH(i:Nat)(ρ : En):En:=match ρ[i]? with
 |some (.ow ts)=>ρ.set i (.sh (.lst ts))
 |_=>ρ
theorem Ok.cH{K:PySem.W.Frag}(e:Ok K R ρ σ G H F)(i:Nat):∃G' F',Ok K R (L2.cH i ρ) σ G' H F'/\aG K G H F G' H F':=by
 unfold L2.cH
 split
 case h_2=>exact⟨G,F,e,.refl⟩
 rename_i ts k
 have z:=e.sl i
 rw[k]at z
 obtain⟨a,xs,h1,h2,h3,h4,h5⟩:=z
 have f:Fn F a:=⟨i,by rw[h2]; exact List.mem_singleton.mpr rfl⟩
 have g:=e.hid a f
 have m:Same G (upd G a (.lst xs)):=g8 g _
 have l:=(List.getElem?_eq_some_iff.mp k).1
 refine⟨_,iz F i [],e.one (G':=upd G a (.lst xs)) i [] (by rw[List.length_set,e.len]) (λj n=>⟨jk n,rfl⟩) m (λb o q=>?_) e.tb (λb q=>?_) (λ_ _ _ _ _ h=>h) (λb h=>(e.rg b h).2) (λb h=>by cases h) ?_,m,λ_ _ h _ _=>h,λb q=>?_,λb z=>?_,λ_ h=>h⟩
 .by_cases z:b=a
  .subst z; rw[cu]at q; rw[h4]; exact q
  .rw[aK z]at q; exact e.sub b o q
 .by_cases z:b=a
  .subst z; exact .inr ⟨λj n z=>n (e.di j i b z (by rw[h2]; exact List.mem_singleton.mpr rfl)),e.tb.nt h4,h3⟩
  .rw[aK z]at q; exact .inl q
 .rw[gj l]
  exact⟨rfl,.ref a,h1,.lst (aH.of cu) (h5.mono m)⟩
 .by_cases z:b=a
  .subst z; exact .inr (.inr f)
  .rw[aK z]at q; exact .inl q
 .rcases rD z with z|⟨j,_,z⟩
  .cases z
  .exact .inr ⟨j,z⟩
noncomputable def Qw(i:Nat)(f:SF):SF:=λρ=>f (cH i ρ)
noncomputable def sZ(i:Nat)(a:VS aB):VS (Qw i aB) where
 ck:=a.ck
 cs:=a.cs
 ok q o h:=(a.ok q o h).imp λD σ H=>bR λR ρ G F e h=>by
  obtain⟨G',F',e',s'⟩:=e.cH i
  exact uT e' s' h
noncomputable def aex(c:Str)(f:EF):SF:=λρ=>(f ρ).bind λ_=>.ex c
noncomputable def pL(x:Str)(a:VE aB):VS (aex x aB) where
 ck Γ e:=yh e λaM bh _=>pA aM λbF=>fY bF λbY cV dJ _=>atName bY λy _=>aQ cV λv gD=>aV gD (aV dJ (pB bh (y == x&&Γ.R.contains y&&ji Γ y&&notStar v&&a.ck Γ v)))
 cs:=a.cs
 ok q o h:=by
  walk_at "o"
  simp only[an]at h
  obtain⟨⟨⟨⟨h1,h2⟩,h3⟩,h4⟩,h5⟩:=h
  cases eq_of_beq h1
  exact(acL (o.R _ (by simpa using h2)).2 (o.R _ (by simpa using h2)).1 PySem.F.excBase_ValueError o.l (a.ok q o h5) (dI o h3).1 (dI o h3).2 (fW h4)).imp λD σ H=>bR λR ρ G F e h=>eE e .refl h λp h v G1 H1 F1 e1 s1 v1=>⟨rfl,h H1 ⟨s1.fr,e1.tb⟩⟩
noncomputable def fM{α : Type}:Rs α -> Rs α
 |.bad=>.bad
 |.ex _=>.bad
 |.ok a=>.ok a
theorem PS.tV{X:Cx}{st:Stmt}{t:TS}(h:PS X.tV st t):PS X st t:=⟨λpins s σ H D I hw =>
 wpAny_mono (h pins s σ H D (I.wish _) hw) (λ_ _ q=>q.mX) λ_ _ z=>False.elim z⟩
noncomputable def uX(f:SF):SF:=λρ=>fM (f ρ)
noncomputable def nG(Γ : Gx):Gx:={Γ with R:=[],nx:=true,L:=[] }
theorem aey(o:Ox cl Γ E X):Ox cl (nG Γ) E0 X.tV:=⟨o.N,o.s,o.d,o.l,o.r,N6,o.B,(λ_ z=>nomatch z),o.x,o.f,(λ_=>rfl),λ_ z=>nomatch z⟩
noncomputable def sN(a:VS aB):VS (uX aB) where
 ck Γ e:=a.ck (nG Γ) e
 cs:=a.cs
 ok:=@λcl E Γ X e q o h=>(PS.tV (a.ok (X:=X.tV) q (aey o) h)).imp λD σ H=>bR λR ρ G F e h=>⟨R,ρ,G,F,e,by
  unfold uX at h
  cases k:aB ρ <;> rw[k]at h <;> first|exact h|exact h.elim⟩
theorem Qx(o:Ox cl Γ E X)(h : Γ.nx=true):PassesOwn (model X.prog X.w) X.A X.env X.xe:=by
 rw[o.n h]; exact .never
noncomputable def uY(c:BF)(b:SF):Nat->SF
 | 0=>λ_=>.bad
 | n + 1=>λρ => (c ρ).bind λp=>if p.1=true then (b p.2).bind λq=>(match q.1 with
  |.nx=>uY c b n q.2
  |.ct=>uY c b n q.2
  |.bk=>.ok (.nx,q.2)
  |.rt T fr=>.ok (.rt T fr,q.2))else .ok (.nx,p.2)
noncomputable def Qy(fu:En->Nat)(c:BF)(b:SF):SF:=λρ=>uY c b (fu ρ) ρ
noncomputable def sW(fu:En->Nat)(k:VT rJ)(b:VB bD):VS (Qy fu rJ bD) where
 ck Γ e:=yj e λt l aM _=>aV aM (Γ.nx&&k.ck Γ t&&b.ck Γ l)
 cs:=k.cs++b.cs
 ok:=@λcl E Γ X e q o h=>by
  walk_at "o"
  simp only[an]at h
  refine(aa2 (Qx o h.1.1) (k.ok (ml q) o h.1.2) (b.ok (mr q) o h.2)).imp λD σ H=>bR λR ρ G F e h=>?_
  refine⟨λm σ' H'=>∃ρ' G' F',Ok (aA X.K) R ρ' σ' G' H' F'/\aG (aA X.K) G H F G' H' F'/\bK (tx cl E X) H F (uY rJ bD m ρ') (nJ (tx cl E X) R G H F D),⟨fu ρ,ρ,G,F,e,.refl,h⟩,?_⟩
  rintro m σ1 H1 ⟨ρ1,G1,F1,e1,s1,h1⟩
  cases m with
  |zero=>exact h1.elim
  |succ n =>
   refine lO e1 s1 h1 λp h G2 H2 F2 e2 s2=>?_
   split at h <;> rename_i d
   .rw[if_pos d]
    refine⟨_,λσ' H' q=>⟨n,Nat.lt_succ_self n,q⟩,R,p.2,G2,F2,e2,h.run (s1.trans s2) λq h=>?_⟩
    obtain⟨fl,ρ3⟩:=q
    cases fl with
    |nx=>exact λσ3 G3 H3 F3 e3 s3=>⟨ρ3,G3,F3,e3,(s1.trans s2).trans s3,h⟩
    |ct=>exact λσ3 G3 H3 F3 e3 s3=>⟨ρ3,G3,F3,e3,(s1.trans s2).trans s3,h⟩
    |bk=>exact λσ3 G3 H3 F3 e3 s3=>h σ3 G3 H3 F3 e3 ((s1.trans s2).trans s3)
    |rt T fr=>exact λv G' H' r=>h v G' H' (r.back (s1.trans s2))
   .rw[if_neg d]
    exact h σ1 G2 H2 F2 e2 (s1.trans s2)
noncomputable def zH(K:PySem.W.Frag)(G:Hp)(J:It)(us:List Tr):Prop:=∀G' H',Same G G'->Same G' H'->∀i,(i=us.length->J.stop i H')/\∀u,us[i]?=some u->J.go i H'/\∀x cD,J.jC i H' x cD->∃G'',Gw K G' H' G'' cD/\Rep K G'' x u
noncomputable def Ti(t:Tx)(f:IF):TI:=λσ H Q=>∃R ρ G F,Ok t.K R ρ σ G H F/\bK t H F (f ρ) λp=>∀J G' H' F',Ok t.K R p.2 σ G' H' F'->aG t.K G H F G' H' F'->zH t.K G' J p.1->Q J H'
theorem PI.imp(h:PI X tg e t)(i:∀σ H Q,u σ H Q->t σ H Q):PI X tg e u:=λpins s σ H Q I q=>h pins s σ H Q I (i σ H Q q)
noncomputable def Gi:Expr->Bool
 |.Set .. => false
 |_=>true
theorem jJ(h:Gi e=true)(x:Value):foldedSetIterable e env x=pure x:=by
 cases e <;> first|rfl|cases h
noncomputable abbrev VI(f:IF):=Vn (τ := Expr × Expr) λcl E X e=>PI X e.1 e.2 (Ti (tx cl E X) f)/\Gi e.2=true
noncomputable def jK(g:GF)(b:SF):List Tr->SF
 | []=>λρ=>.ok (.nx,ρ)
 | u :: us=>λρ => (g u ρ).bind λρ1=>(b ρ1).bind λq=>(match q.1 with
  |.nx=>jK g b us q.2
  |.ct=>jK g b us q.2
  |.bk=>.ok (.nx,q.2)
  |.rt T fr=>.ok (.rt T fr,q.2))
noncomputable def Qz(fi:IF)(g:GF)(b:SF):SF:=λρ=>(fi ρ).bind λp=>jK g b p.1 p.2
noncomputable def sF(i:VI mJ)(g:VG gC jm)(b:VB bD):VS (Qz mJ gC bD) where
 ck Γ e:=yp e λt y l aM _=>aV aM (Γ.nx&&i.ck Γ (t,y)&&g.ck Γ t&&b.ck Γ l)
 cs:=i.cs++(g.cs++b.cs)
 ok:=@λcl E Γ X e q o h=>by
  walk_at "o"
  simp only[an]at h
  obtain⟨⟨⟨h1,h2⟩,h3⟩,h4⟩:=h
  obtain⟨pi,ni⟩:=i.ok (ml q) o h2
  obtain⟨pg,ng,_⟩:=g.ok (ml (mr q)) o h3
  refine(abf (Qx o h1) o.l pi pg (b.ok (mr (mr q)) o h4) (jJ ni)).imp λD σ H=>bR λR ρ G F e h=>⟨R,ρ,G,F,e,h.run (aG.refl (G:=G)) λp h J G1 H1 F1 e1 s1 it=>?_⟩
  obtain⟨us,ρ1⟩:=p
  refine⟨λi m σ' H'=>m=us.length-i/\i<=us.length/\∃ρ' G' F',Ok (aA X.K) R ρ' σ' G' H' F'/\aG (aA X.K) G H F G' H' F'/\Same G1 G'/\bK (tx cl E X) H F (jK gC bD (us.drop i) ρ') (nJ (tx cl E X) R G H F D),⟨us.length,by simp,Nat.zero_le _,ρ1,G1,F1,e1,s1,Same.refl _,h⟩,?_⟩
  rintro i m σ2 H2 ⟨rfl,hi,ρ2,G2,F2,e2,s2,m2,h2⟩
  have q:=it G2 H2 m2 e2.sub i
  by_cases hlt:i<us.length
  .rw[List.drop_eq_getElem_cons hlt]at h2
   obtain⟨go,y⟩:=q.2 us[i] (by simp[hlt])
   refine .inr ⟨go,_,λσ' H' z=>⟨us.length-(i+1),by omega,rfl,hlt,z⟩,λx H3 yl=>?_⟩
   obtain⟨G3,w3,r3⟩:=y x H3 yl
   obtain⟨e3,s3⟩:=e2.grow w3
   obtain⟨ρ4,k4,h⟩:=h2.okb (ng _ _)
   refine⟨R,ρ2,G3,F2,_,e3,r3,?_⟩
   rw[k4]
   intro σ4 F4 e4 f4 _
   have s4:=s3.trans (aG.sub f4)
   refine⟨R,ρ4,G3,F4,e4,h.run (s2.trans s4) λr h=>?_⟩
   obtain⟨fl,ρ5⟩:=r
   cases fl with
   |nx=>exact λσ5 G5 H5 F5 e5 s5=>⟨ρ5,G5,F5,e5,(s2.trans s4).trans s5,m2.trans (s4.gg.trans s5.gg),h⟩
   |ct=>exact λσ5 G5 H5 F5 e5 s5=>⟨ρ5,G5,F5,e5,(s2.trans s4).trans s5,m2.trans (s4.gg.trans s5.gg),h⟩
   |bk=>exact λσ5 G5 H5 F5 e5 s5=>h σ5 G5 H5 F5 e5 ((s2.trans s4).trans s5)
   |rt T fr=>exact λv G' H' r=>h v G' H' (r.back (s2.trans s4))
  .have z:i=us.length:=by omega
   subst z
   rw[List.drop_length]at h2
   exact .inl ⟨q.1 rfl,h2 σ2 G2 H2 F2 e2 s2⟩
noncomputable def Ite(K:PySem.W.Frag)(l:Addr):It where
 go:=λi H=>∃xs x,aH K H l xs/\xs[i]?=some x
 jC:=λi H v H'=>∃(T:Addr) (x:V),v=.ref T/\H T=none/\H'=upd H T (.tup [.int (i:Int),x])/\∀xs,aH K H l xs->xs[i]?=some x
 stop:=λi H=>∃xs,aH K H l xs/\i=xs.length
noncomputable def aez(l e it:Addr)(i:Nat)(h:Heap):Prop:=(∃old,IsEnum h e it i old)/\h.IsListIter it l i
section
variable {P:Program}{w:World}{K:PySem.W.Frag}
theorem aeA(l e it:Addr)(hei:e≠it)(hle:l≠e)(hli:l≠it):Turn P w K (.Tuple elts k pos) (Ite K l) [e,it] e (aez l e it) where
 mem:=by simp
 obj:=λi h st b hb=>by
  obtain⟨⟨old,he⟩,⟨o1,e1,_,d1⟩⟩:=st
  have hb':b=e\/b=it:=by simpa using hb
  rcases hb' with rfl|rfl
  .exact⟨_,he,λv q=>nomatch q⟩
  .exact⟨o1,e1,λv q=>by rw[d1]at q; cases q⟩
 keep:=λi h h' st kp=>by
  obtain⟨⟨old,he⟩,h1⟩:=st
  exact⟨⟨old,kp e (by simp) _ he⟩,h1.at λo q=>kp it (by simp) o q⟩
 item:=by
  intro X hP hw hK hc i pins s σ H E I hf st hg
  subst hP hw hK
  obtain⟨xs,x,q1,hx⟩:=hg
  obtain⟨fX,lM,p1,_⟩:=I.list q1
  obtain⟨u,hu,ru⟩:=lM.get hx
  have W:=WalksT.enumerate (prog:=X.prog) (w:=X.w) (A:=X.A) (I.ok.hd hc) e it l hei hle hli fX.toArray
  have lt1:i<fX.length:=(List.getElem?_eq_some_iff.mp hu).1
  refine W.item i s _ E (by simp; lia) ⟨st.1,st.2,p1.isList⟩ λT vals h' tk hp hT ht mid kk=>?_
  obtain⟨t0,u',e1,rfl⟩:=hp
  have eu:u'=u:=by
   have:fX[i]?=some u':=by simpa using e1
   rw[hu]at this; cases this; rfl
  subst eu
  refine⟨.ref T,rfl,?_⟩
  refine W.go elts k pos i T _ _ E mid λh'' st' um=>?_
  have nT:=W.apart i T _ mid
  have ob:∀b∈[e,it],b<s.heap.objs.size:=λb hb=>by
   obtain⟨⟨old,he⟩,⟨o1,e1,_,d1⟩⟩:=st
   have hb':b=e\/b=it:=by simpa using hb
   rcases hb' with rfl|rfl
   .exact Heap.lt_size he
   .exact Heap.lt_size e1
  have DG:T∉[e,it]:=λm=>absurd (ob T m) (Nat.not_lt.mpr hT)
  have DK:IsTup h'' T #[.int i t0,u']:=by
   obtain⟨o,e',r⟩:=ht
   exact⟨o,um T o nT e',r⟩
  have th:∀b∈[e,it],∃o,h''.get? b=some o:=λb hb=>by
   obtain⟨⟨old,he⟩,⟨o1,e1,_,d1⟩,_⟩:=st'
   have hb':b=e\/b=it:=by simpa using hb
   rcases hb' with rfl|rfl
   .exact⟨_,he⟩
   .exact⟨_,e1⟩
  have I':Inv X pins σ (upd H T (.tup [.int (i:Int),x])) {s with heap:=h'',toks:=tk }:=I.Dy (its:=[.int i t0,u']) hf (λb o n e=>um b o n (kk b o n e)) th hT DK (.cons ⟨_,rfl⟩ (.cons ru .nil)) (by show 2<=sizeLine; decide)
  refine⟨.ref T,_,I',rfl,⟨T,x,rfl,I.hok.fresh hT,rfl,λxs' a1=>?_⟩,⟨st'.1,st'.2.1⟩,λb hb=>?_⟩
  .rw[I.mW a1 q1]
   exact hx
  .have nb:b≠T:=by
    intro e0
    rw[e0]at hb
    exact DG hb
   rw[aK nb]
   exact(hf b hb).1
 done:=by
  intro X hP hw hK hc i pins s σ H E I hf st hg
  subst hP hw hK
  obtain⟨xs,q1,e1⟩:=hg
  obtain⟨fX,lM,p1,_⟩:=I.list q1
  have W:=WalksT.enumerate (prog:=X.prog) (w:=X.w) (A:=X.A) (I.ok.hd hc) e it l hei hle hli fX.toArray
  have ei:i=fX.toArray.size:=by simp[e1,lM.length]
  subst ei
  exact W.done s _ E ⟨st.1,st.2,p1.isList⟩ λh' tk kk=>⟨rfl,I.Dz hf λb o n e=>kk b o n e⟩
 self:=λA i s Q E st h=>by
  obtain⟨⟨old,he⟩,_⟩:=st
  exact wpAny_pyIter_enum he h
end
section
variable {X:Cx}
noncomputable def aeB(K:PySem.W.Frag)(ta:TA):TI:=λσ H R=>ta σ H λvs H1=>∃l,vs=[.ref l]/\(∃xs,aH K H1 l xs)/\R (Ite K l) H1
theorem aeC(hm:X.mg "enumerate" = none) (ha:PA X [a] ta) (hg:X.env.kindOf "enumerate" = some .globalImplicit:=by kernel_rfl) (hs:notStar a=true:=by kernel_rfl) :
  PI X (.Tuple elts k tpos) (.Call (.Name "enumerate" p) [a] [] pos) (aeB X.K ta):=by
 intro pins s σ H R I h
 refine Call_ (jB I hg hm (show bootBuiltins "enumerate" = some (.type "enumerate") by decide +kernel) (PyProof.Rows.callWith_type1 (aD (ha pos pins s σ H _ I h) λus s1 ⟨vs,H1,I1,r1,q1⟩=>?_) (fW hs) rfl) (by decide +kernel) (by kernel_rfl))
 obtain⟨l,e,⟨xs,h1⟩,q⟩:=q1
 subst e
 cases r1 with
 |cons r rr =>
  cases rr
  cases r
  obtain⟨fX,lM,p1,_⟩:=I1.list h1
  obtain⟨o1,e1,_⟩:=p1.isList
  have lt:=Heap.lt_size e1
  refine call_enumerate_list p1.isList λh' he hit hsz hk=>?_
  refine wpAny_pyIter_enum he ?_
  refine⟨_,[_,_],_,_,H1,rfl,I1.kept (t':=s1.toks) hk,aeA l _ _ (Nat.succ_ne_self _) (Nat.ne_of_lt (Nat.lt_succ_of_lt lt)) (Nat.ne_of_lt lt),⟨⟨_,he⟩,hit⟩,λc hc=>?_,q⟩
  have hc':c=s1.heap.objs.size+1\/c=s1.heap.objs.size:=by simpa using hc
  have hge:s1.heap.objs.size<=c:=by rcases hc' with rfl|rfl <;> lia
  exact I1.jD hge (I1.hok.fresh hge)
end
noncomputable abbrev cW(h:Heap)(T:Addr)(a b c:Value):Prop:=h.get? T=some {cls:=.type "tuple",data:=.seq #[a,b,c] }
structure zJ(y I O j1 j2 j3 m1 m2 m3:Addr):Prop where
 nd : [y,I,O,j1,j2,j3].Nodup
 l1:m1∉[y,O,j1,j2,j3]
 l2:m2∉[y,O,j1,j2,j3]
 l3:m3∉[y,O,j1,j2,j3]
section
variable {prog:Program}{w:World}{s:Shared}{A:Around}{E:Value->Shared->Prop}
theorem Gj(t:cW s.heap T a b c)
  (q:∀g,g.get? T=some {cls:=.type "tuple",data:=.seq ((#[a,b,c]:Array Value).setIfInBounds k x) }->Heap.SameBut T s.heap g->Q () {s with heap:=g }):wpAny (model prog w) A (updateSeq T (·.setIfInBounds k x)) Q E s:=by
 refine wpAny_updateSeq t rfl (q _ ?_ (.update ..))
 rw[Heap.get?_update_self _ t rfl]
 simp[Obj.mapSeq]
noncomputable def QB(y O j1 j2 j3:Addr)(h g:Heap):Prop:=∀c o,c∉[y,O,j1,j2,j3]->h.get? c=some o->g.get? c=some o
theorem aeD{n:Nat}{as bs cs:Array Value}{Q:Value->Shared->Prop}(D:zJ y I O j1 j2 j3 m1 m2 m3)
  (hy:IsZip s.heap y I O .none) (hI:cW s.heap I (.ref j1) (.ref j2) (.ref j3)) (hO:cW s.heap O p q r) (k1:s.heap.IsListIter j1 m1 n) (k2:s.heap.IsListIter j2 m2 n) (k3:s.heap.IsListIter j3 m3 n)
  (e1:s.heap.IsList m1 as) (e2:s.heap.IsList m2 bs) (e3:s.heap.IsList m3 cs) (ga:as[n]?=some a) (gb:bs[n]?=some b) (gc:cs[n]?=some c)
  (fin:∀g,IsZip g y I O (rawInt s.heap.objs.size)->cW g O a b c->g.IsListIter j1 m1 (n+1)->g.IsListIter j2 m2 (n+1)->g.IsListIter j3 m3 (n+1)->cW g s.heap.objs.size a b c->QB y O j1 j2 j3 s.heap g->Q (.ref s.heap.objs.size) {s with heap:=g }) :
  wpAny (model prog w) A (Builtin.«zip.__next__» ⟨[.ref y],[]⟩) (λf u=>∃v,f=.done (.ret v)/\Q v u) E s:=by
 have nd:=D.nd
 have d1:=D.l1
 have d2:=D.l2
 have d3:=D.l3
 simp only[List.nodup_cons,List.mem_cons,List.not_mem_nil,or_false,not_or,List.nodup_nil,and_true,not_false_eq_true]at nd d1 d2 d3
 obtain⟨⟨zI,zO,z1,z2,z3⟩,⟨IO,I1,I2,I3⟩,⟨O1,O2,O3⟩,⟨n12,n13⟩,n23⟩:=nd
 obtain⟨x1z,x1O,x11,x12,x13⟩:=d1
 obtain⟨x2z,x2O,x21,x22,x23⟩:=d2
 obtain⟨x3z,QC,x31,x32,x33⟩:=d3
 show wpAny _ _ (field (.ref y) 2 >>= _) _ _ _
 refine wpAny_bind (wpAny_field hy rfl (x:=.bool false) rfl ?_)
 show wpAny _ _ (field (.ref y) 3 >>= _) _ _ _
 refine wpAny_bind (wpAny_field hy rfl (x:=.ref I) rfl ?_)
 refine wpAny_bind (wpAny_seqItems hI rfl ?_)
 show wpAny _ _ (Builtin.SmallTypes.ownedTupleIsFree (.ref y) >>= _) _ _ _
 refine wpAny_bind ?_; unfold Builtin.SmallTypes.ownedTupleIsFree
 refine wpAny_bind (wpAny_field hy rfl (x:=.none) rfl (wpAny_pure ?_))
 simp only[if_true]
 refine wpAny_bind <| wpAny_rule ?_
 refine wpAny_bind (wpAny_field hy rfl (x:=.ref O) rfl ?_)
 refine wpAny_bind (wpAny_setField_rec hy (by simp) λha za sa=>?_)
 replace za:IsZip ha y I O .ellipsis:=za
 refine wpAny_bind ?_
 simp only[List.forIn_cons,List.forIn_nil,List.zipIdx_nil,List.zipIdx_cons]
 refine wpAny_bind <| wpAny_bind <| wpAny_onRaise ?_
 show wpAny _ _ (Builtin.SmallTypes.nextOf (.ref j1) >>= _) _ _ _
 refine wpAny_bind (wpAny_nextOf_list_item (k1.extBut sa.extBut (Ne.symm z1)) (e1.extBut sa.extBut x1z) ga λhb kb sb=>wpAny_pure ?_)
 have Ob:cW hb O p q r:=sb.extBut _ _ O1 (sa.extBut _ _ (Ne.symm zO) hO)
 refine wpAny_bind (wpAny_seqItems Ob rfl ?_)
 refine wpAny_bind (Gj Ob λhc Oc sc=>?_)
 replace Oc:cW hc O a q r:=Oc
 refine wpAny_bind <| wpAny_letGo <| wpAny_pure ?_
 refine wpAny_bind <| wpAny_bind <| wpAny_onRaise ?_
 show wpAny _ _ (Builtin.SmallTypes.nextOf (.ref j2) >>= _) _ _ _
 refine wpAny_bind (wpAny_nextOf_list_item (((k2.extBut sa.extBut (Ne.symm z2)).extBut sb.extBut (Ne.symm n12)).extBut sc.extBut (Ne.symm O2)) (((e2.extBut sa.extBut x2z).extBut sb.extBut x21).extBut sc.extBut x2O) gb λhd kd sd=>wpAny_pure ?_)
 have Od:cW hd O a q r:=sd.extBut _ _ O2 Oc
 refine wpAny_bind (wpAny_seqItems Od rfl ?_)
 refine wpAny_bind (Gj Od λhe Oe se=>?_)
 replace Oe:cW he O a b r:=Oe
 refine wpAny_bind <| wpAny_letGo <| wpAny_pure ?_
 refine wpAny_bind <| wpAny_bind <| wpAny_onRaise ?_
 show wpAny _ _ (Builtin.SmallTypes.nextOf (.ref j3) >>= _) _ _ _
 refine wpAny_bind (wpAny_nextOf_list_item (((((k3.extBut sa.extBut (Ne.symm z3)).extBut sb.extBut (Ne.symm n13)).extBut sc.extBut (Ne.symm O3)).extBut sd.extBut (Ne.symm n23)).extBut se.extBut (Ne.symm O3)) (((((e3.extBut sa.extBut x3z).extBut sb.extBut x31).extBut sc.extBut QC).extBut sd.extBut x32).extBut se.extBut QC) gc λhf kf sf=>wpAny_pure ?_)
 have Of:cW hf O a b r:=sf.extBut _ _ O3 Oe
 refine wpAny_bind (wpAny_seqItems Of rfl ?_)
 refine wpAny_bind (Gj Of λhg Og sg=>?_)
 replace Og:cW hg O a b c:=Og
 refine wpAny_bind <| wpAny_letGo <| wpAny_pure <| wpAny_pure ?_
 refine wpAny_bind (wpAny_seqItems Og rfl ?_)
 refine wpAny_bind <| wpAny_newTuple ?_
 have size:hg.objs.size=s.heap.objs.size:=by rw[sg.1,sf.1,se.1,sd.1,sc.1,sb.1,sa.1]
 have up:∀x o,x∉[y,O,j1,j2,j3]->s.heap.get? x=some o->hg.get? x=some o:=λx o h t=>by
  simp only[List.mem_cons,List.not_mem_nil,or_false,not_or]at h
  obtain⟨u1,u2,u3,u4,u5⟩:=h
  exact sg.extBut _ _ u2 (sf.extBut _ _ u5 (se.extBut _ _ u2 (sd.extBut _ _ u4 (sc.extBut _ _ u2 (sb.extBut _ _ u3 (sa.extBut _ _ u1 t))))))
 have zg:IsZip hg y I O .ellipsis:=sg.extBut _ _ zO (sf.extBut _ _ z3 (se.extBut _ _ zO (sd.extBut _ _ z2 (sc.extBut _ _ zO (sb.extBut _ _ z1 za)))))
 have Gm:hg.IsListIter j1 m1 (n+1):=((((kb.extBut sc.extBut (Ne.symm O1)).extBut sd.extBut n12).extBut se.extBut (Ne.symm O1)).extBut sf.extBut n13).extBut sg.extBut (Ne.symm O1)
 have Gn:hg.IsListIter j2 m2 (n+1):=((kd.extBut se.extBut (Ne.symm O2)).extBut sf.extBut n23).extBut sg.extBut (Ne.symm O2)
 have Gp:hg.IsListIter j3 m3 (n+1):=kf.extBut sg.extBut (Ne.symm O3)
 have zl:y<hg.objs.size:=Heap.lt_size zg
 show wpAny _ _ (Builtin.SmallTypes.ownedTupleHandOut (.ref y) (.ref hg.objs.size) >>= _) _ _ _
 refine wpAny_bind ?_; unfold Builtin.SmallTypes.ownedTupleHandOut
 have zp:IsZip (hg.push {cls:=.type "tuple",data:=.seq #[a,b,c] }) y I O .ellipsis:=Heap.get?_push_of_some _ zg
 refine wpAny_bind (wpAny_setField_rec zp (by simp) λhu zu su=>?_)
 replace zu:IsZip hu y I O (rawInt hg.objs.size):=zu
 refine wpAny_setField_rec zu (by simp) λhv zv sv=>?_
 replace zv:IsZip hv y I O (rawInt hg.objs.size):=zv
 have top:∀x o,x≠y->hg.get? x=some o->hv.get? x=some o:=λx o v t=>sv.extBut _ _ v (su.extBut _ _ v (Heap.get?_push_of_some _ t))
 have Tv:cW hv hg.objs.size a b c:=sv.extBut _ _ (Nat.ne_of_gt zl) (su.extBut _ _ (Nat.ne_of_gt zl) (Heap.get?_push_size _ rfl))
 rw[size]at zv Tv
 apply wpAny_pure; refine⟨_,rfl,?_⟩
 show Q (.ref hg.objs.size) _
 rw[size]
 exact fin hv zv (top _ _ (Ne.symm zO) Og) (Gm.at λo t=>top _ o (Ne.symm z1) t) (Gn.at λo t=>top _ o (Ne.symm z2) t) (Gp.at λo t=>top _ o (Ne.symm z3) t) Tv λx o h t=>top x o (λv=>h (by simp[v])) (up x o h t)
end
section
variable {prog:Program}{w:World}{s:Shared}{A:Around}{E:Value->Shared->Prop}
theorem aeE(hh:A.handled=none)(y1:j1≠y)(Gq:m1≠y)(hy:IsZip s.heap y I O .none)(hI:cW s.heap I (.ref j1) (.ref j2) (.ref j3))(k1:s.heap.IsListIter j1 m1 n)(e1:s.heap.IsList m1 as)(ga:as[n]?=none)
  (fin:∀g x,(∀c o,c≠y->c≠j1->s.heap.get? c=some o->g.get? c=some o)->(∃o,g.get? x=some o/\o.cls=.type "StopIteration")->E (.ref x) {s with heap:=g }):wpAny (model prog w) A (Builtin.«zip.__next__» ⟨[.ref y],[]⟩) Q E s:=by
 show wpAny _ _ (field (.ref y) 2 >>= _) _ _ _
 refine wpAny_bind (wpAny_field hy rfl (x:=.bool false) rfl ?_)
 show wpAny _ _ (field (.ref y) 3 >>= _) _ _ _
 refine wpAny_bind (wpAny_field hy rfl (x:=.ref I) rfl ?_)
 refine wpAny_bind (wpAny_seqItems hI rfl ?_)
 show wpAny _ _ (Builtin.SmallTypes.ownedTupleIsFree (.ref y) >>= _) _ _ _
 refine wpAny_bind ?_; unfold Builtin.SmallTypes.ownedTupleIsFree
 refine wpAny_bind (wpAny_field hy rfl (x:=.none) rfl (wpAny_pure ?_))
 simp only[if_true]
 refine wpAny_bind <| wpAny_rule ?_
 refine wpAny_bind (wpAny_field hy rfl (x:=.ref O) rfl ?_)
 refine wpAny_bind (wpAny_setField_rec hy (by simp) λha za sa=>?_)
 replace za:IsZip ha y I O .ellipsis:=za
 refine wpAny_bind ?_
 simp only[List.forIn_cons,List.forIn_nil,List.zipIdx_nil,List.zipIdx_cons]
 refine wpAny_bind <| wpAny_bind <| wpAny_onRaise ?_
 show wpAny _ _ (Builtin.SmallTypes.nextOf (.ref j1) >>= _) _ _ _
 refine wpAny_bind (wpAny_nextOf_list_end hh (k1.extBut sa.extBut y1) (e1.extBut sa.extBut Gq) ga λhb x sb hx=>?_)
 obtain⟨o,ho,hc⟩:=hx
 have zb:IsZip hb y I O .ellipsis:=sb _ _ (Ne.symm y1) za
 have xy:x≠y:=λv=>by subst v; rw[zb]at ho; cases ho; simp at hc
 exact wpAny_setField_rec zb (by simp) λhd _ sd=>fin hd x (λc o c1 c2 t=>sd.extBut _ _ c1 (sb _ _ c2 (sa.extBut _ _ c1 t))) ⟨o,sd.extBut _ _ xy ho,hc⟩
theorem aeF(D:zJ y I O j1 j2 j3 m1 m2 m3)
  (hy:IsZip s.heap y I O .none) (hI:cW s.heap I (.ref j1) (.ref j2) (.ref j3)) (hO:cW s.heap O p q r) (k1:s.heap.IsListIter j1 m1 n) (k2:s.heap.IsListIter j2 m2 n) (k3:s.heap.IsListIter j3 m3 n)
  (e1:s.heap.IsList m1 as) (e2:s.heap.IsList m2 bs) (e3:s.heap.IsList m3 cs) (ga:as[n]?=some a) (gb:bs[n]?=some b) (gc:cs[n]?=some c)
  (fin:∀g,IsZip g y I O (rawInt s.heap.objs.size)->cW g O a b c->g.IsListIter j1 m1 (n+1)->g.IsListIter j2 m2 (n+1)->g.IsListIter j3 m3 (n+1)->cW g s.heap.objs.size a b c->QB y O j1 j2 j3 s.heap g->Q (some (.ref s.heap.objs.size)) {s with heap:=g }) :
  wpAny (model prog w) A (pyNext (.ref y)) Q E s:=by
 have ty:s.TypeIs (.ref y) "zip" := ⟨_,hy,rfl⟩
 unfold pyNext
 exact wpAny_bind (wpAny_attempt (wpAny_callSpecial?_slot (name:=Str.ofString "__next__") ty F.slot_zip_next (wpAny_call_entry F.slot_zip_next ty F.entry_zip_next (aeD D hy hI hO k1 k2 k3 e1 e2 e3 ga gb gc λg q1 q2 q3 q4 q5 q6 q7=>wpAny_pure (fin g q1 q2 q3 q4 q5 q6 q7)) (F.args_zip_next_1 _))))
theorem aeG(hh:A.handled=none)(y1:j1≠y)(Gq:m1≠y)(hy:IsZip s.heap y I O .none)(hI:cW s.heap I (.ref j1) (.ref j2) (.ref j3))(k1:s.heap.IsListIter j1 m1 n)(e1:s.heap.IsList m1 as)(ga:as[n]?=none)
  (fin:∀g,(∀c o,c≠y->c≠j1->s.heap.get? c=some o->g.get? c=some o)->Q none {s with heap:=g }):wpAny (model prog w) A (pyNext (.ref y)) Q E s:=by
 have ty:s.TypeIs (.ref y) "zip" := ⟨_,hy,rfl⟩
 unfold pyNext
 refine wpAny_bind (wpAny_attempt (wpAny_callSpecial?_slot (name:=Str.ofString "__next__") ty F.slot_zip_next (wpAny_call_entry F.slot_zip_next ty F.entry_zip_next (aeE hh y1 Gq hy hI k1 e1 ga λg x k hx=>?_) (F.args_zip_next_1 _))))
 obtain⟨o,ho,hc⟩:=hx
 exact wpAny_bind (wpAny_isInstance (T := "StopIteration") (b:=true) ⟨o,ho,hc⟩ isSubtype_stop (wpAny_pure (fin _ k)))
end
theorem tc3(a b c:Value):checkTypeCall "zip" ⟨[a,b,c],[]⟩=pure ():=by kernel_rfl
theorem nc3(a b c:Value):checkBuiltinCall "zip.__new__" ⟨[.type "zip",a,b,c],[]⟩=pure ():=by kernel_rfl
noncomputable abbrev uZ(h:Heap)(m1:Addr):Heap:=h.push {cls:=.type "list_iterator",data:=.fields #[.ref m1,.int 0 0] }
noncomputable abbrev u0(h:Heap)(m1 m2:Addr):Heap:=(uZ h m1).push {cls:=.type "list_iterator",data:=.fields #[.ref m2,.int 0 0] }
noncomputable abbrev zK(h:Heap)(m1 m2 m3:Addr):Heap:=(u0 h m1 m2).push {cls:=.type "list_iterator",data:=.fields #[.ref m3,.int 0 0] }
noncomputable abbrev zL(h:Heap)(m1 m2 m3:Addr):Heap:=(zK h m1 m2 m3).push {cls:=.type "tuple",data:=.seq #[.ref h.objs.size,.ref (uZ h m1).objs.size,.ref (u0 h m1 m2).objs.size] }
noncomputable abbrev zM(h:Heap)(m1 m2 m3:Addr):Heap:=(zL h m1 m2 m3).push {cls:=.type "tuple",data:=.seq #[.none,.none,.none] }
noncomputable abbrev pN(h:Heap)(m1 m2 m3:Addr):Heap:=(zM h m1 m2 m3).push {cls:=.type "zip",data:=.fields #[.none,.bool false,.bool false,.ref (zK h m1 m2 m3).objs.size,.ref (zL h m1 m2 m3).objs.size] }
theorem aeH(m1 m2 m3:Addr)(as bs cs:Array Value):Meets (Builtin.«zip.__new__» ⟨[.type "zip",.ref m1,.ref m2,.ref m3],[]⟩) (λ_ R s=>s.heap.IsList m1 as/\s.heap.IsList m2 bs/\s.heap.IsList m3 cs/\R (.ok (.ret (.ref (zM s.heap m1 m2 m3).objs.size))) {s with heap:=pN s.heap m1 m2 m3 }) :=
 .of_wp λprog w A R s h=>by
  obtain⟨hp,g,d,tk,os⟩:=s; obtain⟨e1,e2,e3,h⟩:=h
  have sub:=sub_zip
  have f1:Heap.IsList (Shared.heap ⟨hp,g,d,tk,os⟩) m1 as:=e1
  have f2:Heap.IsList (Shared.heap ⟨uZ hp m1,g,d,tk,os⟩) m2 bs:=Heap.IsList.push e2 _
  have f3:Heap.IsList (Shared.heap ⟨u0 hp m1 m2,g,d,tk,os⟩) m3 cs:=Heap.IsList.push (Heap.IsList.push e3 _) _
  wp_walk using wpAny_pyIter_list f1,wpAny_pyIter_list f2,wpAny_pyIter_list f3
  exact⟨_,rfl,h⟩
theorem oi4(a b c d:Value):argsOk "object.__init__" ⟨[a,b,c,d],[]⟩:=by
 unfold argsOk
 rw[signature?_of (id := "object.__init__") (o:=['t','c','e','j','b','o']) (n:=['_','_','t','i','n','i','_','_']) (by kernel_rfl) F.owner_object]
 kernel_rfl
section
variable {prog:Program}{w:World}{s:Shared}{A:Around}{E:Value->Shared->Prop}
theorem aeI(e1:s.heap.IsList m1 as)(e2:s.heap.IsList m2 bs)(e3:s.heap.IsList m3 cs)
  (fin:∀g,IsZip g (s.heap.objs.size+5) (s.heap.objs.size+3) (s.heap.objs.size+4) .none->cW g (s.heap.objs.size+3) (.ref s.heap.objs.size) (.ref (s.heap.objs.size+1)) (.ref (s.heap.objs.size+2)) ->
   cW g (s.heap.objs.size+4) .none .none .none->g.IsListIter s.heap.objs.size m1 0->g.IsListIter (s.heap.objs.size+1) m2 0->g.IsListIter (s.heap.objs.size+2) m3 0->(∀c o,s.heap.get? c=some o->g.get? c=some o)->Q (.ref (s.heap.objs.size+5)) {s with heap:=g }) :
  wpAny (model prog w) A (call (.type "zip") [.ref m1,.ref m2,.ref m3]) Q E s:=by
 refine callType_new F.called_zip (by decide) (tc3 _ _ _) (nc3 _ _ _) (λobj=>oi4 obj _ _ _) F.entry_zip_new (aeH m1 m2 m3 as bs cs) ⟨e1,e2,e3,?_⟩
 have y1:(uZ s.heap m1).objs.size=s.heap.objs.size+1:=Heap.size_push ..
 have y2:(u0 s.heap m1 m2).objs.size=s.heap.objs.size+2:=by rw[Heap.size_push,y1]
 have y3:(zK s.heap m1 m2 m3).objs.size=s.heap.objs.size+3:=by rw[Heap.size_push,y2]
 have y4:(zL s.heap m1 m2 m3).objs.size=s.heap.objs.size+4:=by rw[Heap.size_push,y3]
 have y5:(zM s.heap m1 m2 m3).objs.size=s.heap.objs.size+5:=by rw[Heap.size_push,y4]
 have up:∀{h:Heap} {o:Obj} {c:Addr} {u:Obj},h.get? c=some u->(h.push o).get? c=some u:=λq=>Heap.get?_push_of_some _ q
 have p6:(pN s.heap m1 m2 m3).get? (zM s.heap m1 m2 m3).objs.size=some _:=Heap.get?_push_size _ rfl
 have p5:(pN s.heap m1 m2 m3).get? (zL s.heap m1 m2 m3).objs.size=some _:=up (Heap.get?_push_size _ rfl)
 have p4:(pN s.heap m1 m2 m3).get? (zK s.heap m1 m2 m3).objs.size=some _:=up (up (Heap.get?_push_size _ rfl))
 have p3:(pN s.heap m1 m2 m3).get? (u0 s.heap m1 m2).objs.size=some _:=up (up (up (Heap.get?_push_size _ rfl)))
 have p2:(pN s.heap m1 m2 m3).get? (uZ s.heap m1).objs.size=some _:=up (up (up (up (Heap.get?_push_size _ rfl))))
 have p1:(pN s.heap m1 m2 m3).get? s.heap.objs.size=some _:=up (up (up (up (up (Heap.get?_push_size _ rfl)))))
 show _/\_
 rw[y3,y4,y5]at p6
 rw[y1,y2,y3]at p4
 rw[y4]at p5
 rw[y2]at p3
 rw[y1]at p2
 rw[y5]
 exact⟨⟨_,p6,rfl⟩,fin _ p6 p4 p5 ⟨_,p1,rfl,rfl⟩ ⟨_,p2,rfl,rfl⟩ ⟨_,p3,rfl,rfl⟩ λc o q=>up (up (up (up (up (up q)))))⟩
end
noncomputable def QD(K:PySem.W.Frag)(m1 m2 m3:Addr):It where
 go:=λi H=>∃xs ys ws x y u,aH K H m1 xs/\aH K H m2 ys/\aH K H m3 ws/\xs[i]?=some x/\ys[i]?=some y/\ws[i]?=some u
 jC:=λi H v H'=>∃T x y u,v=.ref T/\H T=none/\H'=upd H T (.tup [x,y,u])/\∀xs ys ws,aH K H m1 xs->aH K H m2 ys->aH K H m3 ws->xs[i]?=some x/\ys[i]?=some y/\ws[i]?=some u
 stop:=λi H=>∃xs,aH K H m1 xs/\xs.length<=i
noncomputable def zN(m1 m2 m3 y I O j1 j2 j3:Addr)(i:Nat)(h:Heap):Prop:=IsZip h y I O .none/\cW h I (.ref j1) (.ref j2) (.ref j3)/\(∃a b c,cW h O a b c)/\h.IsListIter j1 m1 i/\h.IsListIter j2 m2 i/\h.IsListIter j3 m3 i
section
variable {P:Program}{w:World}{K:PySem.W.Frag}
theorem zN.at(st:zN m1 m2 m3 y I O j1 j2 j3 i h):∀b∈[y,I,O,j1,j2,j3],∃o,h.get? b=some o/\∀v,o.data ≠ .cell v:=λb hb=>by
 obtain⟨hy,hI,⟨a,b',c,hO⟩,⟨o1,e1,_,d1⟩,⟨o2,e2,_,d2⟩,⟨o3,e3,_,d3⟩⟩:=st
 simp only[List.mem_cons,List.not_mem_nil,or_false]at hb
 rcases hb with rfl|rfl|rfl|rfl|rfl|rfl
 .exact⟨_,hy,λv q=>nomatch q⟩
 .exact⟨_,hI,λv q=>nomatch q⟩
 .exact⟨_,hO,λv q=>nomatch q⟩
 .exact⟨o1,e1,λv q=>by rw[d1]at q; cases q⟩
 .exact⟨o2,e2,λv q=>by rw[d2]at q; cases q⟩
 .exact⟨o3,e3,λv q=>by rw[d3]at q; cases q⟩
theorem aeJ(m1 m2 m3 y I O j1 j2 j3:Addr)(D:zJ y I O j1 j2 j3 m1 m2 m3):Turn P w K (.Tuple elts k pos) (QD K m1 m2 m3) [y,I,O,j1,j2,j3] y (zN m1 m2 m3 y I O j1 j2 j3) where
 mem:=by simp
 obj:=λi h st b hb=>st.at b hb
 keep:=λi h h' st kp=>by
  obtain⟨hy,hI,⟨a,b,c,hO⟩,k1,k2,k3⟩:=st
  exact⟨kp y (by simp) _ hy,kp I (by simp) _ hI,⟨a,b,c,kp O (by simp) _ hO⟩,k1.at λo e=>kp j1 (by simp) o e,k2.at λo e=>kp j2 (by simp) o e,k3.at λo e=>kp j3 (by simp) o e⟩
 item:=by
  intro X hP hw' hK hc i pins s σ H E Iv hf st hg
  subst hP hw' hK
  obtain⟨xs,ys,ws,x,v,u,q1,q2,q3,hx,hv,hu⟩:=hg
  obtain⟨t1,r1,p1,_⟩:=Iv.list q1
  obtain⟨t2,r2,p2,_⟩:=Iv.list q2
  obtain⟨t3,r3,p3,_⟩:=Iv.list q3
  obtain⟨x',gx,rx⟩:=r1.get hx
  obtain⟨v',gv,rv⟩:=r2.get hv
  obtain⟨u',gu,ru⟩:=r3.get hu
  obtain⟨hy,hI,⟨a,b,c,hO⟩,k1,k2,k3⟩:=id st
  refine aeF D hy hI hO k1 k2 k3 p1.isList p2.isList p3.isList (by simpa using gx) (by simpa using gv) (by simpa using gu) λg zg Og Gm Gn Gp Tg ch=>?_
  refine⟨.ref s.heap.objs.size,rfl,?_⟩
  refine wpAny_letOwnedTupleGo_zip zg λg' zg' pO=>?_
  have lt:∀b∈[y,I,O,j1,j2,j3],b<s.heap.objs.size:=λb hb=>by
   obtain⟨o,e,_⟩:=st.at b hb
   exact Heap.lt_size e
  have nT:s.heap.objs.size∉[y,I,O,j1,j2,j3]:=λm=>absurd (lt _ m) (Nat.lt_irrefl _)
  have nTy:s.heap.objs.size≠y:=λz=>nT (by simp[z])
  have nd:=D.nd
  simp only[List.nodup_cons,List.mem_cons,List.not_mem_nil,or_false,not_or,List.nodup_nil,and_true,not_false_eq_true]at nd
  obtain⟨⟨yI,yO,y1,y2,y3⟩,⟨IO,I1,I2,I3⟩,_⟩:=nd
  have hI':cW g' I (.ref j1) (.ref j2) (.ref j3):=pO.extBut _ _ (Ne.symm yI) (ch I _ (by simp only[List.mem_cons,List.not_mem_nil,or_false,not_or]; exact⟨Ne.symm yI,IO,I1,I2,I3⟩) hI)
  have st':zN m1 m2 m3 y I O j1 j2 j3 (i+1) g':=⟨zg',hI',⟨_,_,_,pO.extBut _ _ (Ne.symm yO) Og⟩,Gm.extBut pO.extBut (Ne.symm y1),Gn.extBut pO.extBut (Ne.symm y2),Gp.extBut pO.extBut (Ne.symm y3)⟩
  have kk:∀b o,b∉[y,I,O,j1,j2,j3]->s.heap.get? b=some o->g'.get? b=some o:=λb o n e=>by
   simp only[List.mem_cons,List.not_mem_nil,or_false,not_or]at n
   exact pO.extBut _ _ n.1 (ch b o (by simp only[List.mem_cons,List.not_mem_nil,or_false,not_or]; exact⟨n.1,n.2.2⟩) e)
  have ht:IsTup g' s.heap.objs.size #[x',v',u']:=⟨_,pO.extBut _ _ nTy Tg,rfl,_,rfl⟩
  have I':=Iv.Dy (tk:=s.toks) (xs:=[x,v,u]) (its:=[x',v',u']) hf kk (λb hb=>(st'.at b hb).imp λo q=>q.1) (Nat.le_refl _) ht (.cons rx (.cons rv (.cons ru .nil))) (by show 3<=sizeLine; decide)
  refine⟨.ref s.heap.objs.size,_,I',rfl,⟨s.heap.objs.size,x,v,u,rfl,Iv.hok.fresh (Nat.le_refl _),rfl,λa1 a2 a3 z1 z2 z3=>?_⟩,st',λb hb=>?_⟩
  .rw[Iv.mW z1 q1,Iv.mW z2 q2,Iv.mW z3 q3]
   exact⟨hx,hv,hu⟩
  .have nb:b≠s.heap.objs.size:=λe0=>nT (e0▸hb)
   rw[aK nb]
   exact(hf b hb).1
 done:=by
  intro X hP hw' hK hc i pins s σ H E Iv hf st hg
  subst hP hw' hK
  obtain⟨xs,q1,e⟩:=hg
  obtain⟨t1,r1,p1,_⟩:=Iv.list q1
  obtain⟨hy,hI,_,k1,_,_⟩:=id st
  have nd:=D.nd
  have d1:=D.l1
  simp only[List.nodup_cons,List.mem_cons,List.not_mem_nil,or_false,not_or,List.nodup_nil,and_true,not_false_eq_true]at nd d1
  refine aeG (Iv.ok.hd hc) (Ne.symm nd.1.2.2.1) d1.1 hy hI k1 p1.isList (by simp; rw[<-r1.length]; exact e) λg ch=>⟨rfl,Iv.Dz (tk:=s.toks) hf λb o n t=>?_⟩
  simp only[List.mem_cons,List.not_mem_nil,or_false,not_or]at n
  exact ch b o n.1 n.2.2.2.1 t
 self:=λA i s Q E st h=>wpAny_pyIter_zip st.1 h
end
theorem n5(n m:Nat)(h:m<n):m∉[n+5,n+4,n,n+1,n+2]:=by
 simp only[List.mem_cons,List.not_mem_nil,or_false,not_or]
 lia
theorem n6(n d:Nat)(h:d∈[n+5,n+3,n+4,n,n+1,n+2]):n<=d:=by
 simp only[List.mem_cons,List.not_mem_nil,or_false]at h
 lia
theorem nd6(n:Nat) : [n+5,n+3,n+4,n,n+1,n+2].Nodup:=by simp
section
variable {X:Cx}
noncomputable def aeK(K:PySem.W.Frag)(ta:TA):TI:=λσ H R=>ta σ H λvs H1=>∃m1 m2 m3,vs=[.ref m1,.ref m2,.ref m3]/\(∃xs,aH K H1 m1 xs)/\(∃xs,aH K H1 m2 xs)/\(∃xs,aH K H1 m3 xs)/\R (QD K m1 m2 m3) H1
theorem aeL(hm:X.mg "zip" = none) (ha:PA X [a,b,c] ta) (hg:Gl X "zip" := by rfl) (hs:starEach [a,b,c] X.env=[(false,eval a X.env),(false,eval b X.env),(false,eval c X.env)]:=by rfl) (hs2:starEach [b,c] X.env=[(false,eval b X.env),(false,eval c X.env)]:=by rfl) :
  PI X (.Tuple elts k tpos) (.Call (.Name "zip" p) [a,b,c] [] pos) (aeK X.K ta):=by
 intro pins s σ H R I h
 refine Call_ (jB I hg hm (show bootBuiltins "zip" = some (.type "zip") by decide +kernel) (PyProof.Rows.callWith_type1 (aD (ha pos pins s σ H _ I h) λus s1 ⟨vs,H1,I1,r1,q1⟩=>?_) (by rw[hs,hs2]) (by rw[hs2]; rfl)))
 obtain⟨m1,m2,m3,e,⟨xs,h1⟩,⟨ys,h2⟩,⟨ws,h3⟩,q⟩:=q1
 subst e
 cases r1 with
 |cons r rr =>
  cases rr with
  |cons r' rr =>
   cases rr with
   |cons r'' rr =>
    cases rr
    cases r
    cases r'
    cases r''
    obtain⟨t1,_,p1,_⟩:=I1.list h1
    obtain⟨t2,_,p2,_⟩:=I1.list h2
    obtain⟨t3,_,p3,_⟩:=I1.list h3
    obtain⟨o1,e1,_⟩:=p1.isList
    obtain⟨o2,e2,_⟩:=p2.isList
    obtain⟨o3,e3,_⟩:=p3.isList
    have l1:=Heap.lt_size e1
    have l2:=Heap.lt_size e2
    have l3:=Heap.lt_size e3
    refine aeI p1.isList p2.isList p3.isList λg zy zI zO k1 k2 k3 ch=>?_
    refine wpAny_pyIter_zip zy ?_
    have D:zJ (s1.heap.objs.size+5) (s1.heap.objs.size+3) (s1.heap.objs.size+4) s1.heap.objs.size (s1.heap.objs.size+1) (s1.heap.objs.size+2) m1 m2 m3:=⟨nd6 _,n5 _ _ l1,n5 _ _ l2,n5 _ _ l3⟩
    refine⟨_,[_,_,_,_,_,_],_,_,H1,rfl,I1.kept (t':=s1.toks) ch,aeJ m1 m2 m3 _ _ _ _ _ _ D,⟨zy,zI,⟨_,_,_,zO⟩,k1,k2,k3⟩,λd hd=>?_,q⟩
    have ge:s1.heap.objs.size<=d:=n6 _ _ hd
    exact I1.jD ge (I1.hok.fresh ge)
end
noncomputable def zP(K:PySem.W.Frag)(tl:TE):TI:=λσ H R=>LC K tl σ H R\/LK K tl σ H R
theorem QG(hl:PE X l tl):PI X tg l (zP X.K tl):=λpins s σ H R I h=>by
 rcases h with h|h
 .exact aa6 hl pins s σ H R I h
 .exact aa7 hl pins s σ H R I h
noncomputable def BZ:Rv->Rs (List Tr × Bool)
 |.v (.lst ts) _=>.ok (ts,true)
 |.v (.tup ts) _=>.ok (ts,false)
 |_=>.bad
noncomputable def rK(f:EF):IF:=λρ=>(f ρ).bind λp=>(BZ p.1).bind λz=>.ok (z.1,p.2)
theorem aeM{K:PySem.W.Frag}(q:aH (aA K) G a xs)(r:au (aA K) G xs us):zH (aA K) G (Cv K a) us:=λG' H' m s i=>by
 have q':=(s.seq (m.seq q)).toK
 refine⟨λz=>⟨xs,q',by rw[r.length]; lia⟩,λu hu=>?_⟩
 obtain⟨x,hx,rx⟩:=r.jg hu
 refine⟨⟨xs,x,q',hx⟩,λy cD ⟨e,z⟩=>?_⟩
 have:=z xs q'
 rw[hx]at this
 cases this
 subst e
 exact⟨G',.refl s,rx.mono m⟩
theorem aeN{K:PySem.W.Frag}(q:bw (aA K) G a xs)(r:au (aA K) G xs us):zH (aA K) G (Cw K a) us:=λG' H' m s i=>by
 have q':=(s.oZ (m.oZ q)).toK
 refine⟨λz=>⟨xs,q',by rw[r.length]; lia⟩,λu hu=>?_⟩
 obtain⟨x,hx,rx⟩:=r.jg hu
 refine⟨⟨xs,x,q',hx⟩,λy cD ⟨e,z⟩=>?_⟩
 have:=z xs q'
 rw[hx]at this
 cases this
 subst e
 exact⟨G',.refl s,rx.mono m⟩
theorem aeO{K:PySem.W.Frag}(h:Ti ⟨aA K,xe⟩ (rK f) σ H Q):zP K (Te ⟨aA K,xe⟩ f) σ H Q:=by
 obtain⟨R,ρ,G,F,e,h⟩:=h
 unfold rK at h
 cases k:f ρ with
 |bad=>rw[k]at h; exact h.elim
 |ex c=>rw[k]at h; exact .inl ⟨R,ρ,G,F,e,by rw[k]; exact h⟩
 |ok p =>
  obtain⟨r,ρ1⟩:=p
  rw[k]at h
  match r,h,k with
  |.v (.lst ts) fr,h,k =>
   refine .inl ⟨R,ρ,G,F,e,?_⟩
   rw[k]
   intro v G1 H1 F1 e1 s1 v1
   obtain⟨G2,e2,s2,_,r⟩:=e1.pH e s1 v1 rfl
   cases r with
   |lst q r=>exact⟨_,rfl,⟨_,(e2.sub.seq q).toK⟩,h _ G2 H1 F1 e2 s2 (aeM q r)⟩
  |.v (.tup ts) fr,h,k =>
   refine .inr ⟨R,ρ,G,F,e,?_⟩
   rw[k]
   intro v G1 H1 F1 e1 s1 v1
   obtain⟨G2,e2,s2,_,r⟩:=e1.pH e s1 v1 rfl
   cases r with
   |tup q r=>exact⟨_,rfl,⟨_,(e2.sub.oZ q).toK⟩,h _ G2 H1 F1 e2 s2 (aeN q r)⟩
noncomputable def bM(a:VE aB):VI (rK aB) where
 ck Γ e:=Gi e.2&&a.ck Γ e.2
 cs:=a.cs
 ok q o h:=⟨(QG (a.ok q o (an.mp h).2)).imp λ_ _ _=>aeO,(an.mp h).1⟩
noncomputable def upTo(lo:Int):Nat->List Tr
 | 0=>[]
 |n+1=>.int lo::upTo (lo+1) n
theorem aeP(lo:Int):∀n,(upTo lo n).length=n:=λn=>by
 induction n generalizing lo with
 |zero=>rfl
 |succ n ih=>rw[upTo,List.length_cons,ih]
theorem aeQ{lo:Int}{n i:Nat}(h:(upTo lo n)[i]?=some u):i<n/\u=.int (lo+i):=by
 induction n generalizing lo i with
 |zero=>simp[upTo]at h
 |succ n ih =>
  rw[upTo]at h
  cases i with
  |zero =>
   simp at h
   subst h
   exact⟨Nat.zero_lt_succ _,by simp⟩
  |succ i =>
   obtain⟨h1,h2⟩:=ih (lo:=lo+1) (i:=i) (by simpa using h)
   refine⟨Nat.succ_lt_succ h1,h2.trans ?_⟩
   congr 1
   lia
theorem aeR{K:PySem.W.Frag}(lo:Int)(n:Nat):zH K G (wN lo n) (upTo lo n):=λG' H' m s i=>by
 refine⟨λz=>?_,λu hu=>?_⟩
 .rw[aeP]at z
  exact Nat.le_of_eq z.symm
 .obtain⟨h1,rfl⟩:=aeQ hu
  refine⟨h1,λx cD yl=>?_⟩
  obtain⟨rfl,rfl⟩:=yl
  exact⟨G',.refl s,.int _⟩
noncomputable def okR(i:Int):Bool:=decide (-1000000<=i)&&decide (i<=1000000)
theorem aeS(h:okR i=true) : -1000000<=i/\i<=1000000:=by simpa[okR]using h
noncomputable def QH(fa:AF):IF:=λρ=>(fa ρ).bind λp=>(drs p.2 p.1).bind λas=>match as with
 | [.int j]=>if okR j=true then .ok (upTo 0 j.toNat,p.2)else .bad
 |_=>.bad
noncomputable def dW(a:VA aB):VI (QH aB) where
 ck Γ e:=fY e.2 λ_ aM _ _=>aQ aM λ_ bh=>aV bh (Γ.B.contains ("range" : Str)&&nH Γ "range" a e.2)
 cs:=a.cs
 ok:=@λcl E Γ X e q o h=>by
  obtain⟨u,e⟩:=e
  dsimp only at h
  walk_at "O"
  obtain⟨h1,h⟩:=an.mp h
  obtain⟨p,b,es,p',e',h2,h3⟩:=rm h
  cases e'
  obtain⟨pa,la,na⟩:=a.ok q o h3
  refine⟨(abb (dI o h2).1 (o.B _ (by simpa using h1)) pa (fW (na _ (List.mem_cons_self ..)))).imp λσ H Q=>bR λR ρ G F e h=>jf e .refl h λp h vs G1 H1 F1 e1 s1 v1=>?_,rfl⟩
  obtain⟨as,k1,h⟩:=h.okb (yW _ _)
  have r:=yX e1 v1 k1
  split at h
  case h_2=>exact h.elim
  split at h
  case isFalse=>exact h.elim
  have c:=aeS ‹_›
  cases r with
  |cons h1 r1 =>
   cases r1
   rw[h1.int]
   exact⟨_,rfl,by lia,by lia,h _ G1 H1 F1 e1 s1 (aeR 0 _)⟩
theorem u6:∀{es:List Expr},(∀x∈es,notStar x=true)->∀env,starEach es env=es.map λe=>(false,eval e env)
 | [],_,_=>rfl
 |e::es,h,env=>by
  rw[fW (h e (List.mem_cons_self ..)),u6 (λy m=>h y (List.mem_cons_of_mem _ m)) env]; rfl
theorem yT{K:PySem.W.Frag}(s:Same G H)(h:H p=none)(r:au K G xs ts):∃G',Gw K G H G' (upd H p (.tup xs))/\Rep K G' (.ref p) (.tup ts):=⟨_,.new s h,VN.newT s h r⟩
noncomputable def j9(us vs:List Tr):List Tr:=(us.zip vs).map λp=>.tup [p.1,p.2]
noncomputable def QJ(fa:AF):IF:=λρ=>(fa ρ).bind λp=>match p.1 with
 | [.v (.lst us) _,.v (.lst vs) _]=>.ok (j9 us vs,p.2)
 |_=>.bad
theorem rM{K:PySem.W.Frag}(r:au K G vs (.lst us::ts)):∃a xs vs',vs=.ref a::vs'/\aH K G a xs/\au K G xs us/\au K G vs' ts:=by
 cases r with
 |cons h r=>cases h with
  |lst q p=>exact⟨_,_,_,rfl,q,p,r⟩
noncomputable def iZ(a:VA aB):VI (QJ aB) where
 ck Γ e:=iQ e.1 λ_ _ _=>fY e.2 λ_ aM _ _=>aQ aM λ_ bh=>aQ bh λ_ bF=>aV bF (Γ.B.contains ("zip" : Str)&&nH Γ "zip" a e.2)
 cs:=a.cs
 ok:=@λcl E Γ X e q o h=>by
  obtain⟨u,e⟩:=e
  walk_at "O"
  obtain⟨h1,h⟩:=an.mp h
  obtain⟨p,b,es,p',e',h2,h3⟩:=rm h
  cases e'
  obtain⟨pa,la,na⟩:=a.ok q o h3
  refine⟨(ac0 (o.B _ (by simpa using h1)) pa (dI o h2).1 (u6 na _) (u6 (λy m=>na y (List.mem_cons_of_mem _ m)) _)).imp λσ H Q=>bR λR ρ G F e h=>jf e .refl h λp h vs G1 H1 F1 e1 s1 v1=>?_,rfl⟩
  split at h
  case h_2=>exact h.elim
  rename_i us _ ws _ ep
  rw[ep]at v1
  obtain⟨G2,e2,s2,_,r⟩:=e1.vis e s1 v1 rfl
  obtain⟨_,_,_,rfl,q1,p1,r⟩:=rM r
  obtain⟨_,_,_,rfl,q2,p2,r⟩:=rM r
  cases r
  refine⟨_,_,rfl,⟨_,(e2.sub.seq q1).toK⟩,⟨_,(e2.sub.seq q2).toK⟩,h _ G2 H1 F1 e2 s2 λG' H' m s i=>?_⟩
  have pP:=(s.seq (m.seq q1)).toK
  have Gu:=(s.seq (m.seq q2)).toK
  refine⟨λz=>⟨_,_,pP,Gu,by rw[p1.length,p2.length,z]; simp[j9]⟩,λu hu=>?_⟩
  unfold j9 at hu
  rw[List.getElem?_map]at hu
  obtain⟨p,hp,rfl⟩:=Option.map_eq_some_iff.mp hu
  obtain⟨k1,k2⟩:=List.getElem?_zip_eq_some.mp hp
  obtain⟨x,hx,rx⟩:=p1.jg k1
  obtain⟨y,hy,ry⟩:=p2.jg k2
  refine⟨⟨_,_,x,y,pP,Gu,hx,hy⟩,λv cD yl=>?_⟩
  obtain⟨T,x',y',rfl,fT,rfl,z⟩:=yl
  obtain⟨z1,z2⟩:=z _ _ pP Gu
  rw[hx]at z1
  rw[hy]at z2
  cases z1
  cases z2
  exact yT s fT (.cons (rx.mono m) (.cons (ry.mono m) .nil))
noncomputable def zQ(us:List Tr):List Tr:=us.zipIdx.map λp=>.tup [.int (p.2:Nat),p.1]
noncomputable def QK(fa:AF):IF:=λρ=>(fa ρ).bind λp=>match p.1 with
 | [.v (.lst us) _]=>.ok (zQ us,p.2)
 |_=>.bad
noncomputable def iEn(a:VA aB):VI (QK aB) where
 ck Γ e:=iQ e.1 λ_ _ _=>fY e.2 λ_ aM _ _=>aQ aM λ_ bh=>aV bh (Γ.B.contains ("enumerate" : Str)&&nH Γ "enumerate" a e.2)
 cs:=a.cs
 ok:=@λcl E Γ X e q o h=>by
  obtain⟨u,e⟩:=e
  walk_at "O"
  obtain⟨h1,h⟩:=an.mp h
  obtain⟨p,b,es,p',e',h2,h3⟩:=rm h
  cases e'
  obtain⟨pa,la,na⟩:=a.ok q o h3
  refine⟨(aeC (o.B _ (by simpa using h1)) pa (dI o h2).1 (na _ (List.mem_cons_self ..))).imp λσ H Q=>bR λR ρ G F e h=>jf e .refl h λp h vs G1 H1 F1 e1 s1 v1=>?_,rfl⟩
  split at h
  case h_2=>exact h.elim
  rename_i us _ ep
  rw[ep]at v1
  obtain⟨G2,e2,s2,_,r⟩:=e1.vis e s1 v1 rfl
  obtain⟨_,_,_,rfl,q1,p1,r⟩:=rM r
  cases r
  refine⟨_,rfl,⟨_,(e2.sub.seq q1).toK⟩,h _ G2 H1 F1 e2 s2 λG' H' m s i=>?_⟩
  have pP:=(s.seq (m.seq q1)).toK
  refine⟨λz=>⟨_,pP,by rw[p1.length,z]; simp[zQ]⟩,λu hu=>?_⟩
  unfold zQ at hu
  rw[List.getElem?_map]at hu
  obtain⟨p,hp,rfl⟩:=Option.map_eq_some_iff.mp hu
  rw[List.getElem?_zipIdx]at hp
  obtain⟨y,hy,rfl⟩:=Option.map_eq_some_iff.mp hp
  obtain⟨x,hx,rx⟩:=p1.jg hy
  refine⟨⟨_,x,pP,hx⟩,λv cD yl=>?_⟩
  obtain⟨T,x',rfl,fT,rfl,z⟩:=yl
  have z1:=z _ pP
  rw[hx]at z1
  cases z1
  show ∃G'',_/\Rep _ _ (.ref T) (.tup [.int ((0+i:Nat):Int),y])
  rw[Nat.zero_add]
  exact yT s fT (.cons (.int _) (.cons (rx.mono m) .nil))
noncomputable def iU:List Tr->List Tr->List Tr->List Tr
 |u::us,v::vs,w::ws=>.tup [u,v,w]::iU us vs ws
 |_,_,_=>[]
theorem QL:∀{us vs ws:List Tr},us.length<=vs.length->us.length<=ws.length->(iU us vs ws).length=us.length
 | [],_,_,_,_=>rfl
 |_::us,[],_,h,_=>absurd h (by simp)
 |_::us,_::vs,[],_,h=>absurd h (by simp)
 |_::us,_::vs,_::ws,h,h'=>by
  simp only[iU,List.length_cons]
  rw[QL (by simpa using h) (by simpa using h')]
theorem QM:∀{us vs ws:List Tr} {i:Nat} {d:Tr},(iU us vs ws)[i]?=some d->∃u v w,us[i]?=some u/\vs[i]?=some v/\ws[i]?=some w/\d=.tup [u,v,w]
 | [],_,_,i,d,h=>by simp[iU]at h
 |_::us,[],_,i,d,h=>by simp[iU]at h
 |_::us,_::vs,[],i,d,h=>by simp[iU]at h
 |u::us,v::vs,w::ws,0,d,h=>⟨u,v,w,rfl,rfl,rfl,by simpa[iU,eq_comm]using h⟩
 |_::us,_::vs,_::ws,i+1,d,h=>QM (us:=us) (vs:=vs) (ws:=ws) (i:=i) (by simpa[iU]using h)
noncomputable def QS(fa:AF):IF:=λρ=>(fa ρ).bind λp=>match p.1 with
 | [.v (.lst us) _,.v (.lst vs) _,.v (.lst ws) _]=>if us.length<=vs.length/\us.length<=ws.length then .ok (iU us vs ws,p.2)else .bad
 |_=>.bad
noncomputable def iZ3(a:VA aB):VI (QS aB) where
 ck Γ e:=iQ e.1 λ_ _ _=>fY e.2 λ_ aM _ _=>aQ aM λ_ bh=>aQ bh λ_ bF=>aQ bF λ_ bY=>aV bY (Γ.B.contains ("zip" : Str)&&nH Γ "zip" a e.2)
 cs:=a.cs
 ok:=@λcl E Γ X e q o h=>by
  obtain⟨u,e⟩:=e
  walk_at "O"
  obtain⟨h1,h⟩:=an.mp h
  obtain⟨p,b,es,p',e',h2,h3⟩:=rm h
  cases e'
  obtain⟨pa,la,na⟩:=a.ok q o h3
  refine⟨(aeL (o.B _ (by simpa using h1)) pa (dI o h2).1 (u6 na _) (u6 (λy m=>na y (List.mem_cons_of_mem _ m)) _)).imp λσ H Q=>bR λR ρ G F e h=>jf e .refl h λp h vs G1 H1 F1 e1 s1 v1=>?_,rfl⟩
  split at h
  case h_2=>exact h.elim
  rename_i us _ ws _ zs _ ep
  rw[ep]at v1
  split at h
  case isFalse=>exact h.elim
  rename_i hn
  obtain⟨G2,e2,s2,_,r⟩:=e1.vis e s1 v1 rfl
  obtain⟨_,_,_,rfl,q1,p1,r⟩:=rM r
  obtain⟨_,_,_,rfl,q2,p2,r⟩:=rM r
  obtain⟨_,_,_,rfl,q3,p3,r⟩:=rM r
  cases r
  refine⟨_,_,_,rfl,⟨_,(e2.sub.seq q1).toK⟩,⟨_,(e2.sub.seq q2).toK⟩,⟨_,(e2.sub.seq q3).toK⟩,h _ G2 H1 F1 e2 s2 λG' H' m s i=>?_⟩
  have toK:∀{d:Addr} {ds:List V},aH (aA X.K) G2 d ds->aH X.K H' d ds:=λq=>(s.seq (m.seq q)).toK
  refine⟨λz=>⟨_,toK q1,by rw[z,QL hn.1 hn.2,p1.length]; exact Nat.le_refl _⟩,λd hd=>?_⟩
  obtain⟨u,v,w,g1,g2,g3,rfl⟩:=QM hd
  obtain⟨x,hx,rx⟩:=p1.jg g1
  obtain⟨y,hy,ry⟩:=p2.jg g2
  obtain⟨z,hz,rz⟩:=p3.jg g3
  refine⟨⟨_,_,_,x,y,z,toK q1,toK q2,toK q3,hx,hy,hz⟩,λo cD yl=>?_⟩
  obtain⟨T,x',y',z',rfl,fT,rfl,al⟩:=yl
  obtain⟨a1,a2,a3⟩:=al _ _ _ (toK q1) (toK q2) (toK q3)
  rw[hx]at a1
  rw[hy]at a2
  rw[hz]at a3
  cases a1
  cases a2
  cases a3
  exact yT s fT (.cons (rx.mono m) (.cons (ry.mono m) (.cons (rz.mono m) .nil)))
noncomputable def QT(ifs:List Expr)(env:Env):Sem Bool:=forIn ifs true λc r=>if r=true then do let ok <-isTrue c env (eval c env); pure (ForInStep.yield ok)else pure (ForInStep.yield r)
noncomputable def u9(X:Cx)(ifs:List Expr)(tc:TT):Prop:=∀(pins:List (Addr × Obj)) s σ H Q,Inv X pins σ H s->tc σ H Q->wpAny (model X.prog X.w) X.A (QT ifs X.env) (TP X pins σ Q) X.xe s
theorem zR(h:PT X c tc):u9 X [c] tc:=λpins s σ H Q I q=>wpAny_tests_one (h pins s σ H Q I q)
theorem zT:u9 X [] λ_ H Q=>Q true H:=λpins s σ H Q I q=>wpAny_pure ⟨H,I,q⟩
section
variable {prog:Program}{w:World}{A:Around}{R:Result->Shared->Prop}{s:Shared}
theorem aeT(I:Nat->Shared->Prop)
  (turn:∀n s,I n s->wpAny (model prog w) A (pyNext it) (λr s₁=>match r with
   |none=>R (.ok .next) s₁
   | some v=>wpAny (model prog w) A (letOwnedTupleGo target it v) (λ_ s₁'=>wpAny (model prog w) A (assign target env v) (λ_ s₂ => wpAny (model prog w) A (QT ifs env) (λb s₂'=>if b=true then wpAny (model prog w) A (eval elt env) (λx s₃ =>
     wpAny (model prog w) A (call (.builtin "list.append") [acc,x]) (λ_ s₄=>∃m,m<n/\I m s₄) (λ_ _=>False) s₃) (λ_ _=>False) s₂' else ∃m,m<n/\I m s₂') (λ_ _=>False) s₂) (λ_ _=>False) s₁') (λ_ _=>False) s₁) (λ_ _=>False) s)
  (n:Nat) (h:I n s) :
  codeAny (model prog w) A (.compLoop (.ListComp elt [⟨target,iter,ifs,0⟩] scope pos) 0 it acc env) R s:=by
 refine codeAny_loop rfl I (λn s hI=>?_) n h
 show wpAny _ _ ((compTurn (.ListComp elt [⟨target,iter,ifs,0⟩] scope pos) 0 it acc env).onRaise (λx=>do noteFrame x env; theTreesLotGoes x)) _ _ s
 refine wpAny_noted (wpAny_noRaise ?_)
 rw[compTurn_list]
 refine wpAny_bind (wpAny_standAt (wpAny_bind (wpAny_mono (turn n s hI) (λr s₁ h₁=>?_) λ_ _ h'=>h')))
 cases r with
 |none=>exact wpAny_pure h₁
 |some v =>
  refine wpAny_bind (wpAny_mono h₁ (λ_ s₁' h₁'=>?_) λ_ _ h'=>h')
  refine wpAny_bind (wpAny_mono h₁' (λ_ s₂ h₂=>wpAny_bind (wpAny_mono h₂ (λok s₃ h₃=>?_) λ_ _ h'=>h')) λ_ _ h'=>h')
  cases ok with
  |false=>exact wpAny_pure ⟨rfl,h₃⟩
  |true =>
   exact wpAny_bind (wpAny_bind (wpAny_mono h₃ (λx s₄ h₄=>wpAny_bind (wpAny_mono h₄ (λ_ s₅ h₅=>wpAny_pure (wpAny_pure ⟨rfl,h₅⟩)) λ_ _ h'=>h')) λ_ _ h'=>h'))
end
noncomputable def rN(wi:TI)(g:TG)(src:List (Option Nat))(tc:TT)(te:TE):TE:=λσ H Q=>wi σ H λJ H1=>∀D,H1 D=none ->
 ∃W:Nat->Nat->St->Hp->Prop,(∃m,W 0 m (bQ src σ) (upd H1 D (.lst [])))/\∀i m σ' H',W i m σ' H' ->
  (J.stop i H'/\Dl Q D H')\/(J.go i H'/\∀x cD,J.jC i H' x cD->g x σ' cD λσ2 H2=>tc σ2 H2 λb vd=>if b=true then te σ2 vd λv H3=>∃xs,H3 D=some (.lst xs)/\xs.length<sizeLine/\∃m',m'<m/\W (i+1) m' σ2 (upd H3 D (.lst (xs++[v])))else ∃m',m'<m/\W (i+1) m' σ2 vd)
section
variable {X:Cx}{elt tg iter:Expr}{ifs:List Expr}{scope sc:Scope}{pos:Pos}{No N:List Str}{src:List (Option Nat)}{wi:TI}{g:TG}{te:TE}{tc:TT}
theorem QV{pins:List (Addr × Obj)}{RR:Value->Addr->Result->Shared->Prop}(hsc:X.env.scope=sc)(fH:X.N=No)(S:m9 sc No N src scope)(hc:X.calm=true)
  (hi:PI X tg iter wi) (hg:∀C s H ex,PG (aZ X N scope C s H ex) tg g) (hq:∀C s H ex,u9 (aZ X N scope C s H ex) ifs tc) (he:∀C s H ex,PE (aZ X N scope C s H ex) elt te) (I:Inv X pins σ H s) (h:rN wi g src tc te σ H Q)
  (hRR:∀D C H' s' m,Inv X pins σ H' s'->H' C=none->C≠X.env.locals->X.s₀.heap.objs.size<=C->(∀x c,X.env.cells.lookup x=some c->c≠C)->(∀p∈X.pn++pins,p.1≠C)->s'.heap.Ns C m->Q (.ref D) H'->RR (.ref D) C (.ok .next) s') :
  wpAny (model X.prog X.w) X.A (eval iter X.env) (λx s₁=>wpAny (model X.prog X.w) X.A (pyIter x) (λit s₂=>wpAny (model X.prog X.w) X.A (newList []) (λacc s₃ =>
   wpAny (model X.prog X.w) X.A (newFunctionEnv scope X.env.globals (bG X.env.cells scope.names []) [] X.env.qual none .none (some X.env)) (λcenv s₄ =>
    codeAny (model X.prog X.w) X.A (.compStart (.ListComp elt [⟨tg,iter,ifs,0⟩] scope pos) 0 it acc {cenv with scope:=relabel scope X.env }) (RR acc cenv.locals) s₄) X.xe s₃) X.xe s₂) X.xe s₁) X.xe s:=by
 refine aD (hi pins s σ H _ I h) λv s1 h1=>aD h1 λitv s2 h2=>?_
 obtain⟨it,fp,tn,J,H2,e,I2,T,st2,f2,hW⟩:=h2
 subst e
 have Gv:H2 s2.heap.objs.size=none:=I2.hok.fresh (Nat.le_refl _)
 obtain⟨W,⟨m0,w0⟩,turn⟩:=hW s2.heap.objs.size Gv
 have vf:∀b∈fp,b<s2.heap.objs.size:=λb hb=>by
  obtain⟨o,e,_⟩:=T.obj 0 _ st2 b hb
  exact Heap.lt_size e
 refine wpAny_newObj_type ?_
 have I3:Inv X pins σ (upd H2 s2.heap.objs.size (.lst [])) {s2 with heap:=s2.heap.push {cls:=.type "list",dict:=none,data:=.seq ([]:List Value).toArray } }:=I2.wY (t':=s2.toks) (ys:=[]) .nil (Nat.zero_le _)
 have f3:∀b∈fp,bO X pins (upd H2 s2.heap.objs.size (.lst [])) b:=λb hb=>by
  obtain⟨q,r⟩:=f2 b hb
  exact⟨by rw[aK (Nat.ne_of_lt (vf b hb))]; exact q,r⟩
 have st3:tn 0 (s2.heap.push {cls:=.type "list",dict:=none,data:=.seq ([]:List Value).toArray }):=T.keep _ _ _ st2 λb hb o e=>Heap.get?_push_of_some _ e
 have jL:∀b∈fp,b<(s2.heap.push {cls:=.type "list",dict:=none,data:=.seq ([]:List Value).toArray }).objs.size:=λb hb=>by
  rw[Heap.size_push]; exact Nat.lt_succ_of_lt (vf b hb)
 generalize hD:s2.heap.objs.size=D at *
 generalize hh3:s2.heap.push {cls:=.type "list",dict:=none,data:=.seq ([]:List Value).toArray }=h3 at *
 generalize hH3:upd H2 D (.lst [])=H3 at *
 refine Nt λh₁ hns old ck=>?_
 dsimp only at hns old ck ⊢
 have I4:Inv (aZ X N scope h3.objs.size {s2 with heap:=h3 } H3 fp) [] (bQ src σ) H3 {s2 with heap:=h₁,toks:=s2.toks+([]:List (Str × Value)).length }:=Nu (s:={s2 with heap:=h3 }) hsc fH S I3 f3 jL hns old ck
 have oF:tn 0 h₁ := T.keep _ _ _ st3 λb hb o e=>old b o e
 have loop:codeAny (model X.prog X.w) X.A (.compLoop (.ListComp elt [⟨tg,iter,ifs,0⟩] scope pos) 0 (.ref it) (.ref D) (compEnvC scope (cellsFrom (h3.objs.size+1) scope.names (bG X.env.cells scope.names [])) h3.objs.size X.env)) (RR (.ref D) h3.objs.size) {s2 with heap:=h₁,toks:=s2.toks+([]:List (Str × Value)).length }:=by
  have stat:∀{H':Hp},(∀b∈fp,H' b=none)->∀b∈fp,bO (aZ X N scope h3.objs.size {s2 with heap:=h3 } H3 fp) [] H' b:=λhn b hb=>by
   obtain⟨g0,g1,g2,g3,g4,g5⟩:=f3 b hb
   refine⟨hn b hb,Nat.ne_of_lt (jL b hb),λz=>?_,.inl hb,λx c e=>?_,λp hp=>absurd (show p∈([]:List (Addr × Obj))from hp) (by simp)⟩
   .rcases List.mem_cons.mp (I3.tQ b z)with z|z
    .exact g1 z
    .exact g2 z
   .have e:(cellsFrom (h3.objs.size+1) scope.names (bG X.env.cells scope.names [])).lookup x=some c:=e
    rw[lH,qC]at e
    split at e
    .rename_i z
     cases e
     exact λy=>absurd (Nat.le_trans (ck.empty x c (PySem.mem_of_lookup z)).2 (y▸Nat.le_of_lt (jL b hb))) (Nat.not_succ_le_self _)
    .rcases m8 e with q|q
     .simp at q
     .exact g4 x c q
  refine aeT (λn s'=>∃i σ' H',Inv (aZ X N scope h3.objs.size {s2 with heap:=h3 } H3 fp) [] σ' H' s'/\tn i s'.heap/\(∀b∈fp,H' b=none)/\W i n σ' H') ?_ m0 ⟨0,bQ src σ,H3,I4,oF,λb hb=>(f3 b hb).1,w0⟩
  rintro n s5 ⟨i,σ5,H5,I5,gO,jW,w5⟩
  rcases turn i n σ5 H5 w5 with⟨stop,qn⟩|⟨go,step⟩
  .refine aD (T.done (aZ X N scope h3.objs.size {s2 with heap:=h3 } H3 fp) rfl rfl rfl hc i [] s5 σ5 H5 (λ_ _=>False) I5 (stat jW) gO stop) λr s6 ⟨hr,I6⟩=>?_
   subst hr
   obtain⟨mC,hnC,_⟩:=id I6.loc
   have I7:Inv X pins σ H5 s6:=I3.call' (ch:=fp) I6.os I6.base I6.hok I6.bare λb hb=>by
    obtain⟨g0,g1,g2,g3,g4,g5⟩:=f3 b hb
    exact⟨g3,g1,g4,g5⟩
   refine hRR D h3.objs.size H5 s6 mC I7 I6.free (Nat.ne_of_gt I3.lt) I3.sz (λx c e z=>?_) (λp hp z=>?_) hnC qn
   .obtain⟨v,q⟩:=I3.cell x c e
    exact absurd q.lt (by rw[z]; exact Nat.lt_irrefl _)
   .exact absurd (Heap.lt_size (I3.pin p hp).1) (by rw[z]; exact Nat.lt_irrefl _)
  .refine aD (T.item (aZ X N scope h3.objs.size {s2 with heap:=h3 } H3 fp) rfl rfl rfl hc i [] s5 σ5 H5 (λ_ _=>False) I5 (stat jW) gO go) λr s6 ⟨u,hr,h6⟩=>?_
   subst hr
   refine aD h6 λ_ s7 ⟨x,H7,I7,r7,y7,fU,vg⟩=>?_
   have vh:=I7.pinned (stat vg) (T.obj _ _ fU)
   refine aD (hg _ _ _ _ _ s7 σ5 H7 x u _ vh r7 (step x H7 y7)) λ_ s8 ⟨σ8,H8,I8,q8⟩=>?_
   refine aD (hq _ _ _ _ _ s8 σ8 H8 _ I8 q8) λbb s8' ⟨QW,zU,zV⟩=>?_
   cases bb with
   |false =>
    rw[if_neg (by decide)]at zV ⊢
    obtain⟨m',hm,w9⟩:=zV
    refine⟨m',hm,i+1,σ8,QW,zU.oU (pins:=[]),T.keep _ _ _ fU λb hb o e=>(zU.pin (b,o) (List.mem_append_right _ (List.mem_append_right _ (jV hb e)))).1,λb hb=>?_,w9⟩
    obtain⟨o,e,d⟩:=T.obj _ _ fU b hb
    exact(zU.pin (b,o) (List.mem_append_right _ (List.mem_append_right _ (jV hb e)))).2.1
   |true =>
   rw[if_pos rfl]at zV ⊢
   refine aD (he _ _ _ _ _ s8' σ8 QW _ zU zV) λyv s9 ⟨y,H9,I9,r9,q9⟩=>?_
   obtain⟨xs,e9,l9,m',hm,w9⟩:=q9
   refine aD (Dh (X:=aZ X N scope h3.objs.size {s2 with heap:=h3 } H3 fp) _ s9 σ8 H9 (.ref D) [y] (.ref D) [yv] (λ_ H'=>W (i+1) m' σ8 H') I9 rfl (.cons r9 .nil) ⟨D,xs,y,rfl,rfl,e9,l9,w9⟩) λ_ zW ⟨_,Gy,pQ,_,Gz⟩=>?_
   refine⟨m',hm,i+1,σ8,Gy,pQ.oU (pins:=[]),T.keep _ _ _ fU λb hb o e=>(pQ.pin (b,o) (List.mem_append_right _ (List.mem_append_right _ (jV hb e)))).1,λb hb=>?_,Gz⟩
   obtain⟨o,e,d⟩:=T.obj _ _ fU b hb
   exact(pQ.pin (b,o) (List.mem_append_right _ (List.mem_append_right _ (jV hb e)))).2.1
 exact codeAny_compStart_list loop (T.self _ _ _ _ _ oF loop)
theorem zX(hsc:X.env.scope=sc)(fH:X.N=No)(S:m9 sc No N src scope)(hc:X.calm=true)
  (hi:PI X tg iter wi) (hg:∀C s H ex,PG (aZ X N scope C s H ex) tg g) (hq:∀C s H ex,u9 (aZ X N scope C s H ex) ifs tc) (he:∀C s H ex,PE (aZ X N scope C s H ex) elt te)
  (hs:∀x,foldedSetIterable iter X.env x=pure x:=by intro _; rfl):PE X (.ListComp elt [⟨tg,iter,ifs,0⟩] scope pos) (rN wi g src tc te):=by
 refine⟨λpins s σ H Q I h=>?_⟩
 rw[eval_ListComp]
 have hcl:closureFor scope X.env=pure (bG X.env.cells scope.names []):=wZ λy hy e=>by
  have k:=S.free y hy e
  rw[<-hsc]at k
  obtain⟨c,q⟩:=I.ok.has y.1 k
  rw[q]; rfl
 refine wpAny_comprehension_free (use:=none) rfl hs hcl S.kind S.names (QV (RR:=λacc C=>compPost (model X.prog X.w) X.A X.xe none (EP X pins σ Q) acc C) hsc fH S hc hi hg hq he I h ?_)
 intro D C H' s' m I' n1 n2 n3 n4 n5 hn q
 refine⟨m,hn,λh' hs'=>⟨.ref D,H',?_,rfl,q⟩⟩
 exact I'.turned (t':=s'.toks) (λb o hb e=>(hs'.2 b hb).trans e) n1 (Ne.symm (Ne.symm n2)) (.inr n3) n4 n5
theorem zY(hN:X.N.Nodup)(hyi:X.N[i]?=some y)(hy:Loc X.env.scope y)(hsc:X.env.scope=sc)(fH:X.N=No)(S:m9 sc No N src scope)(hc:X.calm=true)
  (hi:PI X tg iter wi) (hg:∀C s H ex,PG (aZ X N scope C s H ex) tg g) (hq:∀C s H ex,u9 (aZ X N scope C s H ex) ifs tc) (he:∀C s H ex,PE (aZ X N scope C s H ex) elt te)
  (hsw:swapsWith (.ListComp elt [⟨tg,iter,ifs,0⟩] scope pos) (some (.Name y py)) spos.line X.env=pure true:=by rfl) (hs:∀x,foldedSetIterable iter X.env x=pure x:=by intro _; rfl)
  (hf:X.fn y=true\/X.env.scope.names.lookup y=some .local:=by first|exact .inl rfl|exact .inr rfl|assumption) :
  PS X (.Assign [.Name y py] (.ListComp elt [⟨tg,iter,ifs,0⟩] scope pos) spos) (lD (rN wi g src tc te) (lC i)):=by
 refine⟨λpins s σ H D I h=>?_⟩
 rw[exec_Assign_Name_used _ _ _ _ hsw]
 have hcl:closureFor scope X.env=pure (bG X.env.cells scope.names []):=wZ λy hy e=>by
  have k:=S.free y hy e
  rw[<-hsc]at k
  obtain⟨c,q⟩:=I.ok.has y.1 k
  rw[q]; rfl
 refine wpAny_bind (wpAny_standAt (wpAny_bind ?_))
 show wpAny _ X.A (do let _ <-comprehension (.ListComp elt [⟨tg,iter,ifs,0⟩] scope pos) scope X.env _ (newList []) false (eval iter X.env) (some (assign (.Name y py) X.env))) _ _ s
 refine wpAny_bind (wpAny_mono (wpAny_comprehension_free (use:=some (assign (.Name y py) X.env)) (Q:=λ_ s'=>SP X pins D .next s') rfl hs hcl S.kind S.names
  (QV (Q:=λv H'=>D.nx (σ.set i (some v)) H') (RR:=λacc C=>compPost (model X.prog X.w) X.A X.xe (some (assign (.Name y py) X.env)) (λ_ s'=>SP X pins D .next s') acc C) hsc fH S hc hi hg hq he I h ?_)) (λ_ s' hq=>wpAny_pure (wpAny_pure hq)) λ_ _ e=>e)
 intro Da C H' s' m I' n1 n2 n3 n4 n5 hn q
 show wpAny _ X.A (assign (.Name y py) X.env (.ref Da)) _ _ _
 refine wpAny_assign_Name (K8 I' hN hyi hy (v:=.ref Da) rfl (λs2 I2 hsame=>?_) hf)
 obtain⟨a,hsb,ha⟩:=hsame
 have hCa:C≠a:=by
  rcases ha with z|z
  .rw[z]; exact n2
  .exact λe=>n4 y a z e.symm
 refine⟨m,hn.sameBut hsb hCa,λh' hs'=>⟨σ.set i (some (.ref Da)),H',?_,q⟩⟩
 exact I2.turned (t':=s2.toks) (λb o hb e=>(hs'.2 b hb).trans e) n1 n2 (.inr n3) n4 n5
end
noncomputable def Mu(ρ : En)(i:Nat):Prop:=∃ts,ρ[i]?=some (Sl.ow ts)\/ρ[i]?=some (Sl.rf ts)
noncomputable def aeU:Sl->Sl
 |.dp _=>.un
 |s=>s
noncomputable def dZ(src:List (Option Nat))(ρ : En):En:=src.map λo=>match o with
 |some j=>aeU ((ρ[j]?).getD .un)
 |none=>.un
noncomputable def bA:List (Option Nat)->En->En->En
 |some j::src,.ow ts::ρi,ρ=>bA src ρi (cN j ts ρ)
 |some j::src,.rf ts::ρi,ρ=>bA src ρi (cN j ts ρ)
 |_::src,_::ρi,ρ=>bA src ρi ρ
 |_,_,ρ=>ρ
noncomputable def jo:Option Sl->Bool
 |some (.ow _)=>true
 |some (.rf _)=>true
 |_=>false
noncomputable def eU:List (Option Nat)->En->En->Bool
 |some j::src,s::ρi,ρ=>(!jo ρ[j]? || jo (some s))&&eU src ρi ρ
 |none::src,_::ρi,ρ=>eU src ρi ρ
 | [],_,_=>true
 |_,[],_=>false
theorem zZ:jo ρ[i]?=true↔Mu ρ i:=by
 constructor
 .intro h
  unfold jo at h
  split at h <;> rename_i q
  .exact⟨_,.inl q⟩
  .exact⟨_,.inr q⟩
  .cases h
 .rintro⟨ts,h|h⟩ <;> rw[h] <;> rfl
theorem GC:∀{src:List (Option Nat)} {ρi ρ : En} {k j:Nat},eU src ρi ρ = true->src[k]?=some (some j)->Mu ρ j->Mu ρi k
 | [],_,_,_,_,_,h,_=>by simp at h
 |some j'::src,s::ρi,ρ,k,j,h,hk,m=>by
  unfold eU at h
  rw[Bool.and_eq_true]at h
  cases k with
  |zero =>
   simp at hk
   subst hk
   have h1:=h.1
   rw[zZ.mpr m]at h1
   cases s with
   |un=>cases h1
   |sh _=>cases h1
   |dp _=>cases h1
   |ow ts=>exact⟨ts,.inl rfl⟩
   |rf ts=>exact⟨ts,.inr rfl⟩
  |succ k =>
   obtain⟨ts,q⟩:=GC (k:=k) h.2 (by simpa using hk) m
   exact⟨ts,by simpa using q⟩
 |none::src,s::ρi,ρ,k,j,h,hk,m=>by
  unfold eU at h
  cases k with
  |zero=>simp at hk
  |succ k =>
   obtain⟨ts,q⟩:=GC (k:=k) h (by simpa using hk) m
   exact⟨ts,by simpa using q⟩
 |some j'::src,[],ρ,k,j,h,hk,m=>by unfold eU at h; cases h
 |none::src,[],ρ,k,j,h,hk,m=>by unfold eU at h; cases h
noncomputable def Inj(src:List (Option Nat)):Prop:=∀(k k' j:Nat),src[k]?=some (some j)->src[k']?=some (some j)->k=k'
theorem aeV(h:(src.filterMap id).Nodup):Inj src:=by
 induction src with
 |nil=>intro k k' j h1; simp at h1
 |cons o src ih =>
  have tail:Inj src:=by
   cases o with
   |none=>exact ih (by simpa using h)
   |some j=>exact ih (by simpa using(List.nodup_cons.mp (by simpa using h)).2)
  intro k k' j h1 h2
  have no:∀{m:Nat},o=some j->src[m]?=some (some j)->False:=λ{m} e q=>by
   subst e
   have n:=(List.nodup_cons.mp (show(j::src.filterMap id).Nodup by simpa using h)).1
   exact n (List.mem_filterMap.mpr ⟨some j,List.mem_of_getElem? q,rfl⟩)
  cases k with
  |zero =>
   have e1:o=some j:=by simpa using h1
   cases k' with
   |zero=>rfl
   |succ k'=>exact(no e1 (by simpa using h2)).elim
  |succ k =>
   cases k' with
   |zero=>exact(no (by simpa using h2) (by simpa using h1)).elim
   |succ k'=>rw[tail k k' j (by simpa using h1) (by simpa using h2)]
theorem aeW(h : ρ[i]?=ρ'[i]?):(cN i ts ρ)[i]?=(cN i ts ρ')[i]? := by
 unfold cN
 rw[h]
 cases q : ρ'[i]? with
 |none=>dsimp only; rw[h,q]
 |some s =>
  have l':=(List.getElem?_eq_some_iff.mp q).1
  have l:=(List.getElem?_eq_some_iff.mp (h.trans q)).1
  cases s with
  |un=>dsimp only; rw[h,q]
  |sh _=>dsimp only; rw[h,q]
  |dp _=>dsimp only; rw[h,q]
  |ow _=>dsimp only; rw[gj l,gj l']
  |rf _=>dsimp only; rw[gj l,gj l']
theorem pR:∀(src:List (Option Nat)) (ρi ρ : En),(bA src ρi ρ).length = ρ.length
 | [],ρi,ρ=>by unfold bA; rfl
 |o::src,[],ρ=>by cases o <;> (unfold bA; rfl)
 |none::src,s::ρi,ρ=>by unfold bA; exact pR src ρi ρ
 |some j::src,.un::ρi,ρ=>by unfold bA; exact pR src ρi ρ
 |some j::src,.sh _::ρi,ρ=>by unfold bA; exact pR src ρi ρ
 |some j::src,.dp _::ρi,ρ=>by unfold bA; exact pR src ρi ρ
 |some j::src,.ow ts::ρi,ρ=>by unfold bA; rw[pR src ρi,Fx]
 |some j::src,.rf ts::ρi,ρ=>by unfold bA; rw[pR src ρi,Fx]
theorem GD:∀{src:List (Option Nat)} {ρi ρ : En} {j:Nat} {s:Option Sl},Inj src->(bA src ρi ρ)[j]?=s ->
  (∃(k:Nat) (ts:List Tr),src[k]?=some (some j)/\(ρi[k]?=some (.ow ts)\/ρi[k]?=some (.rf ts))/\(cN j ts ρ)[j]?=s)\/((∀k:Nat,src[k]?=some (some j)->¬Mu ρi k)/\ρ[j]?=s)
 | [],ρi,ρ,j,s,_,h=>by
  unfold bA at h
  exact .inr ⟨λk q=>by simp at q,h⟩
 |o::src,[],ρ,j,s,_,h=>by
  have h : ρ[j]?=s:=by cases o <;> (unfold bA at h; exact h)
  refine .inr ⟨λk _ m=>?_,h⟩
  obtain⟨_,q|q⟩:=m <;> simp at q
 |o::src,x::ρi,ρ,j,s,I,h=>by
  have It:Inj src:=λk k' j h1 h2=>by
   have:=I (k+1) (k'+1) j (by simpa using h1) (by simpa using h2)
   omega
  have keep:(o=none\/jo (some x)=false)->(bA src ρi ρ)[j]?=s->(∃(k:Nat) (ts:List Tr),(o::src)[k]?=some (some j)/\((x::ρi)[k]?=some (.ow ts)\/(x::ρi)[k]?=some (.rf ts))/\(cN j ts ρ)[j]?=s)\/((∀k:Nat,(o::src)[k]?=some (some j)->¬Mu (x::ρi) k)/\ρ[j]?=s):=λc h=>by
   rcases GD It h with⟨k,ts,q1,q2,q3⟩|⟨n,q⟩
   .exact .inl ⟨k+1,ts,by simpa using q1,by simpa using q2,q3⟩
   .refine .inr ⟨λk qk m=>?_,q⟩
    cases k with
    |zero =>
     rcases c with c|c
     .subst c; simp at qk
     .rw[<-zZ]at m
      have m:jo (some x)=true:=m
      rw[c]at m
      cases m
    |succ k =>
     obtain⟨ts,m⟩:=m
     exact n k (by simpa using qk) ⟨ts,by simpa using m⟩
  have put:∀(i:Nat) (ts:List Tr),o=some i->(x=.ow ts\/x=.rf ts)->(bA src ρi (cN i ts ρ))[j]?=s->(∃(k:Nat) (ts:List Tr),(o::src)[k]?=some (some j)/\((x::ρi)[k]?=some (.ow ts)\/(x::ρi)[k]?=some (.rf ts))/\(cN j ts ρ)[j]?=s)\/((∀k:Nat,(o::src)[k]?=some (some j)->¬Mu (x::ρi) k)/\ρ[j]?=s):=λi ts eo ex h=>by
   rcases GD It h with⟨k,us,q1,q2,q3⟩|⟨n,q⟩
   .have ne:j≠i:=λz=>by
     subst z
     have:=I 0 (k+1) j (by simpa using eo) (by simpa using q1)
     omega
    refine .inl ⟨k+1,us,by simpa using q1,by simpa using q2,?_⟩
    rw[<-aeW (Fw ne)]
    exact q3
   .by_cases e:j=i
    .subst e
     refine .inl ⟨0,ts,by simpa using eo,?_,q⟩
     rcases ex with rfl|rfl
     .exact .inl rfl
     .exact .inr rfl
    .rw[Fw e]at q
     refine .inr ⟨λk qk m=>?_,q⟩
     cases k with
     |zero =>
      rw[eo]at qk
      simp at qk
      exact e qk.symm
     |succ k =>
      obtain⟨ts,m⟩:=m
      exact n k (by simpa using qk) ⟨ts,by simpa using m⟩
  cases o with
  |none=>unfold bA at h; exact keep (.inl rfl) h
  |some i =>
   cases x with
   |un=>unfold bA at h; exact keep (.inr rfl) h
   |sh _=>unfold bA at h; exact keep (.inr rfl) h
   |dp _=>unfold bA at h; exact keep (.inr rfl) h
   |ow ts=>unfold bA at h; exact put i ts rfl (.inl rfl) h
   |rf ts=>unfold bA at h; exact put i ts rfl (.inr rfl) h
theorem GJ{src:List (Option Nat)}{k j:Nat}(h:src[k]?=some (some j)):(bQ src σ)[k]?=some ((σ[j]?).join):=by
 unfold bQ
 rw[List.getElem?_map,h]
 rfl
theorem aeX{k j:Nat}(h:src[k]?=some (some j))(q:(bQ src σ)[k]?=some (some v)) : σ[j]?=some (some v):=by
 rw[GJ h]at q
 cases z : σ[j]? with
 |none=>rw[z]at q; cases q
 |some o =>
  rw[z]at q
  rw[show o=some v from Option.some.inj q]
noncomputable def inF(src:List (Option Nat))(ρ : En)(F:Fp):Fp:=λk=>match src[k]? with
 |some (some j)=>if jo ρ[j]?=true then F j else []
 |_=>[]
theorem rO(h:b∈inF src ρ F k):∃j,src[k]?=some (some j)/\jo ρ[j]?=true/\b∈F j:=by
 unfold inF at h
 split at h
 .split at h
  .exact⟨_,‹_›,‹_›,h⟩
  .cases h
 .cases h
theorem rP(h:Fn (inF src ρ F) b):Fn F b:=h.elim λ_ h=>(rO h).elim λj h=>⟨j,h.2.2⟩
section
variable {K:PySem.W.Frag}{R:Addr->Prop}{ρ ρ1:En}{σ τ : St}{G H G1 H1 G' H':Hp}{F F1 F':Fp}{src:List (Option Nat)}
theorem Ok.enter(e:Ok K R ρ σ G H F)(I:Inj src):Ok K R (dZ src ρ) (bQ src σ) G H (inF src ρ F):=by
 refine⟨by simp[dZ,bQ],e.sub,e.tb,e.tg,λb h=>e.hid b (rP h),e.rg,λk k' b h1 h2=>?_,λk=>?_⟩
 .obtain⟨j,q1,_,q2⟩:=rO h1
  obtain⟨j',q3,_,q4⟩:=rO h2
  cases e.di j j' b q2 q4
  exact I k k' j q1 q3
 .unfold dZ inF
  rw[List.getElem?_map]
  cases q:src[k]? with
  |none=>rfl
  |some o =>
   cases o with
   |none=>rfl
   |some j =>
    rw[GJ q]
    have z:=e.sl j
    dsimp only[Option.map]
    cases w : ρ[j]? with
    |none=>rfl
    |some sl =>
     rw[w]at z
     cases sl with
     |un=>rfl
     |dp ts=>rfl
     |sh T =>
      obtain⟨_,u,z1,z2⟩:=z
      rw[z1]
      exact⟨rfl,u,rfl,z2⟩
     |ow ts =>
      obtain⟨a,xs,z1,z2⟩:=z
      rw[z1]
      exact⟨a,xs,rfl,z2⟩
     |rf ts =>
      obtain⟨a,xs,z1,z2⟩:=z
      rw[z1]
      exact⟨a,xs,rfl,z2⟩
theorem Ok.mu(e:Ok K R ρ σ G H F)(m:Mu ρ i):∃a,σ[i]?=some (some (.ref a))/\F i=[a]:=by
 have z:=e.sl i
 obtain⟨ts,q|q⟩:=m <;> (rw[q]at z; obtain⟨a,xs,z1,z2,_⟩:=z; exact⟨a,z1,z2⟩)
theorem Ok.leave(e1:Ok K R ρ1 σ G1 H1 F1)(e:Ok K R ρ τ G' H' F')(s:aG K G1 H1 (inF src ρ1 F1) G' H' F')(I:Inj src)(ag:∀k j:Nat,src[k]?=some (some j) -> τ[k]?=(bQ src σ)[k]?)(so:eU src ρ ρ1=true):Ok K R (bA src ρ ρ1) σ G' H' F1/\aG K G1 H1 F1 G' H' F1:=by
 have inn:∀{k j:Nat},src[k]?=some (some j)->jo ρ1[j]?=true->Mu ρ k/\∃a,F1 j=[a]/\F' k=[a]/\σ[j]?=some (some (.ref a))/\τ[k]?=some (some (.ref a)):=λq m=>by
  have mk:=GC so q (zZ.mp m)
  obtain⟨a,q1,q2⟩:=e.mu mk
  obtain⟨b,q3,q4⟩:=e1.mu (zZ.mp m)
  have z:=ag _ _ q
  rw[q1]at z
  have z:=aeX q z.symm
  rw[q3]at z
  cases z
  exact⟨mk,_,q4,q2,q3,q1⟩
 have out:∀j,(∀k,src[k]?=some (some j)->jo ρ1[j]?=true->False)->∀b∈F1 j,∀o,H1 b=some o->H' b=some o:=λj n b hb o h=>by
  refine s.fr b o h (λ⟨k,z⟩=>?_) ?_
  .obtain⟨j',q1,q2,q3⟩:=rO z
   cases e1.di j j' b hb q3
   exact n k q1 q2
  .obtain⟨ys,z⟩:=e1.fl ⟨j,hb⟩
   exact e1.tb.nt z
 refine⟨⟨by rw[pR,e1.len],e.sub,e.tb,e.tg,λb ⟨j,hb⟩=>?_,e.rg,e1.di,λj=>?_⟩,s.gg,λb o h n=>s.fr b o h λz=>n (rP z),λb h=>(s.nw b h).imp id (Or.imp id rP),λb h=>.inr h,s.dm⟩
 .cases z:G' b with
  |none=>rfl
  |some o =>
   rcases s.nw b (by rw[z]; exact λy=>by cases y)with y|y|⟨k,y⟩
   .exact(y (e1.hid b ⟨j,hb⟩)).elim
   .exact(e1.fs y ⟨j,hb⟩).elim
   .obtain⟨j',q1,q2,q3⟩:=rO y
    obtain⟨_,a,h1,h2,_⟩:=inn q1 q2
    rw[h1]at q3
    rw[e.hid b ⟨k,by rw[h2]; exact q3⟩]at z
    cases z
 .rcases GD I (rfl:(bA src ρ ρ1)[j]?=_)with⟨k,ts,q1,q2,q3⟩|⟨n,q⟩
  .rw[<-q3]
   cases m:jo ρ1[j]? with
   |false =>
    have:(cN j ts ρ1)[j]?=ρ1[j]? := by
     unfold cN
     split <;> first|rfl|(rename_i y; rw[y]at m; cases m)
    rw[this]
    exact(e1.sl j).mono s.gg (out j λk _ z=>by rw[m]at z; cases z)
   |true =>
    obtain⟨_,a,h1,h2,h3,h4⟩:=inn q1 m
    have z:=e.sl k
    have z1:=e1.sl j
    have y:∃xs,H' a=some (.lst xs)/\au K G' xs ts:=by
     rcases q2 with q2|q2 <;> (rw[q2,h4]at z; obtain⟨b,xs,y1,_,_,y2⟩:=z; cases y1; exact⟨xs,y2⟩)
    obtain⟨xs,y1,y2⟩:=y
    unfold cN
    unfold jo at m
    split at m <;> rename_i w <;> (try cases m) <;>
    .rw[w]at z1
     obtain⟨b,_,y3,_,y4,_⟩:=z1
     rw[h3]at y3
     cases y3
     try simp only[w]
     rw[gj (List.getElem?_eq_some_iff.mp w).1]
     exact⟨a,xs,h3,h1,y4,y1,y2⟩
  .rw[<-q]
   exact(e1.sl j).mono s.gg (out j λk q1 z=>n k q1 (inn q1 z).1)
theorem Ok.QX(e:Ok K R ρ σ G H F)(h:H D=some (.lst xs))(n:¬Fn F D)(g:G D=none):Ok K R ρ σ G (upd H D (.lst ys)) F:=by
 have ne:∀b,Fn F b->b≠D:=λb z y=>n (y▸z)
 refine⟨e.len,λb o q=>?_,e.tb.upd h,e.tg,e.hid,λb z=>⟨(e.rg b z).1,λy=>?_⟩,e.di,λi=>(e.sl i).mono (Same.refl _) λb hb o q=>?_⟩
 .rw[aK λz=>by rw[z,g]at q; cases q]
  exact e.sub b o q
 .by_cases z:b=D
  .subst z; rw[cu]at y; cases y
  .rw[aK z]at y; exact(e.rg b ‹_›).2 y
 .rw[aK (ne b ⟨i,hb⟩)]; exact q
theorem aG.flt(s:aG K G H F G' H' F')(tb:bJ K H)(h:H D=some (.lst xs))(n:¬Fn F D)(g:G D=none):H' D=some (.lst xs)/\¬Fn F' D/\G' D=none:=by
 refine⟨s.fr D _ h n (tb.nt h),s.out h n,?_⟩
 cases k:G' D with
 |none=>rfl
 |some o=>exact((s.nw D (by rw[k]; exact λz=>by cases z)).elim (λz=>z g) λz=>z.elim (λz=>by rw[h]at z; cases z) n).elim
end
noncomputable abbrev QZ:=Hp->Hp->Fp->List V->List Tr->Prop
noncomputable def nO(cv:Rv->Rs Tr)(g:GF)(c:BF)(f:EF):List Tr->En->Rs (List Tr × En)
 | [],ρ=>.ok ([],ρ)
 |u::us,ρ=>(g u ρ).bind λρ1=>(c ρ1).bind λb=>if b.1=true then(f b.2).bind λp=>(cv p.1).bind λT=>(nO cv g c f us p.2).bind λz=>.ok (T::z.1,z.2)else nO cv g c f us b.2
structure Acc(K:PySem.W.Frag)(R:Addr->Prop)(H1:Hp)(D:Addr)(cv:Rv->Rs Tr)(A:QZ):Prop where
 nx:∀r c,cv r ≠ .ex c
 nil:∀G H F,A G H F [] []
 stp:∀{G H F G' H' F' xs ts},bJ K H->aG K G H F G' H' F'->A G H F xs ts->A G' H' F' xs ts
 pok:∀{G H F xs ts ys},A G H F xs ts->A G (upd H D ys) F xs ts
 add:∀{ρ ρ0 σ σ0 G H F G0 H0 F0 xs ts v r T},A G0 H0 F0 xs ts->Ok K R ρ0 σ0 G0 H0 F0->(∀b,H0 b=none->H1 b=none/\b≠D)->Ok K R ρ σ G H F->aG K G0 H0 F0 G H F->fJ K σ H0 G H F v r->cv r=.ok T->∃G2,Ok K R ρ σ G2 H F/\aG K G0 H0 F0 G2 H F/\A G2 H F (xs++[v]) (ts++[T])
theorem GK{K:PySem.W.Frag}{A:QZ}{G1:Hp}{J:It}{tc:TT}(hc:∀σ H Q,Tt ⟨K,λ_ _=>False⟩ cf σ H Q->tc σ H Q)(I:Inj src)(hj:∀k j:Nat,src[k]?=some (some j)->k∉js)(ng:∀T ρ c,gf T ρ ≠ .ex c)(hlen:us.length<=100000)(hD:H1 D=none)(ac:Acc K R H1 D cv A)(e1:Ok K R ρ1 σ G1 H1 F1)
  (it:∀G' H',Same G1 G'->Same G' H'->(∀b o,H1 b=some o->¬Fn (inF src ρ1 F1) b->¬Tb K b->H' b=some o)->∀i,(i=us.length->J.stop i H')/\∀u,us[i]?=some u->J.go i H'/\∀x cD,J.jC i H' x cD->∃G'',Gw K G' H' G'' cD/\Rep K G'' x u)
  (kz:nO cv gf cf f us (dZ src ρ1)=.ok z) (so:eU src z.2 ρ1=true) (fin:∀G' H' F' xs,Ok K R (bA src z.2 ρ1) σ G' H' F1->aG K G1 H1 F1 G' H' F1->H' D=some (.lst xs)->G' D=none->(∀b,Fn F' b->H1 b=none\/Fn F1 b)->¬Fn F' D->A G' H' F' xs z.1->Q (.ref D) H') :
  ∃W:Nat->Nat->St->Hp->Prop,(∃m,W 0 m (bQ src σ) (upd H1 D (.lst [])))/\∀i m σ' H',W i m σ' H' ->
  (J.stop i H'/\Dl Q D H')\/(J.go i H'/\∀x cD,J.jC i H' x cD->j7 K gf js x σ' cD λσ2 H2=>tc σ2 H2 λb vd=>if b=true then Te ⟨K,λ_ _=>False⟩ f σ2 vd λv H3=>∃xs,H3 D=some (.lst xs)/\xs.length<sizeLine/\∃m',m'<m/\W (i+1) m' σ2 (upd H3 D (.lst (xs++[v])))else ∃m',m'<m/\W (i+1) m' σ2 vd):=by
 refine⟨λi m τ H'=>m=us.length-i/\i<=us.length/\∃ρ' G' F' xs acc,Ok K R ρ' τ G' H' F'/\aG K G1 H1 (inF src ρ1 F1) G' H' F'/\(H' D=some (.lst xs)/\¬Fn F' D/\G' D=none)/\A G' H' F' xs acc/\xs.length<=i/\(∀k j:Nat,src[k]?=some (some j) -> τ[k]?=(bQ src σ)[k]?)/\∃y,nO cv gf cf f (us.drop i) ρ'=.ok y/\z=(acc++y.1,y.2),⟨us.length,by simp,Nat.zero_le _,dZ src ρ1,G1,inF src ρ1 F1,[],[],?_,?_,⟨cu,λh=>e1.fs hD (rP h),e1.sub.free hD⟩,ac.nil _ _ _,Nat.le_refl _,λ_ _ _=>rfl,z,kz,rfl⟩,?_⟩
 .exact((e1.enter I).grow (.flt e1.sub hD)).1
 .exact((e1.enter I).grow (.flt e1.sub hD)).2
 rintro i m τ H2 ⟨rfl,hi,ρ2,G2,F2,xs,acc,e2,s2,d2,a2,l2,g2,y,ky,rfl⟩
 have q:=it G2 H2 s2.gg e2.sub s2.fr i
 have mv:∀{G3 H3 F3},aG K G1 H1 (inF src ρ1 F1) G3 H3 F3->∀ys,aG K G1 H1 (inF src ρ1 F1) G3 (upd H3 D (.lst ys)) F3:=λs ys=>⟨s.gg,λb o h n t=>by rw[aK (gQ h hD)]; exact s.fr b o h n t,s.nw,s.nf,λb h=>by
  by_cases z:b=D
  .subst z; exact hD
  .rw[aK z]at h; exact s.dm b h⟩
 by_cases hlt:i<us.length
 .rw[List.drop_eq_getElem_cons hlt]at ky
  obtain⟨go,yl⟩:=q.2 us[i] (by simp[hlt])
  refine .inr ⟨go,λx H3 yy=>?_⟩
  obtain⟨G3,w3,r3⟩:=yl x H3 yy
  obtain⟨e3,s3⟩:=e2.grow w3
  obtain⟨ρ4,k4,ky⟩:=bT ky
  obtain⟨b,k5,ky⟩:=bT ky
  refine⟨R,ρ2,G3,F2,_,e3,r3,?_⟩
  rw[k4]
  intro σ4 F4 e4 f4 a4
  have s4:=s3.trans (aG.sub f4)
  have g4:∀k j:Nat,src[k]?=some (some j) -> σ4[k]?=(bQ src σ)[k]? := λk j h=>(a4 k (hj k j h)).trans (g2 k j h)
  refine hc _ _ _ ⟨R,ρ4,G3,F4,e4,?_⟩
  rw[k5]
  intro G5 H5 F5 e5 s5
  have kh:=s4.trans s5
  have d5:=kh.flt e2.tb d2.1 d2.2.1 d2.2.2
  split at ky <;> rename_i c
  .rw[if_pos c]
   obtain⟨p,k6,ky⟩:=bT ky
   obtain⟨T,k7,ky⟩:=bT ky
   obtain⟨y',k8,ky⟩:=bT ky
   cases ky
   refine⟨R,b.2,G5,F5,e5,?_⟩
   rw[k6]
   intro v G6 H6 F6 e6 s6 v6
   obtain⟨G7,e7,s7,a7⟩:=ac.add (ac.stp e2.tb kh a2) e5 (λb h=>⟨(s2.trans kh).dm b h,λz=>by rw[z,d5.1]at h; cases h⟩) e6 s6 v6 k7
   have d7:=s7.flt e5.tb d5.1 d5.2.1 d5.2.2
   refine⟨xs,d7.1,Nat.lt_of_le_of_lt (show xs.length<=100000 by omega) (by decide),us.length-(i+1),by omega,rfl,hlt,p.2,G7,F6,xs++[v],acc++[T],e7.QX d7.1 d7.2.1 d7.2.2,mv ((s2.trans kh).trans s7) _,⟨cu,d7.2⟩,ac.pok a7,by simp; omega,g4,y',k8,by simp⟩
  .rw[if_neg c]
   exact⟨us.length-(i+1),by omega,rfl,hlt,b.2,G5,F5,xs,acc,e5,s2.trans kh,d5,ac.stp e2.tb kh a2,by omega,g4,y,ky,rfl⟩
 .have z:i=us.length:=by omega
  subst z
  rw[List.drop_length]at ky
  cases ky
  obtain⟨e',s'⟩:=e1.leave e2 s2 I g2 so
  exact .inl ⟨q.1 rfl,fin G2 H2 F2 xs e' s' d2.1 d2.2.2 (λb h=>(s2.nf b h).imp id rP) d2.2.1 (by rw[List.append_nil]; exact a2)⟩
theorem Q5{K:PySem.W.Frag}:Acc K R H1 D qY λG _ _ xs ts=>au K G xs ts:=⟨Qa,λ_ _ _=>.nil,λ_ s a=>a.mono s.gg,λa=>a,λa e0 _ e s v q=>by
 obtain⟨G2,e2,s2,m,r⟩:=e.pH e0 s v q
 exact⟨G2,e2,s2,(a.mono s2.gg).app (.cons r .nil)⟩⟩
noncomputable def fO(g:GF)(c:BF)(f:EF):List Tr->En->Rs (List Tr × En)
 | [],ρ=>.ok ([],ρ)
 |u::us,ρ=>(g u ρ).bind λρ1=>(c ρ1).bind λb=>if b.1=true then(f b.2).bind λp=>(qY p.1).bind λT=>(fO g c f us p.2).bind λz=>.ok (T::z.1,z.2)else fO g c f us b.2
theorem GP(g:GF)(c:BF)(f:EF):∀us,fO g c f us=nO qY g c f us
 | []=>rfl
 |u::us=>by funext ρ; simp only[fO,nO,GP g c f us]
noncomputable def jc:BF:=λρ=>.ok (true,ρ)
noncomputable def rQ(src:List (Option Nat))(fi:IF)(g:GF)(c:BF)(f:EF):EF:=λρ=>(fi ρ).bind λp=>if p.1.length<=100000 then(fM (fO g c f p.1 (dZ src p.2))).bind λz=>if eU src z.2 p.2=true then .ok (.v (.lst z.1) true,bA src z.2 p.2)else .bad else .bad
theorem nQ{α β : Type}{r:Rs α}{f : α -> Rs β}{t:Tx}{P : β -> Prop}(h:bK t H F ((fM r).bind f) P):∃a,r=.ok a/\bK t H F (f a) P:=by
 cases r with
 |ok a=>exact⟨a,rfl,h⟩
 |_=>exact h.elim
theorem Q6{t:Tx}{tc:TT}(hc:∀σ H Q,Tt ⟨t.K,λ_ _=>False⟩ cf σ H Q->tc σ H Q)(I:Inj src)(hj:∀k j:Nat,src[k]?=some (some j)->k∉js)(ng:∀T ρ c,gf T ρ ≠ .ex c)(h:Te t (rQ src fi gf cf f) σ H Q):rN (Ti t fi) (j7 t.K gf js) src tc (Te ⟨t.K,λ_ _=>False⟩ f) σ H Q:=by
 obtain⟨R,ρ,G,F,e,h⟩:=h
 refine⟨R,ρ,G,F,e,h.run (aG.refl (G:=G)) λp h J G1 H1 F1 e1 s1 it D hD=>?_⟩
 split at h
 case isFalse=>exact h.elim
 obtain⟨z,kz,h⟩:=nQ h
 split at h
 case isFalse=>exact h.elim
 rw[GP]at kz
 exact GK hc I hj ng ‹_› hD Q5 e1 (λG' H' m s _=>it G' H' m s) kz ‹_› λG' H' F' xs e' s' d g _ _ a=>h _ G' H' F1 e' (s1.trans s') ⟨⟨D,xs,_,rfl,rfl,s1.dm D hD,g,d,a⟩,λ_ a q=>by cases q; exact e1.fs hD⟩
noncomputable def cG(Γ : Gx)(N:List Str)(scope:Scope):Gx:=⟨N,Np scope Γ.sc,λx=>scope.names.lookup x == some .cell,Γ.B,[],true,Γ.k,[]⟩
theorem iB(o:Ox cl Γ E X)(d:N.Nodup):Ox cl (cG Γ N scope) E0 (aZ X N scope C s H ex):=⟨rfl,by show Np scope X.env.scope=_; rw[o.s]; rfl,d,o.l,o.r,N6,o.B,(λ_ z=>nomatch z),o.x,rfl,(λ_=>rfl),λ_ z=>nomatch z⟩
noncomputable def nU(Γ : Gx)(N:List Str)(src:List (Option Nat))(scope:Scope)(js:List Nat):Bool :=
 decide (scope.kind=.function)&&decide (∀y∈scope.names,y.2=.cell->scope.names.lookup y.1=some .cell)&&decide (∀y∈scope.names,y.2=.local->scope.names.lookup y.1=some .local)&&decide (∀y∈scope.names,y.2=.free -> Γ.sc.names.lookup y.1=some .cell\/Γ.sc.names.lookup y.1=some .free)&&decide (src.length=N.length)&&decide (∀p∈N.zip src,∀j∈p.2,Γ.N[j]?=some p.1/\scope.names.lookup p.1=some .free)&&decide N.Nodup&&decide (src.filterMap id).Nodup&&js.all λk=>(src[k]?).join.isNone
theorem rR(h:nU Γ N src scope js=true):m9 Γ.sc Γ.N N src scope/\N.Nodup/\Inj src/\∀k j:Nat,src[k]?=some (some j)->k∉js:=by
 simp only[nU,an]at h
 obtain⟨⟨⟨⟨⟨⟨⟨⟨h1,h2⟩,h3⟩,h4⟩,h5⟩,h6⟩,h7⟩,h8⟩,h9⟩:=h
 refine⟨⟨of_decide_eq_true h1,of_decide_eq_true h2,of_decide_eq_true h3,of_decide_eq_true h4,of_decide_eq_true h5,of_decide_eq_true h6⟩,of_decide_eq_true h7,aeV (of_decide_eq_true h8),λk j e m=>?_⟩
 have:=List.all_eq_true.mp h9 k m
 rw[e]at this
 cases this
noncomputable def z6(v t:Pos)(scope:Scope)(y:Str)(env:Env):Bool:=env.blockKind == .function&&env.kindOf y == some .local&&t.line == v.line && !(scope.names.any λ(n,k)=>n == y&&(k == .local || k == .cell))
theorem z7{te GQ:TE}{b:Str->Pos->Bool}(o:Ox cl Γ E X)(hw:∀y p l,swapsWith e (some (.Name y p)) l X.env=pure (b y p))(hP:PE X e te)(hS:∀i y p sp,Wr X i y->b y p=true->PS X (.Assign [.Name y p] e sp) (lD te (lC i)))(imp:∀σ H Q,GQ σ H Q->te σ H Q):PE X e GQ/\∀i y p sp,Wr X i y->PS X (.Assign [.Name y p] e sp) (lD GQ (lC i)):=by
 refine⟨hP.imp imp,λi y p sp w=>?_⟩
 cases hb:b y p
 .exact Lz o.d w.1 w.2.1 (hP.imp imp) ((hw y p _).trans (congrArg pure hb)) w.2.2
 .exact(hS i y p sp w hb).imp λD σ H=>imp σ H _
noncomputable def cC(src:List (Option Nat))(N:List Str)(i:VI mJ)(g:VG gC jm)(b:VE bD):VC (rQ src mJ gC jc bD) where
 ck Γ e:=nC e λx aM sc _=>aQ aM λbh bF=>lU bh λt y bY cV=>aV bY (iR cV 0 (aV bF (i.ck Γ (t,y)&&g.ck (cG Γ N sc) t&&b.ck (cG Γ N sc) x&&nU Γ N src sc jm)))
 cs:=i.cs++(g.cs++b.cs)
 ok:=@λcl E Γ X e q o h=>by
  walk_at "O"
  rename_i x0 sc pos t0 y0
  simp only[an]at h
  obtain⟨⟨⟨h1,h2⟩,h3⟩,h4⟩:=h
  obtain⟨pi,ni⟩:=i.ok (ml q) o h1
  obtain⟨S,nd,I,hj⟩:=rR h4
  have pg:=λC s H ex=>g.ok (X:=aZ X N sc C s H ex) (ml (mr q)) (iB o nd) h2
  have pb:=λC s H ex=>b.ok (X:=aZ X N sc C s H ex) (mr (mr q)) (iB o nd) h3
  exact z7 o (b:=λy p=>z6 pos p sc y X.env) (λ_ _ _=>rfl) (zX o.s o.N S o.l pi (λC s H ex=>(pg C s H ex).1) (λ_ _ _ _=>zT) pb (jJ ni)) (λi y p sp w hb=>zY o.d w.1 w.2.1 o.s o.N S o.l pi (λC s H ex=>(pg C s H ex).1) (λ_ _ _ _=>zT) pb (congrArg pure hb) (jJ ni) w.2.2) λσ H Q h=>by
   exact Q6 (λσ H Q ⟨R,ρ,G,F,e,h⟩=>h G H F e .refl) I hj (pg 0 X.s₀ X.H₀ []).2.1 h
noncomputable def GR(src:List (Option Nat))(N:List Str)(i:VI mJ)(g:VG gC jm)(k:VT rJ)(b:VE bD):VC (rQ src mJ gC rJ bD) where
 ck Γ e:=nC e λx aM sc _=>aQ aM λbh bF=>lU bh λt y bY cV=>aQ bY λz dJ=>aV dJ (iR cV 0 (aV bF (i.ck Γ (t,y)&&g.ck (cG Γ N sc) t&&b.ck (cG Γ N sc) x&&k.ck (cG Γ N sc) z&&nU Γ N src sc jm)))
 cs:=i.cs++(g.cs++(b.cs++k.cs))
 ok:=@λcl E Γ X e q o h=>by
  walk_at "O"
  rename_i x0 sc pos t0 y0 z0
  simp only[an]at h
  obtain⟨⟨⟨⟨h1,h2⟩,h3⟩,h5⟩,h4⟩:=h
  obtain⟨pi,ni⟩:=i.ok (ml q) o h1
  obtain⟨S,nd,I,hj⟩:=rR h4
  have pg:=λC s H ex=>g.ok (X:=aZ X N sc C s H ex) (ml (mr q)) (iB o nd) h2
  have pb:=λC s H ex=>b.ok (X:=aZ X N sc C s H ex) (ml (mr (mr q))) (iB o nd) h3
  have pk:=λC s H ex=>k.ok (X:=aZ X N sc C s H ex) (mr (mr (mr q))) (iB o nd) h5
  exact z7 o (b:=λy p=>z6 pos p sc y X.env) (λ_ _ _=>rfl) (zX o.s o.N S o.l pi (λC s H ex=>(pg C s H ex).1) (λC s H ex=>zR (pk C s H ex)) pb (jJ ni)) (λi y p sp w hb=>zY o.d w.1 w.2.1 o.s o.N S o.l pi (λC s H ex=>(pg C s H ex).1) (λC s H ex=>zR (pk C s H ex)) pb (congrArg pure hb) (jJ ni) w.2.2) λσ H Q=>Q6 (λ_ _ _ h=>h) I hj (pg 0 X.s₀ X.H₀ []).2.1
noncomputable def GX(src:List (Option Nat))(n:Nat)(g:GF)(c:BF)(f:EF):EF:=λρ=>(con ρ n).bind λus=>if us.length<=100000 then(fM (fO g c f us (dZ src ρ))).bind λz=>if eU src z.2 ρ = true then .ok (.v (.lst z.1) true,bA src z.2 ρ)else .bad else .bad
theorem aeY{K:PySem.W.Frag}(n:Nat)(hn:∀k:Nat,src[k]? ≠ some (some n))(I:Inj src)(hj:∀k j:Nat,src[k]?=some (some j)->k∉js)(ng:∀T ρ c,gf T ρ ≠ .ex c)(h:Te ⟨aA K,xe⟩ (GX src n gf cf f) σ H Q):rN (zP K (tU n)) (j7 (aA K) gf js) src (Tt ⟨aA K,λ_ _=>False⟩ cf) (Te ⟨aA K,λ_ _=>False⟩ f) σ H Q:=by
 obtain⟨R,ρ,G,F,e,h⟩:=h
 obtain⟨us,k0,h⟩:=h.okb (Fv _ _)
 obtain⟨a,xs,hi,hf,hx,r⟩:=e.con k0
 refine .inl ⟨_,hi,a,rfl,⟨xs,aH.of hx⟩,λD hD=>?_⟩
 split at h
 case isFalse=>exact h.elim
 obtain⟨z,kz,h⟩:=nQ h
 split at h
 case isFalse=>exact h.elim
 rw[GP]at kz
 have na:¬Fn (inF src ρ F) a:=λ⟨k,z⟩=>by
  obtain⟨j,q1,_,q2⟩:=rO z
  cases e.di n j a (by rw[hf]; exact List.mem_singleton.mpr rfl) q2
  exact hn k q1
 refine GK (λ_ _ _ h=>h) I hj ng ‹_› hD Q5 e (λG' H' m s fr i=>?_) kz ‹_› λG' H' F' xs e' s' d g _ _ a=>h _ G' H' F e' s' ⟨⟨D,xs,_,rfl,rfl,hD,g,d,a⟩,λ_ a q=>by cases q; exact e.fs hD⟩
 have q':aH K H' a xs:=aH.of (fr a _ hx na (e.tb.nt hx))
 refine⟨λz=>⟨xs,q',by rw[r.length]; lia⟩,λu hu=>?_⟩
 obtain⟨x,hx,rx⟩:=r.jg hu
 refine⟨⟨xs,x,q',hx⟩,λy cD ⟨e,z⟩=>?_⟩
 have:=z xs q'
 rw[hx]at this
 cases this
 subst e
 exact⟨G',.refl s,rx.mono m⟩
noncomputable def cO(src:List (Option Nat))(N:List Str)(n:Nat)(g:VG gC jm)(k:VT rJ)(b:VE bD):VC (GX src n gC rJ bD) where
 ck Γ e:=nC e λx aM sc _=>aQ aM λbh bF=>lU bh λt bY cV dJ=>atName bY λy _=>aQ cV λz gD=>aV gD (iR dJ 0 (aV bF (j4 Γ n y&&g.ck (cG Γ N sc) t&&b.ck (cG Γ N sc) x&&k.ck (cG Γ N sc) z&&nU Γ N src sc jm&&src.all (λo=>o != some n))))
 cs:=g.cs++(b.cs++k.cs)
 ok:=@λcl E Γ X e q o h=>by
  walk_at "O"
  rename_i x0 sc pos t0 y0 p0 z0
  simp only[an]at h
  obtain⟨⟨⟨⟨⟨h1,h2⟩,h3⟩,h5⟩,h4⟩,h6⟩:=h
  obtain⟨S,nd,I,hj⟩:=rR h4
  have pi:PI X t0 (.Name y0 p0) (zP X.K (tU n)):=QG (qU o h1)
  have pg:=λC s H ex=>g.ok (X:=aZ X N sc C s H ex) (ml q) (iB o nd) h2
  have pb:=λC s H ex=>b.ok (X:=aZ X N sc C s H ex) (ml (mr q)) (iB o nd) h3
  have pk:=λC s H ex=>k.ok (X:=aZ X N sc C s H ex) (mr (mr q)) (iB o nd) h5
  exact z7 o (b:=λy p=>z6 pos p sc y X.env) (λ_ _ _=>rfl) (zX o.s o.N S o.l pi (λC s H ex=>(pg C s H ex).1) (λC s H ex=>zR (pk C s H ex)) pb (jJ rfl)) (λi y p sp w hb=>zY o.d w.1 w.2.1 o.s o.N S o.l pi (λC s H ex=>(pg C s H ex).1) (λC s H ex=>zR (pk C s H ex)) pb (congrArg pure hb) (jJ rfl) w.2.2) λσ H Q=>aeY n (λk z=>by
   have:=List.all_eq_true.mp h6 _ (List.mem_of_getElem? z)
   simp at this) I hj (pg 0 X.s₀ X.H₀ []).2.1
noncomputable def vm:Rv->Rs Tr
 |.v (.lst us) true=>.ok (.lst us)
 |_=>.bad
noncomputable def pU(g:GF)(c:BF)(f:EF):List Tr->En->Rs (List Tr × En)
 | [],ρ=>.ok ([],ρ)
 |u::us,ρ=>(g u ρ).bind λρ1=>(c ρ1).bind λb=>if b.1=true then(f b.2).bind λp=>(vm p.1).bind λT=>(pU g c f us p.2).bind λz=>.ok (T::z.1,z.2)else pU g c f us b.2
theorem Q7(g:GF)(c:BF)(f:EF):∀us,pU g c f us=nO vm g c f us
 | []=>rfl
 |u::us=>by funext ρ; simp only[pU,nO,Q7 g c f us]
section
variable {K:PySem.W.Frag}{R:Addr->Prop}{ρ : En}{σ : St}{G H H1 G' H':Hp}{F F':Fp}
theorem DR.app:∀{xs ys:List V} {ts us:List Tr} {as bs:List Addr},DR K G H xs ts as->DR K G H ys us bs->DR K G H (xs++ys) (ts++us) (as++bs)
 |_,_,_,_,_,_,.nil,r=>r
 |_,_,_,_,_,_,.cl n h q,r=>.cl n h (DR.app q r)
 |_,_,_,_,_,_,.rw h q p,r=>.rw h q (DR.app p r)
theorem DR.reps{K:PySem.W.Frag}{G G' H:Hp}(m:Same G G'):∀{xs:List V} {ts:List Tr} {bs:List Addr},DR K G H xs ts bs->(∀b∈bs,G' b=H b)->au K G' xs ts
 |_,_,_,.nil,_=>.nil
 |_,_,_,.cl n h r,k=>.cons (h.mono m) (DR.reps m r k)
 |_,_,_,.rw h q r,k=>.cons (.lst (aH.of ((k _ (List.mem_cons_self ..)).trans h)) (q.mono m)) (DR.reps m r λb hb=>k b (List.mem_cons_of_mem _ hb))
structure z8(K:PySem.W.Frag)(R:Addr->Prop)(H1:Hp)(D:Addr)(G H:Hp)(F:Fp)(xs:List V)(ts:List Tr)(bs:List Addr):Prop where
 nd:bs.Nodup
 al:∀b∈bs,H1 b=none/\b≠D/\¬R b/\¬Fn F b/\G b=none
 dr:DR K G H xs ts bs
theorem z8.stp(tb:bJ K H)(s:aG K G H F G' H' F')(a:z8 K R H1 D G H F xs ts bs):z8 K R H1 D G' H' F' xs ts bs:=by
 refine⟨a.nd,λb hb=>?_,a.dr.mono s.gg λb hb o q=>?_⟩ <;> obtain⟨h1,h2,h3,h4,h5⟩:=a.al b hb <;> obtain⟨ys,hy⟩:=a.dr.lst b hb
 .exact⟨h1,h2,h3,(s.flt tb hy h4 h5).2⟩
 .rw[hy]at q
  cases q
  exact(s.flt tb hy h4 h5).1
theorem aeZ:Acc K R H1 D vm λG H F xs ts=>∃bs,z8 K R H1 D G H F xs ts bs:=by
 refine⟨λr c=>(by unfold vm; split <;> (intro z; cases z)),λ_ _ _=>⟨[],.nil,(λ_ h=>by cases h),.nil⟩,λtb s ⟨bs,a⟩=>⟨bs,a.stp tb s⟩,λ⟨bs,a⟩=>⟨bs,a.nd,a.al,a.dr.mono (Same.refl _) λb hb o q=>?_⟩,λ⟨bs,a0⟩ e0 hn e s v q=>?_⟩
 .rw[aK (a.al b hb).2.1]; exact q
 .have a:=a0.stp e0.tb s
  unfold vm at q
  split at q <;> cases q
  obtain⟨⟨c,ys,us,rfl,q1,q2,q3,q4,q5⟩,f⟩:=v
  cases q1
  refine⟨_,e,s,bs++[c],List.nodup_append.mpr ⟨a.nd,by simp,λb hb d hd z=>?_⟩,λb hb=>?_,a.dr.app (.rw q4 q5 .nil)⟩
  .cases List.mem_singleton.mp hd
   obtain⟨zs,hz⟩:=a0.dr.lst b hb
   rw[z,q2]at hz
   cases hz
  .rcases List.mem_append.mp hb with hb|hb
   .exact a.al b hb
   .cases List.mem_singleton.mp hb
    exact⟨(hn _ q2).1,(hn _ q2).2,e0.rn q2,f rfl _ rfl,q3⟩
end
noncomputable def GZ(i:Nat)(src:List (Option Nat))(fi:IF)(g:GF)(c:BF)(f:EF):SF:=λρ=>(fi ρ).bind λp=>if p.1.length<=100000 then(fM (pU g c f p.1 (dZ src p.2))).bind λz=>if eU src z.2 p.2=true then .ok (.nx,(bA src z.2 p.2).set i (.dp z.1))else .bad else .bad
theorem Ok.ae0{K:PySem.W.Frag}(e:Ok K R ρ σ G H F)(i:Nat)(n:(a::bs).Nodup)(al:∀b∈a::bs,¬R b/\¬Fn F b/\G b=none)(h:H a=some (.lst xs))(d:DR K G H xs ts bs):∃F',Ok K R (ρ.set i (.dp ts)) (σ.set i (some (.ref a))) G H F'/\∀b,Fn F' b->b∈a::bs\/Fn F b:=by
 by_cases l:i < ρ.length
 .refine⟨iz F i (a::bs),e.one i _ (by rw[List.length_set,List.length_set,e.len]) (λj n=>⟨jk n,jk n⟩) (Same.refl _) e.sub e.tb (λb h=>.inl h) (λ_ _ _ _ _ h=>h) (λb h=>(e.rg b h).2) (λb h=>⟨(al b h).2.2,λj _ z=>(al b h).2.1 ⟨j,z⟩⟩) ?_,λb h=>?_⟩
  .rw[gj l,gj (e.len▸l)]
   exact⟨a,xs,bs,rfl,rfl,n,λb hb=>(al b hb).1,h,d⟩
  .rcases rD h with h|⟨j,_,h⟩
   .exact .inl h
   .exact .inr ⟨j,h⟩
 .rw[rE l,rE (e.len▸l)]
  exact⟨F,e,λb h=>.inr h⟩
theorem ae1{t:Tx}{tc:TT}(hc:∀σ H Q,Tt ⟨t.K,λ_ _=>False⟩ cf σ H Q->tc σ H Q)(I:Inj src)(hj:∀k j:Nat,src[k]?=some (some j)->k∉js)(ng:∀T ρ c,gf T ρ ≠ .ex c)(h:Ts t (GZ n src fi gf cf f) D σ H):lD (rN (Ti t fi) (j7 t.K gf js) src tc (Te ⟨t.K,λ_ _=>False⟩ f)) (lC n) D σ H:=by
 obtain⟨R,ρ,G,F,e,h⟩:=h
 refine⟨R,ρ,G,F,e,h.run (aG.refl (G:=G)) λp h J G1 H1 F1 e1 s1 it D hD=>?_⟩
 split at h
 case isFalse=>exact h.elim
 obtain⟨z,kz,h⟩:=nQ h
 split at h
 case isFalse=>exact h.elim
 rw[Q7]at kz
 refine GK hc I hj ng ‹_› hD aeZ e1 (λG' H' m s _=>it G' H' m s) kz ‹_› λG' H' F' xs e' s' d g _ _ ⟨bs,a⟩=>?_
 have al:∀b∈D::bs,H1 b=none/\¬R b/\¬Fn F1 b/\G' b=none:=List.forall_mem_cons.mpr ⟨⟨hD,e1.rn hD,e1.fs hD,g⟩,λb hb=>⟨(a.al b hb).1,(a.al b hb).2.2.1,e1.fs (a.al b hb).1,(a.al b hb).2.2.2.2⟩⟩
 obtain⟨F2,e2,f2⟩:=e'.ae0 n (List.nodup_cons.mpr ⟨λz=>(a.al D z).2.1 rfl,a.nd⟩) (λb hb=>(al b hb).2) d a.dr
 have s2:=s1.trans s'
 exact h _ G' H' F2 e2 ⟨s2.gg,s2.fr,s2.nw,λb z=>(f2 b z).elim (λz=>.inl (s1.dm b (al b z).1)) (s2.nf b),s2.dm⟩
noncomputable def sCd(n:Nat)(src:List (Option Nat))(N:List Str)(i:VI mJ)(g:VG gC jm)(b:VE bD):VS (GZ n src mJ gC jc bD) where
 ck Γ e:=pq e λaM bh _=>aQ aM λbF bY=>atName bF λy p=>aV bY (nC bh λx cV sc pos=>aQ cV λdJ gD=>lU dJ λt z mG mH=>aV mG (iR mH 0 (aV gD (zF Γ n y&&i.ck Γ (t,z)&&g.ck (cG Γ N sc) t&&b.ck (cG Γ N sc) x&&nU Γ N src sc jm))))
 cs:=i.cs++(g.cs++b.cs)
 ok:=@λcl E Γ X e q o h=>by
  walk_at "O"
  rename_i sp y p x0 sc pos t0 y0
  simp only[an]at h
  obtain⟨⟨⟨⟨hw,h1⟩,h2⟩,h3⟩,h4⟩:=h
  obtain⟨pi,ni⟩:=i.ok (ml q) o h1
  obtain⟨S,nd,I,hj⟩:=rR h4
  have pg:=λC s H ex=>g.ok (X:=aZ X N sc C s H ex) (ml (mr q)) (iB o nd) h2
  have pb:∀C s H ex,PE (aZ X N sc C s H ex) x0 (Te (tx cl E0 X) bD):=λC s H ex=>b.ok (X:=aZ X N sc C s H ex) (mr (mr q)) (iB o nd) h3
  have Q8:∀C s H ex,PG (aZ X N sc C s H ex) t0 (j7 (aA X.K) gC jm):=λC s H ex=>(pg C s H ex).1
  refine((z7 o (b:=λy p=>z6 pos p sc y X.env) (λ_ _ _=>rfl) (zX o.s o.N S o.l pi Q8 (λ_ _ _ _=>zT) pb (jJ ni)) (λi y p sp w hb=>zY o.d w.1 w.2.1 o.s o.N S o.l pi Q8 (λ_ _ _ _=>zT) pb (congrArg pure hb) (jJ ni) w.2.2) λσ H Q h=>h).2 _ _ _ _ (Fz o hw)).imp λD σ H h=>?_
  exact ae1 (λσ H Q ⟨R,ρ,G,F,e,h⟩=>h G H F e .refl) I hj (pg 0 X.s₀ X.H₀ []).2.1 h
noncomputable def rT(i:Nat)(ρ : En):En:=match ρ[i]? with
 |some (.dp ts)=>ρ.set i (.ow ts)
 |_=>ρ
noncomputable def G8(i:Nat)(f:SF):SF:=λρ=>f (rT i ρ)
open Classical in
theorem Ok.rT{K:PySem.W.Frag}(e:Ok K R ρ σ G H F)(i:Nat):∃G' F',Ok K R (L2.rT i ρ) σ G' H F'/\aG K G H F G' H F':=by
 unfold L2.rT
 split
 case h_2=>exact⟨G,F,e,.refl⟩
 rename_i ts k
 have z:=e.sl i
 rw[k]at z
 obtain⟨a,xs,bs,h1,h2,nd,h3,h4,d⟩:=z
 have Q9:∀b∈bs,b∈F i:=λb hb=>by rw[h2]; exact List.mem_cons_of_mem _ hb
 have nda:=(List.nodup_cons.mp (h2▸nd)).1
 let G':Hp:=λb=>if b∈bs then H b else G b
 have m:Same G G':=λb o q=>by
  show(if b∈bs then H b else G b)=_
  split
  .exact e.sub b o q
  .exact q
 have sp:∀b,G' b≠none->G b≠none\/b∈bs:=λb q=>by
  by_cases z:b∈bs
  .exact .inr z
  .rw[show G' b=G b from if_neg z]at q; exact .inl q
 refine⟨G',iz F i [a],e.one i [a] (by rw[List.length_set,e.len]) (λj n=>⟨jk n,rfl⟩) m (λb o q=>?_) e.tb (λb q=>(sp b q).imp id λz=>⟨λj n y=>n (e.di j i b y (Q9 b z)),?_,h3 b (by rw[h2]; exact List.mem_cons_of_mem _ z)⟩) (λ_ _ _ _ _ h=>h) (λb h=>(e.rg b h).2) (λb h=>?_) ?_,m,λ_ _ h _ _=>h,λb q=>(sp b q).imp id λz=>.inr ⟨i,Q9 b z⟩,λb z=>?_,λ_ h=>h⟩
 .have q:(if b∈bs then H b else G b)=some o:=q
  split at q
  .exact q
  .exact e.sub b o q
 .obtain⟨ys,hy⟩:=d.lst b z
  exact e.tb.nt hy
 .cases List.mem_singleton.mp h
  refine⟨?_,λj n y=>n (e.di j i a y (by rw[h2]; exact List.mem_cons_self ..))⟩
  rw[show G' a=G a from if_neg nda]
  exact e.hid a ⟨i,by rw[h2]; exact List.mem_cons_self ..⟩
 .rw[gj (List.getElem?_eq_some_iff.mp k).1]
  refine⟨a,xs,h1,rfl,h3 a (by rw[h2]; exact List.mem_cons_self ..),h4,d.reps m λb hb=>if_pos hb⟩
 .rcases rD z with z|⟨j,_,z⟩
  .exact .inr ⟨i,by rw[h2,List.mem_singleton.mp z]; exact List.mem_cons_self ..⟩
  .exact .inr ⟨j,z⟩
noncomputable def sD(i:Nat)(a:VS aB):VS (G8 i aB) where
 ck:=a.ck
 cs:=a.cs
 ok q o h:=(a.ok q o h).imp λD σ H=>bR λR ρ G F e h=>by
  obtain⟨G',F',e',s'⟩:=e.rT i
  exact uT e' s' h
open PySem.W
noncomputable def insI(i:Int):List Int->List Int
 | []=>[i]
 |j::r=>if i<=j then i::j::r else j::insI i r
noncomputable def rW(l:List Int):List Int:=l.foldr insI []
theorem insI_perm(i:Int):∀l,(insI i l).Perm (i::l)
 | []=>.refl _
 |j::r=>by
  unfold insI
  split
  .exact .refl _
  .exact((insI_perm i r).cons j).trans (.swap i j r)
theorem Ra(i:Int):∀l,l.Pairwise (· <= ·)->(insI i l).Pairwise (· <= ·)
 | [],_=>by simp[insI]
 |j::r,hp=>by
  have hp':=List.pairwise_cons.mp hp
  unfold insI
  split
  .rename_i b
   refine List.pairwise_cons.mpr ⟨λk hk=>?_,hp⟩
   rcases List.mem_cons.mp hk with rfl|hk
   .exact b
   .have:=hp'.1 k hk; lia
  .rename_i b
   refine List.pairwise_cons.mpr ⟨λk hk=>?_,Ra i r hp'.2⟩
   rcases List.mem_cons.mp ((insI_perm i r).mem_iff.mp hk)with rfl|hk
   .lia
   .exact hp'.1 k hk
theorem Hf:∀l:List Int,(rW l).Perm l/\(rW l).Pairwise (· <= ·)
 | []=>⟨.refl _,.nil⟩
 |i::r=>by
  obtain⟨h1,h2⟩:=Hf r
  exact⟨(insI_perm i _).trans (h1.cons i),Ra i _ h2⟩
theorem Rb:∀{l m:List Int},l.Perm m->l.Pairwise (· <= ·)->m.Pairwise (· <= ·)->l=m
 | [],m,p,_,_=>by rw[List.nil_perm.mp p]
 |a::l,[],p,_,_=>by simpa using p.length_eq
 |a::l,b::m,p,h1,h2=>by
  have h1':=List.pairwise_cons.mp h1
  have h2':=List.pairwise_cons.mp h2
  have e:a=b:=by
   rcases List.mem_cons.mp (p.mem_iff.mp (List.mem_cons_self ..))with z|z
   .exact z
   .rcases List.mem_cons.mp (p.mem_iff.mpr (List.mem_cons_self (a:=b)))with y|y
    .exact y.symm
    .have a1:=h1'.1 b y
     have a2:=h2'.1 a z
     lia
  subst e
  rw[Rb p.cons_inv h1'.2 h2'.2]
theorem Rf(p:m.Perm l)(h:m.Pairwise (· <= ·)):m=rW l:=Rb (p.trans (Hf l).1.symm) h (Hf l).2
theorem Rg:∀{ns:List Int} {vs:List Value},Vals (ns.map V.int) vs->IntsAre vs ns
 | [],_,h=>by cases h; exact .nil
 |n::ns,_,h=>by
  cases h with
  |cons h1 h2 =>
   obtain⟨t,rfl⟩:=h1
   exact .cons n t (Rg h2)
section
variable {X:Cx}
noncomputable def Hg(K:PySem.W.Frag):List V->Hp->VK->Prop:=λxs H Q=>∃p ns,xs=[.ref p]/\aH K H p (ns.map V.int)/\ns.length<64/\∀l,H l=none->Q (.ref l) (upd H l (.lst ((rW ns).map V.int)))
theorem ae2:fD X (.builtin "sorted") (Hg X.K):=by
 intro pins s σ H xs us Q I r h
 obtain⟨p,ns,rfl,hq,h64,q⟩:=h
 obtain⟨u,rfl,rx⟩:=vals1 r
 cases rx
 obtain⟨its,r',pl,hz⟩:=I.list hq
 have hl:=r'.length
 rw[List.length_map]at hl
 refine sorted_ints pl.isList (Rg r') (by lia) λout ns' a1 a2 a3=>?_
 obtain⟨e,he⟩:=sortedAll_at s.heap its out
 have e2:=Rf a2 a3
 subst e2
 have len:=a2.length_eq
 refine⟨.ref (s.heap.objs.size+1),_,I.laid (t':=s.toks) (λb o z=>sortedAll_old z) (Nat.le_succ _) (show fV X.prog X.w _ _ _ (.lst ((rW ns).map V.int))from⟨by rw[List.length_map,sizeLine_eq]; lia,out.toList,e,Di a1,by rw[Array.toArray_toList]; exact he⟩),rfl,q _ (I.hok.fresh (Nat.le_succ _))⟩
noncomputable def tLR(ta:TA):TE:=λσ H Q=>ta σ H λvs H1=>∃n:Nat,vs=[.int n]/\n<=1000/\∀D,H1 D=none->Q (.ref D) (upd H1 D (.lst ((List.range n).map λi:Nat=>V.int i)))
theorem ae3(hr:dU k X.A)(h1:X.mg "list" = none) (h2:X.mg "range" = none) (ha:PA X [e] ta)
  (hg:X.env.kindOf "list" = some .globalImplicit:=by kernel_rfl) (hg2:X.env.kindOf "range" = some .globalImplicit:=by kernel_rfl) (hs:notStar e=true:=by kernel_rfl) :
  PE X (.Call (.Name "list" p) [.Call (.Name "range" p2) [e] [] pos2] [] pos) (tLR ta):=by
 refine⟨λpins s σ H Q I h=>?_⟩
 refine wpAny_Call_Name_kw (jB I hg h1 (by decide +kernel:bootBuiltins "list" = some (.type "list")) ?_ (by decide +kernel) (by kernel_rfl))
 refine PyProof.Rows.callWith_type1 (Calls.spliced_cons (wpAny_Call_Name_kw (jB I hg2 h2 boot_range (PyProof.Rows.callWith_type1 (aD (ha pos2 pins s σ H _ I h) λus s1 ⟨vs,H1,I1,r1,q1⟩=>?_) (fW hs) rfl) (by decide +kernel) (by kernel_rfl)))) rfl rfl
 obtain⟨n,rfl,hn,q⟩:=q1
 obtain⟨u1,rfl,t1,rfl⟩:=vals1 r1
 refine call_range_1 ?_
 have I2:Inv X pins σ H1 {s1 with heap:=s1.heap.push {cls:=.type "range",data:=.fields #[.int 0 s1.toks,.int n t1,.int 1 (s1.toks+1)] },toks:=s1.toks+1+1 }:=I1.kept λb o e=>Heap.get?_push_of_some _ e
 refine Calls.spliced_nil ?_
 have El:Builtin.Range.rangeSize 0 (n:Int) 1=n:=by rw[rangeSize_one]; split <;> lia
 refine call_list_range hr.hd (Heap.get?_push_size _ rfl) (small_one (by lia) (by lia) (by lia) (by lia)) El (by lia) λh' tk acc c keep hS hi=>?_
 have va:Vals ((List.range n).map λi:Nat=>V.int i) acc.toList:=by
  have go:∀(l:List Value) (m:Nat),(∀(j:Nat) v,l[j]?=some v->∃t,v=Value.int ((m+j:Nat):Int) t)->Vals ((List.range' m l.length).map λi:Nat=>V.int i) l:=λl=>by
   induction l with
   |nil=>intro m _; exact .nil
   |cons v r ih =>
    intro m hv
    refine .cons ?_ (ih (m+1) λj w hw=>?_)
    .obtain⟨t,z⟩:=hv 0 v (by simp)
     exact⟨t,by simpa using z⟩
    .obtain⟨t,z⟩:=hv (j+1) w (by simpa using hw)
     exact⟨t,by rw[z]; congr 1; lia⟩
  have:=go acc.toList 0 λj v hv=>by
   obtain⟨t,z⟩:=hi.2 j v (by rw[<-Array.getElem?_toList]; exact hv)
   exact⟨t,by rw[z]; simp⟩
  rw[Array.length_toList,hi.1,<-List.range_eq_range']at this
  exact this
 refine⟨.ref _,_,I2.laid (t':=tk) keep (Nat.le_refl _) (show fV X.prog X.w _ _ _ (.lst ((List.range n).map λi:Nat=>V.int i))from⟨by rw[List.length_map,List.length_range,sizeLine_eq]; lia,acc.toList,c,va,by rw[Array.toArray_toList]; exact hS⟩),rfl,q _ (I2.hok.fresh (Nat.le_refl _))⟩
end
end L2
end
section
namespace L2
open PySem PySem.Spec PyProof.Rows
section
variable {X:Cx}
noncomputable def Hh:V->List V->Hp->VK->Prop:=λx vs H Q=>∃(l:Addr) (xs:List V) (k:Nat) (y:V),x=.ref l/\vs=[.int (k:Int),y]/\H l=some (.lst xs)/\k<=xs.length/\xs.length<=100000/\Q .non (upd H l (.lst (xs.take k++y::xs.drop k)))
theorem ae4:Df X "list.insert" Hh:=by
 intro pins s σ H x vs v us Q I rx rv h
 obtain⟨l,xs,k,y,rfl,rfl,hH,hk,hz,q⟩:=h
 cases rx
 cases rv with
 |cons r1 rv =>
 cases rv with
 |cons ru rv =>
 cases rv
 obtain⟨t,rfl⟩:=r1
 rename_i u
 obtain⟨z,its,n,r,hl,e⟩:=I.Nj hH
 have big:100000+1<=sizeLine:=Nat.le_of_lt (show 100001<sizeLine from by unfold sizeLine; lia)
 have hs1:its.toArray.size<=sizeLine:=by rw[List.size_toArray]; lia
 have hk':(if(k:Int)<0 then((k:Int)+(its.toArray.size:Int)).toNat else min (k:Int).toNat its.toArray.size)=k:=by
  rw[if_neg (by lia),Int.toNat_natCast,List.size_toArray]
  lia
 have h1 : -(2 ^ 63)<=(k:Int):=by lia
 have h2:(k:Int)<2 ^ 63:=by lia
 have hfit:¬(!Builtin.List.listFitsIndex (k:Int))=true:=by rw[fitsIndex_both h1 h2]; exact Bool.false_ne_true
 have hlen:(xs.take k++y::xs.drop k).length<=sizeLine:=by
  rw[List.length_append,List.length_cons,List.length_take,List.length_drop]
  lia
 clear h1 h2 big
 generalize (k:Int)=i at *
 refine call_meets F.slot_list_insert ⟨_,e,rfl⟩ F.entry_list_insert (F.args_list_insert_3 _ _ _)
  (AutoSeq1.list_insert_list_int_val_1 l its.toArray n i t u hfit hs1) ⟨e,?_⟩
 refine⟨.non,_,I.Ni (its':=its.take k++u::its.drop k) hH e ?_ (Vals.append (r.take _) (.cons ru (r.drop _))) hlen,rfl,q⟩
 show(its.toArray.extract 0 (if i<0 then(i+(its.toArray.size:Int)).toNat else min i.toNat its.toArray.size)).push u++its.toArray.extract (if i<0 then(i+(its.toArray.size:Int)).toNat else min i.toNat its.toArray.size)=_
 rw[hk']
 exact PySem.W.kl_ins_eq its k u
end
open PySem.W
noncomputable def nW(K:PySem.W.Frag):KW:=λH v k=>∃a,v=.ref a/\bw K H a [.int k.1,.int k.2]
theorem ae5{K:PySem.W.Frag}{H H':Hp}{v:V}{k:Int × Int}(s:Same H H')(h:nW K H v k):nW K H' v k:=by
 obtain⟨a,e,q⟩:=h
 exact⟨a,e,s.oZ q⟩
section
variable {X:Cx}{pins:List (Addr × Obj)}{σ : St}{H:Hp}{s:Shared}
theorem z9{k:Int × Int}(I:Inv X pins σ H s)(h:∃v,RelV v u/\nW X.K H v k):∃a o n t1 t2,u=.ref a/\s.heap.get? a=some o/\o.cls=.type "tuple" /\ o.data=.seq #[.int k.1 t1,.int k.2 t2] n:=by
 obtain⟨v,r,a,rfl,q⟩:=h
 cases r
 obtain⟨its,r,⟨o,e,c,n,d⟩,_⟩:=I.tuple q
 cases r with
 |cons r1 r =>
  cases r with
  |cons r2 r =>
   cases r
   obtain⟨t1,rfl⟩:=r1
   obtain⟨t2,rfl⟩:=r2
   exact⟨a,o,n,t1,t2,rfl,e,c,d⟩
theorem ae6(I:Inv X pins σ H s)(u:Value)(k k':Int × Int)(h:∃v,RelV v u/\nW X.K H v k)(h':∃v,RelV v u/\nW X.K H v k'):k=k':=by
 obtain⟨a,o,n,t1,t2,rfl,e,_,d⟩:=z9 I h
 obtain⟨a',o',n',t1',t2',z,e',_,d'⟩:=z9 I h'
 cases z
 rw[e]at e'
 cases e'
 rw[d]at d'
 injection d' with d' _
 have d':=congrArg Array.toList d'
 injection d' with x1 x2
 injection x2 with x2 _
 injection x1 with x1 _
 injection x2 with x2 _
 exact Prod.ext x1 x2
theorem ae7{E:Value->Shared->Prop}{st:SortSt}{i j x y n n':Nat}{k k':Int × Int}{Q:Option Bool->SortSt->Prop}(hk:kindOf st=tuples' true)
  (hi:(arrOf st)[i]?=some (.ref x,p)) (hj:(arrOf st)[j]?=some (.ref y,q)) (hx:s.heap.get? x=some ox) (dx:ox.data=.seq #[.int k.1 t1,.int k.2 t2] n) (hy:s.heap.get? y=some oy) (dy:oy.data=.seq #[.int k'.1 y1,.int k'.2 y2] n')
  (h:Q (some (decide (k.1<k'.1\/(k.1=k'.1/\k.2<k'.2)))) st):wpS (model prog w) A E s (ltAt' i j) Q st:=by
 rw[ltAt'_eq]
 refine wpS_bind (wpS_get ?_)
 show wpS _ _ _ _ (do let x <-elem' (arrOf st) i; let y <-elem' (arrOf st) j; lt' x y) Q st
 rw[elem'_eq,elem'_eq,hi,hj]
 refine wpS_bind (wpS_pure (wpS_bind (wpS_pure ?_)))
 rw[lt'_eq]
 refine wpS_bind (wpS_get ?_)
 rw[hk]
 refine wpS_bind (wpS_lift (wpAny_attempt (kat_lt hx dx hy dy (kat_cons (wpAny_eqBool_int ?_)))))
 by_cases e1:k.1=k'.1
 .rw[show(k.1 == k'.1)=true by simp[e1]]
  refine kat_yes (kat_cons (wpAny_eqBool_int ?_))
  by_cases e2:k.2=k'.2
  .rw[show(k.2 == k'.2)=true by simp[e2]]
   refine kat_yes (kat_nil ⟨rfl,wpS_pure ?_⟩)
   rw[decide_eq_false (by omega)]at h
   exact h
  .rw[show(k.2 == k'.2)=false by simp[e2]]
   refine kat_no (kat_one _ _ (wpAny_lt_int ⟨rfl,wpS_pure ?_⟩))
   have:decide (k.1<k'.1\/(k.1=k'.1/\k.2<k'.2))=decide (k.2<k'.2):=by
    rw[decide_eq_decide]; omega
   rw[this]at h
   exact h
 .rw[show(k.1 == k'.1)=false by simp[e1]]
  refine kat_no (oneLt_int ⟨rfl,wpS_pure ?_⟩)
  have:decide (k.1<k'.1\/(k.1=k'.1/\k.2<k'.2))=decide (k.1<k'.1):=by
   rw[decide_eq_decide]; omega
  rw[this]at h
  exact h
theorem ae8:lY X (λH u k=>∃v,RelV v u/\nW X.K H v k) (tuples' true) where
 kind:=λH keys kz h2 hk pins σ s Q E I q=>by
  have t:∀vs:List Value,(∀v∈vs,∃k:Int × Int,∃w,RelV w v/\nW X.K H w k)->∃fs,KatTups s.heap vs fs/\fs.length=vs.length/\∀v∈fs,∃i t,v=Value.int i t:=λvs=>by
   induction vs with
   |nil=>exact λ_=>⟨[],.nil,rfl,λv m=>by cases m⟩
   |cons v vs ih =>
    intro h
    obtain⟨fs,a1,a2,a3⟩:=ih λu mu=>h u (List.mem_cons_of_mem _ mu)
    obtain⟨k,hv⟩:=h v (List.mem_cons_self ..)
    obtain⟨a,o,n,t1,t2,rfl,e,c,d⟩:=z9 I hv
    refine⟨.int k.1 t1::fs,KatTups.cons e c d rfl a1,by rw[List.length_cons,a2,List.length_cons],λu mu=>?_⟩
    rcases List.mem_cons.mp mu with rfl|mu
    .exact⟨_,_,rfl⟩
    .exact a3 u mu
  obtain⟨fs,a1,a2,a3⟩:=t keys.toList λv hv=>by
   obtain⟨i,hi,e⟩:=List.getElem_of_mem hv
   exact⟨kz i,hk i v (by rw[<-e]; simp[Array.getElem?_eq_getElem (show i<keys.size by simpa using hi)])⟩
  have:=kat_kind (M:=model X.prog X.w) (A:=X.A.in1.in1) (E:=E) (vs:=keys.toList) (fs:=fs) (T:=.type "int") (Q:=Q) a1 (by rw[a2]; simp; omega) (λv hv=>by
   obtain⟨i,t,rfl⟩:=a3 v hv
   exact Looks.now) (by decide) q
  simpa using this
 ask:=λ{pins σ H s E} a₀ kf I h st i j Q B hi hj q=>by
  have at_:∀i,i<a₀.size->∃(x:Nat) (p:Value) (o:Obj) (n:Nat) (t1 t2:Tok),(arrOf st)[i]?=some (Value.ref x,p)/\s.heap.get? x=some o/\o.data=.seq #[.int (q1 kf (arrOf st) i) t1,.int (q2 kf (arrOf st) i) t2] n:=λi hi=>by
   have hi':i<(arrOf st).size:=by rw[B.sz]; exact hi
   have hm:(arrOf st)[i]∈a₀.toList:=(Array.perm_iff_toList_perm.mp B.pm).mem_iff.mp (by simp)
   obtain⟨x,o,n,t1,t2,e,e2,_,d⟩:=z9 I (h _ hm)
   have e':(arrOf st)[i]?=some (arrOf st)[i]:=getElem?_pos _ i hi'
   refine⟨x,(arrOf st)[i].2,o,n,t1,t2,?_,e2,?_⟩
   .rw[e',<-e]
   .unfold q1 q2
    rw[e']
    exact d
  obtain⟨x,p,o,n,t1,t2,e1,e2,e3⟩:=at_ i hi
  obtain⟨y,p',o',n',u1,u2,f1,f2,f3⟩:=at_ j hj
  exact ae7 (k:=(q1 kf (arrOf st) i,q2 kf (arrOf st) i)) (k':=(q1 kf (arrOf st) j,q2 kf (arrOf st) j)) B.kn e1 f1 e2 e3 f2 f3 q
end
noncomputable def iC(kz:Nat->Int × Int)(i j:Nat):Prop:=((kz i).1<(kz j).1\/((kz i).1=(kz j).1/\(kz i).2<(kz j).2))\/(((kz i).1=(kz j).1/\(kz i).2=(kz j).2)/\i<j)
noncomputable instance {kz:Nat->Int × Int}{i j:Nat}:Decidable (iC kz i j):=by unfold iC; infer_instance
noncomputable def jq(kz:Nat->Int × Int)(i:Nat):List Nat->List Nat
 | []=>[i]
 |j::r=>if iC kz i j then i::j::r else j::jq kz i r
noncomputable def Hi(n:Nat)(kz:Nat->Int × Int):List Nat:=(List.range n).foldr (jq kz) []
theorem Hj(kz:Nat->Int × Int)(i:Nat):∀l,(jq kz i l).Perm (i::l)
 | []=>.refl _
 |j::r=>by
  unfold jq
  split
  .exact .refl _
  .exact((Hj kz i r).cons j).trans (.swap i j r)
theorem Rh(kz:Nat->Int × Int)(i:Nat):∀l,(∀j∈l,i≠j)->l.Pairwise (iC kz)->(jq kz i l).Pairwise (iC kz)
 | [],_,_=>by simp[jq]
 |j::r,hn,hp=>by
  have hp':=List.pairwise_cons.mp hp
  unfold jq
  split
  .rename_i b
   refine List.pairwise_cons.mpr ⟨λk hk=>?_,hp⟩
   rcases List.mem_cons.mp hk with rfl|hk
   .exact b
   .have:=hp'.1 k hk
    unfold iC at b this ⊢
    lia
  .rename_i b
   refine List.pairwise_cons.mpr ⟨λk hk=>?_,Rh kz i r (λk hk=>hn k (List.mem_cons_of_mem _ hk)) hp'.2⟩
   rcases List.mem_cons.mp ((Hj kz i r).mem_iff.mp hk)with rfl|hk
   .have:=hn j (List.mem_cons_self ..)
    unfold iC at b ⊢
    lia
   .exact hp'.1 k hk
theorem Ri(kz:Nat->Int × Int):∀l:List Nat,l.Nodup->(l.foldr (jq kz) []).Perm l/\(l.foldr (jq kz) []).Pairwise (iC kz)
 | [],_=>⟨.refl _,.nil⟩
 |i::r,nd=>by
  have nd':=List.nodup_cons.mp nd
  obtain⟨h1,h2⟩:=Ri kz r nd'.2
  exact⟨(Hj kz i _).trans (h1.cons i),Rh kz i _ (λj hj z=>nd'.1 (by rw[z]; exact h1.mem_iff.mp hj)) h2⟩
theorem Rj(n:Nat)(kz:Nat->Int × Int):lX n kz (Hi n kz):=Ri kz _ List.nodup_range
theorem Rk(as:∀a b,R a b->¬R b a):∀{l m:List Nat},l.Perm m->l.Pairwise R->m.Pairwise R->l=m
 | [],m,p,_,_=>by rw[List.nil_perm.mp p]
 |a::l,[],p,_,_=>by simpa using p.length_eq
 |a::l,b::m,p,h1,h2=>by
  have h1':=List.pairwise_cons.mp h1
  have h2':=List.pairwise_cons.mp h2
  have e:a=b:=by
   rcases List.mem_cons.mp (p.mem_iff.mp (List.mem_cons_self ..))with z|z
   .exact z
   .rcases List.mem_cons.mp (p.mem_iff.mpr (List.mem_cons_self (a:=b)))with y|y
    .exact y.symm
    .exact(as _ _ (h1'.1 b y) (h2'.1 a z)).elim
  subst e
  rw[Rk as p.cons_inv h1'.2 h2'.2]
theorem lX.eq(h:lX n kz ys):ys=Hi n kz:=by
 have g:=Rj n kz
 refine Rk (R:=iC kz) (λa b h1 h2=>?_) (h.1.trans g.1.symm) h.2 g.2
 unfold iC at h1 h2
 lia
noncomputable def rY:List Tr->Option (List Int)
 | []=>some []
 |.int i::r=>(rY r).map (i :: ·)
 |_::_=>none
theorem Rm:∀{ts:List Tr} {ns:List Int},rY ts=some ns->ts=ns.map Tr.int
 | [],_,h=>by cases h; rfl
 |.int i::r,ns,h=>by
  obtain⟨m,e,rfl⟩:=Option.map_eq_some_iff.mp h
  rw[Rm e]; rfl
theorem Rn{K:PySem.W.Frag}{H:Hp}:∀{ns:List Int} {vs:List V},au K H vs (ns.map Tr.int)->vs=ns.map V.int
 | [],_,h=>by cases h; rfl
 |n::ns,_,h=>by
  cases h with
  |cons h1 h2 =>
   cases h1
   rw[Rn h2]
   rfl
theorem Hl{K:PySem.W.Frag}{H:Hp}:∀ns:List Int,au K H (ns.map V.int) (ns.map Tr.int)
 | []=>.nil
 |n::ns=>.cons (.int n) (Hl ns)
noncomputable def pW:G1
 |.lst ts=>match rY ts with
  |some ns=>if ns.length<64 then .ok (.lst ((rW ns).map Tr.int),true)else .bad
  |none=>.bad
 |_=>.bad
theorem ae9{K:PySem.W.Frag}:jY (aA K) (λx=>Hg K [x]) pW:=⟨λa c=>(by unfold pW; (repeat' split) <;> (intro z; cases z)),λG H x a Q s rx h=>by
 unfold pW at h
 split at h
 case h_2=>exact h.elim
 split at h
 case h_2=>exact h.elim
 rename_i ns e
 split at h
 case isFalse=>exact h.elim
 rw[Rm e]at rx
 obtain⟨p,xs,rfl,q,r⟩:=rx.lst s
 have e2:=Rn r
 subst e2
 exact⟨p,ns,rfl,q.toK,‹_›,λl nl=>h _ _ _ (.flt s nl) (.flt s nl (Hl _))⟩⟩
theorem Ro{K:PySem.W.Frag}(h:cU K σ Hs G H F vs [.v (.int n) fr]):vs=[.int n]:=by
 cases h with
 |cons h r =>
  cases r
  cases fr with
  |false=>cases h.1; rfl
  |true=>obtain⟨_,_,_,_,z,_⟩:=h.1; cases z
theorem Ho{K:PySem.W.Frag}{H:Hp}:∀l:List Nat,au K H (l.map λi:Nat=>V.int i) (l.map λi:Nat=>Tr.int i)
 | []=>.nil
 |n::l=>.cons (.int n) (Ho l)
noncomputable def Rq(fa:AF):EF:=λρ=>(fa ρ).bind λp=>match p.1 with
 | [.v (.int n) _]=>if 0<=n/\n<=1000 then .ok (.v (.lst ((List.range n.toNat).map λi:Nat=>Tr.int i)) true,p.2)else .bad
 |_=>.bad
noncomputable def vLR(as:VA j6):VE (Rq j6) where
 ck Γ e:=fY e λaM bh bF _=>atName aM λy _=>aQ bh λbY cV=>fY bY λdJ gD mG _=>atName dJ λz _=>aQ gD λx mH=>aV mH (aV mG (aV cV (aV bF (y == ("list" : Str)&&z == ("range" : Str)&&ji Γ y&&ji Γ z&&Γ.B.contains y&&Γ.B.contains z&&as.ck Γ [x]))))
 cs:=as.cs
 ok q o h:=by
  walk_at "O"
  simp only[an]at h
  obtain⟨⟨⟨⟨⟨⟨h1,h2⟩,h3⟩,h4⟩,h5⟩,h6⟩,h7⟩:=h
  cases eq_of_beq h1
  cases eq_of_beq h2
  obtain⟨pa,_,na⟩:=as.ok q o h7
  refine(ae3 o.r (o.B _ (by simpa using h5)) (o.B _ (by simpa using h6)) pa (dI o h3).1 (dI o h4).1 (na _ (List.mem_cons_self ..))).imp λσ H Q=>bR λR ρ G F e h=>jf e .refl h λp h vs G1 H1 F1 e1 s1 v1=>?_
  split at h
  case h_2=>exact h.elim
  rename_i n fr ep
  rw[ep]at v1
  split at h
  case isFalse=>exact h.elim
  have nn:((n.toNat:Nat):Int)=n:=by lia
  exact⟨n.toNat,by rw[Ro v1,nn],by lia,λD nD=>e1.fin s1 (.flt e1.sub nD) (.flt e1.sub nD (Ho _)) h⟩
noncomputable def vo:GM:=λts as=>match as with
 | [.int i,T]=>if 0<=i/\i.toNat<=ts.length/\ts.length<=100000 then .ok (ts.take i.toNat++T::ts.drop i.toNat,.non)else .bad
 |_=>.bad
theorem afa:Fy Hh vo:=⟨λts as c=>(by unfold vo; (repeat' split) <;> (intro z; cases z)),λK G a xs ts vs as H Q ts' T hx r ra q h=>by
 unfold vo at q
 split at q
 case h_2=>cases q
 split at q
 case isFalse=>cases q
 rename_i i U c
 cases q
 cases ra with
 |cons h1 r1 =>
  cases r1 with
  |cons h2 r2 =>
   cases r2
   cases h1
   have l:=r.length
   exact⟨a,xs,i.toNat,_,rfl,by rw[Int.toNat_of_nonneg c.1],hx,by lia,by lia,h _ _ ((r.take _).app (.cons h2 (r.drop _))) .non⟩⟩
noncomputable abbrev RF:=List (Option Tr)->Rs Tr
noncomputable def Tq(K:PySem.W.Frag)(f:RF):TE:=λσ H Q=>∃G ts T,Same G H/\(∀(i:Nat) U,ts[i]?=some (some U)->∃v,σ[i]?=some (some v)/\Rp K G H v U)/\f ts=.ok T/\∀v G' H',Same G G'->Same H H'->Same G' H'->Rp K G' H' v T->Q v H'
theorem Rp.up{K:PySem.W.Frag}(h:Rp K G H v T)(m:Same G G')(s:Same H H'):Rp K G' H' v T:=by
 rcases h with h|⟨a,xs,ts,e1,e2,e,r⟩
 .exact .inl (h.mono m)
 .exact .inr ⟨a,xs,ts,e1,e2,s _ _ e,r.mono m⟩
theorem VN.rp{K:PySem.W.Frag}(h:VN K Hs G H v T fr):Rp K G H v T:=by
 cases fr with
 |false=>exact .inl h
 |true=>obtain⟨a,xs,ts,e1,e2,_,_,e,r⟩:=h; exact .inr ⟨a,xs,ts,e1,e2,e,r⟩
structure VL(f:RF) where
 ck:Gx->Expr->Bool
 ok:∀{Γ X e},X.N = Γ.N->X.env.scope = Γ.sc->ck Γ e=true->PE X e (Tq (aA X.K) f)
noncomputable def nY(i:Nat):RF:=λts=>match ts[i]? with
 |some (some U)=>.ok U
 |_=>.bad
noncomputable def rZ(i:Nat):VL (nY i) where
 ck Γ e:=atName e λx _=>j4 Γ i x
 ok hN hs h:=by
  walk_at "O"
  simp only[j4,an]at h
  obtain⟨⟨⟨h1,h2⟩,h3⟩,h4⟩:=h
  refine(La (i:=i) (by rw[hN]; exact eq_of_beq h1) (by rw[hs]; unfold wC; simpa[or_assoc]using h2) (by simpa using h3) (by simpa using h4)).imp λσ H Q ⟨G,ts,T,s,en,e,k⟩=>?_
  unfold nY at e
  split at e <;> cases e
  obtain⟨v,q1,q2⟩:=en i _ ‹_›
  exact⟨v,q1,k v G H (Same.refl _) (Same.refl _) s q2⟩
noncomputable def Aa(g:G2)(fa fb:RF):RF:=λts=>(fa ts).bind λa=>(fb ts).bind λb=>(g a b).bind λz=>.ok z.1
noncomputable def Hq(a:VL aB)(b:VL bD):VL (Aa aW aB bD) where
 ck Γ e:=nA e λx y _=>yU y&&a.ck Γ x&&b.ck Γ y
 ok hN hs h:=by
  walk_at "O"
  simp only[an]at h
  refine(Dc Dd (a.ok hN hs h.1.2) (b.ok hN hs h.2) (Fg h.1.1)).imp λσ H Q ⟨G,ts,T,s,en,e,k⟩=>?_
  obtain⟨a,e1,e⟩:=bT e
  obtain⟨b,e2,e⟩:=bT e
  obtain⟨z,e3,e⟩:=bT e
  cases e
  refine⟨G,ts,a,s,en,e1,λx G1 H1 m1 n1 s1 rx=>⟨G1,ts,b,s1,λi U q=>?_,e2,λy G2 H2 m2 n2 s2 ry=>Ov.ok G2 H2 x y a b Q s2 (rx.up m2 n2) ry (by rw[e3]; exact λv G' H' w vn=>k v G' H' (m1.trans (m2.trans w.gw.gg)) (n1.trans (n2.trans w.sm)) w.gw.sub vn.rp)⟩⟩
  obtain⟨v,q1,q2⟩:=en i U q
  exact⟨v,q1,q2.up m1 n1⟩
noncomputable def Ab(g:G1)(fa:RF):RF:=λts=>(fa ts).bind λa=>(g a).bind λz=>.ok z.1
noncomputable def Hr(a:VL aB):VL (Ab mR aB) where
 ck Γ e:=o9 e λaM x _=>iR aM .USub (a.ck Γ x)
 ok hN hs h:=by
  walk_at "O"
  refine(CG CK (a.ok hN hs h)).imp λσ H Q ⟨G,ts,T,s,en,e,k⟩=>?_
  obtain⟨a,e1,e⟩:=bT e
  obtain⟨z,e3,e⟩:=bT e
  cases e
  exact⟨G,ts,a,s,en,e1,λx G1 H1 m1 n1 s1 rx=>Ow.ok G1 H1 x a Q s1 rx (by rw[e3]; exact λv G' H' w vn=>k v G' H' (m1.trans w.gw.gg) (n1.trans w.sm) w.gw.sub vn.rp)⟩
noncomputable def Rr(fa fb:RF):RF:=λts=>(fa ts).bind λa=>(fb ts).bind λb=>match a,b with
 |.int i,.int j=>.ok (.tup [.int i,.int j])
 |_,_=>.bad
noncomputable def lPr(a:VL aB)(b:VL bD):VL (Rr aB bD) where
 ck Γ e:=iQ e λaM _ _=>aQ aM λx bh=>aQ bh λy bF=>aV bF (notStar x&&notStar y&&a.ck Γ x&&b.ck Γ y)
 ok hN hs h:=by
  walk_at "O"
  simp only[an]at h
  refine(CT (oW (a.ok hN hs h.1.2) (oW (b.ok hN hs h.2) tY (fW h.1.1.2)) (fW h.1.1.1))).imp λσ H Q ⟨G,ts,T,s,en,e,k⟩=>?_
  obtain⟨a,e1,e⟩:=bT e
  obtain⟨b,e2,e⟩:=bT e
  split at e <;> cases e
  refine⟨G,ts,_,s,en,e1,λx G1 H1 m1 n1 s1 rx=>⟨G1,ts,_,s1,λi U q=>?_,e2,λy G2 H2 m2 n2 s2 ry=>⟨show 2<=sizeLine by decide,λp hp=>?_⟩⟩⟩
  .obtain⟨v,q1,q2⟩:=en i U q
   exact⟨v,q1,q2.up m1 n1⟩
  .rw[rx.int,ry.int]
   exact k _ _ _ (m1.trans (m2.trans (Gs.new (K:=[]) s2 hp).gw.gg)) (n1.trans (n2.trans (g8 hp _))) (Gs.new (K:=[]) s2 hp).gw.sub (.inl (VN.newT s2 hp (.cons (.int _) (.cons (.int _) .nil))))
noncomputable def qp(ρ : En)(j:Nat):Option Tr:=match ρ[j]? with
 |some (.sh T)=>some T
 |some (.ow ts)=>some (.lst ts)
 |some (.rf ts)=>some (.lst ts)
 |_=>none
noncomputable def Ac(src:List (Option Nat))(ρ : En):List (Option Tr):=src.map λo=>o.bind (qp ρ)
noncomputable def sy(kt:Tr->Option (Int × Int))(fb:RF)(ts:List (Option Tr)):List Nat->Rs (List (Int × Int))
 | []=>.ok []
 |i::r=>(fb (some (Tr.int i)::ts)).bind λT=>match kt T with
  |some k=>(sy kt fb ts r).bind λks=>.ok (k::ks)
  |none=>.bad
theorem Rw:∀{l:List Nat} {ks:List (Int × Int)},sy kt fb ts l=.ok ks->ks.length=l.length/\∀(j i:Nat),l[j]?=some i->∃T k,fb (some (Tr.int i)::ts)=.ok T/\kt T=some k/\ks[j]?=some k
 | [],ks,h=>by cases h; exact⟨rfl,λj i z=>by simp at z⟩
 |a::l,ks,h=>by
  unfold sy at h
  obtain⟨T,e1,h⟩:=bT h
  split at h
  .rename_i k e2
   obtain⟨ks',e3,h⟩:=bT h
   cases h
   obtain⟨h1,h2⟩:=Rw e3
   refine⟨by simp[h1],λj i z=>?_⟩
   cases j with
   |zero=>simp at z; subst z; exact⟨T,k,e1,e2,by simp⟩
   |succ j=>simpa using h2 j i (by simpa using z)
  .cases h
noncomputable def Ht(kt:Tr->Option (Int × Int))(src:List (Option Nat))(fa:AF)(fb:RF):EF:=λρ=>(fa ρ).bind λp=>match p.1 with
 | [.v (.int n) _]=>if 0<=n/\n<64 then(fM (sy kt fb (Ac src p.2) (List.range n.toNat))).bind λks=>.ok (.v (.lst ((Hi n.toNat λi=>ks.getD i (0,0)).map λi:Nat=>Tr.int i)) true,p.2)else .bad
 |_=>.bad
theorem yH.gw{K:PySem.W.Frag}{P c:Addr}{x:Str}{G H H':Hp}(sg:Same G H)(gp:G P=none)(tb:bJ K H)(hx:x∈eX)(ht:tabIn K x=some (c,P))(hu:∀x'∈eX,∀c',tabIn K x'=some (c',P)->x'=x)(l:yH P (xK x) H H'):Gw K G H G H':=by
 refine⟨Same.refl _,λb o q n=>l.kp b o q λz=>n ?_,λb o q=>l.kp b o (sg b o q) λz=>(by rw[z,gp]at q; cases q),λ_ x' hx' c' b e=>?_,λb h=>.inl h⟩
 .subst z
  exact⟨x,hx,c,ht⟩
 .by_cases z:b=P
  .subst z
   have:=hu x' hx' c' e
   subst this
   exact l.tb
  .obtain⟨ps,q,t1,t2⟩:=tb x' hx' c' b e
   refine⟨ps,l.kp _ _ q z,t1,λpos v k=>?_⟩
   obtain⟨d,o,e1,e2,e3⟩:=t2 pos v k
   refine⟨d,o,e1,l.kp _ _ e2 ?_,e3⟩
   rintro rfl
   obtain⟨qs,y,_⟩:=tb x hx c d ht
   rw[y]at e2
   cases e2
theorem afb{K:PySem.W.Frag}(e:Ok K R ρ σ G H F)(h:qp ρ j=some U):∃v,σ[j]?=some (some v)/\Rp K G H v U:=by
 have z:=e.sl j
 unfold qp at h
 split at h <;> rename_i k <;> cases h <;> rw[k]at z
 .obtain⟨_,v,h1,h2⟩:=z
  exact⟨v,h1,.inl h2⟩
 all_goals
  obtain⟨a,xs,h1,_,_,h4,h5⟩:=z
  exact⟨_,h1,.inr ⟨a,xs,_,rfl,rfl,h4,h5⟩⟩
theorem afc{t:Tx}{Kw:KW}(hq:q=xK x)(hx:x∈eX)(ht:tabIn t.K x=some (c,P))(hu:∀x'∈eX,∀c',tabIn t.K x'=some (c',P)->x'=x)
  (hkt:∀G (H:Hp) v T k,Same G H->Rp t.K G H v T->kt T=some k->Kw H v k) (h:Te t (Ht kt src fa fb) σ H Q):Py Kw P q src (Ta t fa) (Tq t.K fb) σ H Q:=by
 subst hq
 obtain⟨R,ρ,G,F,e,h⟩:=h
 refine jf e .refl h λp h vs G1 H1 F1 e1 s1 v1=>?_
 obtain⟨rs,ρ1⟩:=p
 dsimp only at h
 split at h
 case h_2=>exact h.elim
 rename_i n fr
 split at h
 case isFalse=>exact h.elim
 obtain⟨ks,k1,h⟩:=nQ h
 obtain⟨kl,kg⟩:=Rw k1
 have nn:((n.toNat:Nat):Int)=n:=by lia
 refine⟨n.toNat,λi=>ks.getD i (0,0),by rw[Ro v1,nn],by lia,e1.tb x hx c P ht,λH2 lh=>?_⟩
 obtain⟨e2,s2⟩:=e1.grow (lh.gw e1.sub (e1.tg P ⟨x,hx,c,ht⟩) e1.tb hx ht hu)
 refine⟨λi hi H3 s3=>?_,λD ys H3 s3 nD hs=>?_⟩
 .obtain⟨T,k,f1,f2,f3⟩:=kg i i (List.getElem?_range hi)
  refine⟨G1,_,T,e2.sub.trans s3,λj U z=>?_,f1,λv G4 H4 m4 n4 s4 r4=>⟨hkt G4 H4 v T _ s4 r4 ?_,n4⟩⟩
  .cases j with
   |zero=>simp at z; subst z; exact⟨.int i,by simp,.inl (.int i)⟩
   |succ j =>
    have z:(Ac src ρ1)[j]?=some (some U):=z
    unfold Ac at z
    rw[List.getElem?_map]at z
    obtain⟨o,eq,z⟩:=Option.map_eq_some_iff.mp z
    obtain⟨l,rfl,z⟩:=Option.bind_eq_some_iff.mp z
    obtain⟨v,h1,h2⟩:=afb e2 z
    refine⟨v,?_,h2.up (Same.refl _) s3⟩
    show(bQ src σ)[j]?=some (some v)
    rw[GJ eq,h1]
    rfl
  .rw[f2]
   show some k=some (ks.getD i (0,0))
   rw[List.getD_eq_getElem?_getD,f3]
   rfl
 .obtain⟨e3,s4⟩:=e2.grow (G':=G1) (H':=H3) ⟨Same.refl _,λb o q _=>s3 b o q,e2.sub.trans s3,λt=>t.fr λb o _ q=>s3 b o q,λb h=>.inl h⟩
  rw[hs.eq]
  exact e3.fin ((s1.trans s2).trans s4) (.flt e3.sub nD) (.flt e3.sub nD (Ho _)) h
structure Kt(kt:Tr->Option (Int × Int)) where
 w:PySem.W.Frag->KW
 d:SortKind
 T:∀X:Cx,lY X (λH u k=>∃v,RelV v u/\w X.K H v k) d
 m:∀K {H H':Hp} {v k},Same H H'->w K H v k->w K H' v k
 i:∀{X:Cx} {pins:List (Addr × Obj)} {σ : St} {H:Hp} {s:Shared},Inv X pins σ H s->∀u k k',(∃v,RelV v u/\w X.K H v k)->(∃v,RelV v u/\w X.K H v k')->k=k'
 r:∀K G (H:Hp) v T k,Same G H->Rp (aA K) G H v T->kt T=some k->w K H v k
noncomputable def Hu:Tr->Option (Int × Int)
 |.int i=>some (i,0)
 |_=>none
noncomputable def Hv:Tr->Option (Int × Int)
 |.tup [.int a,.int b]=>some (a,b)
 |_=>none
noncomputable def kyI:Kt Hu:=⟨λ_=>yJ,_,λ_=>ad6,λ_ _ _ _ _ _ h=>h,ad7,λK G H v T k s r e=>by
 unfold Hu at e
 split at e <;> cases e
 exact⟨r.int,rfl⟩⟩
noncomputable def kyP:Kt Hv:=⟨nW,_,λ_=>ae8,λ_ _ _ _ _ s h=>ae5 s h,λI=>ae6 I,λK G H v T k s r e=>by
 unfold Hv at e
 split at e <;> cases e
 obtain⟨a,xs,rfl,q,r⟩:=r.tup s
 cases r with
 |cons r1 r =>
  cases r1
  cases r with
  |cons r2 r =>
   cases r2
   cases r
   exact⟨a,rfl,q.toK⟩⟩
theorem afd{fc:List (Str × Addr)}:bindArgs (kla_fn "<lambda>" q ⟨[],[⟨x,ann,p⟩],none,[],[],none,[]⟩ body scope fc pm cd ctv) ⟨[u],[]⟩=pure [(x,u)]:=by
 simp[bindArgs,seqItems?]
 rfl
noncomputable def Rx(kt:Kt afe)(y:Str)(x:Str)(Ns:List Str)(src:List (Option Nat))(as:VA j6)(b:VL bD):VE (Ht afe src j6 bD) where
 ck Γ e:=fY e λaM bh bF _=>atName aM λf _=>aQ bh λbY cV=>fY bY λdJ gD mG _=>atName dJ λr _=>aQ gD λa mH=>aV mH (aV mG (aV cV (aQ bF λGb Gd=>yq Gb λGe afg _=>pA Ge λk=>xZ afg λafh body sc _=>yt afh λafi afj afk afl afm afn afo=>aV afi (aQ afj λafp afq=>yr afp λz _ _=>aV afq (pB afk (aV afl (aV afm (pB afn (aV afo (aV Gd (f == ("sorted" : Str)&&r == ("range" : Str)&&k == ("key" : Str)&&z == x&&ji Γ f&&ji Γ r&&Γ.B.contains f&&Γ.B.contains r&&Γ.L.contains y&&as.ck Γ [a]&&nU Γ (x::Ns) (none::src) sc []&&decide (∀y∈sc.names,y.2 ≠ .cell)&&decide (sc.names.lookup x=some .local) && !sc.isCoroutine && !sc.isGenerator&&b.ck ⟨x::Ns,sc,Γ.fn,[],[],true,0,[]⟩ body)))))))))))
 cs:=as.cs
 ok:=@λcl E Γ X e q o h=>by
  walk_at "O"
  simp only[an]at h
  obtain⟨⟨⟨⟨⟨⟨⟨⟨⟨⟨⟨⟨⟨⟨⟨h1,h2⟩,h3⟩,h4⟩,h5⟩,h6⟩,h7⟩,h8⟩,h9⟩,h10⟩,h11⟩,h12⟩,h13⟩,h14⟩,h15⟩,h16⟩:=h
  cases eq_of_beq h1
  cases eq_of_beq h2
  cases eq_of_beq h3
  cases eq_of_beq h4
  obtain⟨S,nd,_,_⟩:=rR h11
  obtain⟨pa,_,na⟩:=as.ok q o h10
  obtain⟨c,P,L,hc,hq⟩:=o.lm y (by simpa using h9)
  have pb:=λA f cd s H=>b.ok (X:=yE X A (x::Ns) (X.env.qual++("<lambda>" : Str)) _ f cd s H) (Γ := ⟨x::Ns,_,Γ.fn,[],[],true,0,[]⟩) rfl rfl h16
  exact(ad5 (te:=Tq (aA X.K) bD) (kt.T X) (kt.m X.K) kt.i o.r (o.B _ (by simpa using h7)) (o.B _ (by simpa using h8)) o.s o.N ⟨S,of_decide_eq_true h12,of_decide_eq_true h13,by simpa using h14,by simpa using h15⟩ hc L.hd L.bm rfl pa (λ_ _ _ _=>afd) pb (dI o h5).1 (dI o h6).1 (na _ (List.mem_cons_self ..))).imp λσ H Q=>afc (c:=c) hq L.nm L.tab L.un (kt.r X.K)
end L2
end
section
namespace L2
open PySem PySem.Spec PyProof.Rows
section
variable {elt t1 i1 t2 i2:Expr}{scope:Scope}{pos:Pos}{it acc:Value}{env:Env}
theorem afr:compTurn (.ListComp elt [⟨t1,i1,[],0⟩,⟨t2,i2,[],0⟩] scope pos) 0 it acc env=(standAt i1.pos >>= λ_=>pyNext it >>= λr=>match r with
   |none=>pure (.done .next)
   |some v=>letOwnedTupleGo t1 it v >>= λ_=>assign t1 env v >>= λ_=>eval i2 env >>= λx=>standAt i2.pos >>= λ_=>foldedSetIterable i2 env x >>= λx=>holding [x] (pyIter x) >>= λj=>runOwn (.compStart (.ListComp elt [⟨t1,i1,[],0⟩,⟨t2,i2,[],0⟩] scope pos) 1 j acc env) env >>= λ_ =>
     again (.compLoop (.ListComp elt [⟨t1,i1,[],0⟩,⟨t2,i2,[],0⟩] scope pos) 0 it acc env)):=by rfl
theorem afs:compTurn (.ListComp elt [⟨t1,i1,[],0⟩,⟨t2,i2,[],0⟩] scope pos) 1 it acc env=(standAt i2.pos >>= λ_=>pyNext it >>= λr=>match r with
   |none=>pure (.done .next)
   | some v=>letOwnedTupleGo t2 it v >>= λ_=>assign t2 env v >>= λ_=>(eval elt env >>= λx=>call (.builtin "list.append") [acc,x] >>= λ_=>pure ()) >>= λ_ =>
     again (.compLoop (.ListComp elt [⟨t1,i1,[],0⟩,⟨t2,i2,[],0⟩] scope pos) 1 it acc env)):=by rfl
variable {prog:Program}{w:World}{A:Around}{R:Result->Shared->Prop}{s:Shared}
theorem aft(h0:codeAny (model prog w) A (.compLoop (.ListComp elt [⟨t1,i1,[],0⟩,⟨t2,i2,[],0⟩] scope pos) 1 it acc env) R s)
  (h:wpAny (model prog w) A (pyIter it) (λit' s'=>codeAny (model prog w) A (.compLoop (.ListComp elt [⟨t1,i1,[],0⟩,⟨t2,i2,[],0⟩] scope pos) 1 it' acc env) R s') (notedBy (model prog w) A env λx s'=>R (.error x) s') s) :
  codeAny (model prog w) A (.compStart (.ListComp elt [⟨t1,i1,[],0⟩,⟨t2,i2,[],0⟩] scope pos) 1 it acc env) R s:=by
 refine codeAny_of_tree ?_
 show wpAny _ _ ((compStart (.ListComp elt [⟨t1,i1,[],0⟩,⟨t2,i2,[],0⟩] scope pos) 1 it acc env).onRaise (λx=>do noteFrame x env; standAt theWindowsPlace)) _ _ s
 refine wpAny_notedAt ?_
 unfold compStart
 show wpAny _ _ (ask >>= _) _ _ s
 refine wpAny_bind (wpAny_askSetting (wpAny_ite ?_))
 split
 .first
   |exact wpAny_bind (wpAny_pure (wpAny_pure (And.intro rfl h0)))
   |exact wpAny_pure (And.intro rfl h0)
 .first
   |exact wpAny_bind (wpAny_rule (wpAny_bind (wpAny_standAt (wpAny_bind (wpAny_mono h (λit' s' h'=>wpAny_pure (And.intro rfl h')) λ_ _ x=>x)))))
   |(refine wpAny_bind (wpAny_rule ?_); show wpAny _ _ (standAt i2.pos >>= _) _ _ s; exact wpAny_bind (wpAny_standAt (wpAny_bind (wpAny_mono h (λit' s' h'=>wpAny_pure (And.intro rfl h')) λ_ _ x=>x))))
theorem afu(I:Nat->Shared->Prop)
  (turn:∀n s,I n s->wpAny (model prog w) A (pyNext it) (λr s₁=>match r with
   |none=>R (.ok .next) s₁
   | some v=>wpAny (model prog w) A (letOwnedTupleGo t2 it v) (λ_ s₁'=>wpAny (model prog w) A (assign t2 env v) (λ_ s₂ => wpAny (model prog w) A (eval elt env) (λx s₃ =>
     wpAny (model prog w) A (call (.builtin "list.append") [acc,x]) (λ_ s₄=>∃m,m<n/\I m s₄) (λ_ _=>False) s₃) (λ_ _=>False) s₂) (λ_ _=>False) s₁') (λ_ _=>False) s₁) (λ_ _=>False) s)
  (n:Nat) (h:I n s):codeAny (model prog w) A (.compLoop (.ListComp elt [⟨t1,i1,[],0⟩,⟨t2,i2,[],0⟩] scope pos) 1 it acc env) R s:=by
 refine codeAny_loop rfl I (λn s hI=>?_) n h
 show wpAny _ _ ((compTurn (.ListComp elt [⟨t1,i1,[],0⟩,⟨t2,i2,[],0⟩] scope pos) 1 it acc env).onRaise (λx=>do noteFrame x env; theTreesLotGoes x)) _ _ s
 refine wpAny_noted (wpAny_noRaise ?_)
 rw[afs]
 refine wpAny_bind (wpAny_standAt (wpAny_bind (wpAny_mono (turn n s hI) (λr s₁ h₁=>?_) λ_ _ h'=>h')))
 cases r with
 |none=>exact wpAny_pure h₁
 |some v =>
  refine wpAny_bind (wpAny_mono h₁ (λ_ s₁' h₁'=>?_) λ_ _ h'=>h')
  exact wpAny_bind (wpAny_mono h₁' (λ_ s₂ h₂=>wpAny_bind (wpAny_bind (wpAny_mono h₂ (λx s₃ h₃=>wpAny_bind (wpAny_mono h₃
   (λ_ s₄ h₄=>wpAny_pure (wpAny_pure ⟨rfl,h₄⟩)) λ_ _ h'=>h')) λ_ _ h'=>h'))) λ_ _ h'=>h')
theorem afv(I:Nat->Shared->Prop)(hs:∀x,foldedSetIterable i2 env x=pure x)
  (turn:∀n s,I n s->wpAny (model prog w) A (pyNext it) (λr s₁=>match r with
   |none=>R (.ok .next) s₁
   | some v=>wpAny (model prog w) A (letOwnedTupleGo t1 it v) (λ_ s₁'=>wpAny (model prog w) A (assign t1 env v) (λ_ s₂ => wpAny (model prog w) A (eval i2 env) (λx s₃ => wpAny (model prog w) A (pyIter x) (λj s₄ =>
     codeAny (model prog w) A (.compStart (.ListComp elt [⟨t1,i1,[],0⟩,⟨t2,i2,[],0⟩] scope pos) 1 j acc env) (λr s₅=>r=.ok .next/\∃m,m<n/\I m s₅) s₄) (λ_ _=>False) s₃) (λ_ _=>False) s₂) (λ_ _=>False) s₁') (λ_ _=>False) s₁) (λ_ _=>False) s)
  (n:Nat) (h:I n s):codeAny (model prog w) A (.compLoop (.ListComp elt [⟨t1,i1,[],0⟩,⟨t2,i2,[],0⟩] scope pos) 0 it acc env) R s:=by
 refine codeAny_loop rfl I (λn s hI=>?_) n h
 show wpAny _ _ ((compTurn (.ListComp elt [⟨t1,i1,[],0⟩,⟨t2,i2,[],0⟩] scope pos) 0 it acc env).onRaise (λx=>do noteFrame x env; theTreesLotGoes x)) _ _ s
 refine wpAny_noted (wpAny_noRaise ?_)
 rw[afr]
 refine wpAny_bind (wpAny_standAt (wpAny_bind (wpAny_mono (turn n s hI) (λr s₁ h₁=>?_) λ_ _ h'=>h')))
 cases r with
 |none=>exact wpAny_pure h₁
 |some v =>
  refine wpAny_bind (wpAny_mono h₁ (λ_ s₁' h₁'=>?_) λ_ _ h'=>h')
  refine wpAny_bind (wpAny_mono h₁' (λ_ s₂ h₂=>?_) λ_ _ h'=>h')
  refine wpAny_bind (wpAny_mono h₂ (λx s₃ h₃=>?_) λ_ _ h'=>h')
  refine wpAny_bind (wpAny_standAt (wpAny_bind (wpAny_of_eq (hs x) (wpAny_bind (wpAny_holding (wpAny_mono h₃ (λj s₄ h₄=>?_) λ_ _ h'=>h'))))))
  refine wpAny_bind (wpAny_runOwn (codeAny_mono h₄ λr s₅ h₅=>?_))
  obtain⟨rfl,h₅⟩:=h₅
  exact wpAny_pure ⟨rfl,h₅⟩
end
noncomputable def Ry(D:Addr)(jM:TI)(g2:TG)(te:TE)(F:St->Hp->Prop):St->Hp->Prop:=λσ2 H2=>jM σ2 H2 λJ H3=>∃V:Nat->Nat->St->Hp->Prop,(∃k,V 0 k σ2 H3)/\∀j k σ3 H4,V j k σ3 H4 ->
 (J.stop j H4/\F σ3 H4)\/(J.go j H4/\∀y H5,J.jC j H4 y H5->g2 y σ3 H5 λσ4 H6=>te σ4 H6 λv H7=>∃xs,H7 D=some (.lst xs)/\xs.length<sizeLine/\∃k',k'<k/\V (j+1) k' σ4 (upd H7 D (.lst (xs++[v]))))
noncomputable def Hw(wi:TI)(g:TG)(src:List (Option Nat))(jM:TI)(g2:TG)(te:TE):TE:=λσ H Q=>wi σ H λJ H1=>∀D,H1 D=none ->
 ∃W:Nat->Nat->St->Hp->Prop,(∃m,W 0 m (bQ src σ) (upd H1 D (.lst [])))/\∀i m σ' H',W i m σ' H' ->
  (J.stop i H'/\Dl Q D H')\/(J.go i H'/\∀x cD,J.jC i H' x cD->g x σ' cD (Ry D jM g2 te λσ3 H3=>∃m',m'<m/\W (i+1) m' σ3 H3))
section
variable {X Y:Cx}{N:List Str}{C:Addr}{s0:Shared}{H0:Hp}{ex:List Addr}{elt tg iter jr iter2:Expr}{scope:Scope}{pos:Pos}{jM:TI}{g2:TG}{te:TE}
theorem afw(hi:PI Y jr iter2 jM)(hg:PG Y jr g2)(he:PE Y elt te)(hc:Y.calm=true)(hx:Y.xe=λ_ _=>False)(I:Inv Y pins σ H s)(h:Ry D jM g2 te F σ H) :
  wpAny (model Y.prog Y.w) Y.A (eval iter2 Y.env) (λx s₃=>wpAny (model Y.prog Y.w) Y.A (pyIter x) (λj s₄=>codeAny (model Y.prog Y.w) Y.A (.compStart (.ListComp elt [⟨tg,iter,[],0⟩,⟨jr,iter2,[],0⟩] scope pos) 1 j (.ref D) Y.env) (λr s₅=>r=.ok .next/\∃σ' H',Inv Y pins σ' H' s₅/\F σ' H') s₄) (λ_ _=>False) s₃) (λ_ _=>False) s:=by
 rw[<-hx]
 refine aD (hi pins s σ H _ I h) λv s1 h1=>aD h1 λitv s2 h2=>?_
 obtain⟨it,fp,tn,J,H2,e,I2,T,st2,f2,V,⟨k0,v0⟩,turn⟩:=h2
 subst e
 have up:∀{H':Hp},(∀b∈fp,H' b=none)->∀b∈fp,bO Y pins H' b:=λhn b hb=>⟨hn b hb,(f2 b hb).2⟩
 have loop:codeAny (model Y.prog Y.w) Y.A (.compLoop (.ListComp elt [⟨tg,iter,[],0⟩,⟨jr,iter2,[],0⟩] scope pos) 1 (.ref it) (.ref D) Y.env) (λr s₅=>r=.ok .next/\∃σ' H',Inv Y pins σ' H' s₅/\F σ' H') s2:=by
  refine afu (λn s'=>∃i σ' H',Inv Y pins σ' H' s'/\tn i s'.heap/\(∀b∈fp,H' b=none)/\V i n σ' H') ?_ k0 ⟨0,σ,H2,I2,st2,λb hb=>(f2 b hb).1,v0⟩
  rintro n s5 ⟨i,σ5,H5,I5,gO,jW,w5⟩
  rcases turn i n σ5 H5 w5 with⟨stop,qn⟩|⟨go,step⟩
  .refine aD (T.done Y rfl rfl rfl hc i pins s5 σ5 H5 (λ_ _=>False) I5 (up jW) gO stop) λr s6 ⟨hr,I6⟩=>?_
   subst hr
   exact⟨rfl,σ5,H5,I6,qn⟩
  .refine aD (T.item Y rfl rfl rfl hc i pins s5 σ5 H5 (λ_ _=>False) I5 (up jW) gO go) λr s6 ⟨u,hr,h6⟩=>?_
   subst hr
   refine aD h6 λ_ s7 ⟨x,H7,I7,r7,y7,fU,vg⟩=>?_
   have vh:=I7.pinned (up vg) (T.obj _ _ fU)
   rw[<-hx]
   refine aD (hg _ s7 σ5 H7 x u _ vh r7 (step x H7 y7)) λ_ s8 ⟨σ8,H8,I8,q8⟩=>?_
   refine aD (he _ s8 σ8 H8 _ I8 q8) λyv s9 ⟨y,H9,I9,r9,q9⟩=>?_
   obtain⟨xs,e9,l9,m',hm,w9⟩:=q9
   refine aD (Dh (X:=Y) _ s9 σ8 H9 (.ref D) [y] (.ref D) [yv] (λ_ H'=>V (i+1) m' σ8 H') I9 rfl (.cons r9 .nil) ⟨D,xs,y,rfl,rfl,e9,l9,w9⟩) λ_ zW ⟨_,Gy,pQ,_,Gz⟩=>?_
   refine⟨m',hm,i+1,σ8,Gy,pQ.oU,T.keep _ _ _ fU λb hb o e=>(pQ.pin (b,o) (List.mem_append_right _ (List.mem_append_right _ (jV hb e)))).1,λb hb=>?_,Gz⟩
   obtain⟨o,e,d⟩:=T.obj _ _ fU b hb
   exact(pQ.pin (b,o) (List.mem_append_right _ (List.mem_append_right _ (jV hb e)))).2.1
 exact aft loop (T.self _ _ _ _ _ st2 loop)
end
section
variable {X:Cx}{elt tg iter jr iter2:Expr}{scope sc:Scope}{pos:Pos}{No N:List Str}{src:List (Option Nat)}{wi jM:TI}{g g2:TG}{te:TE}
theorem afx{pins:List (Addr × Obj)}{RR:Value->Addr->Result->Shared->Prop}(hsc:X.env.scope=sc)(fH:X.N=No)(S:m9 sc No N src scope)(hc:X.calm=true)
  (hi:PI X tg iter wi) (hg:∀C s H ex,PG (aZ X N scope C s H ex) tg g) (hi2:∀C s H ex,PI (aZ X N scope C s H ex) jr iter2 jM) (hg2:∀C s H ex,PG (aZ X N scope C s H ex) jr g2) (he:∀C s H ex,PE (aZ X N scope C s H ex) elt te) (I:Inv X pins σ H s) (h:Hw wi g src jM g2 te σ H Q)
  (hs2:∀(env:Env) x,foldedSetIterable iter2 env x=pure x) (hRR:∀D C H' s' m,Inv X pins σ H' s'->H' C=none->C≠X.env.locals->X.s₀.heap.objs.size<=C->(∀x c,X.env.cells.lookup x=some c->c≠C)->(∀p∈X.pn++pins,p.1≠C)->s'.heap.Ns C m->Q (.ref D) H'->RR (.ref D) C (.ok .next) s') :
  wpAny (model X.prog X.w) X.A (eval iter X.env) (λx s₁=>wpAny (model X.prog X.w) X.A (pyIter x) (λit s₂=>wpAny (model X.prog X.w) X.A (newList []) (λacc s₃ =>
   wpAny (model X.prog X.w) X.A (newFunctionEnv scope X.env.globals (bG X.env.cells scope.names []) [] X.env.qual none .none (some X.env)) (λcenv s₄ =>
    codeAny (model X.prog X.w) X.A (.compStart (.ListComp elt [⟨tg,iter,[],0⟩,⟨jr,iter2,[],0⟩] scope pos) 0 it acc {cenv with scope:=relabel scope X.env }) (RR acc cenv.locals) s₄) X.xe s₃) X.xe s₂) X.xe s₁) X.xe s:=by
 refine aD (hi pins s σ H _ I h) λv s1 h1=>aD h1 λitv s2 h2=>?_
 obtain⟨it,fp,tn,J,H2,e,I2,T,st2,f2,hW⟩:=h2
 subst e
 have Gv:H2 s2.heap.objs.size=none:=I2.hok.fresh (Nat.le_refl _)
 obtain⟨W,⟨m0,w0⟩,turn⟩:=hW s2.heap.objs.size Gv
 have vf:∀b∈fp,b<s2.heap.objs.size:=λb hb=>by
  obtain⟨o,e,_⟩:=T.obj 0 _ st2 b hb
  exact Heap.lt_size e
 refine wpAny_newObj_type ?_
 have I3:Inv X pins σ (upd H2 s2.heap.objs.size (.lst [])) {s2 with heap:=s2.heap.push {cls:=.type "list",dict:=none,data:=.seq ([]:List Value).toArray } }:=I2.wY (t':=s2.toks) (ys:=[]) .nil (Nat.zero_le _)
 have f3:∀b∈fp,bO X pins (upd H2 s2.heap.objs.size (.lst [])) b:=λb hb=>by
  obtain⟨q,r⟩:=f2 b hb
  exact⟨by rw[aK (Nat.ne_of_lt (vf b hb))]; exact q,r⟩
 have st3:tn 0 (s2.heap.push {cls:=.type "list",dict:=none,data:=.seq ([]:List Value).toArray }):=T.keep _ _ _ st2 λb hb o e=>Heap.get?_push_of_some _ e
 have jL:∀b∈fp,b<(s2.heap.push {cls:=.type "list",dict:=none,data:=.seq ([]:List Value).toArray }).objs.size:=λb hb=>by
  rw[Heap.size_push]; exact Nat.lt_succ_of_lt (vf b hb)
 generalize hD:s2.heap.objs.size=D at *
 generalize hh3:s2.heap.push {cls:=.type "list",dict:=none,data:=.seq ([]:List Value).toArray }=h3 at *
 generalize hH3:upd H2 D (.lst [])=H3 at *
 refine Nt λh₁ hns old ck=>?_
 dsimp only at hns old ck ⊢
 have I4:Inv (aZ X N scope h3.objs.size {s2 with heap:=h3 } H3 fp) [] (bQ src σ) H3 {s2 with heap:=h₁,toks:=s2.toks+([]:List (Str × Value)).length }:=Nu (s:={s2 with heap:=h3 }) hsc fH S I3 f3 jL hns old ck
 have oF:tn 0 h₁ := T.keep _ _ _ st3 λb hb o e=>old b o e
 have loop:codeAny (model X.prog X.w) X.A (.compLoop (.ListComp elt [⟨tg,iter,[],0⟩,⟨jr,iter2,[],0⟩] scope pos) 0 (.ref it) (.ref D) (compEnvC scope (cellsFrom (h3.objs.size+1) scope.names (bG X.env.cells scope.names [])) h3.objs.size X.env)) (RR (.ref D) h3.objs.size) {s2 with heap:=h₁,toks:=s2.toks+([]:List (Str × Value)).length }:=by
  have stat:∀{H':Hp},(∀b∈fp,H' b=none)->∀b∈fp,bO (aZ X N scope h3.objs.size {s2 with heap:=h3 } H3 fp) [] H' b:=λhn b hb=>by
   obtain⟨g0,g1,g2,g3,g4,g5⟩:=f3 b hb
   refine⟨hn b hb,Nat.ne_of_lt (jL b hb),λz=>?_,.inl hb,λx c e=>?_,λp hp=>absurd (show p∈([]:List (Addr × Obj))from hp) (by simp)⟩
   .rcases List.mem_cons.mp (I3.tQ b z)with z|z
    .exact g1 z
    .exact g2 z
   .have e:(cellsFrom (h3.objs.size+1) scope.names (bG X.env.cells scope.names [])).lookup x=some c:=e
    rw[lH,qC]at e
    split at e
    .rename_i z
     cases e
     exact λy=>absurd (Nat.le_trans (ck.empty x c (PySem.mem_of_lookup z)).2 (y▸Nat.le_of_lt (jL b hb))) (Nat.not_succ_le_self _)
    .rcases m8 e with q|q
     .simp at q
     .exact g4 x c q
  refine afv (λn s'=>∃i σ' H',Inv (aZ X N scope h3.objs.size {s2 with heap:=h3 } H3 fp) [] σ' H' s'/\tn i s'.heap/\(∀b∈fp,H' b=none)/\W i n σ' H') (hs2 _) ?_ m0 ⟨0,bQ src σ,H3,I4,oF,λb hb=>(f3 b hb).1,w0⟩
  rintro n s5 ⟨i,σ5,H5,I5,gO,jW,w5⟩
  rcases turn i n σ5 H5 w5 with⟨stop,qn⟩|⟨go,step⟩
  .refine aD (T.done (aZ X N scope h3.objs.size {s2 with heap:=h3 } H3 fp) rfl rfl rfl hc i [] s5 σ5 H5 (λ_ _=>False) I5 (stat jW) gO stop) λr s6 ⟨hr,I6⟩=>?_
   subst hr
   obtain⟨mC,hnC,_⟩:=id I6.loc
   have I7:Inv X pins σ H5 s6:=I3.call' (ch:=fp) I6.os I6.base I6.hok I6.bare λb hb=>by
    obtain⟨g0,g1,g2,g3,g4,g5⟩:=f3 b hb
    exact⟨g3,g1,g4,g5⟩
   refine hRR D h3.objs.size H5 s6 mC I7 I6.free (Nat.ne_of_gt I3.lt) I3.sz (λx c e z=>?_) (λp hp z=>?_) hnC qn
   .obtain⟨v,q⟩:=I3.cell x c e
    exact absurd q.lt (by rw[z]; exact Nat.lt_irrefl _)
   .exact absurd (Heap.lt_size (I3.pin p hp).1) (by rw[z]; exact Nat.lt_irrefl _)
  .refine aD (T.item (aZ X N scope h3.objs.size {s2 with heap:=h3 } H3 fp) rfl rfl rfl hc i [] s5 σ5 H5 (λ_ _=>False) I5 (stat jW) gO go) λr s6 ⟨u,hr,h6⟩=>?_
   subst hr
   refine aD h6 λ_ s7 ⟨x,H7,I7,r7,y7,fU,vg⟩=>?_
   have vh:=I7.pinned (stat vg) (T.obj _ _ fU)
   refine aD (hg _ _ _ _ _ s7 σ5 H7 x u _ vh r7 (step x H7 y7)) λ_ s8 ⟨σ8,H8,I8,q8⟩=>?_
   refine wpAny_mono (afw (hi2 _ _ _ _) (hg2 _ _ _ _) (he _ _ _ _) hc rfl I8 q8) (λxv s9 h9=>wpAny_mono h9 (λjv zW h10=>codeAny_mono h10 λr vp h11=>?_) λ_ _ z=>z) λ_ _ z=>z
   obtain⟨rfl,σ9,H9,I9,m',hm,w9⟩:=h11
   refine⟨rfl,m',hm,i+1,σ9,H9,I9.oU (pins:=[]),T.keep _ _ _ fU λb hb o e=>(I9.pin (b,o) (List.mem_append_right _ (List.mem_append_right _ (jV hb e)))).1,λb hb=>?_,w9⟩
   obtain⟨o,e,d⟩:=T.obj _ _ fU b hb
   exact(I9.pin (b,o) (List.mem_append_right _ (List.mem_append_right _ (jV hb e)))).2.1
 exact codeAny_compStart_list loop (T.self _ _ _ _ _ oF loop)
theorem afy(hsc:X.env.scope=sc)(fH:X.N=No)(S:m9 sc No N src scope)(hc:X.calm=true)
  (hi:PI X tg iter wi) (hg:∀C s H ex,PG (aZ X N scope C s H ex) tg g) (hi2:∀C s H ex,PI (aZ X N scope C s H ex) jr iter2 jM) (hg2:∀C s H ex,PG (aZ X N scope C s H ex) jr g2) (he:∀C s H ex,PE (aZ X N scope C s H ex) elt te)
  (hs:∀x,foldedSetIterable iter X.env x=pure x:=by intro _; rfl) (hs2:∀(env:Env) x,foldedSetIterable iter2 env x=pure x:=by intro _ _; rfl):PE X (.ListComp elt [⟨tg,iter,[],0⟩,⟨jr,iter2,[],0⟩] scope pos) (Hw wi g src jM g2 te):=by
 refine⟨λpins s σ H Q I h=>?_⟩
 rw[eval_ListComp]
 have hcl:closureFor scope X.env=pure (bG X.env.cells scope.names []):=wZ λy hy e=>by
  have k:=S.free y hy e
  rw[<-hsc]at k
  obtain⟨c,q⟩:=I.ok.has y.1 k
  rw[q]; rfl
 refine wpAny_comprehension_free (use:=none) rfl hs hcl S.kind S.names (afx (RR:=λacc C=>compPost (model X.prog X.w) X.A X.xe none (EP X pins σ Q) acc C) hsc fH S hc hi hg hi2 hg2 he I h hs2 ?_)
 intro D C H' s' m I' n1 n2 n3 n4 n5 hn q
 refine⟨m,hn,λh' hs'=>⟨.ref D,H',?_,rfl,q⟩⟩
 exact I'.turned (t':=s'.toks) (λb o hb e=>(hs'.2 b hb).trans e) n1 (Ne.symm (Ne.symm n2)) (.inr n3) n4 n5
end
noncomputable abbrev QF:=En->Rs Tr
noncomputable def Ad(i:Nat):QF:=λρ=>match ρ[i]? with
 |some (.sh T)=>.ok T
 |_=>.bad
noncomputable def nZ(ts:List Tr)(k:Tr):Rs (Nat × Tr):=match k with
 | .int i=>(match gW ts.length i with
  | some j=>(match ts[j]? with
   |some u=>.ok (j,u)
   |none=>.bad)
  |none=>.bad)
 |_=>.bad
theorem Rz(h:nZ ts k=.ok (j,u)):∃i,k=.int i/\gW ts.length i=some j/\ts[j]?=some u:=by
 unfold nZ at h
 (repeat' split at h) <;> cases h
 exact⟨_,rfl,‹_›,‹_›⟩
theorem RB(ts:List Tr)(k:Tr)(c:Str):nZ ts k ≠ .ex c:=by unfold nZ; (repeat' split) <;> (intro z; cases z)
noncomputable def pX(ρ : En)(i:Nat):Rs (List Tr):=match ρ[i]? with
 |some (.dp ts)=>.ok ts
 |_=>.bad
theorem afz(ρ : En)(i:Nat)(c:Str):pX ρ i ≠ .ex c:=by
 unfold pX
 split <;> (intro z; cases z)
section
variable {K:PySem.W.Frag}{R:Addr->Prop}{ρ : En}{σ : St}{G H:Hp}{F:Fp}
theorem DR.row:∀{xs:List V} {ts:List Tr} {bs:List Addr} {m:Nat} {us:List Tr},DR K G H xs ts bs->bs.Nodup->ts[m]?=some (.lst us)->∃b ys,xs[m]?=some (.ref b)/\b∈bs/\H b=some (.lst ys)/\au K G ys us/\∀ys' us',au K G ys' us'->DR K G (upd H b (.lst ys')) xs (ts.set m (.lst us')) bs
 |_,_,_,_,_,.nil,_,q=>by simp at q
 |_,_,_,0,_,.cl n _ _,_,q=>by simp at q; subst q; cases n
 |_,_,_,m+1,_,.cl n h r,d,q=>by
  obtain⟨b,ys,h1,h2,h3,h4,h5⟩:=DR.row (m:=m) r d (by simpa using q)
  exact⟨b,ys,by simpa using h1,h2,h3,h4,λys' us' r'=>.cl n h (h5 ys' us' r')⟩
 |_,_,_,0,_,@DR.rw _ _ _ b ys _ _ _ _ h q' r,d,q=>by
  simp at q; subst q
  exact⟨b,ys,rfl,List.mem_cons_self ..,h,q',λys' us' r'=>.rw cu r' (r.mono (Same.refl _) λc hc o z=>by rw[aK (show c≠b from λy=>(List.nodup_cons.mp d).1 (y▸hc))]; exact z)⟩
 |_,_,_,m+1,_,@DR.rw _ _ _ b0 _ _ _ _ _ h q' r,d,q=>by
  obtain⟨b,ys,h1,h2,h3,h4,h5⟩:=DR.row (m:=m) r (List.nodup_cons.mp d).2 (by simpa using q)
  exact⟨b,ys,by simpa using h1,List.mem_cons_of_mem _ h2,h3,h4,λys' us' r'=>.rw (by rw[aK (show b0≠b from λy=>(List.nodup_cons.mp d).1 (y▸h2))]; exact h) q' (h5 ys' us' r')⟩
theorem Ok.putD(e:Ok K R ρ σ G H F)(q:pX ρ i=.ok ts)(hm:ts[m]?=some (.lst us)):∃a xs b ys,σ[i]?=some (some (.ref a))/\H a=some (.lst xs)/\xs.length=ts.length/\xs[m]?=some (.ref b)/\H b=some (.lst ys)/\au K G ys us/\∀ys' us',au K G ys' us'->Ok K R (ρ.set i (.dp (ts.set m (.lst us')))) σ G (upd H b (.lst ys')) F/\aG K G H F G (upd H b (.lst ys')) F:=by
 unfold pX at q
 split at q <;> cases q
 rename_i k
 have z:=e.sl i
 rw[k]at z
 obtain⟨a,xs,bs,h1,h2,nd,h3,h4,d⟩:=z
 obtain⟨b,ys,g1,g2,g3,g4,g5⟩:=d.row (List.nodup_cons.mp (h2▸nd)).2 hm
 have fb:Fn F b:=⟨i,by rw[h2]; exact List.mem_cons_of_mem _ g2⟩
 have nab:a≠b:=λz=>(List.nodup_cons.mp (h2▸nd)).1 (z▸g2)
 have len:∀{xs ts bs},DR K G H xs ts bs->xs.length=ts.length:=λd=>by
  induction d with
  |nil=>rfl
  |cl _ _ _ ih=>rw[List.length_cons,List.length_cons,ih]
  |rw _ _ _ ih=>rw[List.length_cons,List.length_cons,ih]
 have gb:=e.hid b fb
 refine⟨a,xs,b,ys,h1,h4,len d,g1,g3,g4,λys' us' r'=>⟨?_,Same.refl _,λc o h n t=>by rw[aK (show c≠b from λz=>n (z▸fb))]; exact h,λ_ h=>.inl h,λ_ h=>.inr h,λc h=>?_⟩⟩
 .have eF:iz F i (F i)=F:=by funext j; unfold iz; split <;> first|rfl|rw[‹j=i›]
  refine eF▸e.one i (F i) (by rw[List.length_set,e.len]) (λj n=>⟨jk n,rfl⟩) (Same.refl _) (λc o h=>?_) (e.tb.upd g3) (λc h=>.inl h) (λj n c hc o h=>?_) (λc h z=>?_) (λc h=>⟨e.hid c ⟨i,h⟩,λj n z=>n (e.di j i c z h)⟩) ?_
  .rw[aK λz=>by rw[z,gb]at h; cases h]; exact e.sub c o h
  .rw[aK λz=>n (e.di j i c hc (by rw[h2,z]; exact List.mem_cons_of_mem _ g2))]; exact h
  .by_cases y:c=b
   .subst y; rw[cu]at z; cases z
   .rw[aK y]at z; exact(e.rg c h).2 z
  .rw[gj (List.getElem?_eq_some_iff.mp k).1]
   exact⟨a,xs,bs,h1,h2,nd,h3,by rw[aK nab]; exact h4,g5 ys' us' r'⟩
 .by_cases y:c=b
  .subst y; rw[cu]at h; cases h
  .rw[aK y]at h; exact h
end
theorem au.set{K:PySem.W.Frag}{H:Hp}{v:V}{T:Tr}(h:Rep K H v T):∀{xs:List V} {ts:List Tr} (j:Nat),au K H xs ts->au K H (xs.set j v) (ts.set j T)
 |_,_,_,.nil=>.nil
 |_,_,0,.cons _ r=>.cons h r
 |_,_,j+1,.cons h1 r=>.cons h1 (au.set h j r)
noncomputable def RD(i:Nat)(fk fj:QF)(fe:EF):SF:=λρ=>(fe ρ).bind λp=>(qY p.1).bind λT=>(pX p.2 i).bind λts=>(fM (fk p.2)).bind λk=>(nZ ts k).bind λz=>match z.2 with
 |.lst us=>(fM (fj p.2)).bind λj=>(nZ us j).bind λy=>.ok (.nx,p.2.set i (.dp (ts.set z.1 (.lst (us.set y.1 T)))))
 |_=>.bad
theorem RG{K:PySem.W.Frag}(e:Ok K R ρ σ G H F)(h:Ad k ρ=.ok (.int z)) : σ[k]?=some (some (.int z)):=by
 unfold Ad at h
 split at h <;> cases h
 have y:=e.sl k
 rw[‹ρ[k]?=_›]at y
 obtain⟨_,v,h1,h2⟩:=y
 cases h2
 exact h1
theorem afA(h:yU y=true)(v:Value):assign (.Subscript o y p) env v=(do let ov <-holding [v] (eval o env); let iv <-holding [v,ov] (eval y env); standAt p; holding [v,ov,iv] (setItem ov iv v); release [v,ov,iv] []):=by
 cases y <;> first|rfl|cases h
noncomputable def RJ(i k j:Nat)(a:VE aB):VS (RD i (Ad k) (Ad j) aB) where
 ck Γ e:=pq e λaM v _=>aQ aM λbh bF=>nA bh λbY cV _=>nA bY λdJ gD _=>atName dJ λx _=>atName gD λy _=>atName cV λz _=>aV bF (j4 Γ i x&&j4 Γ k y&&j4 Γ j z&&rF v&&a.ck Γ v)
 cs:=a.cs
 ok q o h:=by
  walk_at "O"
  simp only[an]at h
  obtain⟨⟨⟨⟨h1,h2⟩,h3⟩,h4⟩,h5⟩:=h
  refine(Ly (a.ok q o h5) (aaY (Dc Dd (qU o h1) (qU o h2) (Fg rfl)) (qU o h3) set_list (afA rfl)) (by unfold swapsWithSole; exact zG h4) rfl rfl).imp λD σ H=>bR λR ρ G F e h=>eE e .refl h λp h v G1 H1 F1 e1 s1 v1=>?_
  obtain⟨T,kT,h⟩:=h.okb (Qa _)
  obtain⟨G2,e2,s2,_,rv⟩:=e1.pH e s1 v1 kT
  obtain⟨ts,k0,h⟩:=h.okb (afz _ _)
  obtain⟨kk,g1,h⟩:=nQ h
  obtain⟨⟨m,u⟩,k2,h⟩:=h.okb (RB _ _)
  cases u <;> try exact h.elim
  obtain⟨jj,g2,h⟩:=nQ h
  obtain⟨⟨m',u'⟩,k3,hf⟩:=h.okb (RB _ _)
  obtain⟨z,rfl,h5,h6⟩:=Rz k2
  obtain⟨z',rfl,h7,h8⟩:=Rz k3
  obtain⟨a,xs,b,ys,q1,q2,q3,q4,q5,q6,q7⟩:=e2.putD k0 h6
  obtain⟨e3,s3⟩:=q7 _ _ (q6.set rv m')
  refine⟨_,q1,_,RG e2 g1,.inl ⟨a,xs,z,.ref b,rfl,rfl,aH.of q2,?_,_,RG e2 g2,b,ys,z',m',rfl,rfl,q5,by rw[q6.length]; exact h7,hf σ G2 _ F1 e3 (s2.trans s3)⟩⟩
  unfold cR
  rw[q3,h5]
  exact q4
noncomputable def Ky:Sl->Sl
 |.sh T=>.sh T
 |.ow ts=>.sh (.lst ts)
 |.dp ts=>.sh (.lst ts)
 |_=>.un
noncomputable def vw(ρ : En):En := ρ.map Ky
noncomputable def Hx(c:BF):BF:=λρ=>(fM (c (vw ρ))).bind λp=>.ok (p.1,ρ)
theorem Ok.view{K:PySem.W.Frag}(e:Ok K R ρ σ G H F):Ok K (λ_=>False) (vw ρ) σ (wL G H) H (λ_=>[]):=by
 have m:Same G (wL G H):=λ_ _=>rB
 have ls:∀{b xs},Fn F b->H b=some (.lst xs)->wL G H b=some (.lst xs):=λf h=>Ql h (e.hid _ f)
 refine⟨by rw[vw,List.length_map,e.len],λb o q=>(uR q).elim (e.sub b o) λq=>q.2.1,e.tb,λb t=>?_,λb ⟨_,z⟩=>(by cases z),λb z=>z.elim,λi j b z=>(by cases z),λi=>?_⟩
 .cases q:wL G H b with
  |none=>rfl
  |some o =>
   rcases uR q with q|⟨_,q,xs,rfl⟩
   .rw[e.tg b t]at q; cases q
   .exact(e.tb.nt q t).elim
 .have z:=e.sl i
  unfold vw
  rw[List.getElem?_map]
  cases k : ρ[i]? with
  |none=>rfl
  |some s =>
   rw[k]at z
   cases s with
   |un=>rfl
   |rf _=>rfl
   |sh T=>obtain⟨_,u,h1,h2⟩:=z; exact⟨rfl,u,h1,h2.mono m⟩
   |ow ts =>
    obtain⟨a,xs,h1,h2,_,h4,h5⟩:=z
    exact⟨rfl,_,h1,.lst (aH.of (ls ⟨i,by rw[h2]; exact List.mem_singleton.mpr rfl⟩ h4)) (h5.mono m)⟩
   |dp ts =>
    obtain⟨a,xs,bs,h1,h2,_,_,h4,d⟩:=z
    refine⟨rfl,_,h1,.lst (aH.of (ls ⟨i,by rw[h2]; exact List.mem_cons_self ..⟩ h4)) (d.reps m λb hb=>?_)⟩
    obtain⟨ys,hy⟩:=d.lst b hb
    rw[hy]
    exact ls ⟨i,by rw[h2]; exact List.mem_cons_of_mem _ hb⟩ hy
noncomputable def RK(a:VT aB):VT (Hx aB) where
 ck:=a.ck
 cs:=a.cs
 ok q o h:=(a.ok q o h).imp λσ H Q=>bR λR ρ G F e h=>by
  obtain⟨p,k,h⟩:=nQ h
  refine⟨_,_,_,_,e.view,?_⟩
  rw[k]
  intro G' H' F' e' s'
  obtain⟨e2,s2⟩:=e.grow (G':=G) (H':=H') ⟨Same.refl _,λb o q t=>s'.fr b o q (λ⟨_,z⟩=>by cases z) t,λb o q=>s'.fr b o (e.sub b o q) (λ⟨_,z⟩=>by cases z) λt=>(by rw[e.tg b t]at q; cases q),λ_=>e'.tb,λb h=>.inl h⟩
  exact h G H' F e2 s2
noncomputable def RL(i:Nat)(f:EF):SF:=λρ=>(f ρ).bind λp=>match p.1 with
 |.v (.lst ts) true=>.ok (.nx,p.2.set i (.ow ts))
 |.v T _=>.ok (.nx,p.2.set i (.sh T))
 |_=>.bad
noncomputable def sON(i:Nat)(a:VC aB):VS (RL i aB) where
 ck Γ e:=uV Γ i a e
 cs:=a.cs
 ok q o h:=by
  refine(FQ q o h).imp λD σ H=>bR λR ρ G F e h=>eE e .refl h λp h v G1 H1 F1 e1 s1 v1=>?_
  obtain⟨r,ρ1⟩:=p
  dsimp only at h
  split at h
  .obtain⟨⟨a,xs,us,rfl,z,n,g,hx,r⟩,f⟩:=v1
   cases z
   obtain⟨F',e',hf⟩:=e1.Qo i hx g (f rfl a rfl) (e.rn n) r
   exact h _ G1 H1 F' e' ⟨s1.gg,s1.fr,s1.nw,λb z=>(hf b z).elim (λz=>.inl (z▸n)) (s1.nf b),s1.dm⟩
  .obtain⟨G2,e2,s2,_,r⟩:=e1.pH e s1 v1 rfl
   obtain⟨F',e',hf⟩:=e2.zx i r
   exact h _ G2 H1 F' e' (s2.trans (.sub hf))
  .exact h.elim
noncomputable def vq(g:GF)(pY:IF)(g2:GF)(f:EF):List Tr->En->Rs (List Tr × En)
 | [],ρ=>.ok ([],ρ)
 |u::us,ρ=>(g u ρ).bind λρ1=>(pY ρ1).bind λq=>if q.1.length<=1000 then(fO g2 jc f q.1 q.2).bind λy=>(vq g pY g2 f us y.2).bind λz=>.ok (y.1++z.1,z.2)else .bad
noncomputable def Hy(src:List (Option Nat))(fi:IF)(g:GF)(pY:IF)(g2:GF)(f:EF):EF:=λρ=>(fi ρ).bind λp=>if p.1.length<=100 then(fM (vq g pY g2 f p.1 (dZ src p.2))).bind λz=>if eU src z.2 p.2=true then .ok (.v (.lst z.1) true,bA src z.2 p.2)else .bad else .bad
theorem afB{t:Tx}(I:Inj src)(hj:∀k j:Nat,src[k]?=some (some j)->k∉js/\k∉js2)(ng:∀T ρ c,gf T ρ ≠ .ex c)(ng2:∀T ρ c,Ae T ρ ≠ .ex c)(h:Te t (Hy src fi gf pY Ae f) σ H Q):Hw (Ti t fi) (j7 t.K gf js) src (Ti ⟨t.K,λ_ _=>False⟩ pY) (j7 t.K Ae js2) (Te ⟨t.K,λ_ _=>False⟩ f) σ H Q:=by
 obtain⟨R,ρ,G,F,e,h⟩:=h
 refine⟨R,ρ,G,F,e,h.run (aG.refl (G:=G)) λp h J G1 H1 F1 e1 s1 it D hD=>?_⟩
 obtain⟨us,ρ1⟩:=p
 dsimp only at h it e1
 split at h
 case isFalse=>exact h.elim
 rename_i hlen
 obtain⟨z,kz,h⟩:=nQ h
 split at h
 case isFalse=>exact h.elim
 rename_i so
 have mv:∀{G3 H3 F3},aG t.K G1 H1 (inF src ρ1 F1) G3 H3 F3->∀ys,aG t.K G1 H1 (inF src ρ1 F1) G3 (upd H3 D (.lst ys)) F3:=λs ys=>⟨s.gg,λb o h n t=>by rw[aK (gQ h hD)]; exact s.fr b o h n t,s.nw,s.nf,λb h=>by
  by_cases z:b=D
  .subst z; exact hD
  .rw[aK z]at h; exact s.dm b h⟩
 refine⟨λi m τ H'=>m=us.length-i/\i<=us.length/\∃ρ' G' F' xs acc,Ok t.K R ρ' τ G' H' F'/\aG t.K G1 H1 (inF src ρ1 F1) G' H' F'/\(H' D=some (.lst xs)/\¬Fn F' D/\G' D=none)/\au t.K G' xs acc/\xs.length<=1000*i/\(∀k j:Nat,src[k]?=some (some j) -> τ[k]?=(bQ src σ)[k]?)/\∃y,vq gf pY Ae f (us.drop i) ρ'=.ok y/\z=(acc++y.1,y.2),⟨us.length,by simp,Nat.zero_le _,dZ src ρ1,G1,inF src ρ1 F1,[],[],((e1.enter I).grow (.flt e1.sub hD)).1,((e1.enter I).grow (.flt e1.sub hD)).2,⟨cu,λh=>e1.fs hD (rP h),e1.sub.free hD⟩,.nil,Nat.zero_le _,λ_ _ _=>rfl,z,kz,rfl⟩,?_⟩
 rintro i m τ H2 ⟨rfl,hi,ρ2,G2,F2,xs,acc,e2,s2,d2,a2,l2,g2,y,ky,rfl⟩
 have q:=it G2 H2 s2.gg e2.sub i
 by_cases hlt:i<us.length
 .rw[List.drop_eq_getElem_cons hlt]at ky
  obtain⟨go,yl⟩:=q.2 us[i] (by simp[hlt])
  refine .inr ⟨go,λx H3 yy=>?_⟩
  obtain⟨G3,w3,r3⟩:=yl x H3 yy
  obtain⟨e3,s3⟩:=e2.grow w3
  obtain⟨ρ4,k4,ky⟩:=bT ky
  obtain⟨⟨n8,ρ5⟩,k5,ky⟩:=bT ky
  dsimp only at ky
  split at ky
  case isFalse=>cases ky
  obtain⟨y1,k6,ky⟩:=bT ky
  obtain⟨y2,k7,ky⟩:=bT ky
  cases ky
  refine⟨R,ρ2,G3,F2,_,e3,r3,?_⟩
  rw[k4]
  intro σ4 F4 e4 f4 a4
  have s4:=s3.trans (aG.sub f4)
  have g4:∀k j:Nat,src[k]?=some (some j) -> σ4[k]?=(bQ src σ)[k]? := λk j h=>(a4 k (hj k j h).1).trans (g2 k j h)
  refine⟨R,ρ4,G3,F4,e4,?_⟩
  rw[k5]
  intro J2 G5 H5 F5 e5 s5 it2
  have kh:=s4.trans s5
  refine⟨λj k τ' H'=>k=n8.length-j/\j<=n8.length/\∃ρ' G' F' xs' acc',Ok t.K R ρ' τ' G' H' F'/\aG t.K G1 H1 (inF src ρ1 F1) G' H' F'/\Same G5 G'/\(H' D=some (.lst xs')/\¬Fn F' D/\G' D=none)/\au t.K G' xs' acc'/\xs'.length<=1000*i+j/\(∀k j:Nat,src[k]?=some (some j) -> τ'[k]?=(bQ src σ)[k]?)/\∃y',fO Ae jc f (n8.drop j) ρ'=.ok y'/\acc++y1.1=acc'++y'.1/\y'.2=y1.2,⟨n8.length,by simp,Nat.zero_le _,ρ5,G5,F5,xs,acc,e5,s2.trans kh,Same.refl _,kh.flt e2.tb d2.1 d2.2.1 d2.2.2,a2.mono kh.gg,by lia,g4,y1,k6,rfl,rfl⟩,?_⟩
  rintro j k τ' H6 ⟨rfl,hj2,ρ6,G6,F6,xs',acc',e6,s6,m6,d6,a6,l6,g6,y',k8,k9,k10⟩
  have q2:=it2 G6 H6 m6 e6.sub j
  by_cases Hz:j<n8.length
  .rw[List.drop_eq_getElem_cons Hz]at k8
   obtain⟨go2,yl2⟩:=q2.2 n8[j] (by simp[Hz])
   refine .inr ⟨go2,λx2 H7 yy2=>?_⟩
   obtain⟨G7,w7,r7⟩:=yl2 x2 H7 yy2
   obtain⟨e7,s7⟩:=e6.grow w7
   obtain⟨ρ8,k11,k8⟩:=bT k8
   obtain⟨p,k12,k8⟩:=bT (show((f ρ8).bind _)=_ from k8)
   obtain⟨T,k13,k8⟩:=bT k8
   obtain⟨y'',k14,k8⟩:=bT k8
   cases k8
   refine⟨R,ρ6,G7,F6,_,e7,r7,?_⟩
   rw[k11]
   intro σ8 F8 e8 f8 a8
   refine⟨R,ρ8,G7,F8,e8,?_⟩
   rw[k12]
   intro v G9 H9 F9 e9 s9 v9
   obtain⟨G10,e10,zW,_,r10⟩:=e9.pH e8 s9 v9 k13
   have vp:=(s7.trans (aG.sub f8)).trans zW
   have vA:=vp.flt e6.tb d6.1 d6.2.1 d6.2.2
   refine⟨xs',vA.1,Nat.lt_of_le_of_lt (show xs'.length<=200000 by lia) (by decide),n8.length-(j+1),by lia,rfl,Hz,p.2,G10,F9,xs'++[v],acc'++[T],e10.QX vA.1 vA.2.1 vA.2.2,mv (s6.trans vp) _,m6.trans vp.gg,⟨cu,vA.2⟩,(a6.mono vp.gg).app (.cons r10 .nil),by simp; lia,λk j h=>(a8 k (hj k j h).2).trans (g6 k j h),y'',k14,by rw[k9,List.append_assoc]; rfl,k10⟩
  .have z:j=n8.length:=by lia
   subst z
   rw[List.drop_length]at k8
   cases k8
   refine .inl ⟨q2.1 rfl,us.length-(i+1),by lia,rfl,hlt,ρ6,G6,F6,xs',acc',e6,s6,d6,a6,by lia,g6,y2,by rw[<-k7,<-k10],?_⟩
   rw[<-List.append_assoc,k9,List.append_nil]
 .have z:i=us.length:=by lia
  subst z
  rw[List.drop_length]at ky
  cases ky
  obtain⟨e',s'⟩:=e1.leave e2 s2 I g2 so
  exact .inl ⟨q.1 rfl,h _ G2 H2 F1 e' (s1.trans s') ⟨⟨D,xs,_,rfl,rfl,s1.dm D hD,d2.2.2,d2.1,by rw[List.append_nil]; exact a2⟩,λ_ a q=>by cases q; exact e1.fs hD⟩⟩
noncomputable def vC2(src:List (Option Nat))(N:List Str)(i:VI mJ)(g:VG gC jm)(i2:VI afC)(g2:VG afD afE)(b:VE bD):VE (Hy src mJ gC afC afD bD) where
 ck Γ e:=nC e λx aM sc _=>aQ aM λbh bF=>lU bh λt y bY cV=>aV bY (iR cV 0 (aQ bF λdJ gD=>lU dJ λt2 y2 mG mH=>aV mG (iR mH 0 (aV gD (i.ck Γ (t,y)&&g.ck (cG Γ N sc) t&&i2.ck (cG Γ N sc) (t2,y2)&&g2.ck (cG Γ N sc) t2&&b.ck (cG Γ N sc) x&&nU Γ N src sc (jm++afE))))))
 cs:=i.cs++(g.cs++(i2.cs++(g2.cs++b.cs)))
 ok:=@λcl E Γ X e q o h=>by
  walk_at "O"
  rename_i x0 sc pos t0 y0 t2 y2
  simp only[an]at h
  obtain⟨⟨⟨⟨⟨h1,h2⟩,h3⟩,h4⟩,h5⟩,h6⟩:=h
  obtain⟨pi,ni⟩:=i.ok (ml q) o h1
  obtain⟨S,nd,I,hj⟩:=rR h6
  have pg:=λC s H ex=>g.ok (X:=aZ X N sc C s H ex) (ml (mr q)) (iB o nd) h2
  have RM:=λC s H ex=>i2.ok (X:=aZ X N sc C s H ex) (ml (mr (mr q))) (iB o nd) h3
  have RN:=λC s H ex=>g2.ok (X:=aZ X N sc C s H ex) (ml (mr (mr (mr q)))) (iB o nd) h4
  have pb:=λC s H ex=>b.ok (X:=aZ X N sc C s H ex) (mr (mr (mr (mr q)))) (iB o nd) h5
  exact(afy o.s o.N S o.l pi (λC s H ex=>(pg C s H ex).1) (λC s H ex=>(RM C s H ex).1) (λC s H ex=>(RN C s H ex).1) pb (jJ ni) (λ_=>jJ (RM 0 X.s₀ X.H₀ []).2)).imp λσ H Q=>afB I (λk j z=>by simpa[not_or]using hj k j z) (pg 0 X.s₀ X.H₀ []).2.1 (RN 0 X.s₀ X.H₀ []).2.1
noncomputable def HB(i:Nat)(ρ : En):Nat:=match ρ[i]? with
 |some (.sh (.int n))=>n.natAbs+1
 |_=>0
noncomputable def jT(nl:Nat)(ts:List Tr):En:=ts.map Sl.sh++List.replicate (nl-ts.length) Sl.un
noncomputable def aL(nl:Nat)(b:SF):FP:=λts=>(b (jT nl ts)).bind λq=>match q.1 with
 |.rt T fr=>.ok (T,fr)
 |.nx=>.ok (.non,false)
 |_=>.bad
theorem Ok.init{K:PySem.W.Frag}{N:List Str}(r:au K G vs ts)(hl:vs.length<=N.length)(s:Same G H)(tb:bJ K H)(tg:∀b,Tb K b->G b=none):Ok K (λ_=>False) (jT N.length ts) (start N vs) G H (λ_=>[]):=by
 have l:=r.length
 refine⟨by unfold jT start; simp only[List.length_append,List.length_map,List.length_replicate]; lia,s,tb,tg,λb ⟨_,z⟩=>(by cases z),λ_ z=>z.elim,λ_ _ _ z=>(by cases z),λi=>?_⟩
 unfold jT start
 by_cases h:i<vs.length
 .rw[List.getElem?_append_left (by simpa using h),List.getElem?_append_left (by simp; lia),List.getElem?_map,List.getElem?_map,List.getElem?_eq_getElem h,List.getElem?_eq_getElem (show i<ts.length by lia)]
  obtain⟨x,q1,q2⟩:=r.jg (List.getElem?_eq_getElem (show i<ts.length by lia))
  rw[List.getElem?_eq_getElem h]at q1
  cases q1
  exact⟨rfl,_,rfl,q2⟩
 .rw[List.getElem?_append_right (l₁ := ts.map Sl.sh) (by simp; lia),List.getElem?_replicate]
  split <;> rfl
theorem RP{K:PySem.W.Frag}{N ps:List Str}{b:SF}(hn:ps.length<=N.length)(h:pG K cl ps.length (aL N.length b) vs H Q E):Ts ⟨aA K,λc H'=>E (.ref (cl c)) none H'⟩ b {nx:=λ_ H'=>Q .non H',rt:=Q } (start N vs) H:=by
 obtain⟨G,as,hl,r,sg,tb,tg,h⟩:=h
 refine⟨_,_,G,_,Ok.init r (by lia) sg tb tg,h.run (aG.refl (G:=G)) λq h=>?_⟩
 obtain⟨fl,ρ'⟩:=q
 have nf:∀{b:Addr},¬Fn (λ_=>[]) b:=λ⟨_,z⟩=>by cases z
 cases fl with
 |nx=>exact λσ' G' H' F' e s=>h .non G' H' ⟨s.gg,λb o q t=>s.fr b o q nf t,e.sub,λ_=>e.tb,λb q=>(s.nw b q).imp id λz=>z.resolve_right nf⟩ .non
 |rt T fr =>
  refine λv G' H' r=>h v G' H' ⟨r.gg,λb o q t=>r.fm.fr b o q nf t,r.sub,λ_=>r.fm.tb,λb q=>(r.nw b q).imp id λz=>z.resolve_right nf⟩ ?_
  have z:=r.vl
  cases fr with
  |false=>exact z
  |true =>
   obtain⟨a,xs,ts,e1,e2,e3,_,e4⟩:=z
   exact⟨a,xs,ts,e1,e2,e3.resolve_right nf,e4⟩
 |bk=>exact h.elim
 |ct=>exact h.elim
noncomputable def Ey.nm:Ey->Str
 |.fn x .. => x
 |.gk x _=>x
noncomputable def fG(k:Nat)(N:List Str)(st:Stmt)(B R L:List Str):Gx:=⟨N,bV st,λ_=>true,B,R,false,k,L⟩
noncomputable def Af(N ps:List Str)(st:Stmt):Bool :=
 decide ((bV st).kind=.function) && !(bV st).isCoroutine && !(bV st).isGenerator&&decide N.Nodup&&decide (N.take ps.length=ps)&&decide (∀x∈ps,(bV st).names.lookup x=some .local\/(bV st).names.lookup x=some .cell)&&decide (∀y∈(bV st).names,y.2 ≠ .free)&&decide (ps.length<=N.length)
theorem RQ{st:Stmt}(h:Af N ps st=true):qy N ps (bV st)/\ps.length<=N.length:=by
 simp only[Af,an]at h
 obtain⟨⟨⟨⟨⟨⟨⟨h1,h2⟩,h3⟩,h4⟩,h5⟩,h6⟩,h7⟩,h8⟩:=h
 exact⟨⟨of_decide_eq_true h1,by simpa using h2,by simpa using h3,of_decide_eq_true h4,of_decide_eq_true h5,of_decide_eq_true h6,of_decide_eq_true h7⟩,of_decide_eq_true h8⟩
structure Kn(c:Cc)(B R:List Str):Prop where
 B:∀x∈B,c.mg x=none
 R:∀x∈R,OwnCls x (c.cl x) yM "ValueError.__new__" c.mg c.base
 x:lK c.K
noncomputable def clz(mg:Str->Option Value)(x:Str):Addr:=match mg x with
 |some (.ref k)=>k
 |_=>0
theorem Kn.mk'{P:Program}{w:World}{K:PySem.W.Frag}{mg:Str->Option Value}{base:Heap}{B R:List Str}(M:∀x∈B,mg x=none)(O:∀x∈R,∃k,OwnCls x k yM "ValueError.__new__" mg base) (XT:lK K):Kn ⟨P,w,K,mg,base,clz mg⟩ B R:=⟨M,λx m=>by
 obtain⟨k,o⟩:=O x m
 have e:clz mg x=k:=by unfold clz; rw[o.bound]
 subst e
 exact o,XT⟩
noncomputable def HD(x:Str)(st:Stmt)(ps:List Str):Prop:=∀(kV doc pm:Value) (an:Option Addr) (cdv ct:Value) (us:List Value),us.length=ps.length->bindArgs (PySem.W.fnOf x x (jE st) (gY st) (bV st) .none kV doc pm an cdv ct) ⟨us,[]⟩=pure (ps.zip us)
theorem RT:∀{ps:List Str} {us:List Value} {n:Str},us.length=ps.length->n∈ps->((ps.zip us).lookup n).isNone=false
 |p::ps,u::us,n,h,m=>by
  rw[List.zip_cons_cons,List.lookup_cons]
  cases e:n == p with
  |true=>rfl
  |false =>
   rcases List.mem_cons.mp m with z|z
   .rw[z]at e; simp at e
   .exact RT (by simpa using h) z
theorem RV{α β : Type}{f g : α -> Option β}:∀{l:List α},(∀n∈l,f n=g n)->l.filterMap f=l.filterMap g
 | [],_=>rfl
 |a::l,h=>by rw[List.filterMap_cons,List.filterMap_cons,h a (List.mem_cons_self ..),RV λn m=>h n (List.mem_cons_of_mem _ m)]
theorem RW:∀{ps:List Str} {us:List Value},ps.Nodup->us.length=ps.length->(ps.filterMap λn=>((ps.zip us).lookup n).map λx=>(n,x))=ps.zip us
 | [],us,_,_=>rfl
 |p::ps,u::us,d,h=>by
  obtain⟨d1,d2⟩:=List.nodup_cons.mp d
  have e:(ps.filterMap λn=>(((p::ps).zip (u::us)).lookup n).map λx=>(n,x))=ps.zip us:=by
   rw[<-RW d2 (by simpa using h)]
   exact RV λn m=>by rw[List.zip_cons_cons,List.lookup_cons,beq_false_of_ne (show n≠p from λz=>d1 (z▸m))]
  rw[List.filterMap_cons,e]
  simp
noncomputable def Ag(ps:List Str)(st:Stmt):Bool:=match jE st with
 |⟨[],as,none,[],[],none,[]⟩=>decide (as.map (·.arg)=ps)
 |_=>false
theorem RX{st:Stmt}(d:ps.Nodup)(h:Ag ps st=true):HD x st ps:=λkV doc pm an cdv ct us hl=>by
 unfold Ag at h
 split at h
 case h_2=>cases h
 rename_i as e
 have h:=of_decide_eq_true h
 have f:(ps.filter λn=>(List.lookup n (ps.zip us)).isNone)=[]:=List.filter_eq_nil_iff.mpr λn m=>by rw[RT hl m]; exact Bool.false_ne_true
 simp[bindArgs,PySem.W.fnOf,e,h,seqItems?,hl,List.take_of_length_le,f,RW d hl]
 rfl
noncomputable def HF(tb:List Ey)(l:List Ey):List Ey:=l.filterMap λy=>tb.find? λz=>z.nm == y.nm
theorem RZ{tb l:List Ey}(h:∀y∈tb,y.nF c)(e:l=HF tb l):∀y∈l,y.nF c:=λy m=>by
 rw[e]at m
 obtain⟨z,_,q⟩:=List.mem_filterMap.mp m
 exact h y (List.mem_of_find?_eq_some q)
noncomputable def vD(st:Stmt):List Str:=((bV st).names.filter λy=>y.2 == .local || y.2 == .cell).map (·.1)
noncomputable def psz(st:Stmt):List Str:=(jE st).args.map (·.arg)
noncomputable def oh:List Ey->Nat
 |.fn _ _ _ l::r=>max l (oh r)
 |_::r=>oh r
 | []=>0
theorem aO{st:Stmt}{B R:List Str}(T:VB b)(kn:Kn c B R)(h:∀y∈tb,y.nF c)(a:At c.K c.mg x st)(h1:(Af (vD st) (psz st) st&&Ag (psz st) st&&T.ck (fG (oh T.cs) (vD st) st B R []) (gY st))=true:=by kernel_rfl)(e:T.cs=HF tb T.cs:=by kernel_rfl):∀y ∈ .fn x (psz st) (aL (vD st).length b) (oh T.cs+1)::tb,y.nF c:=by
 obtain⟨h1,h2⟩:=an.mp h1
 obtain⟨h1,h3⟩:=an.mp h1
 obtain⟨S,hn⟩:=RQ h1
 have hb:HD x st (psz st):=RX (S.pre▸S.nd.sublist (List.take_sublist ..)) h3
 exact List.forall_mem_cons.mpr ⟨a.dfx S hb (λvs H Q E ⟨_,_,h,_⟩=>h) λf cdv A outer s H vs Q E hr q=>⟨_,T.ok (RZ h e) (⟨rfl,rfl,S.nd,rfl,hr,NT,kn.B,λx m=>⟨kn.R x m,NP⟩,kn.x,rfl,(λz=>by cases z),(λ_ z=>nomatch z)⟩:Ox c.cl (fG (oh T.cs) (vD st) st B R []) E (iJ (ig c.P c.w) c.P c.w c.K c.mg c.base (vD st) x (bV st) f cdv A outer s H E)) h2,RP hn q⟩,h⟩
theorem R0{st:Stmt}{B R:List Str}{k P:Addr}(N:List Str)(T:VB b)(kn:Kn c B R)(h:∀y∈tb,y.nF c)(a:qT c.K c.mg x st k)(L:uH c.K c.mg c.base x k P)(h1:(Af N (psz st) st&&Ag (psz st) st&&T.ck (fG (oh T.cs) N st B R [x]) (gY st))=true:=by kernel_rfl)(e:T.cs=HF tb T.cs:=by kernel_rfl):∀y ∈ .fn x (psz st) (aL N.length b) (oh T.cs+1)::tb,y.nF c:=by
 obtain⟨h1,h2⟩:=an.mp h1
 obtain⟨h1,h3⟩:=an.mp h1
 obtain⟨S,hn⟩:=RQ h1
 have hb:HD x st (psz st):=RX (S.pre▸S.nd.sublist (List.take_sublist ..)) h3
 exact List.forall_mem_cons.mpr ⟨a.ad8 S hb (λvs H Q E ⟨_,_,h,_⟩=>h) λf A outer s H vs Q E hr q=>⟨_,T.ok (RZ h e) (⟨rfl,rfl,S.nd,rfl,hr,NT,kn.B,λx m=>⟨kn.R x m,NP⟩,kn.x,rfl,(λz=>by cases z),List.forall_mem_cons.mpr ⟨⟨k,P,L,rfl,rfl⟩,(λ_ z=>nomatch z)⟩⟩:Ox c.cl (fG (oh T.cs) N st B R [x]) E (iJ (ig c.P c.w) c.P c.w c.K c.mg c.base N x (bV st) f (.ref k) A outer s H E)) h2,RP hn q⟩,h⟩
theorem fm{tb:List Ey}(x:Str){y:Ey}(h:(tb.find? λz=>z.nm == x)=some y):y∈tb:=List.mem_of_find?_eq_some h
noncomputable def R3:G2:=lR qL λi j=>i*2 ^ j.toNat
noncomputable def HJ:G2:=lR (λ_ j=>decide (0<=j)) λi j=>i / 2 ^ j.toNat
noncomputable def R4:G2:=gI Builtin.bitAnd
noncomputable abbrev dz{f g:EF}(a:VE f)(b:VE g):=v2 .Add DY nu (λ_=>adg) (λ_=>adh) a b
noncomputable abbrev sE{f g:EF}(a:VE f)(b:VE g):=v2 .Sub (λ_=>dh λi j=>.int (i-j)) uq (λ_=>Mf) (λ_=>adq) a b
noncomputable abbrev cX{f g:EF}(a:VE f)(b:VE g):=v2 .Mult Ea o8 (λ_=>adi) (λ_=>adl) a b
noncomputable abbrev fP{f g:EF}(a:VE f)(b:VE g):=v2 .FloorDiv (λ_=>rI xQ λi j=>.int (i.fdiv j)) xR (λ_=>adk) (λ_=>adn) a b
noncomputable abbrev eG{f g:EF}(a:VE f)(b:VE g):=v2 .Mod (λ_=>rI (λ_ j=>j≠0) λi j=>.int (i.fmod j)) xU (λ_=>abj) (λ_=>ado) a b
noncomputable abbrev HN{f g:EF}(a:VE f)(b:VE g):=v2 .Pow (λ_=>rI qx λi j=>.int (i ^ j.toNat)) tH (λ_=>Mg) (λ_=>adp) a b
noncomputable abbrev cY:Cq (jH):=⟨.Eq,Dr,λ_ h=>acC h,λ_=>ada⟩
noncomputable abbrev gF:Cq (iw):=⟨.NotEq,DP,λ_ h=>ac2 h,λ_=>adb⟩
noncomputable abbrev mK:Cq (qN):=⟨.Lt,Ef,λ_ h=>adw h,λ_=>adx⟩
noncomputable abbrev jN:Cq (Ec):=⟨.LtE,λ_=>dh λi j=>.bl (decide (i<=j)),λ_ _=>abo,λ_=>adu⟩
noncomputable abbrev Ah:Cq (Eb):=⟨.Gt,λ_=>dh λi j=>.bl (decide (j<i)),λ_ _=>abp,λ_=>adt⟩
noncomputable abbrev HS:Cq (Ed):=⟨.GtE,λ_=>dh λi j=>.bl (decide (j<=i)),λ_ _=>abq,λ_=>adv⟩
noncomputable abbrev Ai:Cq (jh id):=⟨.In,Ds,λ_ h=>acD h,λ_=>ade⟩
noncomputable abbrev R5:Cq (jh not):=⟨.NotIn,DN,λ_ h=>ac1 h,λ_=>adf⟩
noncomputable abbrev vH:Cq (oH id):=⟨.Is,λ_ x y H Q=>y=.non/\Q (.bl (decide (x=.non))) H,λ_ _=>abr,λ_=>Oq id⟩
noncomputable abbrev R6:Cq (oH not):=⟨.IsNot,λ_ x y H Q=>y=.non/\Q (.bl (!decide (x=.non))) H,λ_ _=>abt,λ_=>Oq not⟩
noncomputable abbrev afF{f g:EF}(a:VE f)(b:VE g):=v2 .LShift (λ_=>rI qx λi j=>.int (i*2 ^ j.toNat)) R3 (λ_=>abk) (λ_=>uo Ou) a b
noncomputable abbrev afG{f g:EF}(a:VE f)(b:VE g):=v2 .RShift (λ_=>rI (λ_ j=>0<=j) λi j=>.int (i / 2 ^ j.toNat)) HJ (λ_=>abl) (λ_=>uo λ_ _ h=>of_decide_eq_true h) a b
noncomputable abbrev afH{f g:EF}(a:VE f)(b:VE g):=v2 .BitAnd (λ_=>dh λi j=>.int (Builtin.bitAnd i j)) R4 (λ_=>abm) (λ_=>Om) a b
theorem bb{x:Str}{i:String}(h:bootBuiltins x=some (.builtin i))(n:x ≠ "__name__"):bootBuiltins x=some (.builtin i)∧x ≠ "__name__" ∧ ((∃j,Value.builtin i=.builtin j)∨∃j,Value.builtin i=.type j):=⟨h,n,.inl ⟨_,rfl⟩⟩
theorem bt{x:Str}{i:String}(h:bootBuiltins x=some (.type i))(n:x ≠ "__name__"):bootBuiltins x=some (.type i)∧x ≠ "__name__" ∧ ((∃j,Value.type i=.builtin j)∨∃j,Value.type i=.type j):=⟨h,n,.inr ⟨_,rfl⟩⟩
noncomputable abbrev bf{f:AF}(a:VA f):=vB "len" (.builtin "len") Eh (g1 d8) (bb (by decide +kernel) (by decide +kernel)) (λ_=>ady) (λ_=>qP adz) a
noncomputable abbrev HW{f:AF}(a:VA f):=vB "abs" (.builtin "abs") (λ_ xs H Q=>∃i,xs=[.int i]/\Q (.int (if i<0 then -i else i)) H) (g1 ur) (bb (by decide +kernel) (by decide +kernel)) (λ_=>abB) (λ_=>qP adA) a
noncomputable abbrev pZ{f:AF}(a:VA f):=vB "all" (.builtin "all") Dt (g1 qQ) (bb (by decide +kernel) (by decide +kernel)) (λo=>acF o.l) (λ_=>qP adD) a
noncomputable abbrev vInt{f:AF}(a:VA f):=vB "int" (.type "int") (λ_ xs H Q=>(∃i,xs=[.int i]/\Q (.int i) H)\/∃k,xs=[.bl k]/\Q (.int (if k then 1 else 0)) H) (g1 v8) (bt (by decide +kernel) (by decide +kernel)) (λ_=>abC) (λ_=>qP adB) a
noncomputable abbrev HX{f:AF}(a:VA f):=vB "list" (.type "list") (λK xs H Q=>∃p ys,xs=[.ref p]/\(aH K H p ys\/bw K H p ys)/\∀l,H l=none->Q (.ref l) (upd H l (.lst ys))) (g1 wg) (bt (by decide +kernel) (by decide +kernel)) (λ_=>acq) (λ_=>qP adC) a
noncomputable abbrev R7{f:AF}(a:VA f):=vB "sorted" (.builtin "sorted") Hg (g1 pW) (bb (by decide +kernel) (by decide +kernel)) (λ_=>ae2) (λ_=>qP ae9) a
noncomputable abbrev afI{f:EF}(a:VE f):=zq "int" .int ⟨by decide +kernel,by decide +kernel⟩ a
noncomputable abbrev R8{f:EF}(a:VE f):=zq "bool" .bool ⟨by decide +kernel,by decide +kernel⟩ a
noncomputable abbrev Aj{f:EF}(a:VE f):=zq "tuple" .tuple ⟨by decide +kernel,by decide +kernel⟩ a
noncomputable abbrev sG{f:EF}(a:VE f):=zq "list" .list ⟨by decide +kernel,by decide +kernel⟩ a
noncomputable abbrev iV(i:Nat){f:AF}(a:VA f):=vM "append" "list.append" Dg pK ⟨PySem.F.slot_list_append,PySem.F.type_list_append,λ_=>Dh⟩ aer i a
noncomputable abbrev R9(i:Nat){f:AF}(a:VA f):=vM "insert" "list.insert" Hh vo ⟨PySem.F.slot_list_insert,PySem.F.type_list_insert,λ_=>ae4⟩ afa i a
end L2
end
section
namespace L2
open PySem
section
variable {α β : Type}
theorem bk{r:Rs α}{f : α -> Rs β}{a : α}{s:Rs β}(h:r=.ok a)(k:f a=s):r.bind f=s:=by subst h; exact k
end
section
variable {ρ ρ1 ρ2 ρ3:En}{f g:SF}{fa fb:EF}{aa:AF}{T U:Tr}{b b':Bool}{r:Rs (Fl × En)}{i:Nat}{ps:List Rv}{as ts:List Tr}{z:Tr × Bool}{F:FP}{c d:BF}{x y:Rv}
theorem p7(h:f ρ=.ok (.nx,ρ1))(k:g ρ1=r):zB f g ρ = r:=bk h k
theorem afJ{g:GF}(h:fa ρ=.ok (.v T b,ρ1))(k:g T ρ1=.ok ρ2):rG fa g ρ=.ok (.nx,ρ2):=bk h (bk k rfl)
theorem Sd(h:fa ρ=.ok (.v (.lst ts) true,ρ1)):FT i fa ρ=.ok (.nx,ρ1.set i (.ow ts)):=bk h rfl
theorem vI(h:fa ρ=.ok (x,ρ1)):Gf fa ρ=.ok (.nx,ρ1):=bk h rfl
theorem Al(h:fa ρ=.ok (.v T b,ρ1)):Gg fa ρ=.ok (.rt T b,ρ1):=bk h rfl
theorem Sg(h:c ρ=.ok (false,ρ1))(k:g ρ1=r):Gh c f g ρ = r:=bk h ((if_neg Bool.false_ne_true).trans k)
theorem nx_(h:f ρ=.ok q):uX f ρ=.ok q:=by unfold uX; rw[h]; rfl
theorem vJ(h:f (jT n as)=.ok (.rt T b,ρ1)):aL n f as=.ok (T,b):=bk h rfl
theorem HY(h:f (jT n as)=.ok (.nx,ρ1)):aL n f as=.ok (.non,false):=bk h rfl
theorem fB(h:fa ρ=.ok (x,ρ1))(k:aa ρ1=.ok (ps,ρ2)):cF fa aa ρ=.ok (x::ps,ρ2):=bk h (bk k rfl)
theorem gH(h:aa ρ=.ok (ps,ρ1))(k:drs ρ1 ps=.ok as)(n:ps.any pJ=false)(e:F as=.ok z):iy F aa ρ=.ok (.v z.1 z.2,ρ1):=bk h (bk k (bk e (if_neg λq=>by rw[n]at q; exact Bool.false_ne_true q.1)))
theorem Ia(h:aa ρ=.ok (ps,ρ1))(k:drs ρ1 ps=.ok as)(e:G as=.ok z):mF G aa ρ=.ok (.v z.1 z.2,ρ1):=bk h (bk k (bk e rfl))
theorem op_(h:fa ρ=.ok (x,ρ1))(k:fb ρ1=.ok (y,ρ2))(u:dr ρ2 x=.ok T)(v:dr ρ2 y=.ok U)(e:G T U=.ok z):j5 G fa fb ρ=.ok (.v z.1 z.2,ρ2):=bk h (bk k (bk u (bk v (bk e rfl))))
theorem afK(h:fa ρ=.ok (.v T b,ρ1))(k:fb ρ1=.ok (.v U b',ρ2))(e:G T U=.ok z):j5 G fa fb ρ=.ok (.v z.1 z.2,ρ2):=op_ h k rfl rfl e
theorem Ib(h:fa ρ=.ok (x,ρ1))(k:dr ρ1 x=.ok T)(e:mQ T=.ok b):yP fa ρ=.ok (b,ρ1):=bk h (bk k (bk e rfl))
theorem Sh(h:c ρ=.ok (b,ρ1)):yQ c ρ=.ok (!b,ρ1):=bk h rfl
theorem ap_(h:fa ρ=.ok (.v T b,ρ1))(n:con ρ i=.ok as)(k:con ρ1 i=.ok ts)(l:ts.length<=100000):zA i pK (cF fa dR) ρ=.ok (.v .non false,cN i (ts++[T]) ρ1):=bk n (bk (fB h rfl) (bk rfl (bk k (bk (by unfold pK; exact if_pos l) rfl))))
end
noncomputable def cS(fl:Fl)(g:SF)(ρ : En):Rs (Fl × En):=match fl with
 |.nx=>g ρ
 |fl=>.ok (fl,ρ)
noncomputable def cB{α : Type}(b:Bool)(f g:En->Rs α)(ρ : En):Rs α := if b=true then f ρ else g ρ
noncomputable def W(r:Rs (Fl × En))(Q:Fl->En->Prop):Prop:=∃fl ρ,r=.ok (fl,ρ)/\Q fl ρ
noncomputable def BW(x:Rv)(ρ : En):Rs (Tr × Bool):=match x with
 |.v T fr=>.ok (T,fr)
 |.s i=>match ρ[i]? with
  |some (.ow ts)=>.ok (.lst ts,true)
  |_=>.bad
noncomputable def BX:Fl->Rs (Tr × Bool)
 |.rt T fr=>.ok (T,fr)
 |.nx=>.ok (.non,false)
 |_=>.bad
section
variable {α : Type}{ρ ρ1 ρ2 ρ3:En}{f g:SF}{fa fb:EF}{aa:AF}{T U V:Tr}{b b':Bool}{r:Rs (Fl × En)}{i j n:Nat}{ps:List Rv}{as ts us:List Tr}{F:FP}{c d:BF}{x y:Rv}{q:Rs (Bool × En)}{s:Rs (Rv × En)}{fl:Fl}{z:Tr × Bool}{u v:En->Rs α}{w:Rs α}{S:Sl}{Q Q0:Fl->En->Prop}{gf:GF}{fi:IF}
theorem YM(h:W (f ρ) λfl ρ1=>W (cS fl g ρ1) Q):W (zB f g ρ) Q:=by
 obtain⟨fl,ρ1,e,xu,ρ2,e',q⟩:=h
 refine⟨xu,ρ2,bk e ?_,q⟩
 cases fl <;> exact e'
theorem YQ(k:W (g ρ) Q):W (cS .nx g ρ) Q:=k
theorem Zf(k:Q (.rt T b) ρ):W (cS (.rt T b) g ρ) Q:=⟨_,_,rfl,k⟩
theorem Zg(k:Q .ct ρ):W (cS .ct g ρ) Q:=⟨_,_,rfl,k⟩
theorem Zh(k:Q .nx ρ):W (Qp ρ) Q:=⟨_,_,rfl,k⟩
theorem xT(h:b=true)(k:u ρ = w):cB b u v ρ = w:=(if_pos h).trans k
theorem xF(h:b=false)(k:v ρ = w):cB b u v ρ = w:=(if_neg (by rw[h]; exact Bool.false_ne_true)).trans k
theorem wT(h:b=true)(k:W (f ρ) Q):W (cB b f g ρ) Q:=by unfold cB; rw[if_pos h]; exact k
theorem wF(h:b=false)(k:W (g ρ) Q):W (cB b f g ρ) Q:=by unfold cB; rw[if_neg (by rw[h]; exact Bool.false_ne_true)]; exact k
theorem Zi(h:c ρ=.ok (b,ρ1))(k:W (cB b f g ρ1) Q):W (Gh c f g ρ) Q:=k.elim λfl k=>k.elim λρ2 k=>⟨fl,ρ2,bk h k.1,k.2⟩
theorem ZG(h:c ρ=.ok (b,ρ1))(k:cB b fa fb ρ1=s):uL c fa fb ρ = s:=bk h k
theorem xBA(h:c ρ=.ok (b,ρ1))(k:cB b d (λρ=>.ok (false,ρ)) ρ1=q):Et c d ρ = q:=bk h k
theorem Zn(h:c ρ=.ok (b,ρ1))(k:cB b (λρ=>.ok (true,ρ)) d ρ1=q):Eu c d ρ = q:=bk h k
theorem xEA(h:gh fa ρ=.ok (b,ρ1))(k:cB b fb (λρ=>.ok (eB false,ρ)) ρ1=s):Ew fa fb ρ = s:=bk h k
theorem ZJ(h:gh fa ρ=.ok (b,ρ1))(k:cB b (λρ=>.ok (eB true,ρ)) fb ρ1=s):Ez fa fb ρ = s:=bk h k
theorem xOv(h:d ρ=.ok (b',ρ)):cB b (λρ=>.ok (true,ρ)) d ρ=.ok (b || b',ρ):=by cases b <;> first|exact h|rfl
theorem xAv(h:d ρ=.ok (b',ρ)):cB b d (λρ=>.ok (false,ρ)) ρ=.ok (b&&b',ρ):=by cases b <;> first|exact h|rfl
theorem xOV(h:fb ρ=.ok (.v (.bl b') false,ρ)):cB b (λρ=>.ok (eB true,ρ)) fb ρ=.ok (.v (.bl (b || b')) false,ρ):=by cases b <;> first|exact h|rfl
theorem xAV(h:fb ρ=.ok (.v (.bl b') false,ρ)):cB b fb (λρ=>.ok (eB false,ρ)) ρ=.ok (.v (.bl (b&&b')) false,ρ):=by cases b <;> first|exact h|rfl
theorem ZK(h:gh fa ρ=.ok (b,ρ1)):EY fa ρ=.ok (.v (.bl (!b)) false,ρ1):=bk h rfl
theorem Zm(h:c ρ=.ok (b,ρ1)):yQ c ρ=.ok (!b,ρ1):=bk h rfl
theorem Zj(h:fa ρ=.ok (x,ρ1))(k:dr ρ1 x=.ok T)(e:qm T=.ok b):gh fa ρ=.ok (b,ρ1):=bk h (bk k (bk e rfl))
theorem Zk(h:fa ρ=.ok (x,ρ1))(k:dr ρ1 x=.ok T)(e:mQ T=.ok b):yP fa ρ=.ok (b,ρ1):=bk h (bk k (bk e rfl))
theorem YS(h:fa ρ=.ok (.v T b,ρ1))(e : ρ1.set i (.sh T) = ρ2)(k:Q .nx ρ2):W (rG fa (gN i) ρ) Q:=⟨_,_,e▸bk h rfl,k⟩
theorem wAg(h:fa ρ=.ok (.v T b,ρ1))(k:gf T ρ1=.ok ρ2)(q:Q .nx ρ2):W (rG fa gf ρ) Q:=⟨_,_,bk h (bk k rfl),q⟩
theorem xG2(e:T=.tup [U,V])(h : ρ.set i (.sh U) = ρ1)(k : ρ1.set j (.sh V) = ρ2):gT 2 (j8 (gN i) (j8 (gN j) uU)) T ρ=.ok ρ2:=by subst e h k; rfl
theorem xG3{k':Nat}{W:Tr}(e:T=.tup [U,V,W])(h : ρ.set i (.sh U) = ρ1)(k : ρ1.set j (.sh V) = ρ2)(l : ρ2.set k' (.sh W) = ρ3):gT 3 (j8 (gN i) (j8 (gN j) (j8 (gN k') uU))) T ρ=.ok ρ3:=by subst e h k l; rfl
theorem xGN(e : ρ.set i (.sh T) = ρ1):gN i T ρ=.ok ρ1:=by subst e; rfl
theorem Zz(h:fa ρ=.ok (.v T true,ρ1))(l:T=.lst ts)(e : ρ1.set i (.ow ts) = ρ2)(k:Q .nx ρ2):W (FT i fa ρ) Q:=by subst l e; exact⟨_,_,bk h rfl,k⟩
noncomputable def Ie(i:Nat)(T:Tr)(b:Bool)(ρ : En):En:=match b,T with
 |true,.lst ts=>ρ.set i (.ow ts)
 |_,T=>ρ.set i (.sh T)
theorem ZD(l:T=.lst ts)(e : ρ.set i (.ow ts) = ρ1):Ie i T true ρ = ρ1:=by subst l; exact e
theorem ZF(e : ρ.set i (.sh T) = ρ1):Ie i T false ρ = ρ1:=e
theorem ZC(h:fa ρ=.ok (.v T b,ρ1))(e:Ie i T b ρ1 = ρ2)(k:Q .nx ρ2):W (RL i fa ρ) Q:=⟨_,_,bk h (by subst e; cases b <;> cases T <;> rfl),k⟩
theorem Zq(h:fa ρ=.ok (x,ρ1))(k:Q .nx ρ1):W (Gf fa ρ) Q:=⟨_,_,bk h rfl,k⟩
theorem Zo(h:fa ρ=.ok (x,ρ1))(k:BW x ρ1=.ok (T,b))(q:Q (.rt T b) ρ1):W (Gg fa ρ) Q:=⟨_,_,bk h (by
 cases x with
 |v T fr=>cases k; rfl
 |s i =>
  show(match ρ1[i]? with|some (.ow ts)=>_|_=>_)=_
  unfold BW at k
  dsimp only at k ⊢
  split at k <;> cases k
  rfl),q⟩
theorem ZQ(h:aa ρ=.ok (ps,ρ1))(k:cls ps=.ok [T,U])(e : ρ1.set i (.sh T) = ρ2)(e' : ρ2.set j (.sh U) = ρ3)(q:Q .nx ρ3):W (Qv i j aa ρ) Q:=by subst e e'; exact⟨_,_,bk h (bk k rfl),q⟩
theorem tD(h:fa ρ=.ok (x,ρ1))(k:aa ρ1=.ok (ps,ρ2)):cF fa aa ρ=.ok (x::ps,ρ2):=bk h (bk k rfl)
theorem tE{G:G2}(h:fa ρ=.ok (x,ρ1))(k:fb ρ1=.ok (y,ρ2))(u:dr ρ2 x=.ok T)(v:dr ρ2 y=.ok U)(e:G T U=.ok (V,b)):j5 G fa fb ρ=.ok (.v V b,ρ2):=bk h (bk k (bk u (bk v (bk e rfl))))
theorem ZL{G:G1}(h:fa ρ=.ok (x,ρ1))(u:dr ρ1 x=.ok T)(e:G T=.ok (V,b)):Er G fa ρ=.ok (.v V b,ρ1):=bk h (bk u (bk e rfl))
theorem ZM{G G':G2}{fc:EF}{b1:Bool}(h:fa ρ=.ok (x,ρ1))(k:fb ρ1=.ok (y,ρ2))(u:dr ρ2 x=.ok T)(v:dr ρ2 y=.ok U)(e:G T U=.ok (.bl b,b1))(l:cB b (λρ=>(fc ρ).bind λs=>(dr s.2 y).bind λb=>(dr s.2 s.1).bind λc=>(G' b c).bind λz=>.ok (Rv.v z.1 z.2,s.2)) (λρ=>.ok (eB false,ρ)) ρ2=s):Fb G G' fa fb fc ρ = s:=bk h (bk k (bk u (bk v (bk e (bk rfl l)))))
theorem ZP{G':G2}{fc:EF}(h:fc ρ=.ok (x,ρ1))(u:dr ρ1 y=.ok T)(v:dr ρ1 x=.ok U)(e:G' T U=.ok (V,b)):((fc ρ).bind λs=>(dr s.2 y).bind λb=>(dr s.2 s.1).bind λc=>(G' b c).bind λz=>.ok (Rv.v z.1 z.2,s.2))=.ok (Rv.v V b,ρ1):=bk h (bk u (bk v (bk e rfl)))
theorem xC1{G:G1}(h:fa ρ=.ok (x,ρ1))(k:dr ρ1 x=.ok U)(e:G U=.ok (T,b)):mF (g1 G) (cF fa dR) ρ=.ok (.v T b,ρ1):=bk (bk h rfl) (bk (bk k rfl) (bk e rfl))
theorem xC2{G:G2}(h:aa ρ=.ok (ps,ρ1))(k:drs ρ1 ps=.ok [U,V])(e:G U V=.ok (T,b)):mF (g2 G) aa ρ=.ok (.v T b,ρ1):=bk h (bk k (bk e rfl))
theorem YT(h:aa ρ=.ok (ps,ρ1))(k:drs ρ1 ps=.ok as)(e:F as=.ok (T,b))(n:(ps.any pJ && !rC (T,b))=false):iy F aa ρ=.ok (.v T b,ρ1):=bk h (bk k (bk e (if_neg λq=>by rw[q.1,q.2]at n; cases n)))
theorem Zv(h:fa ρ=.ok (x,ρ1))(k:dr ρ1 x=.ok T):Qk ty fa ρ=.ok (.v (.bl (qH T ty)) false,ρ1):=bk h (bk k rfl)
theorem Zw(h:aa ρ=.ok (ps,ρ1))(k:cls ps=.ok ts)(l:ts.length<=1000):Qc aa ρ=.ok (.v (.lst ts) true,ρ1):=bk h (bk k (if_pos l))
theorem Zx(h:aa ρ=.ok (ps,ρ1))(k:cls ps=.ok ts)(l:ts.length<=1000):Qd aa ρ=.ok (.v (.tup ts) false,ρ1):=bk h (bk k (if_pos l))
theorem Zy(h:fa ρ=.ok (.v T b,ρ1))(n:con ρ i=.ok as)(k : ρ1[i]?=some (.ow ts))(l:ts.length<=100000)(e : ρ1.set i (.ow (ts++[T])) = ρ2):zA i pK (cF fa dR) ρ=.ok (.v .non false,ρ2):=by
 have c:con ρ1 i=.ok ts:=by unfold con; rw[k]
 have u:cN i (ts++[T]) ρ1 = ρ2:=by unfold cN; rw[k]; exact e
 exact u▸ap_ h n c l
theorem Zr(h:W (f ρ) Q):W (uX f ρ) Q:=h.elim λ_ h=>h.elim λ_ h=>⟨_,_,nx_ h.1,h.2⟩
theorem Zt(h:fi ρ=.ok (us,ρ1))(k:W (jK gf f us ρ1) Q):W (Qz fi gf f ρ) Q:=k.elim λ_ k=>k.elim λ_ k=>⟨_,_,bk h k.1,k.2⟩
theorem wLp{β : Type}{t : β -> Tr}{xs:List β}(P:Nat->En->Prop)(h0:P 0 ρ)(hs:∀k x ρ,xs[k]?=some x->P k ρ -> ∃ρ1,gf (t x) ρ=.ok ρ1/\W (f ρ1) λfl ρ2=>match fl with
  |.nx=>P (k+1) ρ2
  |.ct=>P (k+1) ρ2
  |.bk=>Q .nx ρ2
  |.rt T b=>Q (.rt T b) ρ2) (hk:∀ρ,P xs.length ρ -> Q .nx ρ):W (jK gf f (xs.map t) ρ) Q:=by
 have go:∀(ys:List β) (k:Nat) (ρ : En),k<=xs.length->xs.drop k=ys->P k ρ -> W (jK gf f (ys.map t) ρ) Q:=λys=>by
  induction ys with
  |nil =>
   intro k ρ l e p
   obtain rfl:k=xs.length:=Nat.le_antisymm l (List.drop_eq_nil_iff.mp e)
   exact⟨_,_,rfl,hk _ p⟩
  |cons x ys ih =>
   intro k ρ l e p
   have g:xs[k]?=some x:=by rw[<-List.head?_drop,e]; rfl
   have d:xs.drop (k+1)=ys:=by rw[<-List.tail_drop,e]; rfl
   have l':k+1<=xs.length:=(List.getElem?_eq_some_iff.mp g).1
   obtain⟨ρ1,e1,fl,ρ2,e2,q⟩:=hs k x ρ g p
   have st:jK gf f ((x::ys).map t) ρ = _:=bk e1 (bk e2 rfl)
   cases fl with
   |nx=>obtain⟨a,b,h,q⟩:=ih (k+1) ρ2 l' d q; exact⟨a,b,st.trans h,q⟩
   |ct=>obtain⟨a,b,h,q⟩:=ih (k+1) ρ2 l' d q; exact⟨a,b,st.trans h,q⟩
   |bk=>exact⟨_,_,st,q⟩
   |rt T b=>exact⟨_,_,st,q⟩
 exact go xs 0 ρ (Nat.zero_le _) rfl h0
noncomputable def pt(ρ : En):List (Nat × Sl)->En
 | []=>ρ
 |(i,s)::r=>pt (ρ.set i s) r
theorem wG{t:Tr}(h:gf t ρ=.ok ρ1)(k:W (f ρ1) Q):∃ρ1,gf t ρ=.ok ρ1/\W (f ρ1) Q:=⟨_,h,k⟩
theorem kj{σ β : Type}{t : β -> Tr}{xs:List β}(js:List Nat)(A : σ -> List (Nat × Sl))(I:Nat -> σ -> Prop)(s0 : σ)(i0:I 0 s0)(h0 : ρ = pt (pt ρ (js.map λj=>(j,ρ.getD j .un))) (A s0))(hs:∀k x (v:Nat->Sl) s,xs[k]?=some x->I k s->∃ρ1,gf (t x) (pt (pt ρ (js.map λj=>(j,v j))) (A s))=.ok ρ1/\W (f ρ1) λfl ρ2=>match fl with
  |.nx=>∃s,I (k+1) s/\∃v:Nat->Sl,ρ2=pt (pt ρ (js.map λj=>(j,v j))) (A s)
  |.ct=>∃s,I (k+1) s/\∃v:Nat->Sl,ρ2=pt (pt ρ (js.map λj=>(j,v j))) (A s)
  |.bk=>Q .nx ρ2
  |.rt T b=>Q (.rt T b) ρ2) (hk:∀(v:Nat->Sl) s,I xs.length s->Q .nx (pt (pt ρ (js.map λj=>(j,v j))) (A s))):W (jK gf f (xs.map t) ρ) Q :=
 wLp (λk ρ'=>∃s,I k s/\∃v:Nat->Sl,ρ'=pt (pt ρ (js.map λj=>(j,v j))) (A s)) ⟨s0,i0,λj=>ρ.getD j .un,h0⟩ (λk x _ g h=>h.elim λs h=>h.2.elim λv q=>by subst q; exact hs k x v s g h.1) λ_ h=>h.elim λs h=>h.2.elim λv q=>by subst q; exact hk v s h.1
theorem jt{σ : Type}{n:Nat}{t:Nat->Tr}(js:List Nat)(A : σ -> List (Nat × Sl))(I:Nat -> σ -> Prop)(s0 : σ)(i0:I 0 s0)(h0 : ρ = pt (pt ρ (js.map λj=>(j,ρ.getD j .un))) (A s0))(hs:∀k (v:Nat->Sl) s,k<n->I k s->∃ρ1,gf (t k) (pt (pt ρ (js.map λj=>(j,v j))) (A s))=.ok ρ1/\W (f ρ1) λfl ρ2=>match fl with
  |.nx=>∃s,I (k+1) s/\∃v:Nat->Sl,ρ2=pt (pt ρ (js.map λj=>(j,v j))) (A s)
  |.ct=>∃s,I (k+1) s/\∃v:Nat->Sl,ρ2=pt (pt ρ (js.map λj=>(j,v j))) (A s)
  |.bk=>Q .nx ρ2
  |.rt T b=>Q (.rt T b) ρ2) (hk:∀(v:Nat->Sl) s,I n s->Q .nx (pt (pt ρ (js.map λj=>(j,v j))) (A s))):W (jK gf f ((List.range n).map t) ρ) Q :=
 kj js A I s0 i0 h0 (λk x v s g=>by
  obtain⟨l,rfl⟩:=List.getElem?_eq_some_iff.mp g
  rw[List.getElem_range]
  exact hs k v s (by simpa using l)) (by rw[List.length_range]; exact hk)
theorem p8{n:Nat}{t:Nat->Tr}(js:List Nat)(A:Nat->List (Nat × Sl))(h0 : ρ = pt (pt ρ (js.map λj=>(j,ρ.getD j .un))) (A 0))(hs:∀k (v:Nat->Sl),k<n->∃ρ1,gf (t k) (pt (pt ρ (js.map λj=>(j,v j))) (A k))=.ok ρ1/\W (f ρ1) λfl ρ2=>match fl with
  |.nx=>∃v:Nat->Sl,ρ2=pt (pt ρ (js.map λj=>(j,v j))) (A (k+1))
  |.ct=>∃v:Nat->Sl,ρ2=pt (pt ρ (js.map λj=>(j,v j))) (A (k+1))
  |.bk=>Q .nx ρ2
  |.rt T b=>Q (.rt T b) ρ2) (hk:∀v:Nat->Sl,Q .nx (pt (pt ρ (js.map λj=>(j,v j))) (A n))):W (jK gf f ((List.range n).map t) ρ) Q :=
 jt js A (λk s=>s=k) 0 rfl h0 (λk v s l e=>by
  subst e
  obtain⟨ρ1,e,fl,ρ2,h,q⟩:=hs s v l
  refine⟨ρ1,e,fl,ρ2,h,?_⟩
  cases fl
  .exact⟨_,rfl,q⟩
  .exact q
  .exact q
  .exact⟨_,rfl,q⟩) λv s e=>by subst e; exact hk v
theorem Ig{σ : Type}{fu:En->Nat}(js:List Nat)(A : σ -> List (Nat × Sl))(I : σ -> Prop)(μ : σ -> Nat)(s0 : σ)(i0:I s0)(h0 : ρ = pt (pt ρ (js.map λj=>(j,ρ.getD j .un))) (A s0))(hm : μ s0<fu ρ)(hs:∀(v:Nat->Sl) s,I s->∃b ρ1,c (pt (pt ρ (js.map λj=>(j,v j))) (A s))=.ok (b,ρ1)/\if b=true then W (f ρ1) (λfl ρ2=>match fl with
  |.nx=>∃s',I s'/\μ s' < μ s/\∃v:Nat->Sl,ρ2=pt (pt ρ (js.map λj=>(j,v j))) (A s')
  |.rt T b=>Q (.rt T b) ρ2
  |_=>False)else Q .nx ρ1):W (Qy fu c f ρ) Q:=by
 have go:∀(n:Nat) (v:Nat->Sl) (s : σ),I s -> μ s<n->W (uY c f n (pt (pt ρ (js.map λj=>(j,v j))) (A s))) Q:=λn=>by
  induction n with
  |zero=>exact λ_ _ _ h=>absurd h (Nat.not_lt_zero _)
  |succ n ih =>
   intro v s i h
   obtain⟨b,ρ1,e,q⟩:=hs v s i
   cases b with
   |false=>exact⟨_,_,bk e (if_neg Bool.false_ne_true),by simpa using q⟩
   |true =>
    rw[if_pos rfl]at q
    obtain⟨fl,ρ2,e2,q⟩:=q
    cases fl with
    |nx =>
     obtain⟨s',i',l,v',rfl⟩:=q
     obtain⟨a,b,h,q⟩:=ih v' s' i' (by omega)
     exact⟨a,b,bk e ((if_pos rfl).trans (bk e2 h)),q⟩
    |rt T b=>exact⟨_,_,bk e ((if_pos rfl).trans (bk e2 rfl)),q⟩
    |bk=>exact q.elim
    |ct=>exact q.elim
 have z:=go (fu ρ) (λj=>ρ.getD j .un) s0 i0 hm
 rw[<-h0]at z
 exact z
theorem pT{P R:Prop}(h:b=true)(k:P):if b=true then P else R:=by rw[if_pos h]; exact k
theorem pF{P R:Prop}(h:b=false)(k:R):if b=true then P else R:=by rw[if_neg (by rw[h]; exact Bool.false_ne_true)]; exact k
theorem Sq{P R : α -> Prop}{a : α}(h:P a)(k:R a):∃a,P a/\R a:=⟨_,h,k⟩
theorem sH(h:c ρ=.ok (b,ρ1)){P:Bool->En->Prop}(k:P b ρ1):∃b ρ1,c ρ=.ok (b,ρ1)/\P b ρ1:=⟨_,_,h,k⟩
theorem YL{l l':En}{S':Sl}(h:S=S')(k:l=l'):S::l=S'::l':=h▸k▸rfl
theorem exV{R:(Nat->Sl)->En}(e : ρ = R λj=>ρ.getD j .un):∃v,ρ = R v:=⟨_,e⟩
theorem Ih{σ : Type}(A : σ -> List (Nat × Sl))(I : σ -> Prop)(h:W (f ρ) λfl ρ'=>fl=.nx/\∃s,I s/\ρ'=pt ρ (A s))(k:∀s,I s->Q .nx (pt ρ (A s))):W (f ρ) Q:=by
 obtain⟨fl,ρ',e,rfl,s,i,rfl⟩:=h
 exact⟨_,_,e,k s i⟩
theorem Zu(h:fa ρ=.ok (x,ρ1))(u:BZ x=.ok (us,b)):rK fa ρ=.ok (us,ρ1):=bk h (bk u rfl)
theorem ZR(e:cH i ρ = ρ1)(k:W (f ρ1) Q):W (Qw i f ρ) Q:=by subst e; exact k
theorem ZS(h : ρ[i]?=some (.ow ts))(e : ρ.set i (.sh (.lst ts)) = ρ1):cH i ρ = ρ1:=by unfold cH; rw[h]; exact e
theorem ZV(h : ρ[i]?=some (.dp ts))(e : ρ.set i (.ow ts) = ρ1)(k:W (f ρ1) Q):W (G8 i f ρ) Q:=by subst e; unfold G8 rT; rw[h]; exact k
theorem ZW{c:BF}(e:vw ρ = ρ2)(h:c ρ2=.ok (b,ρ1)):Hx c ρ=.ok (b,ρ):=by subst e; unfold Hx; rw[h]; rfl
theorem ZX{l h:OF}{lo hi:Option Int}(e:fa ρ=.ok (x,ρ1))(k:l ρ1=.ok (lo,ρ2))(k':h ρ2=.ok (hi,ρ3))(u:dr ρ3 x=.ok T)(q:jR lo hi T=.ok (V,b)):zj fa l h ρ=.ok (.v V b,ρ3):=bk e (bk k (bk k' (bk u (bk q rfl))))
theorem Z0{m:Int}(h:fa ρ=.ok (x,ρ1))(k:dr ρ1 x=.ok (.int m)):zf fa ρ=.ok (some m,ρ1):=bk h (bk k rfl)
theorem KC(e:jT n as = ρ)(h:W (f ρ) λfl _=>BX fl=.ok z):aL n f as=.ok z:=by
 subst e
 obtain⟨fl,ρ1,h,k⟩:=h
 refine bk h ?_
 cases fl <;> first|exact k|(cases k; done)
theorem wFe{R:Tr × Bool->Prop}(e:jT n as = ρ)(h:W (f ρ) λfl _=>∃z,BX fl=.ok z/\R z):∃z,aL n f as=.ok z/\R z:=by
 obtain⟨fl,ρ1,h,z,k,q⟩:=h
 exact⟨z,KC e ⟨fl,ρ1,h,k⟩,q⟩
theorem Z1{n:Nat}(h:fa ρ=.ok (x,ρ1))(d:dr ρ1 x=.ok (.int (n:Int)))(hn:n<=1000):QH (cF fa dR) ρ=.ok ((List.range n).map λi:Nat=>Tr.int i,ρ1):=by
 have u:∀(m:Nat) (lo:Nat),L2.upTo (lo:Int) m=(List.range' lo m).map λi:Nat=>Tr.int i:=λm=>by
  induction m with
  |zero=>exact λ_=>rfl
  |succ m ih=>exact λlo=>congrArg (Tr.int lo :: ·) (ih (lo+1))
 have u:=u n 0
 rw[<-List.range_eq_range']at u
 exact bk (tD h rfl) (bk (show drs ρ1 [x]=.ok [.int (n:Int)]from bk d rfl) ((if_pos (by unfold okR; simp; omega)).trans (by rw[Int.toNat_natCast]; exact congrArg (λl=>Rs.ok (l,ρ1)) u)))
theorem Ss{α : Type}{r h : α -> Tr}{fr : α -> Bool}{τ : En}{fe:EF}:∀(xs:List α) (s:Sl),(∀x∈xs,fe (.sh (r x)::τ)=.ok (.v (h x) (fr x),.sh (r x)::τ))->∃s',fO (gN 0) jc fe (xs.map r) (s::τ)=.ok (xs.map h,s'::τ)
 | [],s,_=>⟨s,rfl⟩
 |x::xs,s,q=>by
  obtain⟨s',e'⟩:=Ss xs (.sh (r x)) λv hv=>q v (List.mem_cons_of_mem _ hv)
  exact⟨s',bk (a:=.sh (r x)::τ) rfl (bk rfl ((if_pos rfl).trans (bk (q x (List.mem_cons_self ..)) (bk rfl (bk e' rfl)))))⟩
theorem Z2{β : Type}{t h : β -> Tr}{fr : β -> Bool}{xs:List β}{rest:List (Option Nat)}{fe:EF}{τ : En}(hi:fi ρ=.ok (us,ρ))(hu:us=xs.map t)(hτ : dZ rest ρ = τ)(hs:∀s,eU (none::rest) (s::τ) ρ = true)(hd:∀s,bA (none::rest) (s::τ) ρ = ρ)
  (hf:∀x∈xs,fe (.sh (t x)::τ)=.ok (.v (h x) (fr x),.sh (t x)::τ)) (hl:xs.length<=100000):rQ (none::rest) fi (gN 0) jc fe ρ=.ok (.v (.lst (xs.map h)) true,ρ):=by
 subst hu hτ
 obtain⟨s,e⟩:=Ss xs .un hf
 refine bk hi ((if_pos (by rw[List.length_map]; exact hl)).trans ?_)
 show(fM (fO _ _ _ _ (Sl.un::dZ rest ρ))).bind _=_
 rw[e]
 refine bk rfl ((if_pos (hs s)).trans ?_)
 rw[hd s]
theorem Ii{α : Type}{r : α -> Tr}{p : α -> Bool}{τ : En}:∀(xs:List α) (s:Sl),(∀x∈xs,c (.sh (r x)::τ)=.ok (p x,.sh (r x)::τ))->∃s',fO (gN 0) c (bx 0) (xs.map r) (s::τ)=.ok ((xs.filter p).map r,s'::τ)
 | [],s,_=>⟨s,rfl⟩
 |x::xs,s,q=>by
  obtain⟨s',e'⟩:=Ii xs (.sh (r x)) λv hv=>q v (List.mem_cons_of_mem _ hv)
  refine⟨s',bk (a:=.sh (r x)::τ) rfl (bk (q x (List.mem_cons_self ..)) ?_)⟩
  rw[List.filter_cons]
  cases p x
  .exact(if_neg Bool.false_ne_true).trans e'
  .exact(if_pos rfl).trans (bk rfl (bk rfl (bk e' rfl)))
theorem Z6{β : Type}{t : β -> Tr}{p : β -> Bool}{xs:List β}{rest:List (Option Nat)}{τ : En}(hi:fi ρ=.ok (us,ρ))(hu:us=xs.map t)(hτ : dZ rest ρ = τ)(hs:∀s,eU (none::rest) (s::τ) ρ = true)(hd:∀s,bA (none::rest) (s::τ) ρ = ρ)
  (hf:∀x∈xs,c (.sh (t x)::τ)=.ok (p x,.sh (t x)::τ)) (hl:xs.length<=100000):rQ (none::rest) fi (gN 0) c (bx 0) ρ=.ok (.v (.lst ((xs.filter p).map t)) true,ρ):=by
 subst hu hτ
 obtain⟨s,e⟩:=Ii xs .un hf
 refine bk hi ((if_pos (by rw[List.length_map]; exact hl)).trans ?_)
 show(fM (fO _ _ _ _ (Sl.un::dZ rest ρ))).bind _=_
 rw[e]
 refine bk rfl ((if_pos (hs s)).trans ?_)
 rw[hd s]
theorem Z8{β : Type}{t : β -> Tr}{p : β -> Bool}{xs:List β}{rest:List (Option Nat)}{τ : En}(hi:con ρ n=.ok us)(hu:us=xs.map t)(hτ : dZ rest ρ = τ)(hs:∀s,eU (none::rest) (s::τ) ρ = true)(hd:∀s,bA (none::rest) (s::τ) ρ = ρ)
  (hf:∀x∈xs,c (.sh (t x)::τ)=.ok (p x,.sh (t x)::τ)) (hl:xs.length<=100000):GX (none::rest) n (gN 0) c (bx 0) ρ=.ok (.v (.lst ((xs.filter p).map t)) true,ρ):=by
 subst hu hτ
 obtain⟨s,e⟩:=Ii xs .un hf
 refine bk hi ((if_pos (by rw[List.length_map]; exact hl)).trans ?_)
 show(fM (fO _ _ _ _ (Sl.un::dZ rest ρ))).bind _=_
 rw[e]
 refine bk rfl ((if_pos (hs s)).trans ?_)
 rw[hd s]
theorem Z9{m:Nat}(h:aa ρ=.ok (ps,ρ1))(k:cls ps=.ok [.int m,T])(n:con ρ i=.ok as)(q : ρ1[i]?=some (.ow ts))(l:m<=ts.length)(l':ts.length<=100000)(e : ρ1.set i (.ow (ts.take m++T::ts.drop m)) = ρ2):zA i vo aa ρ=.ok (.v .non false,ρ2):=by
 have c:con ρ1 i=.ok ts:=by unfold con; rw[q]
 have u:cN i (ts.take m++T::ts.drop m) ρ1 = ρ2:=by unfold cN; rw[q]; exact e
 exact u▸bk n (bk h (bk k (bk c (bk (a:=(ts.take m++T::ts.drop m,Tr.non)) (if_pos ⟨Int.natCast_nonneg m,l,l'⟩) rfl))))
theorem Z7{m:Nat}(h:fa ρ=.ok (.v T b,ρ1))(k:T=.int (m:Int))(l:m<=1000):Rq (cF fa dR) ρ=.ok (.v (.lst ((List.range m).map λi:Nat=>Tr.int i)) true,ρ1):=by
 subst k
 exact bk (tD h rfl) ((if_pos ⟨Int.natCast_nonneg m,by omega⟩).trans (by rw[Int.toNat_natCast]))
theorem Sv{α : Type}{a b h : α -> Tr}{fr : α -> Bool}{τ : En}{fe:EF}:∀(xs:List α) (s s':Sl),(∀x∈xs,fe (.sh (a x) :: .sh (b x)::τ)=.ok (.v (h x) (fr x),.sh (a x) :: .sh (b x)::τ))->∃t t',fO (gT 2 (j8 (gN 0) (j8 (gN 1) uU))) jc fe (xs.map λx=>.tup [a x,b x]) (s::s'::τ)=.ok (xs.map h,t::t'::τ)
 | [],s,s',_=>⟨s,s',rfl⟩
 |x::xs,s,s',q=>by
  obtain⟨t,t',e⟩:=Sv xs (.sh (a x)) (.sh (b x)) λv hv=>q v (List.mem_cons_of_mem _ hv)
  exact⟨t,t',bk (a:=.sh (a x) :: .sh (b x)::τ) rfl (bk rfl ((if_pos rfl).trans (bk (q x (List.mem_cons_self ..)) (bk rfl (bk e rfl)))))⟩
theorem Z4{β : Type}{a b h : β -> Tr}{fr : β -> Bool}{xs:List β}{rest:List (Option Nat)}{fe:EF}{τ : En}(hi:fi ρ=.ok (us,ρ))(hu:us=xs.map λx=>.tup [a x,b x])(hτ : dZ rest ρ = τ)(hs:∀s s',eU (none::none::rest) (s::s'::τ) ρ = true)(hd:∀s s',bA (none::none::rest) (s::s'::τ) ρ = ρ)
  (hf:∀x∈xs,fe (.sh (a x) :: .sh (b x)::τ)=.ok (.v (h x) (fr x),.sh (a x) :: .sh (b x)::τ)) (hl:xs.length<=100000):rQ (none::none::rest) fi (gT 2 (j8 (gN 0) (j8 (gN 1) uU))) jc fe ρ=.ok (.v (.lst (xs.map h)) true,ρ):=by
 subst hu hτ
 obtain⟨s,s',e⟩:=Sv xs .un .un hf
 refine bk hi ((if_pos (by rw[List.length_map]; exact hl)).trans ?_)
 show(fM (fO _ _ _ _ (Sl.un::Sl.un::dZ rest ρ))).bind _=_
 rw[e]
 refine bk rfl ((if_pos (hs s s')).trans ?_)
 rw[hd s s']
theorem Z5{aa:AF}{T U:Tr}{us vs:List Tr}{b b':Bool}{ρ ρ1:En}(h:aa ρ=.ok ([.v T b,.v U b'],ρ1))(e:T=.lst us)(e':U=.lst vs):QJ aa ρ=.ok (j9 us vs,ρ1):=by subst e e'; exact bk h rfl
theorem YZ{a b:Int}:nu (.int a) (.int b)=.ok (.int (a+b),false):=rfl
theorem Zc(h:ts.length+us.length<=100000):nu (.lst ts) (.lst us)=.ok (.lst (ts++us),true):=if_pos h
theorem Y0{a b:Int}:uq (.int a) (.int b)=.ok (.int (a-b),false):=rfl
theorem Y4{a b:Int}:qN (.int a) (.int b)=.ok (.bl (decide (a<b)),false):=rfl
theorem Y5{a b:Int}:Eb (.int a) (.int b)=.ok (.bl (decide (b<a)),false):=rfl
theorem Y6{a b:Int}:Ec (.int a) (.int b)=.ok (.bl (decide (a<=b)),false):=rfl
theorem Y7{a b:Int}:Ed (.int a) (.int b)=.ok (.bl (decide (b<=a)),false):=rfl
theorem Ze{a b:Int}(h:dH a b=true):o8 (.int a) (.int b)=.ok (.int (a*b),false):=if_pos h
theorem cMr{a b:Int}(h : -18446744073709551616<b/\b<18446744073709551616):dH a b=true:=by
 have h:tiny b=true:=by unfold tiny; rw[decide_eq_true h.1,decide_eq_true h.2]; rfl
 unfold dH
 rw[h,Bool.or_true]
theorem cMl{a b:Int}(h : -18446744073709551616<a/\a<18446744073709551616):dH a b=true:=by
 have h:tiny a=true:=by unfold tiny; rw[decide_eq_true h.1,decide_eq_true h.2]; rfl
 unfold dH
 rw[h,Bool.or_true,Bool.true_or]
theorem Kz{a b:Int}(h:0<b)(k:b<2 ^ 64):iH a b=true:=by
 unfold iH
 rw[decide_eq_true (show b≠0 by omega),Bool.true_and,decide_eq_true_eq]
 have:=(Nat.log2_lt (n:=b.natAbs) (k:=64) (by omega)).mpr (by omega)
 omega
theorem Ku{a b:Int}(h:iH a b=true):xR (.int a) (.int b)=.ok (.int (a.fdiv b),false):=if_pos h
theorem Ks{a b:Int}(h:b≠0):xU (.int a) (.int b)=.ok (.int (a.fmod b),false):=if_pos (decide_eq_true h)
theorem Y8{a b:Int}:jH (.int a) (.int b)=.ok (.bl (decide (a=b)),false):=by
 have d:∀i,dep (.int i)=0:=λi=>by unfold dep; rfl
 refine(if_pos ⟨by rw[d]; omega,by rw[d]; omega⟩).trans ?_
 unfold eqT
 rfl
theorem Ca{a b:Int}:iw (.int a) (.int b)=.ok (.bl (!decide (a=b)),false):=by
 have d:∀i,dep (.int i)=0:=λi=>by unfold dep; rfl
 refine(if_pos ⟨by rw[d]; omega,by rw[d]; omega⟩).trans ?_
 unfold eqT
 rfl
theorem Zd{a:Int}(h:0<=a):ur (.int a)=.ok (.int a,false):=by
 show Rs.ok (Tr.int (if a<0 then -a else a),false)=_
 rw[if_neg (by omega)]
theorem jw{a b:Str}(h:(a == b)=false):jH (.str a) (.str b)=.ok (.bl false,false):=by
 have d:∀i,dep (.str i)=0:=λi=>by unfold dep; rfl
 refine(if_pos ⟨by rw[d]; omega,by rw[d]; omega⟩).trans ?_
 unfold eqT
 rw[h]
theorem Cd{a:Str}:jH (.str a) (.str a)=.ok (.bl true,false):=by
 have d:∀i,dep (.str i)=0:=λi=>by unfold dep; rfl
 refine(if_pos ⟨by rw[d]; omega,by rw[d]; omega⟩).trans ?_
 unfold eqT
 rw[beq_self_eq_true]
theorem xSN{a b:Str}(h:(a == b)=false):iw (.str a) (.str b)=.ok (.bl true,false):=by
 have d:∀i,dep (.str i)=0:=λi=>by unfold dep; rfl
 refine(if_pos ⟨by rw[d]; omega,by rw[d]; omega⟩).trans ?_
 unfold eqT
 rw[h]
 rfl
theorem Y9{a:Str}:iw (.str a) (.str a)=.ok (.bl false,false):=by
 have d:∀i,dep (.str i)=0:=λi=>by unfold dep; rfl
 refine(if_pos ⟨by rw[d]; omega,by rw[d]; omega⟩).trans ?_
 unfold eqT
 rw[beq_self_eq_true]
 rfl
theorem Za:d8 (.lst ts)=.ok (.int ts.length,false):=rfl
theorem Ce{β : Type}{h : β -> Tr}{l:List β}:d8 (.lst (l.map h))=.ok (.int l.length,false):=by rw[<-List.length_map (as:=l) h]; rfl
theorem Zb:d8 (.tup ts)=.ok (.int ts.length,false):=rfl
theorem YJ(h:b=false):(!b)=true:=by rw[h]; rfl
theorem YK(h:b=true):(!b)=false:=by rw[h]; rfl
section
variable {a0 a1 a2 a3 a4 a5 a6 a7 a8 a9 a10 a11 a12 a13 a14:Sl}{l:En}
theorem st0:(a0::l).set 0 S=S::l:=rfl
theorem st1:(a0::a1::l).set 1 S=a0::S::l:=rfl
theorem st2:(a0::a1::a2::l).set 2 S=a0::a1::S::l:=rfl
theorem st3:(a0::a1::a2::a3::l).set 3 S=a0::a1::a2::S::l:=rfl
theorem oF:(a0::a1::a2::a3::a4::l).set 4 S=a0::a1::a2::a3::S::l:=rfl
theorem gO:(a0::a1::a2::a3::a4::a5::l).set 5 S=a0::a1::a2::a3::a4::S::l:=rfl
theorem YW:(a0::a1::a2::a3::a4::a5::a6::l).set 6 S=a0::a1::a2::a3::a4::a5::S::l:=rfl
theorem fU:(a0::a1::a2::a3::a4::a5::a6::a7::l).set 7 S=a0::a1::a2::a3::a4::a5::a6::S::l:=rfl
theorem YX{m:Nat}{l':En}(h:l.set m S=l'):(a0::a1::a2::a3::a4::a5::a6::a7::l).set (m+8) S=a0::a1::a2::a3::a4::a5::a6::a7::l':=h▸rfl
end
end
end L2
end
section
namespace BH
open PySem L2
noncomputable abbrev Sw:=(bC (sN (sW (HB 1) (tK (aN gF (aj 1) (vC (.int 0)))) (b1 (Ga 0 1 (ak (aj 1) (ak (eG (aj 0) (aj 1)) ao)))))) (b1 (aC (HW (ak (aj 0) ao)))))
noncomputable abbrev afL:SF:=by exists Sw
noncomputable def Sx:FP:=aL 2 afL
noncomputable abbrev Ij{f:AF}(a:VA f):=vF "common_divisor" ["one", "other"] Sx 1 a
noncomputable abbrev Sy:=(bC (sI (tK (aN cY (aj 1) (vC (.int 0)))) (b1 (pL "NoBottom" (vC (.str "a fraction has no bottom of 0")))) b0) (bC (sA 2 (aE (Ij (ak (aj 0) (ak (aj 1) ao))))) (bC (sI (tK (aN mK (aj 1) (vC (.int 0)))) (b1 (sA 2 (aE (Es (aj 2))))) b0) (b1 (aC (fL (ak (fP (aj 0) (aj 2)) (ak (fP (aj 1) (aj 2)) ao))))))))
noncomputable abbrev afM:SF:=by exists Sy
noncomputable def SJ:FP:=aL 3 afM
noncomputable abbrev SM{f:AF}(a:VA f):=vF "fraction_of" ["top", "bottom"] SJ 2 a
noncomputable abbrev SN:=(b1 (aC (SM (ak (dz (cX (aq (aj 0) (vC (.int 0))) (aq (aj 1) (vC (.int 1)))) (cX (aq (aj 1) (vC (.int 0))) (aq (aj 0) (vC (.int 1))))) (ak (cX (aq (aj 0) (vC (.int 1))) (aq (aj 1) (vC (.int 1)))) ao)))))
noncomputable abbrev afN:SF:=by exists SN
noncomputable def SQ:FP:=aL 2 afN
noncomputable abbrev afO{f:AF}(a:VA f):=vF "frac_sum" ["one", "other"] SQ 3 a
noncomputable abbrev SX:=(b1 (aC (SM (ak (cX (aq (aj 0) (vC (.int 0))) (aq (aj 1) (vC (.int 0)))) (ak (cX (aq (aj 0) (vC (.int 1))) (aq (aj 1) (vC (.int 1)))) ao)))))
noncomputable abbrev afP:SF:=by exists SX
noncomputable def Am:FP:=aL 2 afP
noncomputable abbrev Ao{f:AF}(a:VA f):=vF "frac_times" ["one", "other"] Am 3 a
noncomputable abbrev S5:=(b1 (aC (vK (aN mK (cX (aq (aj 0) (vC (.int 0))) (aq (aj 1) (vC (.int 1)))) (cX (aq (aj 1) (vC (.int 0))) (aq (aj 0) (vC (.int 1))))))))
noncomputable abbrev afQ:SF:=by exists S5
noncomputable def S6:FP:=aL 2 afQ
noncomputable abbrev afR{f:AF}(a:VA f):=vF "frac_below" ["one", "other"] S6 1 a
noncomputable abbrev S7:=(b1 (aC (vV .And (uA (afI (aj 0)) (u1 .And (PN (R8 (aj 0))))))))
noncomputable abbrev afS:SF:=by exists S7
noncomputable def S8:FP:=aL 1 afS
noncomputable abbrev vL{f:AF}(a:VA f):=vF "is_whole" ["thing"] S8 1 a
noncomputable abbrev S9:=(bC (sI (tW .Or (wO (cM (bZ (Aj (aj 0)))) (w1 .Or (tK (aN gF (bf (ak (aj 0) ao)) (vC (.int 2))))))) (b1 (aC (vC (.bl false)))) b0) (bC (uW (aj 0) (gA 2 (bL (gV 1) (bL (gV 2) gq)))) (bC (sI (tW .Or (wO (cM (bZ (vL (ak (aj 1) ao)))) (w1 .Or (cM (bZ (vL (ak (aj 2) ao))))))) (b1 (aC (vC (.bl false)))) b0) (b1 (aC (vV .And (uA (vK (aN HS (aj 2) (vC (.int 1)))) (u1 .And (vK (aN cY (Ij (ak (aj 1) (ak (aj 2) ao))) (vC (.int 1))))))))))))
noncomputable abbrev afT:SF:=by exists S9
noncomputable def Tc:FP:=aL 3 afT
noncomputable abbrev Td{f:AF}(a:VA f):=vF "is_fraction" ["thing"] Tc 2 a
noncomputable abbrev Tf:=(b1 (aC (vV .And (uA (Td (ak (aj 0) ao)) (u1 .And (vK (qX jN jN (vC (.int 0)) (aq (aj 0) (vC (.int 0))) (aq (aj 0) (vC (.int 1))))))))))
noncomputable abbrev afU:SF:=by exists Tf
noncomputable def Tj:FP:=aL 1 afU
noncomputable abbrev afV{f:AF}(a:VA f):=vF "is_worth" ["thing"] Tj 3 a
noncomputable abbrev Tn:=(bC (sI (tW .Or (wO (cM (bZ (sG (aj 0)))) (w1 .Or (cM (tK (qX jN jN (vC (.int 1)) (bf (ak (aj 0) ao)) (aj 1))))))) (b1 (aC (vC (.bl false)))) b0) (b1 (aC (pZ (ak (eZ (cC [none] ["part"] (bM (aj 0)) (gV 0) (afV (ak (aj 0) ao)))) ao)))))
noncomputable abbrev afW:SF:=by exists Tn
noncomputable def Tp:FP:=aL 2 afW
noncomputable abbrev afX{f:AF}(a:VA f):=vF "are_worths" ["thing", "most"] Tp 4 a
noncomputable abbrev Tw:=(bC (sI (tW .Or (wO (cM (bZ (sG (aj 0)))) (w1 .Or (cM (tK (qX jN jN (vC (.int 1)) (bf (ak (aj 0) ao)) (vG "MOST_LISTS" (.int 4)))))))) (b1 (aC (vC (.bl false)))) b0) (bC (sI (cM (bZ (pZ (ak (eZ (cC [none] ["row"] (bM (aj 0)) (gV 0) (afX (ak (aj 0) (ak (vG "MOST_THINGS" (.int 12)) ao))))) ao)))) (b1 (aC (vC (.bl false)))) b0) (b1 (aC (pZ (ak (eZ (cC [none,some 0] ["row", "thing"] (bM (aj 0)) (gV 0) (vK (aN cY (bf (ak (aj 0) ao)) (bf (ak (aq (aj 1) (vC (.int 0))) ao)))))) ao))))))
noncomputable abbrev afY:SF:=by exists Tw
noncomputable def Tz:FP:=aL 1 afY
noncomputable abbrev afZ{f:AF}(a:VA f):=vF "is_book" ["thing"] Tz 5 a
noncomputable abbrev TF:=(bC (sA 1 (aE (vC (.int 1)))) (bC (sN (sF (bM (aj 0)) (gA 2 (bL (gV 2) (bL (gV 3) gq))) (b1 (sA 1 (aE (fP (cX (aj 1) (aj 3)) (Ij (ak (aj 1) (ak (aj 3) ao))))))))) (b1 (aC (aj 1)))))
noncomputable abbrev af0:SF:=by exists TF
noncomputable def TJ:FP:=aL 4 af0
noncomputable abbrev Ik{f:AF}(a:VA f):=vF "common_bottom" ["fractions"] TJ 2 a
noncomputable abbrev TQ:=(bC (sA 1 (aE (Ik (ak (aj 0) ao)))) (b1 (aC (eZ (cC [none,none,some 1] ["top", "own", "bottom"] (bM (aj 0)) (gA 2 (bL (gV 0) (bL (gV 1) gq))) (cX (aj 0) (fP (aj 2) (aj 1))))))))
noncomputable abbrev af2:SF:=by exists TQ
noncomputable def Il:FP:=aL 2 af2
noncomputable abbrev Im{f:AF}(a:VA f):=vF "tops_on_one_bottom" ["fractions"] Il 3 a
noncomputable abbrev TV:=(bC (sA 1 (aE (Im (ak (aj 0) ao)))) (b1 (aC (Rx kyI "falling_places" "place" ["tops"] [some 1] (ak (bf (ak (aj 1) ao)) ao) (Hr (Hq (rZ 1) (rZ 0)))))))
noncomputable abbrev af3:SF:=by exists TV
noncomputable def sJ:FP:=aL 2 af3
noncomputable abbrev ou{f:AF}(a:VA f):=vF "falling_places" ["fractions"] sJ 4 a
noncomputable abbrev TY:=(b1 (aC (vV .And (uA (vL (ak (aj 0) ao)) (u1 .And (vK (qX jN mK (vC (.int 0)) (aj 0) (aj 1))))))))
noncomputable abbrev af4:SF:=by exists TY
noncomputable def T3:FP:=aL 2 af4
noncomputable abbrev Io{f:AF}(a:VA f):=vF "is_place" ["thing", "many"] T3 2 a
noncomputable abbrev T4:=(b1 (sI (cM (bZ (afZ (ak (aj 0) ao)))) (b1 (pL "NoBook" (vC (.str "this is no book")))) b0))
noncomputable abbrev af5:SF:=by exists T4
noncomputable def T5:FP:=aL 1 af5
noncomputable abbrev T6{f:AF}(a:VA f):=vF "need_book" ["book"] T5 6 a
noncomputable abbrev af6:=(b1 (sI (cM (bZ (Io (ak (aj 1) (ak (bf (ak (aj 0) ao)) ao))))) (b1 (pL "NoList" (vC (.str "the book has no list of this number")))) b0))
noncomputable abbrev af7:SF:=by exists af6
noncomputable def T7:FP:=aL 2 af7
noncomputable abbrev af8{f:AF}(a:VA f):=vF "need_list" ["book", "place"] T7 3 a
noncomputable abbrev af9:=(bC (dw (T6 (ak (aj 0) ao))) (bC (dw (af8 (ak (aj 0) (ak (aj 1) ao)))) (b1 (aC (ou (ak (aq (aj 0) (aj 1)) ao))))))
noncomputable abbrev aga:SF:=by exists af9
noncomputable def agb:FP:=aL 2 aga
noncomputable abbrev T8:=(bC (sI (tW .Or (wO (cM (bZ (sG (aj 0)))) (w1 .Or (tK (aN gF (bf (ak (aj 0) ao)) (aj 1)))))) (b1 (aC (vC (.bl false)))) b0) (b1 (aC (pZ (ak (eZ (cC [none] ["part"] (bM (aj 0)) (gV 0) (vV .And (uA (Td (ak (aj 0) ao)) (u1 .And (vK (aN HS (aq (aj 0) (vC (.int 0))) (vC (.int 0))))))))) ao)))))
noncomputable abbrev agc:SF:=by exists T8
noncomputable def T9:FP:=aL 2 agc
noncomputable abbrev agd{f:AF}(a:VA f):=vF "are_weights" ["thing", "many"] T9 3 a
noncomputable abbrev Ua:=(bC (sI (cM (bZ (Aj (aj 0)))) (b1 (aC (vC (.bl false)))) b0) (bC (sI (tK (aN gF (bf (ak (aj 0) ao)) (vC (.int 2)))) (b1 (aC (vK (aN Ai (aj 0) (vG "BARE_RULES" (.tup [(.tup [(.str "least")]),(.tup [(.str "greatest")]),(.tup [(.str "product")])])))))) b0) (bC (uW (aj 0) (gA 2 (bL (gV 2) (bL (gV 3) gq)))) (bC (sI (tK (aN cY (aj 2) (vC (.str "shares")))) (b1 (aC (agd (ak (aj 3) (ak (aj 1) ao))))) b0) (b1 (aC (vV .And (uA (vK (aN cY (aj 2) (vC (.str "middle")))) (uA (vL (ak (aj 3) ao)) (u1 .And (vK (qX jN jN (vC (.int 1)) (aj 3) (aj 1)))))))))))))
noncomputable abbrev agf:SF:=by exists Ua
noncomputable def Ub:FP:=aL 4 agf
noncomputable abbrev agg{f:AF}(a:VA f):=vF "is_rule" ["thing", "many"] Ub 4 a
noncomputable abbrev Uc:=(bC (sA 2 (aE (mD [.int 0,.int 1]))) (bC (sN (sF (iZ (ak (aj 0) (ak (aj 1) ao))) (gA 2 (bL (gV 3) (bL (gV 4) gq))) (b1 (sA 2 (aE (afO (ak (aj 2) (ak (Ao (ak (aj 3) (ak (aj 4) ao))) ao)))))))) (b1 (aC (aj 2)))))
noncomputable abbrev agh:SF:=by exists Uc
noncomputable def Ud:FP:=aL 5 agh
noncomputable abbrev agi{f:AF}(a:VA f):=vF "shares_worth" ["weights", "worths"] Ud 4 a
noncomputable abbrev Ue:=(bC (sA 1 (aE (mD [.int 1,.int 1]))) (bC (sN (sF (bM (aj 0)) (gV 2) (b1 (sA 1 (aE (Ao (ak (aj 1) (ak (aj 2) ao)))))))) (b1 (aC (aj 1)))))
noncomputable abbrev agj:SF:=by exists Ue
noncomputable def Ug:FP:=aL 3 agj
noncomputable abbrev agk{f:AF}(a:VA f):=vF "product_worth" ["worths"] Ug 4 a
noncomputable abbrev Uh:=(bC (sI (tK (aN cY (aq (aj 0) (vC (.int 0))) (vC (.str "greatest")))) (b1 (aC (vC (.int 1)))) b0) (bC (sI (tK (aN cY (aq (aj 0) (vC (.int 0))) (vC (.str "least")))) (b1 (aC (aj 1))) b0) (b1 (aC (aq (aj 0) (vC (.int 1)))))))
noncomputable abbrev agl:SF:=by exists Uh
noncomputable def Ui:FP:=aL 2 agl
noncomputable abbrev agm{f:AF}(a:VA f):=vF "place_of" ["rule", "many"] Ui 1 a
noncomputable abbrev Uj:=(bC (sI (tK (aN cY (aq (aj 0) (vC (.int 0))) (vC (.str "shares")))) (b1 (aC (agi (ak (aq (aj 0) (vC (.int 1))) (ak (aj 1) ao))))) b0) (bC (sI (tK (aN cY (aq (aj 0) (vC (.int 0))) (vC (.str "product")))) (b1 (aC (agk (ak (aj 1) ao)))) b0) (b1 (aC (aq (aj 1) (aq (ou (ak (aj 1) ao)) (sE (agm (ak (aj 0) (ak (bf (ak (aj 1) ao)) ao))) (vC (.int 1)))))))))
noncomputable abbrev agn:SF:=by exists Uj
noncomputable def gJ:FP:=aL 2 agn
noncomputable abbrev Uk{f:AF}(a:VA f):=vF "worth_by" ["rule", "worths"] gJ 5 a
noncomputable abbrev Ul:=(bC (dw (T6 (ak (aj 0) ao))) (b1 (sI (cM (bZ (agg (ak (aj 1) (ak (bf (ak (aj 0) ao)) ao))))) (b1 (pL "NoRule" (vC (.str "this is no rule for the book's lists")))) b0)))
noncomputable abbrev ago:SF:=by exists Ul
noncomputable def Um:FP:=aL 2 ago
noncomputable abbrev agp{f:AF}(a:VA f):=vF "need_book_and_rule" ["book", "rule"] Um 7 a
noncomputable abbrev Uo:=(b1 (aC (eZ (cC [none,some 1] ["row", "thing"] (bM (aj 0)) (gV 0) (aq (aj 0) (aj 1))))))
noncomputable abbrev agq:SF:=by exists Uo
noncomputable def Uq:FP:=aL 2 agq
noncomputable abbrev agr{f:AF}(a:VA f):=vF "worths_of" ["book", "thing"] Uq 1 a
noncomputable abbrev Ur:=(b1 (aC (vV .And (uA (vL (ak (aj 0) ao)) (u1 .And (vK (qX jN jN (vC (.int 0)) (aj 0) (aj 1))))))))
noncomputable abbrev ags:SF:=by exists Ur
noncomputable def Ut:FP:=aL 2 ags
noncomputable abbrev Uu{f:AF}(a:VA f):=vF "is_count" ["thing", "many"] Ut 2 a
noncomputable abbrev Uv:=(b1 (sI (cM (bZ (Uu (ak (aj 1) (ak (bf (ak (aq (aj 0) (vC (.int 0))) ao)) ao))))) (b1 (pL "NoCount" (vC (.str "this is no count of the book's things")))) b0))
noncomputable abbrev agt:SF:=by exists Uv
noncomputable def Uw:FP:=aL 2 agt
noncomputable abbrev agu{f:AF}(a:VA f):=vF "need_count" ["book", "count"] Uw 3 a
noncomputable abbrev Ux:=(bC (dw (agp (ak (aj 0) (ak (aj 1) ao)))) (b1 (dw (agu (ak (aj 0) (ak (aj 2) ao))))))
noncomputable abbrev agv:SF:=by exists Ux
noncomputable def Uy:FP:=aL 3 agv
noncomputable abbrev agw{f:AF}(a:VA f):=vF "need_book_rule_and_count" ["book", "rule", "count"] Uy 8 a
noncomputable abbrev Uz:=(b1 (aC (pZ (ak (eZ (cC [none,none] ["one", "other"] (iZ (ak (aj 0) (ak (uP (aj 0) (oS (vC (.int 1))) oN) ao))) (gA 2 (bL (gV 0) (bL (gV 1) gq))) (vK (aN mK (aj 0) (aj 1))))) ao))))
noncomputable abbrev agx:SF:=by exists Uz
noncomputable def UG:FP:=aL 1 agx
noncomputable abbrev agy{f:AF}(a:VA f):=vF "are_rising" ["parts"] UG 1 a
noncomputable abbrev UJ:=(b1 (aC (eZ (cC [none] ["row"] (bM (aj 0)) (gV 0) (ou (ak (aj 0) ao))))))
noncomputable abbrev agz:SF:=by exists UJ
noncomputable def UL:FP:=aL 1 agz
noncomputable abbrev UW{f:AF}(a:VA f):=vF "read_orders" ["book"] UL 5 a
noncomputable abbrev U0:=(bC (sI (tW .Or (wO (cM (bZ (sG (aj 0)))) (w1 .Or (tK (aN gF (bf (ak (aj 0) ao)) (aj 1)))))) (b1 (aC (vC (.bl false)))) b0) (b1 (aC (pZ (ak (eZ (cC [none,some 2] ["part", "many"] (bM (aj 0)) (gV 0) (Uu (ak (aj 0) (ak (aj 1) ao))))) ao)))))
noncomputable abbrev agA:SF:=by exists U0
noncomputable def U3:FP:=aL 3 agA
noncomputable abbrev agB{f:AF}(a:VA f):=vF "are_depths" ["thing", "lists", "many"] U3 3 a
noncomputable abbrev U4:=(bC (sI (tW .Or (wO (cM (bZ (Aj (aj 0)))) (w1 .Or (tK (aN gF (bf (ak (aj 0) ao)) (vC (.int 2))))))) (b1 (aC (vC (.bl false)))) b0) (b1 (aC (vV .And (uA (Io (ak (aq (aj 0) (vC (.int 0))) (ak (aj 1) ao))) (u1 .And (Io (ak (aq (aj 0) (vC (.int 1))) (ak (aj 2) ao)))))))))
noncomputable abbrev agC:SF:=by exists U4
noncomputable def U5:FP:=aL 3 agC
noncomputable abbrev agD{f:AF}(a:VA f):=vF "is_ask" ["thing", "lists", "many"] U5 3 a
noncomputable abbrev U6:=(bC (sI (tW .Or (wO (cM (bZ (sG (aj 0)))) (w1 .Or (cM (bZ (pZ (ak (eZ (cC [none,some 1,some 2] ["part", "lists", "many"] (bM (aj 0)) (gV 0) (agD (ak (aj 0) (ak (aj 1) (ak (aj 2) ao)))))) ao))))))) (b1 (aC (vC (.bl false)))) b0) (b1 (aC (agy (ak (aj 0) ao)))))
noncomputable abbrev agE:SF:=by exists U6
noncomputable def U7:FP:=aL 3 agE
noncomputable abbrev agF{f:AF}(a:VA f):=vF "are_asked" ["thing", "lists", "many"] U7 4 a
noncomputable abbrev U8:=(bC (Ga 2 3 (ak (bf (ak (aj 0) ao)) (ak (bf (ak (aq (aj 0) (vC (.int 0))) ao)) ao))) (bC (sI (tW .Or (wO (cM (bZ (Aj (aj 1)))) (w1 .Or (tK (aN gF (bf (ak (aj 1) ao)) (vC (.int 2))))))) (b1 (pL "NoLooks" (vC (.str "looks are a tuple of depths and what is asked")))) b0) (b1 (sI (tW .Or (wO (cM (bZ (agB (ak (aq (aj 1) (vC (.int 0))) (ak (aj 2) (ak (aj 3) ao)))))) (w1 .Or (cM (bZ (agF (ak (aq (aj 1) (vC (.int 1))) (ak (aj 2) (ak (aj 3) ao))))))))) (b1 (pL "NoLooks" (vC (.str "these are no looks of the book")))) b0))))
noncomputable abbrev agG:SF:=by exists U8
noncomputable def U9:FP:=aL 4 agG
noncomputable abbrev agH{f:AF}(a:VA f):=vF "need_looks" ["book", "looks"] U9 5 a
noncomputable abbrev Va:=(bC (uW (aj 1) (gA 2 (bL (gV 2) (bL (gV 3) gq)))) (bC (sCd 4 [none] ["row"] (bM (aj 0)) (gV 0) (cX (Fo [.non]) (bf (ak (aj 0) ao)))) (bC (sN (sF (iEn (ak (UW (ak (aj 0) ao)) ao)) (gA 2 (bL (gV 5) (bL (gV 6) gq))) (b1 (sF (bM (uP (aj 6) oN (oS (aq (aj 2) (aj 5))))) (gV 7) (b1 (RJ 4 5 7 (aq (aq (aj 0) (aj 5)) (aj 7)))))))) (bC (sN (sF (bM (aj 3)) (gA 2 (bL (gV 5) (bL (gV 7) gq))) (b1 (RJ 4 5 7 (aq (aq (aj 0) (aj 5)) (aj 7)))))) (b1 (sD 4 (aC (aj 4))))))))
noncomputable abbrev agI:SF:=by exists Va
noncomputable def Vb:FP:=aL 8 agI
noncomputable abbrev agJ{f:AF}(a:VA f):=vF "seen_by" ["book", "looks"] Vb 6 a
noncomputable abbrev Vc:=(bC (sO 3 (aE (dM ao))) (bC (sN (sF (dW (ak (bf (ak (aq (aj 1) (vC (.int 0))) ao)) ao)) (gV 4) (bC (sA 5 (aE (agr (ak (aj 1) (ak (aj 4) ao))))) (bC (sA 6 (cC [none] ["worth"] (bM (aj 5)) (gV 0) (yS (tK (aN vH (aj 0) (vC .non))) (vG "NOTHING" (.tup [(.int 0),(.int 1)])) (aj 0)))) (bC (sA 7 (cC [none,none] ["worth", "last"] (iZ (ak (aj 5) (ak (aj 2) ao))) (gA 2 (bL (gV 0) (bL (gV 1) gq))) (yS (tK (aN vH (aj 0) (vC .non))) (aj 1) (aj 0)))) (b1 (dw (iV 3 (ak (fL (ak (Uk (ak (aj 0) (ak (aj 6) ao))) (ak (Uk (ak (aj 0) (ak (aj 7) ao))) ao))) ao))))))))) (b1 (aC (aj 3)))))
noncomputable abbrev agK:SF:=by exists Vc
noncomputable def Vd:FP:=aL 8 agK
noncomputable abbrev agL{f:AF}(a:VA f):=vF "bounds_by" ["rule", "seen", "lasts"] Vd 6 a
noncomputable abbrev Ve:=(bC (sA 2 (GR [none,some 1] ["thing", "things"] (dW (ak (bf (ak (aj 0) ao)) ao)) (gV 0) (tK (aN R5 (aj 0) (aj 1))) (aj 0))) (bC (sI (tW .Or (wO (cM (bZ (aj 1))) (w1 .Or (cM (bZ (aj 2)))))) (b1 (aC (vC .non))) b0) (bC (sA 3 (cC [none,some 0] ["thing", "bounds"] (bM (aj 1)) (gV 0) (aq (aq (aj 1) (aj 0)) (vC (.int 0))))) (bC (sA 4 (cC [none,some 0] ["thing", "bounds"] (bM (aj 2)) (gV 0) (aq (aq (aj 1) (aj 0)) (vC (.int 1))))) (b1 (aC (fL (ak (aq (aj 1) (aq (ou (ak (aj 3) ao)) (Es (vC (.int 1))))) (ak (aq (aj 2) (aq (ou (ak (aj 4) ao)) (vC (.int 0)))) ao)))))))))
noncomputable abbrev agM:SF:=by exists Ve
noncomputable def Vf:FP:=aL 5 agM
noncomputable abbrev agN{f:AF}(a:VA f):=vF "weakest_and_rival" ["bounds", "things"] Vf 5 a
noncomputable abbrev Vg:=(bC (sA 2 (aE (agN (ak (aj 0) (ak (aj 1) ao))))) (bC (sI (tK (aN vH (aj 2) (vC .non))) (b1 (aC (vC (.bl true)))) b0) (bC (uW (aj 2) (gA 2 (bL (gV 3) (bL (gV 4) gq)))) (b1 (aC (PN (afR (ak (aq (aq (aj 0) (aj 3)) (vC (.int 0))) (ak (aq (aq (aj 0) (aj 4)) (vC (.int 1))) ao)))))))))
noncomputable abbrev agO:SF:=by exists Vg
noncomputable def Aq:FP:=aL 5 agO
noncomputable abbrev agP{f:AF}(a:VA f):=vF "are_sure" ["bounds", "things"] Aq 6 a
noncomputable def fT(x:Int × Int):Tr:=.tup [.int x.1,.int x.2]
noncomputable def aJ(l:List (Int × Int)):Tr:=.lst (l.map fT)
noncomputable def aU(ls:List (List (Int × Int))):Tr:=.lst (ls.map aJ)
noncomputable def Wo(x:Int × Int):Prop:=0<=x.1/\x.1<=x.2/\1<=x.2/\x.2<=1000000000000/\Int.gcd x.1 x.2=1
noncomputable instance (x:Int × Int):Decidable (Wo x):=by unfold Wo; infer_instance
noncomputable def Shp(c:Nat)(ls:List (List (Int × Int))):Prop:=∀l∈ls,l.length=c/\∀x∈l,Wo x
noncomputable def Bk(c:Nat)(ls:List (List (Int × Int))):Prop:=1<=ls.length/\ls.length<=4/\1<=c/\c<=12/\Shp c ls
theorem Vh{k:Int}{M:Nat}(h:k.natAbs<2 ^ M)(hM:M<=8900):k.natAbs.log2<9000:=by
 by_cases z:k.natAbs=0
 .rw[z]; decide
 .have:=(Nat.log2_lt (n:=k.natAbs) (k:=M) z).mpr h
  lia
theorem Vi(h:k.natAbs<2 ^ M)(hM:M<=8900):fit k=true:=by
 have:=Vh h hM
 unfold fit
 rw[decide_eq_true_eq]
 lia
theorem kE(h1:i.natAbs<2 ^ M)(hM:M<=8900)(h2:j.natAbs<2 ^ N)(hN:N<=8900):dH i j=true:=by
 unfold dH
 rw[Vi h1 hM,Vi h2 hN]
 rfl
theorem Ar(h0:j≠0)(h:j.natAbs<2 ^ M)(hM:M<=8900):iH i j=true:=by
 unfold iH
 rw[Bool.and_eq_true,decide_eq_true_eq,decide_eq_true_eq]
 exact⟨h0,Vh h hM⟩
theorem iD(M:Nat):((2 ^ M:Nat):Int)=2 ^ M:=by push_cast; rfl
theorem oA{xs:List Tr}{i:Nat}(h:xs[i]?=some T):aW (.lst xs) (.int i)=.ok (T,false):=by
 obtain⟨hi,e⟩:=List.getElem?_eq_some_iff.mp h
 show(match cR xs i with
  |some t=>Rs.ok (t,false)
  |none=>.bad)=_
 have:cR xs (i:Int)=some T:=by
  unfold cR gW
  simp[hi,e]
 rw[this]
theorem kJ{xs:List Tr}{i:Nat}(h:xs[i]?=some T):aW (.lst xs) (.int i)=.ok (T,false):=oA h
theorem oJ{l:List (Int × Int)}{i:Nat}(h:i<l.length):aW (aJ l) (.int i)=.ok (fT (l.getD i (0,1)),false):=oA (by simp[h])
theorem lu(rows:List (List (Int × Int))):d8 (aU rows)=.ok (.int (rows.length:Nat),false):=by
 show Rs.ok (Tr.int ((rows.map aJ).length:Int),false)=_
 rw[List.length_map]
theorem Ip(h:rows[k]?=some l):aW (aU rows) (.int (k:Nat))=.ok (aJ l,false):=kJ (by rw[List.getElem?_map,h]; rfl)
theorem jU(l:List (Int × Int)):d8 (aJ l)=.ok (.int (l.length:Nat),false):=by
 show Rs.ok (Tr.int ((l.map fT).length:Int),false)=_
 rw[List.length_map]
theorem Vj{α : Type}{p : α -> Bool}:∀xs:List α,uw (xs.map λx=>.bl (p x))=some (xs.map p)
 | []=>rfl
 |x::xs=>by simp[uw,Vj xs]
theorem all_true{α : Type}(xs:List α):qQ (.lst (xs.map λ_=>Tr.bl true))=.ok (.bl true,false):=by
 have e:=Vj (p:=λ_=>true) xs
 unfold qQ
 simp -dsimp[e]
theorem Ir(a b:Int):Sx [.int a,.int b]=.ok (.int (Int.gcd a b:Nat),false):=by
 walk_at "d"
 refine Ig [] (λs:Int × Int=>[(0,.sh (.int s.1)),(1,.sh (.int s.2))]) (λs=>Int.gcd s.1 s.2=Int.gcd a b) (λs=>s.2.natAbs) (a,b) rfl rfl (by show b.natAbs<b.natAbs+1; lia) ?_
 rintro v ⟨x,y⟩ h
 dsimp only[pt,List.map,List.set]at *
 by_cases z:y=0
 .subst z
  have e:ur (.int x)=.ok (.int (Int.gcd a b:Nat),false):=by
   rw[<-h]
   exact congrArg (λi=>Rs.ok (Tr.int i,false)) (acU x)
  apply sH
  walk_at "r"
 .have e:iw (.int y) (.int 0)=.ok (.bl true,false):=by rw[Ca,decide_eq_false z]; rfl
  apply sH
  walk_at "r"
  exact⟨(y,x.fmod y),by rw[<-h]; exact N5 ..,NZ x y z,λ_=>.un,rfl⟩
theorem vN{i:Int}:S8 [.int i]=.ok (.bl true,false):=rfl
theorem Vk{x:Int × Int}(h1:1<=x.2)(h2:Int.gcd x.1 x.2=1):Tc [fT x]=.ok (.bl true,false):=by
 have e:=Ir x.1 x.2
 rw[h2]at e
 have w1:=vN (i:=x.1)
 have w2:=vN (i:=x.2)
 walk_at "d"
theorem agQ{x:Int × Int}(h:Wo x):Tj [fT x]=.ok (.bl true,false):=by
 obtain⟨h1,h2,h3,h4,h5⟩:=h
 have e:=Vk h3 h5
 walk_at "d"
 exact congrArg (λb=>Rs.ok (Tr.bl b,false)) (decide_eq_true h2)
theorem agR{l:List (Int × Int)}{m:Int}(h:∀x∈l,Wo x)(h1:1<=l.length)(h2:l.length<=m)(hm:m<=1000):Tp [aJ l,.int m]=.ok (.bl true,false):=by
 have e:=jU l
 have t:qH (aJ l) .list=true:=rfl
 walk_at "d"
 exact agQ (h x hx)
 walk_at "r"
 exact all_true l
 walk_at "r"
theorem agS{m:Nat}{rows:List (List (Int × Int))}(hB:Bk m rows):Tz [aU rows]=.ok (.bl true,false):=by
 obtain⟨b1,b2,b3,b4,b5⟩:=hB
 have e:=lu rows
 have hl:rows[0]?=some rows[0]:=List.getElem?_eq_getElem b1
 have e0:aW (aU rows) (.int 0)=.ok (aJ rows[0],false):=Ip hl
 have Iu:=jU rows[0]
 rw[(b5 _ (List.mem_of_getElem? hl)).1]at Iu
 walk_at "d"
 exact agR (b5 x hx).2 (by rw[(b5 x hx).1]; exact b3) (by rw[(b5 x hx).1]; lia) (by lia)
 walk_at "r"
 exact all_true rows
 walk_at "r"
 rw[List.map_congr_left (g:=λ_=>Tr.bl true) λx hx=>by(try rw[List.length_map]); rw[(b5 x hx).1,decide_eq_true rfl]]
 exact all_true rows
 walk_at "r"
theorem Vl{m:Nat}{rows:List (List (Int × Int))}(hB:Bk m rows):T5 [aU rows]=.ok (.non,false):=by
 have e:=agS hB
 walk_at "d"
theorem Iw(k n:Int):T3 [.int k,.int n]=.ok (.bl (decide (0<=k)&&decide (k<n)),false):=by
 have w:=vN (i:=k)
 by_cases h:0<=k
 .rw[decide_eq_true h]
  walk_at "d"
 .rw[decide_eq_false h]
  walk_at "d"
theorem agT{rows:List (List (Int × Int))}{k:Nat}(h:k<rows.length):T7 [aU rows,.int k]=.ok (.non,false):=by
 have l:=lu rows
 have e:=Iw k rows.length
 rw[decide_eq_true (by lia),decide_eq_true (by lia)]at e
 walk_at "d"
noncomputable def Frs(N:Nat)(l:List (Int × Int)):Prop:=∀x∈l,1<=x.2/\x.2<2 ^ N/\x.1.natAbs<2 ^ N
theorem agU{B q:Int}(hB:1<=B)(hq:1<=q):let B':=(B*q).fdiv ((Int.gcd B q:Nat):Int); 1<=B'/\B∣B'/\q∣B'/\B'<=B*q/\∀D,B∣D->q∣D->B'∣D:=by
 have g0:0<Int.gcd B q:=Int.gcd_pos_of_ne_zero_left _ (by lia)
 have p:=Int.mul_pos (a:=B) (b:=q) (by lia) (by lia)
 have m:=Int.gcd_mul_lcm B q
 rw[<-Int.natAbs_mul]at m
 have e:B*q=((Int.gcd B q:Nat):Int)*(Int.lcm B q:Nat):=by rw[<-Int.natCast_mul,m]; lia
 have f:(B*q).fdiv ((Int.gcd B q:Nat):Int)=(Int.lcm B q:Nat):=by
  rw[Int.fdiv_eq_ediv_of_nonneg _ (by lia),e]
  exact Int.mul_ediv_cancel_left _ (by lia)
 dsimp only
 rw[f]
 have:=Int.lcm_pos (m:=B) (n:=q) (by lia) (by lia)
 refine⟨by lia,Int.dvd_lcm_left ..,Int.dvd_lcm_right ..,?_,λD=>Int.coe_lcm_dvd⟩
 rw[<-f,Int.fdiv_eq_ediv_of_nonneg _ (by lia)]
 exact Int.ediv_le_self _ (by lia)
theorem Iz{N:Nat}(l:List (Int × Int))(h:Frs N l)(hl:1+N*l.length<=8900)(hN:N<=8900):∃z,TJ [.lst (l.map fT)]=.ok z/\∃B:Int,(1<=B/\B<2 ^ (1+N*l.length)/\(∀x∈l,x.2∣B)/\∀D,(∀x∈l,x.2∣D)->B∣D)/\z=(.int B,false):=by
 walk_at "e"
 refine kj [2,3] (λB:Int=>[(1,.sh (.int B))]) (λk B=>1<=B/\B<2 ^ (1+N*k)/\(∀x∈l.take k,x.2∣B)/\∀D,(∀x∈l.take k,x.2∣D)->B∣D) 1 ⟨Int.le_refl _,by rw[Nat.mul_zero]; decide,λx hx=>(by cases hx),λD _=>Int.one_dvd _⟩ rfl (λk x v B hx hB=>?_) λv B hB=>?_
 .obtain⟨h1,h2,h3,h4⟩:=hB
  have hk:=(List.getElem?_eq_some_iff.mp hx).1
  obtain⟨a1,a2,_⟩:=h x (List.mem_of_getElem? hx)
  obtain⟨b1,b2,b3,b4,b5⟩:=agU h1 a1
  have tk:l.take (k+1)=l.take k++[x]:=by rw[List.take_add_one,hx]; rfl
  have hle:1+N*k<=8900:=by
   have:=Nat.mul_le_mul_left N (Nat.le_of_lt hk)
   lia
  have n1:=iD (1+N*k)
  have n2:=iD N
  have g:=Ir B x.2
  have c1:dH B x.2=true:=kE (M:=1+N*k) (N:=N) (by lia) hle (by lia) hN
  have c2:∀i,iH i ((Int.gcd B x.2:Nat):Int)=true:=λi=>by
   have:=Int.gcd_pos_of_ne_zero_left (a:=B) x.2 (by lia)
   have:=Int.gcd_le_right (a:=B) (b:=x.2) (by lia)
   exact Ar (M:=N) (by lia) (by lia) hN
  walk_at "p"
  refine⟨(B*x.2).fdiv ((Int.gcd B x.2:Nat):Int),⟨b1,?_,λy hy=>?_,λD d=>?_⟩,exV rfl⟩
  .have:=Int.mul_lt_mul_of_pos_right h2 (show 0<(2:Int) ^ N by lia)
   have:=Int.mul_le_mul_of_nonneg_left (show x.2<=2 ^ N by lia) (show 0<=B by lia)
   rw[Nat.mul_succ,<-Nat.add_assoc,Int.pow_add]
   lia
  .rw[tk]at hy
   rcases List.mem_append.mp hy with hy|hy
   .exact Int.dvd_trans (h3 y hy) b2
   .rw[List.mem_singleton.mp hy]
    exact b3
  .rw[tk]at d
   exact b5 D (h4 D λy hy=>d y (List.mem_append_left _ hy)) (d x (List.mem_append_right _ (List.mem_singleton.mpr rfl)))
 .rw[List.take_length]at hB
  walk_at "r"
  exact⟨_,rfl,B,hB,rfl⟩
theorem Vm{N:Nat}(l:List (Int × Int))(h:Frs N l)(hl:1+N*l.length<=8900)(hN:N<=8900)(hl2:l.length<=1000):∃B:Int,Il [.lst (l.map fT)]=.ok (.lst (l.map λx=>.int (x.1*B.fdiv x.2)),true)/\1<=B/\∀x∈l,x.2∣B:=by
 obtain⟨_,e,B,⟨h1,h2,h3,_⟩,rfl⟩:=Iz l h hl hN
 have q:∀x∈l,iH B x.2=true/\dH x.1 (B.fdiv x.2)=true:=λx hx=>by
  obtain⟨a1,a2,a3⟩:=h x hx
  have d0:=Int.ediv_nonneg (a:=B) (b:=x.2) (by lia) (by lia)
  have d1:=Int.ediv_le_self (a:=B) x.2 (by lia)
  have nB:=iD (1+N*l.length)
  have nN:=iD N
  rw[<-Int.fdiv_eq_ediv_of_nonneg B (b:=x.2) (by lia)]at d0 d1
  exact⟨Ar (M:=N) (by lia) (by lia) hN,kE (M:=N) (N:=1+N*l.length) a3 hN (by lia) hl⟩
 refine⟨B,?_,h1,h3⟩
 walk_at "d"
 exact(q x hx).1
 walk_at "r"
 exact(q x hx).2
 walk_at "r"
noncomputable def jO(l:List (Int × Int))(i j:Nat):Prop:=(l.getD j (0,1)).1*(l.getD i (0,1)).2<(l.getD i (0,1)).1*(l.getD j (0,1)).2\/((l.getD j (0,1)).1*(l.getD i (0,1)).2=(l.getD i (0,1)).1*(l.getD j (0,1)).2/\i<j)
noncomputable def Fall(l:List (Int × Int))(ys:List Nat):Prop:=ys.Perm (List.range l.length)/\ys.Pairwise (jO l)
theorem keysOk{kt:Tr->Option (Int × Int)}{fb:RF}{ts:List (Option Tr)}{κ : Nat->Int × Int}:∀(is:List Nat),(∀i∈is,∃t,fb (some (.int (i:Int))::ts)=.ok t/\kt t=some (κ i))->sy kt fb ts is=.ok (is.map κ)
 | [],_=>rfl
 |i::is,h=>by
  obtain⟨t,e,k⟩:=h i (List.mem_cons_self ..)
  have r:=keysOk is λj hj=>h j (List.mem_cons_of_mem _ hj)
  unfold sy
  rw[e,r]
  dsimp only[Rs.bind]
  rw[k]
  rfl
theorem Vo{kt:Tr->Option (Int × Int)}{src:List (Option Nat)}{fa:AF}{fb:RF}{n:Nat}{b:Bool}(κ : Nat->Int × Int)(h:fa ρ=.ok ([.v (.int (n:Int)) b],ρ1))(hn:n<64)(hk:∀i,i<n->∃t,fb (some (.int (i:Int))::Ac src ρ1)=.ok t/\kt t=some (κ i)):∃ys:List Nat,Ht kt src fa fb ρ=.ok (.v (.lst (ys.map λi:Nat=>Tr.int i)) true,ρ1)/\ys.Perm (List.range n)/\ys.Pairwise (iC κ):=by
 have e:=keysOk (List.range n) λi hi=>hk i (List.mem_range.mp hi)
 have hs:=Rj n λi=>((List.range n).map κ).getD i (0,0)
 refine⟨_,bk h ((if_pos ⟨Int.natCast_nonneg n,by lia⟩).trans (by rw[Int.toNat_natCast,e]; rfl)),hs.1,hs.2.imp_of_mem λ{i j} hi hj hb=>?_⟩
 have hi:=List.mem_range.mp (hs.1.mem_iff.mp hi)
 have hj:=List.mem_range.mp (hs.1.mem_iff.mp hj)
 have g:∀i,i<n->((List.range n).map κ).getD i (0,0) = κ i:=λi hi=>by simp[hi]
 unfold iC at hb ⊢
 dsimp only at hb
 rw[g i hi,g j hj]at hb
 exact hb
theorem top_lt{B p q r s:Int}(hB:1<=B)(hq:1<=q)(hs:1<=s)(dq:q∣B)(ds:s∣B):(p*B.fdiv q<r*B.fdiv s↔p*s<r*q)/\(p*B.fdiv q=r*B.fdiv s↔p*s=r*q):=by
 obtain⟨a,ha⟩:=dq
 obtain⟨b,hb⟩:=ds
 have e1:B.fdiv q=a:=by rw[ha]; exact Int.mul_fdiv_cancel_left _ (by lia)
 have e2:B.fdiv s=b:=by rw[hb]; exact Int.mul_fdiv_cancel_left _ (by lia)
 rw[e1,e2]
 have x1:(p*a)*(q*s)=(p*s)*B:=by rw[ha]; ac_rfl
 have x2:(r*b)*(q*s)=(r*q)*B:=by rw[hb]; ac_rfl
 have qs:0<q*s:=Int.mul_pos (by lia) (by lia)
 refine⟨?_,?_⟩
 .rw[<-Int.mul_lt_mul_right qs,x1,x2,Int.mul_lt_mul_right (show 0<B by lia)]
 .rw[<-Int.mul_eq_mul_right_iff (c:=q*s) (by lia),x1,x2,Int.mul_eq_mul_right_iff (show B≠0 by lia)]
theorem IK{N:Nat}(l:List (Int × Int))(h:Frs N l)(hl:1+N*l.length<=8900)(hN:N<=8900)(h64:l.length<64):∃ys,sJ [aJ l]=.ok (.lst (ys.map λi:Nat=>Tr.int i),true)/\Fall l ys:=by
 obtain⟨B,e,h1,h3⟩:=Vm l h hl hN (by lia)
 have g:∀i,i<l.length->l.getD i (0,1)∈l:=λi hi=>by simp[hi]
 obtain⟨ys,e2,p,q⟩:=Vo (ρ:=[.sh (.lst (l.map fT)),.sh (.lst (l.map λx=>.int (x.1*B.fdiv x.2)))]) (kt:=Hu) (src:=[some 1]) (fa:=cF (mF (g1 d8) (cF (bx 1) dR)) dR) (fb:=Ab mR (Aa aW (nY 1) (nY 0))) (λi=>(-((l.getD i (0,1)).1*B.fdiv (l.getD i (0,1)).2),0)) (tD (xC1 rfl rfl Ce) rfl) h64 λi hi=>by
  have ix:aW (.lst (l.map λx=>.int (x.1*B.fdiv x.2))) (.int (i:Int))=.ok (.int ((l.getD i (0,1)).1*B.fdiv (l.getD i (0,1)).2),false):=oA (by simp[hi])
  exact⟨.int (-((l.getD i (0,1)).1*B.fdiv (l.getD i (0,1)).2)),bk (bk rfl (bk rfl (bk ix rfl))) rfl,rfl⟩
 refine⟨ys,?_,p,q.imp_of_mem λ{i j} hi hj hb=>?_⟩
 .unfold aJ
  walk_at "d"
 .have m1:=g i (List.mem_range.mp (p.mem_iff.mp hi))
  have m2:=g j (List.mem_range.mp (p.mem_iff.mp hj))
  have t:=top_lt (p:=(l.getD j (0,1)).1) (r:=(l.getD i (0,1)).1) h1 (h _ m2).1 (h _ m1).1 (h3 _ m2) (h3 _ m1)
  unfold iC at hb
  dsimp only at hb
  unfold jO
  rw[<-t.1,<-t.2]
  omega
theorem Wo.frs(h:∀x∈l,Wo x):Frs 40 l:=λx hx=>by
 obtain⟨h1,h2,h3,h4,h5⟩:=h x hx
 exact⟨h3,by lia,by lia⟩
theorem order_eq{c:Nat}{ls:List (List (Int × Int))}(h:Bk c ls){k:Nat}{l:List (Int × Int)}(hk:ls[k]?=some l):∃ys,agb [aU ls,.int k]=.ok (.lst (ys.map λi:Nat=>Tr.int i),true)/\Fall l ys:=by
 have hl:=h.2.2.2.2 l (List.mem_of_getElem? hk)
 have:=h.2.2.2.1
 obtain⟨ys,e,hf⟩:=IK (N:=40) l (Wo.frs hl.2) (by rw[hl.1]; lia) (by lia) (by rw[hl.1]; lia)
 have e1:=Ip hk
 have e2:=agT (List.getElem?_eq_some_iff.mp hk).1
 have e3:=Vl h
 refine⟨ys,?_,hf⟩
 walk_at "d"
theorem agV{α : Type}(xs:List α)(k:Nat):L2.cut xs (some (k:Int)) none=xs.drop k:=by
 unfold L2.cut HT.aP
 by_cases h:(k:Int)<0
 .lia
 .simp only[h,if_false,Int.toNat_natCast]
  by_cases z:k<=xs.length
  .rw[Nat.min_eq_left z]
   exact List.take_of_length_le (by simp)
  .rw[Nat.min_eq_right (by lia),List.drop_eq_nil_of_le (by lia),List.drop_eq_nil_of_le (by lia)]
   simp
theorem IV{α : Type}(xs:List α)(k:Nat):L2.cut xs none (some (k:Int))=xs.take k:=by
 unfold L2.cut HT.aP
 by_cases h:(k:Int)<0
 .lia
 .simp only[h,if_false,Int.toNat_natCast,Nat.sub_zero,List.drop_zero]
  by_cases z:k<=xs.length
  .rw[Nat.min_eq_left z]
  .rw[Nat.min_eq_right (by lia),List.take_of_length_le (by lia),List.take_of_length_le (by lia)]
noncomputable def nT(ys:List Nat):Tr:=.lst (ys.map λi:Nat=>Tr.int i)
theorem Vp(i:Int):dep (.int i)=0:=rfl
theorem agW(ts:List Tr):dep (.tup ts)=deps ts+1:=by simp only[dep]
theorem Av(ts:List Tr):dep (.lst ts)=deps ts+1:=by simp only[dep]
theorem Aw:deps []=0:=rfl
theorem sS(t:Tr)(ts:List Tr):deps (t::ts)=max (dep t) (deps ts):=by simp only[deps]
theorem IW:∀{ts:List Tr},(∀t∈ts,dep t<=n)->deps ts<=n
 | [],_=>by rw[Aw]; lia
 |t::ts,h=>by
  rw[sS]
  have h1:=h t (by simp)
  have h2:=IW (ts:=ts) λu hu=>h u (by simp[hu])
  lia
theorem Ja(x:Int × Int):dep (fT x)=1:=by unfold fT; rw[agW,sS,sS,Vp,Vp,Aw]; rfl
theorem agX(l:List (Int × Int)):dep (aJ l)<=2:=by
 unfold aJ
 rw[Av]
 have:=IW (n:=1) (ts:=l.map fT) λt ht=>by
  obtain⟨x,_,rfl⟩:=List.mem_map.mp ht
  rw[Ja]; lia
 lia
theorem agY(ls:List (List (Int × Int))):dep (aU ls)<=3:=by
 unfold aU
 rw[Av]
 have:=IW (n:=2) (ts:=ls.map aJ) λt ht=>by
  obtain⟨x,_,rfl⟩:=List.mem_map.mp ht
  exact agX x
 lia
theorem Ax(h:dep T<=40):iw T T=.ok (.bl false,false):=by
 unfold iw
 rw[if_pos ⟨h,h⟩,w6]
 rfl
theorem Vq:∀ys:List Nat,rY (ys.map λi:Nat=>Tr.int i)=some (ys.map λi:Nat=>(i:Int))
 | []=>rfl
 |n::r=>by simp[rY,Vq r]
noncomputable def aR(x y:Int × Int):Bool:=decide (x.1*y.2<y.1*x.2)
noncomputable def at2(l:List (Int × Int))(i:Nat):Int × Int:=l.getD i (0,1)
theorem iW(n k:Int)(h:0<k):0<=n.fmod k/\n.fmod k<k:=⟨Int.fmod_nonneg_of_pos n h,Int.fmod_lt_of_pos n h⟩
noncomputable def red(a b:Int):Int × Int:=(a / ((Int.gcd a b:Nat):Int),b / ((Int.gcd a b:Nat):Int))
noncomputable def Fq(M:Nat)(x:Int × Int):Prop:=0<=x.1/\x.1<2 ^ M/\1<=x.2/\x.2<2 ^ M/\Int.gcd x.1 x.2=1
theorem Jb(ha:0<=a)(ha2:a<2 ^ M)(hb:1<=b)(hb2:b<2 ^ M):Fq M (red a b):=by
 obtain⟨g1,g2,g3,g4,g5,g6,g7⟩:=qJ (a:=a) (b:=b) (by lia)
 have d1:=Int.ediv_le_self (a:=a) ((Int.gcd a b:Nat):Int) ha
 have d2:=Int.ediv_le_self (a:=b) ((Int.gcd a b:Nat):Int) (by lia)
 exact⟨g5 ha,by unfold red; dsimp only; lia,g3,by unfold red; dsimp only; lia,g4⟩
theorem ju(hb:1<=b):a*(red a b).2=(red a b).1*b/\1<=(red a b).2/\Int.gcd (red a b).1 (red a b).2=1:=by
 obtain⟨g1,g2,g3,g4,g5,g6,g7⟩:=qJ (a:=a) (b:=b) (by lia)
 refine⟨?_,g3,g4⟩
 show a*(b / ((Int.gcd a b:Nat):Int))=(a / ((Int.gcd a b:Nat):Int))*b
 generalize ((Int.gcd a b:Nat):Int)=g at *
 generalize b / g=q,a / g=p at *
 rw[g6,g7]
 ac_rfl
noncomputable def le2(x y:Int × Int):Prop:=x.1*y.2<=y.1*x.2
theorem kO:aR x y=false↔le2 y x:=by
 unfold aR le2
 rw[decide_eq_false_iff_not,Int.not_lt]
theorem mL(x:Int × Int):le2 x x:=Int.le_refl _
theorem Ay(hx:1<=x.2)(hy:1<=y.2)(hz:1<=z.2)(h1:le2 x y)(h2:le2 y z):le2 x z:=by
 unfold le2 at *
 have a1:=Int.mul_le_mul_of_nonneg_right h1 (show 0<=z.2 by lia)
 have a2:=Int.mul_le_mul_of_nonneg_right h2 (show 0<=x.2 by lia)
 have e1:x.1*y.2*z.2=(x.1*z.2)*y.2:=by ac_rfl
 have e2:y.1*x.2*z.2=y.1*z.2*x.2:=by ac_rfl
 have e3:z.1*y.2*x.2=(z.1*x.2)*y.2:=by ac_rfl
 rw[e1,e2]at a1
 rw[e3]at a2
 exact Int.le_of_mul_le_mul_right (Int.le_trans a1 a2) (by lia)
theorem Vr(hx:1<=x.2)(hy:1<=y.2)(gx:Int.gcd x.1 x.2=1)(gy:Int.gcd y.1 y.2=1)(h1:le2 x y)(h2:le2 y x):x=y:=by
 unfold le2 at *
 have:=acV hx hy gx gy (Int.le_antisymm h1 h2)
 exact Prod.ext this.1 this.2
theorem Jc(hb:1<=b)(hd:1<=d)(h:a*d<=c*b):le2 (red a b) (red c d):=by
 obtain⟨e1,p1,_⟩:=ju (a:=a) hb
 obtain⟨e2,p2,_⟩:=ju (a:=c) hd
 generalize red c d=y,red a b=x at *
 unfold le2
 have a1:=Int.mul_le_mul_of_nonneg_right h (Int.mul_nonneg (show 0<=x.2 by lia) (show 0<=y.2 by lia))
 have e3:a*d*(x.2*y.2)=(a*x.2)*(d*y.2):=by ac_rfl
 have e4:c*b*(x.2*y.2)=(c*y.2)*(b*x.2):=by ac_rfl
 rw[e3,e4,e1,e2]at a1
 have e5:x.1*b*(d*y.2)=(x.1*y.2)*(b*d):=by ac_rfl
 have e6:y.1*d*(b*x.2)=(y.1*x.2)*(b*d):=by ac_rfl
 rw[e5,e6]at a1
 exact Int.le_of_mul_le_mul_right a1 (Int.mul_pos (by lia) (by lia))
noncomputable def sumF(x y:Int × Int):Int × Int:=red (x.1*y.2+y.1*x.2) (x.2*y.2)
noncomputable def bH(x y:Int × Int):Int × Int:=red (x.1*y.1) (x.2*y.2)
theorem mO{a b:Int}{M N:Nat}(ha:0<=a)(ha2:a<2 ^ M)(hb:0<=b)(hb2:b<2 ^ N):a*b<2 ^ (M+N):=by
 have p1:(0:Int)<2 ^ N:=Int.pow_pos (by lia)
 have q1:a*b<=a*2 ^ N:=Int.mul_le_mul_of_nonneg_left (by lia) ha
 have q2:a*2 ^ N<2 ^ M*2 ^ N:=Int.mul_lt_mul_of_pos_right ha2 p1
 rw[Int.pow_add]
 lia
theorem vO{x y:Int × Int}{M N:Nat}(hx:Fq M x)(hy:Fq N y):Fq (M+N) (bH x y) :=
 Jb (Int.mul_nonneg hx.1 hy.1) (mO hx.1 hx.2.1 hy.1 hy.2.1) (by have:=Int.mul_pos (a:=x.2) (b:=y.2) (by have:=hx.2.2.1; lia) (by have:=hy.2.2.1; lia); lia) (mO (by have:=hx.2.2.1; lia) hx.2.2.2.1 (by have:=hy.2.2.1; lia) hy.2.2.2.1)
theorem Vs{x y:Int × Int}{M N:Nat}(hx:Fq M x)(hy:Fq N y):Fq (M+N+1) (sumF x y):=by
 obtain⟨x1,x2,x3,x4,_⟩:=hx
 obtain⟨y1,y2,y3,y4,_⟩:=hy
 have m1:=mO x1 x2 (by lia) y4
 have m2:=mO y1 y2 (by lia) x4
 have m3:=mO (by lia) x4 (by lia) y4
 rw[Nat.add_comm N M]at m2
 have p:=Int.mul_pos (a:=x.2) (b:=y.2) (by lia) (by lia)
 have n1:=Int.mul_nonneg x1 (show 0<=y.2 by lia)
 have n2:=Int.mul_nonneg y1 (show 0<=x.2 by lia)
 have e:(2:Int) ^ (M+N+1)=2 ^ (M+N)*2:=Int.pow_succ ..
 exact Jb (by lia) (by rw[e]; lia) (by lia) (by rw[e]; lia)
theorem agZ(hw:0<=w.1)(hw2:1<=w.2)(hx:1<=x.2)(hy:1<=y.2)(h:le2 x y):le2 (bH w x) (bH w y):=by
 have p1:=Int.mul_pos (a:=w.2) (b:=x.2) (by lia) (by lia)
 have p2:=Int.mul_pos (a:=w.2) (b:=y.2) (by lia) (by lia)
 refine Jc (by lia) (by lia) ?_
 unfold le2 at h
 have a1:=Int.mul_le_mul_of_nonneg_left h (Int.mul_nonneg hw (show 0<=w.2 by lia))
 have e1:w.1*x.1*(w.2*y.2)=w.1*w.2*(x.1*y.2):=by ac_rfl
 have e2:w.1*y.1*(w.2*x.2)=w.1*w.2*(y.1*x.2):=by ac_rfl
 rw[e1,e2]
 exact a1
theorem Vt(hw:0<=w.1)(hw2:1<=w.2)(hv:0<=v.1)(hv2:1<=v.2)(hx0:0<=x.1)(hy0:0<=y.1)(hx:1<=x.2)(hy:1<=y.2)(h:le2 w v)(h':le2 x y):le2 (bH w x) (bH v y):=by
 have p1:=Int.mul_pos (a:=w.2) (b:=x.2) (by lia) (by lia)
 have p2:=Int.mul_pos (a:=v.2) (b:=y.2) (by lia) (by lia)
 refine Jc (by lia) (by lia) ?_
 unfold le2 at h h'
 have e1:w.1*x.1*(v.2*y.2)=(w.1*v.2)*(x.1*y.2):=by ac_rfl
 have e2:v.1*y.1*(w.2*x.2)=(v.1*w.2)*(y.1*x.2):=by ac_rfl
 rw[e1,e2]
 exact Int.mul_le_mul h h' (Int.mul_nonneg hx0 (by lia)) (Int.mul_nonneg hv (by lia))
theorem Vu(hw2:1<=w.2)(hv2:1<=v.2)(hx:1<=x.2)(hy:1<=y.2)(h:le2 w v)(h':le2 x y):le2 (sumF w x) (sumF v y):=by
 have p1:=Int.mul_pos (a:=w.2) (b:=x.2) (by lia) (by lia)
 have p2:=Int.mul_pos (a:=v.2) (b:=y.2) (by lia) (by lia)
 refine Jc (by lia) (by lia) ?_
 unfold le2 at h h'
 have a1:=Int.mul_le_mul_of_nonneg_right h (Int.mul_nonneg (show 0<=x.2 by lia) (show 0<=y.2 by lia))
 have a2:=Int.mul_le_mul_of_nonneg_right h' (Int.mul_nonneg (show 0<=w.2 by lia) (show 0<=v.2 by lia))
 have e1:(w.1*x.2+x.1*w.2)*(v.2*y.2)=w.1*v.2*(x.2*y.2)+x.1*y.2*(w.2*v.2):=by rw[Int.add_mul]; ac_rfl
 have e2:(v.1*y.2+y.1*v.2)*(w.2*x.2)=v.1*w.2*(x.2*y.2)+y.1*x.2*(w.2*v.2):=by rw[Int.add_mul]; ac_rfl
 rw[e1,e2]
 lia
theorem mulC{x y:Int × Int}{M N:Nat}(hx:Fq M x)(hy:Fq N y)(hM:M+N<=8900):dH x.1 y.1=true/\dH x.1 y.2=true/\dH y.1 x.2=true/\dH x.2 y.2=true:=by
 obtain⟨x1,x2,x3,x4,_⟩:=hx
 obtain⟨y1,y2,y3,y4,_⟩:=hy
 have nM:=iD M
 have nN:=iD N
 exact⟨kE (M:=M) (N:=N) (by lia) (by lia) (by lia) (by lia),kE (M:=M) (N:=N) (by lia) (by lia) (by lia) (by lia),kE (M:=N) (N:=M) (by lia) (by lia) (by lia) (by lia),kE (M:=M) (N:=N) (by lia) (by lia) (by lia) (by lia)⟩
theorem Vv(hb:1<=b)(hb2:b<2 ^ M)(hM:M<=8900):SJ [.int a,.int b]=.ok (fT (red a b),false):=by
 have g:=Ir a b
 have np:=iD M
 obtain⟨g1,g2,_⟩:=qJ (a:=a) (b:=b) (by lia)
 have c1:∀n,iH n ((Int.gcd a b:Nat):Int)=true:=λn=>Ar (M:=M) (by lia) (by lia) hM
 walk_at "d"
 unfold fT red
 rw[Int.fdiv_eq_ediv_of_nonneg _ (by lia),Int.fdiv_eq_ediv_of_nonneg _ (by lia)]
 rfl
theorem Az{x y:Int × Int}{M N:Nat}(hx:Fq M x)(hy:Fq N y)(hM:M+N<=8900):Am [fT x,fT y]=.ok (fT (bH x y),false):=by
 obtain⟨c1,_,_,c2⟩:=mulC hx hy hM
 have p:=Int.mul_pos (a:=x.2) (b:=y.2) (by have:=hx.2.2.1; lia) (by have:=hy.2.2.1; lia)
 have e:=Vv (a:=x.1*y.1) (b:=x.2*y.2) (M:=M+N) (by lia) (mO (by have:=hx.2.2.1; lia) hx.2.2.2.1 (by have:=hy.2.2.1; lia) hy.2.2.2.1) hM
 walk_at "d"
theorem ag0{x y:Int × Int}{M N:Nat}(hx:Fq M x)(hy:Fq N y)(hM:M+N<=8900):SQ [fT x,fT y]=.ok (fT (sumF x y),false):=by
 obtain⟨_,c1,c2,c3⟩:=mulC hx hy hM
 have p:=Int.mul_pos (a:=x.2) (b:=y.2) (by have:=hx.2.2.1; lia) (by have:=hy.2.2.1; lia)
 have e:=Vv (a:=x.1*y.2+y.1*x.2) (b:=x.2*y.2) (M:=M+N) (by lia) (mO (by have:=hx.2.2.1; lia) hx.2.2.2.1 (by have:=hy.2.2.1; lia) hy.2.2.2.1) hM
 walk_at "d"
noncomputable def cZ(ps:List ((Int × Int) × (Int × Int)))(t:Int × Int):Int × Int:=ps.foldl (λt p=>sumF t (bH p.1 p.2)) t
noncomputable def dD(xs:List (Int × Int))(t:Int × Int):Int × Int:=xs.foldl bH t
theorem Jd:∀(ps:List ((Int × Int) × (Int × Int))) (t:Int × Int) (M:Nat),Fq M t->(∀p∈ps,Fq 45 p.1/\Fq 45 p.2)->Fq (M+91*ps.length) (cZ ps t)
 | [],t,M,h,_=>h
 |p::ps,t,M,h,hp=>by
  have h1:=vO (hp p (by simp)).1 (hp p (by simp)).2
  have h2:=Vs h h1
  have:=Jd ps _ _ h2 λq hq=>hp q (by simp[hq])
  rw[show M+91*(p::ps).length=M+(45+45)+1+91*ps.length by rw[List.length_cons]; lia]
  exact this
theorem Je:∀(ps:List (Int × Int)) (t:Int × Int) (M:Nat),Fq M t->(∀p∈ps,Fq 45 p)->Fq (M+45*ps.length) (dD ps t)
 | [],t,M,h,_=>h
 |p::ps,t,M,h,hp=>by
  have h2:=vO h (hp p (by simp))
  have:=Je ps _ _ h2 λq hq=>hp q (by simp[hq])
  rw[show M+45*(p::ps).length=M+45+45*ps.length by rw[List.length_cons]; lia]
  exact this
theorem Wo.fq(h:Wo x):Fq 45 x:=by
 obtain⟨h1,h2,h3,h4,h5⟩:=h
 exact⟨h1,by lia,h3,by lia,h5⟩
theorem ag1(ws xs:List (Int × Int)):j9 (ws.map fT) (xs.map fT)=(ws.zip xs).map λp=>Tr.tup [fT p.1,fT p.2]:=by
 unfold j9
 rw[List.zip_map,List.map_map]
 rfl
theorem Vw:Fq 1 (0,1):=by unfold Fq; decide
theorem Vx:Fq 1 (1,1):=by unfold Fq; decide
theorem Vy{ws xs:List (Int × Int)}(hw:∀w∈ws,Fq 45 w)(hx:∀x∈xs,Fq 45 x):∀p∈ws.zip xs,Fq 45 p.1/\Fq 45 p.2:=λp hp=>⟨hw _ (List.of_mem_zip hp).1,hx _ (List.of_mem_zip hp).2⟩
theorem ag2{ws xs:List (Int × Int)}(hw:∀w∈ws,Fq 45 w)(hx:∀x∈xs,Fq 45 x)(hl:xs.length<=12):Ud [aJ ws,aJ xs]=.ok (fT (cZ (ws.zip xs) (0,1)),false):=by
 have hz:(ws.zip xs).length<=12:=by rw[List.length_zip]; lia
 have hq:=Vy hw hx
 walk_at "d"
 rw[ag1]
 refine kj [3,4] (λs:Int × Int=>[(2,.sh (fT s))]) (λk s=>s=cZ ((ws.zip xs).take k) (0,1)) (0,1) rfl rfl (λk p v s hp hs=>?_) λv s hs=>?_
 .subst hs
  have hk:=(List.getElem?_eq_some_iff.mp hp).1
  obtain⟨p1,p2⟩:=hq p (List.mem_of_getElem? hp)
  have f:=Jd ((ws.zip xs).take k) (0,1) 1 Vw λq m=>hq q (List.mem_of_mem_take m)
  rw[List.length_take]at f
  have e1:=Az p1 p2 (by lia)
  have e2:=ag0 f (vO p1 p2) (by lia)
  walk_at "p"
  exact⟨_,by rw[List.take_add_one,hp]; unfold cZ; rw[List.foldl_append]; rfl,exV rfl⟩
 .rw[List.take_length]at hs
  subst hs
  walk_at "p"
theorem ag3(hx:∀x∈xs,Fq 45 x)(hl:xs.length<=12):Ug [aJ xs]=.ok (fT (dD xs (1,1)),false):=by
 unfold aJ
 walk_at "d"
 refine kj [2] (λs:Int × Int=>[(1,.sh (fT s))]) (λk s=>s=dD (xs.take k) (1,1)) (1,1) rfl rfl (λk p v s hp hs=>?_) λv s hs=>?_
 .subst hs
  have hk:=(List.getElem?_eq_some_iff.mp hp).1
  have f:=Je (xs.take k) (1,1) 1 Vx λq m=>hx q (List.mem_of_mem_take m)
  rw[List.length_take]at f
  have e:=Az f (hx p (List.mem_of_getElem? hp)) (by lia)
  walk_at "p"
  exact⟨_,by rw[List.take_add_one,hp]; unfold dD; rw[List.foldl_append]; rfl,exV rfl⟩
 .rw[List.take_length]at hs
  subst hs
  walk_at "p"
noncomputable def cL(xs zs:List (Int × Int)):Prop:=zs.Perm xs/\zs.Pairwise λa b=>le2 b a
noncomputable def LT(xs:List (Int × Int)):Prop:=∀x∈xs,1<=x.2/\Int.gcd x.1 x.2=1
theorem Vz:∀{l m:List (Int × Int)},LT l->l.Perm m->l.Pairwise (λa b=>le2 b a)->m.Pairwise (λa b=>le2 b a)->l=m
 | [],m,_,p,_,_=>by rw[List.nil_perm.mp p]
 |a::l,[],_,p,_,_=>by simpa using p.length_eq
 |a::l,b::m,hl,p,h1,h2=>by
  have h1':=List.pairwise_cons.mp h1
  have h2':=List.pairwise_cons.mp h2
  have e:a=b:=by
   rcases List.mem_cons.mp (p.mem_iff.mp (List.mem_cons_self ..))with z|z
   .exact z
   .rcases List.mem_cons.mp (p.mem_iff.mpr (List.mem_cons_self (a:=b)))with y|y
    .exact y.symm
    .have a1:=h1'.1 b y
     have a2:=h2'.1 a z
     have la:=hl a (by simp)
     have lb:=hl b (by simp[y])
     exact Vr la.1 lb.1 la.2 lb.2 a2 a1
  subst e
  rw[Vz (λx hx=>hl x (by simp[hx])) p.cons_inv h1'.2 h2'.2]
theorem cL.uniq(h:LT xs)(a:cL xs l)(b:cL xs m):l=m:=Vz (λx hx=>h x (a.1.mem_iff.mp hx)) (a.1.trans b.1.symm) a.2 b.2
theorem ag4(xs:List (Int × Int)):(List.range xs.length).map (λi=>xs.getD i (0,1))=xs:=by
 apply List.ext_getElem
 .simp
 .intro i h1 h2
  simp[List.getD_eq_getElem?_getD,h2]
theorem Fall.dsc(h:Fall xs ys):cL xs (ys.map λi=>xs.getD i (0,1)):=by
 refine⟨?_,?_⟩
 .have:=h.1.map λi=>xs.getD i (0,1)
  rw[ag4]at this
  exact this
 .rw[List.pairwise_map]
  refine h.2.imp λ{i j} hb=>?_
  unfold jO at hb
  unfold le2
  lia
theorem VD:∀(xs:List (Int × Int)) (i:Nat) (v:Int × Int),(∀x,xs[i]?=some x->p x=true->p v=true)->xs.countP p<=(xs.set i v).countP p
 | [],i,v,_=>by simp
 |x::xs,0,v,h=>by
  have:=h x (by simp)
  simp only[List.set_cons_zero,List.countP_cons]
  cases e:p x with
  |false=>simp
  |true=>rw[this e]; simp
 |x::xs,i+1,v,h=>by
  have:=VD xs i v λy hy=>h y (by simpa using hy)
  simp only[List.set_cons_succ,List.countP_cons]
  lia
theorem cL.mono{xs zs zs':List (Int × Int)}{i:Nat}{v:Int × Int}(hx:LT xs)(hv:1<=v.2)(hi:∀x,xs[i]?=some x->le2 x v)(a:cL xs zs)(b:cL (xs.set i v) zs'){k:Nat}{z z':Int × Int}(hz:zs[k]?=some z)(hz':zs'[k]?=some z'):le2 z z':=by
 refine Classical.byContradiction λhn=>?_
 have hx':∀x∈xs.set i v,1<=x.2:=λx m=>by
  rcases List.mem_or_eq_of_mem_set m with m|rfl
  .exact(hx x m).1
  .exact hv
 have pz:1<=z.2:=(hx z (a.1.mem_iff.mp (List.mem_of_getElem? hz))).1
 have pz':1<=z'.2:=hx' z' (b.1.mem_iff.mp (List.mem_of_getElem? hz'))
 have hlt:aR z' z=true:=by
  cases e:aR z' z with
  |true=>rfl
  |false=>exact absurd (kO.mp e) hn
 obtain⟨hk,ek⟩:=List.getElem?_eq_some_iff.mp hz
 obtain⟨hk',ek'⟩:=List.getElem?_eq_some_iff.mp hz'
 have pw:=List.pairwise_iff_getElem.mp a.2
 have pw':=List.pairwise_iff_getElem.mp b.2
 have up:∀x:Int × Int,1<=x.2->le2 z x->aR z' x=true:=λx px h=>by
  cases e:aR z' x with
  |true=>rfl
  |false=>exact absurd (Ay pz px pz' h (kO.mp e)) hn
 have c1:k+1<=zs.countP (aR z'):=by
  rw[<-List.take_append_drop (k+1) zs,List.countP_append]
  have:(zs.take (k+1)).countP (aR z')=(zs.take (k+1)).length:=by
   rw[List.countP_eq_length]
   intro x m
   obtain⟨j,hj,rfl⟩:=List.getElem_of_mem m
   rw[List.getElem_take]
   have hj':j<k+1:=by rw[List.length_take]at hj; lia
   have jl:j<zs.length:=by lia
   refine up _ (hx _ (a.1.mem_iff.mp (List.getElem_mem jl))).1 ?_
   by_cases q:j=k
   .subst q; rw[ek]; exact mL _
   .have:=pw j k jl hk (by lia)
    rw[ek]at this
    exact this
  rw[this,List.length_take]
  lia
 have c2:zs'.countP (aR z')<=k:=by
  rw[<-List.take_append_drop k zs',List.countP_append]
  have:(zs'.drop k).countP (aR z')=0:=by
   rw[List.countP_eq_zero]
   intro x m hp
   obtain⟨j,hj,rfl⟩:=List.getElem_of_mem m
   rw[List.getElem_drop]at hp
   have jl:k+j<zs'.length:=by rw[List.length_drop]at hj; lia
   have:le2 zs'[k+j] z':=by
    by_cases q:j=0
    .subst q
     have:zs'[k+0]=z':=ek'
     rw[this]; exact mL _
    .have:=pw' k (k+j) hk' jl (by lia)
     rw[ek']at this
     exact this
   rw[kO.mpr this]at hp
   cases hp
  rw[this]
  have:=List.countP_le_length (p:=aR z') (l:=zs'.take k)
  rw[List.length_take]at this
  lia
 rw[a.1.countP_eq]at c1
 rw[b.1.countP_eq]at c2
 have:=VD (p:=aR z') xs i v λx hxi hp=>by
  cases e:aR z' v with
  |true=>rfl
  |false =>
   have px:=(hx x (List.mem_of_getElem? hxi)).1
   have:=Ay px hv pz' (hi x hxi) (kO.mp e)
   rw[kO.mpr this]at hp
   cases hp
 lia
theorem Jf:∀(ws xs:List (Int × Int)) (i:Nat) (v t t':Int × Int),(∀w∈ws,Fq 45 w)->(∀x∈xs,1<=x.2)->1<=v.2->(∀x,xs[i]?=some x->le2 x v)->1<=t.2->1<=t'.2->le2 t t'->le2 (cZ (ws.zip xs) t) (cZ (ws.zip (xs.set i v)) t')
 | [],xs,i,v,t,t',_,_,_,_,_,_,h=>by simpa[cZ]using h
 |w::ws,[],i,v,t,t',_,_,_,_,_,_,h=>by simpa[cZ]using h
 |w::ws,x::xs,i,v,t,t',hw,hx,hv,hi,ht,ht',h=>by
  have fw:=hw w (by simp)
  have px:=hx x (by simp)
  have rp:∀y:Int × Int,1<=y.2->1<=(bH w y).2:=λy py=>(ju (a:=w.1*y.1) (by have:=Int.mul_pos (a:=w.2) (b:=y.2) (by have:=fw.2.2.1; lia) (by lia); lia)).2.1
  have sp:∀s y:Int × Int,1<=s.2->1<=y.2->1<=(sumF s y).2:=λs y ps py=>(ju (a:=s.1*y.2+y.1*s.2) (by have:=Int.mul_pos (a:=s.2) (b:=y.2) (by lia) (by lia); lia)).2.1
  cases i with
  |zero =>
   have lx:=hi x (by simp)
   show le2 (cZ (ws.zip xs) (sumF t (bH w x))) (cZ (ws.zip xs) (sumF t' (bH w v)))
   have:=Jf ws xs xs.length v (sumF t (bH w x)) (sumF t' (bH w v)) (λy hy=>hw y (by simp[hy])) (λy hy=>hx y (by simp[hy])) hv (λy hy=>by simp at hy) (sp _ _ ht (rp x px)) (sp _ _ ht' (rp v hv)) (Vu ht ht' (rp x px) (rp v hv) h (agZ fw.1 fw.2.2.1 px hv lx))
   rw[List.set_eq_of_length_le (by lia)]at this
   exact this
  |succ i =>
   show le2 (cZ (ws.zip xs) (sumF t (bH w x))) (cZ (ws.zip (xs.set i v)) (sumF t' (bH w x)))
   exact Jf ws xs i v _ _ (λy hy=>hw y (by simp[hy])) (λy hy=>hx y (by simp[hy])) hv (λy hy=>hi y (by simpa using hy)) (sp _ _ ht (rp x px)) (sp _ _ ht' (rp x px)) (Vu ht ht' (rp x px) (rp x px) h (mL _))
theorem Jg:∀(xs:List (Int × Int)) (i:Nat) (v t t':Int × Int),(∀x∈xs,1<=x.2/\0<=x.1)->1<=v.2->0<=v.1->(∀x,xs[i]?=some x->le2 x v)->1<=t.2->0<=t.1->1<=t'.2->0<=t'.1->le2 t t'->le2 (dD xs t) (dD (xs.set i v) t')
 | [],i,v,t,t',_,_,_,_,_,_,_,_,h=>by simpa[dD]using h
 |x::xs,i,v,t,t',hx,hv,hv0,hi,ht,ht0,ht',Ba,h=>by
  obtain⟨px,sU⟩:=hx x (by simp)
  have rp:∀s y:Int × Int,1<=s.2->0<=s.1->1<=y.2->0<=y.1->1<=(bH s y).2/\0<=(bH s y).1:=λs y ps ps0 py py0=>by
   have m:=Int.mul_pos (a:=s.2) (b:=y.2) (by lia) (by lia)
   refine⟨(ju (a:=s.1*y.1) (by lia)).2.1,?_⟩
   exact Int.ediv_nonneg (Int.mul_nonneg ps0 py0) (by lia)
  cases i with
  |zero =>
   have lx:=hi x (by simp)
   show le2 (dD xs (bH t x)) (dD xs (bH t' v))
   have a:=rp t x ht ht0 px sU
   have b:=rp t' v ht' Ba hv hv0
   have:=Jg xs xs.length v (bH t x) (bH t' v) (λy hy=>hx y (by simp[hy])) hv hv0 (λy hy=>by simp at hy) a.1 a.2 b.1 b.2 (Vt ht0 ht Ba ht' sU hv0 px hv h lx)
   rw[List.set_eq_of_length_le (by lia)]at this
   exact this
  |succ i =>
   have a:=rp t x ht ht0 px sU
   have b:=rp t' x ht' Ba px sU
   show le2 (dD xs (bH t x)) (dD (xs.set i v) (bH t' x))
   exact Jg xs i v _ _ (λy hy=>hx y (by simp[hy])) hv hv0 (λy hy=>hi y (by simpa using hy)) a.1 a.2 b.1 b.2 (Vt ht0 ht Ba ht' sU sU px px h (mL _))
inductive Ru where
 |sh (ws:List (Int × Int))|mid (k:Nat)|least|greatest|product
noncomputable def aY:Ru->Tr
 |.sh ws=>.tup [.str "shares",aJ ws]
 |.mid k=>.tup [.str "middle",.int k]
 |.least=>.tup [.str "least"]
 |.greatest=>.tup [.str "greatest"]
 |.product=>.tup [.str "product"]
noncomputable def bU(n:Nat):Ru->Prop
 |.sh ws=>ws.length=n/\∀w∈ws,Fq 45 w
 |.mid k=>1<=k/\k<=n
 |_=>True
theorem ag5{M:Nat}{ws:List (Int × Int)}(hw:∀w∈ws,Fq M w)(hl:ws.length<=12):T9 [aJ ws,.int ws.length]=.ok (.bl true,false):=by
 have ty:qH (aJ ws) .list=true:=rfl
 walk_at "d"
 exact Vk (hw x hx).2.2.1 (hw x hx).2.2.2.2
 walk_at "r"
 rw[List.map_congr_left (g:=λ_=>Tr.bl true) λx hx=>by rw[decide_eq_true (hw x hx).1]]
 exact all_true ws
 walk_at "r"
theorem Jh(h:T=.tup [.str "least"]∨T=.tup [.str "greatest"]∨T=.tup [.str "product"]):jh id T (.tup [(.tup [(.str "least")]),(.tup [(.str "greatest")]),(.tup [(.str "product")])])=.ok (.bl true,false):=by
 rcases h with rfl|rfl|rfl <;> kernel_rfl
theorem ag6(h:bU n r)(hn:n<=12):Ub [aY r,.int n]=.ok (.bl true,false):=by
 have e1:=Jh (.inl rfl)
 have e2:=Jh (.inr (.inl rfl))
 have e3:=Jh (.inr (.inr rfl))
 cases r <;> dsimp only[aY,bU]at *
 case sh ws =>
  obtain⟨h1,h2⟩:=h
  subst h1
  have e:=ag5 h2 hn
  walk_at "d"
 case mid k =>
  have w:=vN (i:=k)
  walk_at "d"
  exact congrArg (λb=>Rs.ok (Tr.bl b,false)) (decide_eq_true (by lia))
 all_goals walk_at "d"
noncomputable def eH(n:Nat):Ru->Nat
 |.mid k=>k
 |.least=>n
 |.greatest=>1
 |_=>0
noncomputable def Wv(r:Ru)(xs:List (Int × Int))(v:Int × Int):Prop:=match r with
 |.sh ws=>v=cZ (ws.zip xs) (0,1)
 |.product=>v=dD xs (1,1)
 |r=>∃zs,cL xs zs/\zs[eH xs.length r-1]?=some v
noncomputable def placed:Ru->Bool
 |.mid _=>true
 |.least=>true
 |.greatest=>true
 |_=>false
theorem ag7{n:Nat}(h:placed r=true):Ui [aY r,.int n]=.ok (.int (eH n r:Nat),false):=by
 cases r <;> first|cases h; done|(dsimp only[aY,eH]; walk_at "d"; done)
theorem VF(h:placed r=true)(ho:bU n r)(hn:1<=n):1<=eH n r/\eH n r<=n:=by
 cases r with
 |sh ws=>cases h
 |product=>cases h
 |least=>exact⟨hn,Nat.le_refl _⟩
 |greatest=>exact⟨Nat.le_refl _,hn⟩
 |mid k=>exact ho
theorem Fq.frs(h:∀x∈l,Fq 45 x):Frs 45 l:=λx hx=>by
 obtain⟨h1,h2,h3,h4,_⟩:=h x hx
 have:=iD 45
 exact⟨h3,h4,by lia⟩
theorem VH{xs:List (Int × Int)}(hq:∀x∈xs,Fq 45 x)(h1:1<=xs.length)(h2:xs.length<=12)(ho:bU xs.length r):∃v,gJ [aY r,aJ xs]=.ok (fT v,false)/\Wv r xs v:=by
 have pl:placed r=true->∃v,gJ [aY r,aJ xs]=.ok (fT v,false)/\∃zs,cL xs zs/\zs[eH xs.length r-1]?=some v:=λhp=>by
  obtain⟨ys,ef,hf⟩:=IK (N:=45) xs (Fq.frs hq) (by lia) (by lia) (by lia)
  have pr:=VF hp ho h1
  have ep:=ag7 (n:=xs.length) hp
  have ly:ys.length=xs.length:=by have:=hf.1.length_eq; simpa using this
  obtain⟨i,hi⟩:∃i,ys[eH xs.length r-1]?=some i:=⟨_,List.getElem?_eq_getElem (by lia)⟩
  have il:i<xs.length:=by simpa using hf.1.mem_iff.mp (List.mem_of_getElem? hi)
  refine⟨xs.getD i (0,1),?_,_,hf.dsc,by rw[List.getElem?_map,hi]; rfl⟩
  have g:aW (.lst (ys.map λi:Nat=>Tr.int i)) (.int ((eH xs.length r:Nat)-1:Int))=.ok (.int (i:Int),false):=by
   rw[show((eH xs.length r:Nat)-1:Int)=((eH xs.length r-1:Nat):Int) by lia]
   exact oA (by rw[List.getElem?_map,hi]; rfl)
  cases r <;> first|cases hp; done|(dsimp only[aY]at *; walk_at "d"; done)
 cases r with
 |sh ws =>
  have e:=ag2 ho.2 hq h2
  refine⟨_,?_,rfl⟩
  dsimp only[aY]
  walk_at "d"
 |product =>
  have e:=ag3 hq h2
  refine⟨_,?_,rfl⟩
  dsimp only[aY]
  walk_at "d"
 |least=>exact pl rfl
 |greatest=>exact pl rfl
 |mid k=>exact pl rfl
theorem ag8(hx:∀x∈xs,Wo x)(h1:1<=xs.length)(h2:xs.length<=12)(ho:bU xs.length r):∃v,gJ [aY r,aJ xs]=.ok (fT v,false)/\Wv r xs v:=VH (λx m=>(hx x m).fq) h1 h2 ho
theorem Bb(hx:∀x∈xs,Wo x):LT xs:=λx m=>⟨(hx x m).2.2.1,(hx x m).2.2.2.2⟩
theorem Wv.uniq(hx:∀x∈xs,Wo x)(a:Wv r xs v)(b:Wv r xs v'):v=v':=by
 cases r with
 |sh ws=>exact a.trans b.symm
 |product=>exact a.trans b.symm
 |least =>
  obtain⟨z,d,e⟩:=a
  obtain⟨z',d',e'⟩:=b
  rw[d.uniq (Bb hx) d',e']at e
  exact(Option.some.inj e).symm
 |greatest =>
  obtain⟨z,d,e⟩:=a
  obtain⟨z',d',e'⟩:=b
  rw[d.uniq (Bb hx) d',e']at e
  exact(Option.some.inj e).symm
 |mid k =>
  obtain⟨z,d,e⟩:=a
  obtain⟨z',d',e'⟩:=b
  rw[d.uniq (Bb hx) d',e']at e
  exact(Option.some.inj e).symm
theorem Fq.up(h:Fq M x)(hl:M<=N):Fq N x:=by
 obtain⟨h1,h2,h3,h4,h5⟩:=h
 have:(2:Int) ^ M<=2 ^ N:=by
  have:=Nat.pow_le_pow_right (n:=2) (by lia) hl
  have a:=iD M
  have b:=iD N
  lia
 exact⟨h1,by lia,h3,by lia,h5⟩
theorem Wv.VJ(hq:∀x∈xs,Fq 45 x)(hl:xs.length<=4)(ho:bU xs.length r)(a:Wv r xs v):Fq 400 v:=by
 have pl:(∃zs,cL xs zs/\zs[eH xs.length r-1]?=some v)->Fq 400 v:=λ⟨z,d,e⟩=>(hq v (d.1.mem_iff.mp (List.mem_of_getElem? e))).up (by lia)
 cases r with
 |sh ws =>
  have a:v=cZ (ws.zip xs) (0,1):=a
  rw[a]
  exact(Jd _ _ 1 Vw (Vy ho.2 hq)).up (by rw[List.length_zip]; lia)
 |product =>
  have a:v=dD xs (1,1):=a
  rw[a]
  exact(Je _ _ 1 Vx hq).up (by lia)
 |least=>exact pl a
 |greatest=>exact pl a
 |mid k=>exact pl a
theorem Wv.fq(hx:∀x∈xs,Wo x)(hl:xs.length<=4)(ho:bU xs.length r)(a:Wv r xs v):Fq 400 v:=Wv.VJ (λx m=>(hx x m).fq) hl ho a
theorem Wv.mono(hx:∀x∈xs,Wo x)(hu:Wo u)(hi:∀x,xs[i]?=some x->le2 x u)(ho:bU xs.length r)(a:Wv r xs v)(b:Wv r (xs.set i u) v'):le2 v v':=by
 have pl:(∃zs,cL xs zs/\zs[eH xs.length r-1]?=some v)->(∃zs,cL (xs.set i u) zs/\zs[eH (xs.set i u).length r-1]?=some v')->le2 v v':=λ⟨z,d,e⟩ ⟨z',d',e'⟩=>by
  rw[List.length_set]at e'
  exact d.mono (Bb hx) hu.2.2.1 hi d' e e'
 cases r with
 |sh ws =>
  have a:v=cZ (ws.zip xs) (0,1):=a
  have b:v'=cZ (ws.zip (xs.set i u)) (0,1):=b
  rw[a,b]
  exact Jf ws xs i u _ _ ho.2 (λx m=>(hx x m).2.2.1) hu.2.2.1 hi (by decide) (by decide) (mL _)
 |product =>
  have a:v=dD xs (1,1):=a
  have b:v'=dD (xs.set i u) (1,1):=b
  rw[a,b]
  exact Jg xs i u _ _ (λx m=>⟨(hx x m).2.2.1,(hx x m).1⟩) hu.2.2.1 hu.1 hi (by decide) (by decide) (by decide) (by decide) (mL _)
 |least=>exact pl a b
 |greatest=>exact pl a b
 |mid k=>exact pl a b
noncomputable def isG:Ru->Bool
 |.greatest=>true
 |_=>false
noncomputable def isL:Ru->Bool
 |.least=>true
 |_=>false
theorem ag9(hp:placed r=true):∃w:Str,aW (aY r) (.int 0)=.ok (.str w,false)∧jH (.str w) (.str "shares")=.ok (.bl false,false)∧jH (.str w) (.str "product")=.ok (.bl false,false)∧jH (.str w) (.str "greatest")=.ok (.bl (isG r),false)∧jH (.str w) (.str "least")=.ok (.bl (isL r),false):=by
 cases r with
 |sh ws=>cases hp
 |product=>cases hp
 |least=>exact⟨"least",rfl,jw (by decide +kernel),jw (by decide +kernel),jw (by decide +kernel),Cd⟩
 |greatest=>exact⟨"greatest",rfl,jw (by decide +kernel),jw (by decide +kernel),Cd,jw (by decide +kernel)⟩
 |mid k=>exact⟨"middle",rfl,jw (by decide +kernel),jw (by decide +kernel),jw (by decide +kernel),jw (by decide +kernel)⟩
noncomputable abbrev VP:=(bC (sO 3 (aE (dM ao))) (bC (sN (sF (iZ3 (ak (aj 0) (ak (UW (ak (aj 0) ao)) (ak (aj 1) ao)))) (gA 3 (bL (gV 4) (bL (gV 5) (bL (gV 6) gq)))) (b1 (dw (iV 3 (ak (yS (tK (aN Ah (aj 6) (vC (.int 0)))) (aq (aj 4) (aq (aj 5) (sE (aj 6) (vC (.int 1))))) (aj 2)) ao)))))) (b1 (aC (aj 3)))))
noncomputable abbrev aha:SF:=by exists VP
noncomputable def VR:FP:=aL 7 aha
noncomputable abbrev ahb{f:AF}(a:VA f):=vF "last_worths" ["book", "depths", "one"] VR 6 a
noncomputable abbrev V0:=(b1 (aC (agL (ak (aj 1) (ak (agJ (ak (aj 0) (ak (aj 2) ao))) (ak (ahb (ak (aj 0) (ak (aq (aj 2) (vC (.int 0))) (ak (aj 3) ao)))) ao))))))
noncomputable abbrev ahc:SF:=by exists V0
noncomputable def Bc:FP:=aL 4 ahc
noncomputable abbrev ahd{f:AF}(a:VA f):=vF "bounds_of" ["book", "rule", "looks", "one"] Bc 7 a
noncomputable abbrev V1:=(bC (sA 2 (aE (fL (ak (Ik (ak (vC2 [none,none] ["row", "worth"] (bM (aj 0)) (gV 0) (bM (aj 0)) (gV 1) (aj 1)) ao)) (ak (vC (.int 1)) ao))))) (bC (sA 3 (cC [none,some 2] ["row", "one"] (bM (aj 0)) (gV 0) (eZ (cC [none,some 1] ["worth", "one"] (bM (aj 0)) (gV 0) (Ao (ak (aj 0) (ak (aj 1) ao))))))) (bC (sI (tK (aN gF (aq (aj 1) (vC (.int 0))) (vC (.str "shares")))) (b1 (aC (fL (ak (aj 3) (ak (aj 1) (ak (aj 2) ao)))))) b0) (bC (sA 4 (aE (fL (ak (Ik (ak (aq (aj 1) (vC (.int 1))) ao)) (ak (vC (.int 1)) ao))))) (b1 (aC (fL (ak (aj 3) (ak (fL (ak (vC (.str "shares")) (ak (eZ (cC [none,some 4] ["weight", "factor"] (bM (aq (aj 1) (vC (.int 1)))) (gV 0) (Ao (ak (aj 0) (ak (aj 1) ao))))) ao))) (ak (aj 2) ao))))))))))
noncomputable abbrev ahe:SF:=by exists V1
noncomputable def Bf:FP:=aL 5 ahe
noncomputable abbrev ahf{f:AF}(a:VA f):=vF "whole_form" ["book", "rule"] Bf 4 a
noncomputable abbrev V2:=(bC (sA 1 (aE (Im (ak (eZ (cC [none,none] ["low", "high"] (bM (aj 0)) (gA 2 (bL (gV 0) (bL (gV 1) gq))) (aj 0))) ao)))) (bC (sA 2 (aE (Im (ak (eZ (cC [none,none] ["low", "high"] (bM (aj 0)) (gA 2 (bL (gV 0) (bL (gV 1) gq))) (aj 1))) ao)))) (b1 (aC (Rx kyP "order_of_bounds" "thing" ["lows", "highs"] [some 1,some 2] (ak (bf (ak (aj 0) ao)) ao) (lPr (Hr (Hq (rZ 1) (rZ 0))) (Hr (Hq (rZ 2) (rZ 0)))))))))
noncomputable abbrev ahg:SF:=by exists V2
noncomputable def vP:FP:=aL 3 ahg
noncomputable abbrev Bg{f:AF}(a:VA f):=vF "order_of_bounds" ["bounds"] vP 4 a
noncomputable abbrev V3:=(bC (sO 2 (aE (R7 (ak (uP (Bg (ak (aj 0) ao)) oN (oS (aj 1))) ao)))) (b1 (aC (yS (bZ (agP (ak (aj 0) (ak (aj 2) ao)))) (aj 2) (vC .non)))))
noncomputable abbrev ahh:SF:=by exists V3
noncomputable def V4:FP:=aL 3 ahh
noncomputable abbrev ahi{f:AF}(a:VA f):=vF "sure_by" ["bounds", "count"] V4 7 a
noncomputable abbrev V5:=(bC (uW (aj 0) (gA 3 (bL (gV 3) (bL (gV 4) (bL (gV 5) gq))))) (b1 (aC (ahi (ak (ahd (ak (aj 3) (ak (aj 4) (ak (aj 2) (ak (aj 5) ao))))) (ak (aj 1) ao))))))
noncomputable abbrev ahj:SF:=by exists V5
noncomputable def V6:FP:=aL 6 ahj
noncomputable abbrev ahk{f:AF}(a:VA f):=vF "sure_in" ["form", "count", "looks"] V6 8 a
noncomputable abbrev V7:=(bC (dw (agw (ak (aj 0) (ak (aj 1) (ak (aj 2) ao))))) (bC (dw (agH (ak (aj 0) (ak (aj 3) ao)))) (b1 (aC (ahk (ak (ahf (ak (aj 0) (ak (aj 1) ao))) (ak (aj 2) (ak (aj 3) ao))))))))
noncomputable abbrev ahl:SF:=by exists V7
noncomputable def Ji:FP:=aL 4 ahl
noncomputable abbrev V8{f:AF}(a:VA f):=vF "sure_few" ["book", "rule", "count", "looks"] Ji 9 a
noncomputable abbrev iT(i:Nat):Tr:=.int (i:Nat)
noncomputable def pT(p:Nat × Nat):Tr:=.tup [iT p.1,iT p.2]
noncomputable def Lx(p q:Nat × Nat):Prop:=p.1<q.1\/(p.1=q.1/\p.2<q.2)
noncomputable def dN(ds:List Nat)(as:List (Nat × Nat)):Tr:=.tup [.lst (ds.map iT),.lst (as.map pT)]
noncomputable def Lk(n m:Nat)(ds:List Nat)(as:List (Nat × Nat)):Prop:=ds.length=n/\(∀d∈ds,d<=m)/\as.Pairwise Lx/\as.length<=48/\∀p∈as,p.1<n/\p.2<m
theorem count_eq(h:d<=m):Ut [iT d,.int (m:Nat)]=.ok (.bl true,false):=by
 have e:=vN (i:=d)
 walk_at "d"
 exact congrArg (λb=>Rs.ok (Tr.bl b,false)) (decide_eq_true (by lia))
theorem ahm{n m:Nat}{ds:List Nat}(h1:ds.length=n)(hd:∀d∈ds,d<=m)(hn:n<=1000):U3 [.lst (ds.map iT),.int (n:Nat),.int (m:Nat)]=.ok (.bl true,false):=by
 subst h1
 walk_at "d"
 exact count_eq (hd x hx)
 walk_at "r"
 exact all_true ds
 walk_at "r"
theorem ahn(h:Lx p q):qN (pT p) (pT q)=.ok (.bl true,false):=by
 show Rs.ok (Tr.bl (HT.lexLt [((p.1:Nat):Int),((p.2:Nat):Int)] [((q.1:Nat):Int),((q.2:Nat):Int)]),false)=_
 have:HT.lexLt [((p.1:Nat):Int),((p.2:Nat):Int)] [((q.1:Nat):Int),((q.2:Nat):Int)]=true:=by
  unfold Lx at h
  unfold HT.lexLt
  rcases h with h|⟨h,h'⟩
  .have:(p.1:Int)<q.1:=by lia
   have n:¬(p.1:Int)=q.1:=by lia
   simp[this,n]
  .rw[h]
   have:(p.2:Int)<q.2:=by lia
   have n:¬(p.2:Int)=q.2:=by lia
   simp[HT.lexLt,this,n]
 rw[this]
theorem aho(h1:p.1<n)(h2:p.2<m):U5 [pT p,.int (n:Nat),.int (m:Nat)]=.ok (.bl true,false):=by
 have e1:=Iw p.1 n
 have e2:=Iw p.2 m
 rw[show(decide ((0:Int)<=p.1)&&decide ((p.1:Int)<n))=true by simp; lia]at e1
 rw[show(decide ((0:Int)<=p.2)&&decide ((p.2:Int)<m))=true by simp; lia]at e2
 walk_at "d"
theorem V9:∀{as:List (Nat × Nat)},as.Pairwise Lx->∀z∈as.zip (as.drop 1),Lx z.1 z.2
 | [],_,z,hz=>by cases hz
 | [a],_,z,hz=>by cases hz
 |a::b::as,h,z,hz=>by
  rw[List.drop_one,List.tail_cons,List.zip_cons_cons]at hz
  rcases List.mem_cons.mp hz with rfl|hz
  .exact(List.pairwise_cons.mp h).1 b (List.mem_cons_self ..)
  .exact V9 (as:=b::as) (List.pairwise_cons.mp h).2 z (by rw[List.drop_one,List.tail_cons]; exact hz)
theorem ahp{as:List (Nat × Nat)}(h:as.Pairwise Lx)(hl:as.length<=48):UG [.lst (as.map pT)]=.ok (.bl true,false):=by
 have ez:j9 (as.map pT) ((as.map pT).drop 1)=(as.zip (as.drop 1)).map λz=>Tr.tup [pT z.1,pT z.2]:=by
  unfold j9
  rw[<-List.map_drop,List.zip_map,List.map_map]
  rfl
 have ec:jR (some 1) none (.lst (as.map pT))=.ok (.lst ((as.map pT).drop 1),true):=congrArg (λL=>Rs.ok (Tr.lst L,true)) (agV (as.map pT) 1)
 walk_at "d"
 exact ahn (V9 h x hx)
 rw[List.length_zip]; lia
 walk_at "r"
 exact all_true _
 walk_at "r"
theorem ahq{n m:Nat}{as:List (Nat × Nat)}(h:as.Pairwise Lx)(hl:as.length<=48)(hp:∀p∈as,p.1<n/\p.2<m):U7 [.lst (as.map pT),.int (n:Nat),.int (m:Nat)]=.ok (.bl true,false):=by
 have e:=ahp h hl
 walk_at "d"
 exact aho (hp x hx).1 (hp x hx).2
 walk_at "r"
 exact all_true as
 walk_at "r"
theorem ahr{m:Nat}{rows:List (List (Int × Int))}{ds:List Nat}{as:List (Nat × Nat)}(hB:Bk m rows)(hL:Lk rows.length m ds as):U9 [aU rows,dN ds as]=.ok (.non,false):=by
 obtain⟨b1,b2,b3,b4,b5⟩:=hB
 obtain⟨l1,l2,l3,l4,l5⟩:=hL
 have e1:=ahm l1 l2 (by lia)
 have e2:=ahq l3 l4 l5
 have el:=lu rows
 have hl:rows[0]?=some rows[0]:=List.getElem?_eq_getElem b1
 have e0:aW (aU rows) (.int 0)=.ok (aJ rows[0],false):=Ip hl
 have Iu:=jU rows[0]
 rw[(b5 _ (List.mem_of_getElem? hl)).1]at Iu
 walk_at "d"
theorem Jj(a b:Nat):eqT (iT a) (iT b)=decide (a=b):=by
 unfold iT eqT
 by_cases h:a=b
 .subst h; simp
 .have:¬(a:Int)=b:=by lia
  simp[h,this]
theorem ahs(p q:Nat × Nat):eqT (pT p) (pT q)=decide (p=q):=by
 unfold pT
 rw[show eqT (.tup [iT p.1,iT p.2]) (.tup [iT q.1,iT q.2])=(eqT (iT p.1) (iT q.1)&&(eqT (iT p.2) (iT q.2)&&true)) by simp only[eqT,jF],Jj,Jj]
 obtain⟨a,b⟩:=p
 obtain⟨c,d⟩:=q
 by_cases h:a=c <;> by_cases h':b=d <;> simp[h,h']
theorem Bh:∀zs:List Nat,deps (zs.map iT)=0
 | []=>rfl
 |z::zs=>by
  rw[List.map_cons]
  unfold deps
  rw[Bh zs]
  rfl
theorem Wa(p:Nat × Nat):dep (pT p)=1:=rfl
theorem Jk:∀zs:List (Nat × Nat),deps (zs.map pT)<=1
 | []=>Nat.zero_le _
 |z::zs=>by
  rw[List.map_cons]
  unfold deps
  rw[Wa]
  have:=Jk zs
  lia
theorem Wb{α : Type} [DecidableEq α](t : α):∀zs:List α,(zs.any λz=>decide (z=t))=decide (t∈zs)
 | []=>rfl
 |z::zs=>by
  rw[List.any_cons,Wb t zs]
  by_cases h:z=t
  .subst h; simp
  .have:t≠z:=λe=>h e.symm
   simp[h,this]
theorem Ci(f:Bool->Bool)(t:Nat)(zs:List Nat):jh f (iT t) (.lst (zs.map iT))=.ok (.bl (f (decide (t∈zs))),false):=by
 show(if deps (zs.map iT)<=40/\dep (iT t)<=40 then Rs.ok (Tr.bl (f (jG (iT t) (zs.map iT))),false)else .bad)=_
 rw[if_pos ⟨by rw[Bh]; lia,by show 0<=40; lia⟩]
 unfold jG
 rw[List.any_map,<-Wb]
 simp only[Function.comp_def,Jj]
theorem aht(f:Bool->Bool)(t:Nat × Nat)(zs:List (Nat × Nat)):jh f (pT t) (.lst (zs.map pT))=.ok (.bl (f (decide (t∈zs))),false):=by
 show(if deps (zs.map pT)<=40/\dep (pT t)<=40 then Rs.ok (Tr.bl (f (jG (pT t) (zs.map pT))),false)else .bad)=_
 rw[if_pos ⟨by have:=Jk zs; lia,by rw[Wa]; lia⟩]
 have e:jG (pT t) (zs.map pT)=decide (t∈zs):=by
  unfold jG
  rw[List.any_map,Bool.eq_iff_iff,List.any_eq_true,decide_eq_true_eq]
  refine⟨λ⟨z,hz,e⟩=>?_,λh=>⟨t,h,w6 _⟩⟩
  have e:eqT (pT z) (pT t)=true:=e
  rw[ahs,decide_eq_true_eq]at e
  exact e▸hz
 rw[e]
noncomputable def eN(b:Bool)(x:Int × Int):Tr:=if b=true then fT x else .non
noncomputable def gr(l:List (Int × Int))(s:Nat->Bool):List Tr:=(List.range l.length).map λt=>eN (s t) (l.getD t (0,1))
noncomputable def gs(rows:List (List (Int × Int)))(s:Nat->Nat->Bool):List Tr:=(List.range rows.length).map λk=>.lst (gr (rows.getD k []) (s k))
theorem ahu:(gr l s).set t (fT (l.getD t (0,1)))=gr l λt'=>s t' || decide (t'=t):=by
 refine List.ext_getElem? λi=>?_
 unfold gr
 rw[List.getElem?_set,List.getElem?_map,List.getElem?_map]
 by_cases h:t=i
 .subst h
  by_cases z:t<l.length <;> simp[z,eN]
 .have h':¬i=t:=λe=>h e.symm
  by_cases z:i<l.length <;> simp[h,h',z]
theorem Wc:(gs rows s).set k (.lst ((gr (rows.getD k []) (s k)).set t (fT ((rows.getD k []).getD t (0,1)))))=gs rows λk' t'=>s k' t' || (decide (k'=k)&&decide (t'=t)):=by
 rw[ahu]
 refine List.ext_getElem? λi=>?_
 unfold gs
 rw[List.getElem?_set,List.getElem?_map,List.getElem?_map]
 by_cases h:k=i
 .subst h
  by_cases z:k<rows.length <;> simp[z]
 .have h':¬i=k:=λe=>h e.symm
  by_cases z:i<rows.length <;> simp[h,h',z]
end BH
end
section
namespace L2
open PySem
section
variable {ρ ρ1 ρ2:En}{fa fe:EF}{aa:AF}{fi:IF}{T:Tr}{us ts vs:List Tr}{b:Bool}{i j k:Nat}{fk fj:QF}{Q:Fl->En->Prop}
theorem Wd(h:ts[k]?=some T):nZ ts (.int (k:Nat))=.ok (k,T):=by
 have lt:=(List.getElem?_eq_some_iff.mp h).1
 have e:gW ts.length (k:Int)=some k:=by
  unfold gW
  rw[if_pos (by lia),if_pos (by lia)]
  rfl
 unfold nZ
 simp only[e,h]
theorem Wf{m n:Nat}(h:fe ρ=.ok (.v T b,ρ))(c : ρ[i]?=some (.dp ts))(q:fk ρ=.ok (.int (m:Nat)))(l:ts[m]?=some (.lst us))(q':fj ρ=.ok (.int (n:Nat)))(l':n<us.length)(e : ρ.set i (.dp (ts.set m (.lst (us.set n T)))) = ρ2)(k:Q .nx ρ2):W (RD i fk fj fe ρ) Q:=by
 subst e
 have cd:pX ρ i=.ok ts:=by unfold pX; rw[c]
 exact⟨_,_,bk h (bk (a:=T) rfl (bk cd (bk (by rw[q]; rfl) (bk (Wd l) (bk (by rw[q']; rfl) (bk (Wd (List.getElem?_eq_getElem l')) rfl)))))),k⟩
theorem wCD{β : Type}{t : β -> Tr}{h : β -> List Tr}{xs:List β}(hi:fi ρ=.ok (us,ρ))(hu:us=xs.map t)(hf:∀x∈xs,fe [.sh (t x)]=.ok (.v (.lst (h x)) true,[.sh (t x)]))(hl:xs.length<=100000)(e : ρ.set i (.dp (xs.map λx=>.lst (h x))) = ρ1)(k:Q .nx ρ1):W (GZ i [none] fi (gN 0) jc fe ρ) Q:=by
 subst hu e
 have go:∀(ys:List β) (s:Sl),(∀x∈ys,x∈xs)->∃s',pU (gN 0) jc fe (ys.map t) [s]=.ok (ys.map λx=>.lst (h x),[s']):=λys=>by
  induction ys with
  |nil=>exact λs _=>⟨s,rfl⟩
  |cons y ys ih =>
   intro s m
   obtain⟨s',e'⟩:=ih (.sh (t y)) λx hx=>m x (List.mem_cons_of_mem _ hx)
   exact⟨s',bk (a:=[.sh (t y)]) rfl (bk rfl ((if_pos rfl).trans (bk (hf y (m y (List.mem_cons_self ..))) (bk rfl (bk e' rfl)))))⟩
 obtain⟨s',e'⟩:=go xs .un λ_ h=>h
 exact⟨_,_,bk hi ((if_pos (by rw[List.length_map]; exact hl)).trans (bk (show fM (pU _ _ _ _ [.un])=_ by rw[e']; rfl) (if_pos rfl))),k⟩
theorem xEn{α : Type}{g : α -> Tr}{l:List α}(d : α)(h:aa ρ=.ok ([.v T b],ρ1))(e:T=.lst (l.map g)):QK aa ρ=.ok ((List.range l.length).map λk:Nat=>.tup [.int k,g (l.getD k d)],ρ1):=by
 subst e
 refine bk h (congrArg (λl=>Rs.ok (l,ρ1)) (List.ext_getElem? λi=>?_))
 unfold zQ
 by_cases z:i<l.length
 .simp[z]
 .simp[z]
end
end L2
namespace BH
open PySem L2
structure Od(od:List (Int × Int)->List Nat)(m:Nat)(rows:List (List (Int × Int))):Prop where
 n1:1<=rows.length
 n4:rows.length<=4
 m1:1<=m
 Wg:m<=12
 len:∀l∈rows,l.length=m
 fall:∀l∈rows,sJ [aJ l]=.ok (.lst ((od l).map iT),true)
 lt:∀l∈rows,∀t∈od l,t<m
 ln:∀l∈rows,(od l).length=m
section
variable {od:List (Int × Int)->List Nat}{m:Nat}{rows:List (List (Int × Int))}{ds:List Nat}{as:List (Nat × Nat)}
noncomputable def sn(od:List (Int × Int)->List Nat)(l:List (Int × Int))(d:Nat)(as:List (Nat × Nat))(k t:Nat):Bool:=decide (t∈(od l).take d) || decide ((k,t)∈as)
noncomputable def sA(od:List (Int × Int)->List Nat)(rows:List (List (Int × Int)))(ds:List Nat)(as:List (Nat × Nat))(k:Nat):Nat->Bool:=sn od (rows.getD k []) (ds.getD k 0) as k
theorem Wh(hO:Od od m rows):UL [aU rows]=.ok (.lst (rows.map λl=>.lst ((od l).map iT)),true):=by
 have:=hO.n4
 unfold aU
 walk_at "d"
 exact hO.fall x hx
 walk_at "r"
theorem getM{α : Type}{l:List α}{k:Nat}{d : α}(h:k<l.length):l.getD k d∈l:=by rw[List.getD_eq_getElem?_getD,List.getElem?_eq_getElem h]; exact List.getElem_mem _
theorem lA{α : Type}{f : α -> Tr}{l:List α}{k:Nat}(d : α)(h:k<l.length):aW (.lst (l.map f)) (.int k)=.ok (f (l.getD k d),false):=oA (by simp[h])
theorem Lk.ok(hO:Od od m rows)(hL:Lk rows.length m ds as):∀p∈as,p.1<rows.length/\p.2<(rows.getD p.1 []).length:=λp mp=>by
 have h:=hL.2.2.2.2 p mp
 exact⟨h.1,by rw[hO.len _ (getM h.1)]; exact h.2⟩
theorem Wi{s:Nat->Nat->Bool}(h:k<rows.length):(gs rows s)[k]?=some (.lst (gr (rows.getD k []) (s k))):=by unfold gs; simp[h]
theorem tL{rows:List (List (Int × Int))}{k:Nat}(h:k<rows.length):aW (aU rows) (.int k)=.ok (aJ (rows.getD k []),false):=oA (by simp[h])
theorem Wj{l:List (Int × Int)}{s:Nat->Bool}:(gr l s).length=l.length:=by unfold gr; simp
theorem ahv(hO:Od od m rows)(hL:Lk rows.length m ds as):Vb [aU rows,dN ds as]=.ok (.lst (gs rows (sA od rows ds as)),true):=by
 have h4:=hO.n4
 have h12:=hO.Wg
 have er:=Wh hO
 have eb:aU rows=.lst (rows.map aJ):=rfl
 have ed:dN ds as=.tup [.lst (ds.map iT),.lst (as.map pT)]:=rfl
 walk_at "d"
 refine wCD (t:=aJ) (h:=λl=>List.replicate l.length Tr.non) (xs:=rows) rfl rfl (λl ml=>?_) (by lia) rfl ?_
 .have e2:o8 (.lst [.non]) (.int (l.length:Nat))=.ok (.lst (List.replicate l.length Tr.non),true):=by
   have hl:=hO.len l ml
   unfold o8
   have h1:(0:Int)<=l.length:=by lia
   simp[h1]
   lia
  walk_at "r"
 have e0:(rows.map λl=>Tr.lst (List.replicate l.length Tr.non))=gs rows λ_ _=>false:=by
  refine List.ext_getElem? λi=>?_
  unfold gs gr eN
  by_cases z:i<rows.length
  .simp[z]
   refine List.ext_getElem? λj=>?_
   by_cases y:j<rows[i].length <;> simp[y]
  .simp[z]
 rw[e0]
 walk_at "p"
 apply xEn ([]:List (Int × Int))
 walk_at "r"
 refine jt [5,6,7] (λs=>[(4,.dp (gs rows s))]) (λk s=>∀k' t',s k' t'=(decide (k'<k)&&decide (t'∈(od (rows.getD k' [])).take (ds.getD k' 0)))) (λ_ _=>false) (λk' t'=>by simp) rfl (λk v s hk hs=>?_) λv s hs=>?_
 .have hd:k<ds.length:=by rw[hL.1]; exact hk
  have id:=lA (f:=iT) 0 hd
  have ec:jR none (some (ds.getD k 0:Nat)) (.lst ((od (rows.getD k [])).map iT))=.ok (.lst (((od (rows.getD k [])).take (ds.getD k 0)).map iT),true):=by
   show Rs.ok (Tr.lst (cut ((od (rows.getD k [])).map iT) none (some (ds.getD k 0:Nat))),true)=_
   rw[IV,<-List.map_take]
  have hl:=hO.len _ (getM (d:=[]) hk)
  walk_at "p"
  refine kj [7] (λs=>[(4,.dp (gs rows s))]) (λj s'=>∀k' t',s' k' t'=(s k' t' || (decide (k'=k)&&decide (t'∈((od (rows.getD k [])).take (ds.getD k 0)).take j)))) s (λk' t'=>by simp) rfl (λj t v s' ht hs'=>?_) λv s' hs'=>?_
  .have lt:t<(rows.getD k []).length:=by rw[hl]; exact hO.lt _ (getM hk) t (List.mem_of_mem_take (List.mem_of_getElem? ht))
   have gk:=tL hk
   have gt:=oJ lt
   walk_at "p"
   refine Wf (m:=k) (n:=t) (tE (tE rfl rfl rfl rfl gk) rfl rfl rfl gt) rfl rfl (Wi hk) rfl (by rw[Wj]; exact lt) rfl ?_
   rw[Wc]
   refine⟨_,λk' t'=>?_,exV rfl⟩
   rw[hs' k' t',List.take_add_one,ht]
   by_cases h1:k'=k <;> by_cases h2:t'=t <;> simp[h1,h2]
  .rw[List.take_of_length_le (Nat.le_refl _)]at hs'
   walk_at "p"
   refine⟨s',λk' t'=>?_,exV rfl⟩
   rw[hs' k' t',hs k' t']
   by_cases h1:k'=k
   .subst h1; simp
   .have:k'<k+1↔k'<k:=by lia
    simp[h1,this]
 .walk_at "p"
  refine kj [5,7] (λs=>[(4,.dp (gs rows s))]) (λj s'=>∀k' t',s' k' t'=(s k' t' || decide ((k',t')∈as.take j))) s (λk' t'=>by simp) rfl (λj p v s' hp hs'=>?_) λv s' hs'=>?_
  .obtain⟨h1,h2⟩:=Lk.ok hO hL p (List.mem_of_getElem? hp)
   obtain⟨k,t⟩:=p
   have gk:=tL h1
   have gt:=oJ h2
   walk_at "p"
   refine Wf (m:=k) (n:=t) (tE (tE rfl rfl rfl rfl gk) rfl rfl rfl gt) rfl rfl (Wi h1) rfl (by rw[Wj]; exact h2) rfl ?_
   rw[Wc]
   refine⟨_,λk' t'=>?_,exV rfl⟩
   rw[hs' k' t',List.take_add_one,hp]
   by_cases h1:k'=k <;> by_cases h2:t'=t <;> simp[h1,h2]
  .rw[List.take_of_length_le (Nat.le_refl _)]at hs'
   walk_at "p"
   refine congrArg (λl=>Rs.ok (Tr.lst l,true)) (List.map_congr_left λk hk=>?_)
   have hk:=List.mem_range.mp hk
   refine congrArg (λf=>Tr.lst (gr _ f)) (funext λt=>?_)
   unfold sA sn
   rw[hs' k t,hs k t,decide_eq_true hk,Bool.true_and]
end
noncomputable def gK(od:List (Int × Int)->List Nat)(one:Int × Int)(l:List (Int × Int))(d:Nat):Int × Int:=if 0<d then l.getD ((od l).getD (d-1) 0) (0,1)else one
noncomputable def dO(od:List (Int × Int)->List Nat)(one:Int × Int)(rows:List (List (Int × Int)))(ds:List Nat):List (Int × Int):=(List.range rows.length).map λk=>gK od one (rows.getD k []) (ds.getD k 0)
theorem oE{rows:List (List (Int × Int))}{ds:List Nat}(_:ds.length=rows.length):(dO od one rows ds).length=rows.length:=by unfold dO; simp
theorem Jl{rows:List (List (Int × Int))}{ds:List Nat}{k:Nat}(_:ds.length=rows.length)(hk:k<rows.length):(dO od one rows ds).getD k (0,1)=gK od one (rows.getD k []) (ds.getD k 0):=by unfold dO; simp[hk]
theorem sV{α : Type}{f : α -> Int × Int}{l:List α}:aJ (l.map f)=.lst (l.map λx=>fT (f x)):=by unfold aJ; rw[List.map_map]; rfl
theorem KD{aa:AF}{T U V:Tr}{us vs ws:List Tr}{b b' b2:Bool}{ρ ρ1:En}(h:aa ρ=.ok ([.v T b,.v U b',.v V b2],ρ1))(e:T=.lst us)(e1:U=.lst vs)(e2:V=.lst ws)(l:us.length<=vs.length)(l':us.length<=ws.length):QS aa ρ=.ok (iU us vs ws,ρ1):=by subst e e1 e2; exact bk h (if_pos ⟨l,l'⟩)
theorem Wk{α β : Type}{f g : α -> Tr}{h : β -> Tr}:∀(xs:List α) (ys:List β),iU (xs.map f) (xs.map g) (ys.map h)=(xs.zip ys).map λp=>.tup [f p.1,g p.1,h p.2]
 | [],_=>rfl
 |_::_,[]=>rfl
 |x::xs,y::ys=>congrArg (_ :: ·) (Wk xs ys)
theorem ahw{od:List (Int × Int)->List Nat}{one:Int × Int}(hO:Od od m rows)(hl:ds.length=rows.length)(hd:∀d∈ds,d<=m):VR [aU rows,.lst (ds.map iT),fT one]=.ok (aJ (dO od one rows ds),true):=by
 have er:=Wh hO
 have n4:=hO.n4
 have ez:iU (rows.map aJ) (rows.map λl=>.lst ((od l).map iT)) (ds.map iT)=(List.range rows.length).map λk=>.tup [aJ (rows.getD k []),.lst ((od (rows.getD k [])).map iT),iT (ds.getD k 0)]:=by
  rw[Wk]
  refine List.ext_getElem? λi=>?_
  by_cases z:i<rows.length
  .have z':i<ds.length:=by omega
   simp[z,z']
   exact⟨_,_,List.getElem?_zip_eq_some (z:=(rows[i],ds[i])) |>.mpr ⟨by simp[z],by simp[z']⟩,rfl,rfl,rfl⟩
  .rw[List.getElem?_eq_none (by simp; omega),List.getElem?_eq_none (by simp; omega)]
 unfold dO
 rw[sV]
 walk_at "d"
 rw[ez]
 refine p8 [4,5,6] (λk=>[(3,.ow ((List.range k).map λk=>fT (gK od one (rows.getD k []) (ds.getD k 0))))]) rfl (λk v hk=>?_) (λv=>?_)
 .have ml:=getM (d:=[]) hk
  have hd:=hd _ (getM (d:=0) (show k<ds.length by omega))
  have h1:=hO.len _ ml
  have h2:=hO.ln _ ml
  rw[List.range_succ,List.map_append]
  by_cases z:0<ds.getD k 0
  .have g2:uq (.int (ds.getD k 0:Nat)) (.int 1)=.ok (.int ((ds.getD k 0-1:Nat):Int),false):=by rw[Int.ofNat_sub z]; rfl
   have i1:=lA (f:=iT) (l:=od (rows.getD k [])) (k:=ds.getD k 0-1) 0 (by omega)
   have lt:=hO.lt _ ml _ (getM (d:=0) (show ds.getD k 0-1<(od (rows.getD k [])).length by omega))
   have w:gK od one (rows.getD k []) (ds.getD k 0)=_:=if_pos z
   walk_at "p"
   exact congrArg (λy=>_++[fT y]) w.symm
  .have w:gK od one (rows.getD k []) (ds.getD k 0)=_:=if_neg z
   walk_at "p"
   exact congrArg (λy=>_++[fT y]) w.symm
 .walk_at "p"
noncomputable abbrev eO(rows:List (List (Int × Int)))(k t:Nat):Int × Int:=(rows.getD k []).getD t (0,1)
noncomputable def lo(rows:List (List (Int × Int)))(s:Nat->Nat->Bool)(t:Nat):List (Int × Int):=(List.range rows.length).map λk=>if s k t=true then eO rows k t else(0,1)
noncomputable def hi(rows:List (List (Int × Int)))(s:Nat->Nat->Bool)(cQ:List (Int × Int))(t:Nat):List (Int × Int):=(List.range rows.length).map λk=>if s k t=true then eO rows k t else cQ.getD k (0,1)
noncomputable def bN(a b:Nat->Int × Int)(m:Nat):List Tr:=(List.range m).map λt=>.tup [fT (a t),fT (b t)]
noncomputable def Jm(rows:List (List (Int × Int)))(s:Nat->Nat->Bool)(t:Nat):List Tr:=(List.range rows.length).map λk=>eN (s k t) (eO rows k t)
section
variable {rows:List (List (Int × Int))}{s:Nat->Nat->Bool}{cQ:List (Int × Int)}{m:Nat}
theorem wk{k:Nat}(hk:k<rows.length):aW (.lst (gs rows s)) (.int k)=.ok (.lst (gr (rows.getD k []) (s k)),false):=kJ (by unfold gs; simp[hk])
theorem aae(hk:0<rows.length):aW (.lst (gs rows s)) (.int 0)=.ok (.lst (gr (rows.getD 0 []) (s 0)),false):=wk hk
theorem Cg{l:List (Int × Int)}{s:Nat->Bool}{t:Nat}(ht:t<l.length):aW (.lst (gr l s)) (.int t)=.ok (eN (s t) (l.getD t (0,1)),false):=kJ (by unfold gr; simp[ht])
theorem aaf{l:List (Int × Int)}{s:Nat->Bool}:d8 (.lst (gr l s))=.ok (.int l.length,false):=by
 show Rs.ok (Tr.int ((gr l s).length:Int),false)=_
 unfold gr
 simp
theorem Wl{a b:Nat->Int × Int}:(bN a b m).length=m:=by unfold bN; simp
theorem Wm{a b:Nat->Int × Int}:bN a b m++[.tup [fT (a m),fT (b m)]]=bN a b (m+1):=by unfold bN; rw[List.range_succ,List.map_append]; rfl
theorem aag{b:Bool}{x:Int × Int}{c d:Int}{τ : En}:uL (gh (j5 (oH id) (bx 0) (eC .non))) (eC (.tup [.int c,.int d])) (bx 0) (.sh (eN b x)::τ)=.ok (.v (fT (if b=true then x else(c,d))) false,.sh (eN b x)::τ):=by cases b <;> rfl
theorem aah{b:Bool}{x y:Int × Int}{τ : En}:uL (gh (j5 (oH id) (bx 0) (eC .non))) (bx 1) (bx 0) (.sh (eN b x) :: .sh (fT y)::τ)=.ok (.v (fT (if b=true then x else y)) false,.sh (eN b x) :: .sh (fT y)::τ):=by cases b <;> rfl
theorem ahx(h4:rows.length<=4)(ht:∀l∈rows,t<l.length):Uq [.lst (gs rows s),iT t]=.ok (.lst (Jm rows s t),true):=by
 walk_at "d"
 exact ht _ (List.mem_of_getElem? (i:=x) (by simp[hx]))
 walk_at "r"
theorem ahy{a b:Nat->Int × Int}{R:Tr}(h1:1<=rows.length)(h4:rows.length<=4)(hl:cQ.length=rows.length)(hm:m<=12)(hr:∀l∈rows,l.length=m)(e1:∀t,t<m->gJ [R,aJ (lo rows s t)]=.ok (fT (a t),false))(e2:∀t,t<m->gJ [R,aJ (hi rows s cQ t)]=.ok (fT (b t),false)):Vd [R,.lst (gs rows s),aJ cQ]=.ok (.lst (bN a b m),true):=by
 have hm0:(rows.getD 0 []).length=m:=hr _ (List.mem_of_getElem? (i:=0) (by simp[show 0<rows.length by omega]))
 walk_at "d"
 rw[hm0]
 refine p8 [4,5,6,7] (λk=>[(3,.ow (bN a b k))]) rfl (λt v ht=>?_) (λv=>?_)
 .have e0:=ahx (s:=s) h4 λl hl=>(hr l hl).symm▸ht
  have e1:=e1 t ht
  have e2:=e2 t ht
  unfold lo at e1
  unfold hi at e2
  rw[sV]at e1 e2
  have bl:=Wl (m:=t) (a:=a) (b:=b)
  have ez:j9 (Jm rows s t) (cQ.map fT)=(List.range rows.length).map λk=>.tup [eN (s k t) (eO rows k t),fT (cQ.getD k (0,1))]:=by
   refine List.ext_getElem? λi=>?_
   unfold j9 Jm
   rw[List.getElem?_map,List.getElem?_map]
   by_cases z:i<rows.length
   .have z':i<cQ.length:=by omega
    have e1:((List.range rows.length).map λk=>eN (s k t) (eO rows k t))[i]?=some (eN (s i t) (eO rows i t)):=by simp[z]
    have e2:(cQ.map fT)[i]?=some (fT (cQ.getD i (0,1))):=by simp[z']
    rw[List.getElem?_zip_eq_some (z:=(eN (s i t) (eO rows i t),fT (cQ.getD i (0,1)))) |>.mpr ⟨e1,e2⟩]
    simp[z]
   .rw[List.getElem?_eq_none (by simp; omega),List.getElem?_eq_none (by simp; omega)]
    rfl
  walk_at "p"
  exact Wm
 .walk_at "p"
end
theorem ahz(h:Fall l ys)(h':Fall l zs):ys=zs:=by
 refine List.Perm.eq_of_pairwise (λa b _ _ p q=>?_) h.2 h'.2 (h.1.trans h'.1.symm)
 unfold jO at p q
 lia
open Classical in
noncomputable def aF(l:List (Int × Int)):List Nat:=if h:∃zs:List Nat,Fall l zs then h.choose else []
theorem Jo(h:Fall l zs):aF l=zs:=by
 have h':∃zs:List Nat,Fall l zs:=⟨zs,h⟩
 unfold aF
 rw[dif_pos h']
 exact ahz h'.choose_spec h
theorem sX(h:Frs N l)(hl:1+N*l.length<=8900)(hN:N<=8900)(h64:l.length<64):Fall l (aF l)/\sJ [aJ l]=.ok (.lst ((aF l).map iT),true):=by
 obtain⟨ys,e,f⟩:=IK l h hl hN h64
 rw[Jo f]
 exact⟨f,e⟩
theorem Od.of(h1:1<=rows.length)(h4:rows.length<=4)(m1:1<=m)(m2:m<=12)(hl:∀l∈rows,l.length=m)(h:∀l∈rows,Frs N l)(hN:1+N*12<=8900):Od aF m rows:=by
 have k:∀l∈rows,Fall l (aF l)/\sJ [aJ l]=.ok (.lst ((aF l).map iT),true):=λl ml=>sX (h l ml) (by
  have:=hl l ml
  have:N*l.length<=N*12:=Nat.mul_le_mul_left _ (by lia)
  lia) (by lia) (by have:=hl l ml; lia)
 refine⟨h1,h4,m1,m2,hl,λl ml=>(k l ml).2,λl ml t mt=>?_,λl ml=>?_⟩
 .have:=(k l ml).1.1.mem_iff.mp mt
  rw[List.mem_range,hl l ml]at this
  exact this
 .have:=(k l ml).1.1.length_eq
  rw[List.length_range,hl l ml]at this
  exact this
theorem Bk.od(hB:Bk m rows):Od aF m rows:=by
 obtain⟨b1,b2,b3,b4,b5⟩:=hB
 exact Od.of (N:=40) b1 b2 b3 b4 (λl ml=>(b5 l ml).1) (λl ml=>Wo.frs (b5 l ml).2) (by lia)
section
variable {od:List (Int × Int)->List Nat}{m:Nat}{rows:List (List (Int × Int))}{ds:List Nat}{as:List (Nat × Nat)}{one:Int × Int}{a b:Nat->Int × Int}{R:Tr}
theorem ahA(hO:Od od m rows)(hL:Lk rows.length m ds as)(e1:∀t,t<m->gJ [R,aJ (lo rows (sA od rows ds as) t)]=.ok (fT (a t),false))(e2:∀t,t<m->gJ [R,aJ (hi rows (sA od rows ds as) (dO od one rows ds) t)]=.ok (fT (b t),false)):Bc [aU rows,R,dN ds as,fT one]=.ok (.lst (bN a b m),true) :=
 vJ (Al (gH (fB rfl (fB (gH rfl rfl rfl (ahv hO hL)) (fB (gH rfl rfl rfl (ahw (one:=one) hO hL.1 hL.2.1)) rfl))) rfl rfl (ahy hO.n1 hO.n4 (oE hL.1) hO.Wg hO.len e1 e2)))
theorem ahC(hB:Bk m rows)(ho:bU rows.length r):Um [aU rows,aY r]=.ok (.non,false) :=
 HY (p7 (vI (gH rfl rfl rfl (Vl hB))) (Sg (Sh (Ib (gH (fB rfl (fB (Ia rfl rfl (lu rows)) rfl)) rfl rfl (ag6 ho (by have:=hB.2.1; lia))) rfl rfl)) rfl))
end
open Classical in
noncomputable def wv(r:Ru)(xs:List (Int × Int)):Int × Int:=if h:∃v,Wv r xs v then h.choose else(0,1)
theorem Wn(hx:∀x∈xs,Wo x)(h:Wv r xs v):wv r xs=v:=by
 have h':∃v,Wv r xs v:=⟨v,h⟩
 unfold wv
 rw[dif_pos h']
 exact Wv.uniq hx h'.choose_spec h
theorem qd(hx:∀x∈xs,Wo x)(h1:1<=xs.length)(h2:xs.length<=12)(ho:bU xs.length r):gJ [aY r,aJ xs]=.ok (fT (wv r xs),false)/\Wv r xs (wv r xs):=by
 obtain⟨v,e,h⟩:=ag8 hx h1 h2 ho
 rw[Wn hx h]
 exact⟨e,h⟩
theorem ahD:Wo (0,1):=by decide
theorem ahE:Wo (1,1):=by decide
theorem Wq(hx:∀x∈xs,Wo x)(hy:∀y∈ys,Wo y)(hl:xs.length=ys.length)(h1:1<=xs.length)(h2:xs.length<=4)(ho:bU xs.length r)(h:∀k,k<xs.length->le2 (xs.getD k (0,1)) (ys.getD k (0,1))):le2 (wv r xs) (wv r ys):=by
 have st:∀j,j<=xs.length->∃zs:List (Int × Int),zs.length=xs.length/\(∀z∈zs,Wo z)/\(∀k,k<xs.length->zs[k]?=some (if k<j then ys.getD k (0,1)else xs.getD k (0,1)))/\le2 (wv r xs) (wv r zs):=λj=>by
  induction j with
  |zero=>exact λ_=>⟨xs,rfl,hx,λk hk=>by simp[hk],mL _⟩
  |succ j ih =>
   intro hj
   obtain⟨zs,z1,z2,z3,z4⟩:=ih (by lia)
   have jy:j<ys.length:=by lia
   have my:Wo (ys.getD j (0,1)):=by
    have:ys[j]?=some (ys.getD j (0,1)):=by simp[jy]
    exact hy _ (List.mem_of_getElem? this)
   have Jp:∀z∈zs.set j (ys.getD j (0,1)),Wo z:=λz mz=>by
    rcases List.mem_or_eq_of_mem_set mz with m|e
    .exact z2 z m
    .rw[e]; exact my
   have q1:=(qd (r:=r) z2 (by lia) (by lia) (by rw[z1]; exact ho)).2
   have q2:=(qd (r:=r) Jp (by rw[List.length_set]; lia) (by rw[List.length_set]; lia) (by rw[List.length_set,z1]; exact ho)).2
   have mo:=Wv.mono z2 my (λx hx'=>by
    rw[z3 j (by lia),if_neg (by lia)]at hx'
    cases hx'
    exact h j (by lia)) (by rw[z1]; exact ho) q1 q2
   have f1:=Wv.fq z2 (by lia) (by rw[z1]; exact ho) q1
   have f2:=Wv.fq Jp (by rw[List.length_set]; lia) (by rw[List.length_set,z1]; exact ho) q2
   have f0:=Wv.fq hx h2 ho (qd (r:=r) hx h1 (by lia) ho).2
   refine⟨zs.set j (ys.getD j (0,1)),by rw[List.length_set]; exact z1,Jp,λk hk=>?_,?_⟩
   .rw[List.getElem?_set]
    by_cases e:j=k
    .subst e
     rw[if_pos rfl,if_pos (by lia),if_pos (by lia)]
    .rw[if_neg e,z3 k hk]
     by_cases e2:k<j
     .rw[if_pos e2,if_pos (by lia)]
     .rw[if_neg e2,if_neg (by lia)]
   .exact Ay f0.2.2.1 f1.2.2.1 f2.2.2.1 z4 mo
 obtain⟨zs,z1,z2,z3,z4⟩:=st xs.length (Nat.le_refl _)
 have e:zs=ys:=List.ext_getElem? λk=>by
  by_cases hk:k<xs.length
  .have hk':k<ys.length:=by lia
   rw[z3 k hk,if_pos hk]
   simp[hk']
  .rw[List.getElem?_eq_none (by lia),List.getElem?_eq_none (by lia)]
 rw[e]at z4
 exact z4
theorem ahF(hF:Fall l (aF l))(hd:d<=l.length)(h0:0<d)(ht:t<l.length)(hn:t∉(aF l).take d):le2 (l.getD t (0,1)) (l.getD ((aF l).getD (d-1) 0) (0,1)):=by
 have ln:(aF l).length=l.length:=by simpa using hF.1.length_eq
 have mt:t∈aF l:=hF.1.mem_iff.mpr (List.mem_range.mpr ht)
 rw[<-List.take_append_drop d (aF l)]at mt
 rcases List.mem_append.mp mt with m|m
 .exact absurd m hn
 have pw:=hF.2
 rw[<-List.take_append_drop d (aF l)]at pw
 have g:(aF l)[d-1]?=some ((aF l).getD (d-1) 0):=by
  have:d-1<(aF l).length:=by lia
  simp[this]
 have m1:(aF l).getD (d-1) 0∈(aF l).take d:=by
  refine List.mem_of_getElem? (i:=d-1) ?_
  rw[List.getElem?_take,if_pos (by lia)]
  exact g
 have:=(List.pairwise_append.mp pw).2.2 _ m1 _ m
 unfold jO at this
 unfold le2
 lia
end BH
end
section
namespace BH
open PySem L2
noncomputable def col(rows:List (List (Int × Int)))(t:Nat):List (Int × Int):=(List.range rows.length).map λk=>eO rows k t
section
variable {m:Nat}{rows:List (List (Int × Int))}{ds:List Nat}{as:List (Nat × Nat)}{s:Nat->Nat->Bool}{cQ:List (Int × Int)}{t:Nat}
theorem Bk.row(hB:Bk m rows)(hk:k<rows.length):(rows.getD k [])∈rows/\(rows.getD k []).length=m/\∀x∈rows.getD k [],Wo x:=by
 have e:rows[k]?=some (rows.getD k []):=by simp[hk]
 have ml:=List.mem_of_getElem? e
 exact⟨ml,hB.2.2.2.2 _ ml⟩
theorem Bk.vQ(hB:Bk m rows)(hk:k<rows.length)(ht:t<m):Wo (eO rows k t):=by
 obtain⟨_,h1,h2⟩:=hB.row hk
 unfold eO
 generalize rows.getD k []=l at *
 have lt:t<l.length:=by lia
 have e:l[t]?=some (l.getD t (0,1)):=by simp[lt]
 exact h2 _ (List.mem_of_getElem? e)
theorem vR(hB:Bk m rows)(ht:t<m):∀x∈lo rows s t,Wo x:=λx mx=>by
 obtain⟨k,mk,rfl⟩:=List.mem_map.mp mx
 split
 .exact hB.vQ (List.mem_range.mp mk) ht
 .exact ahD
theorem Bj(hB:Bk m rows)(ht:t<m)(hl:cQ.length=rows.length)(hw:∀x∈cQ,Wo x):∀x∈hi rows s cQ t,Wo x:=λx mx=>by
 obtain⟨k,mk,rfl⟩:=List.mem_map.mp mx
 have hk:=List.mem_range.mp mk
 split
 .exact hB.vQ hk ht
 .have lt:k<cQ.length:=by lia
  have e:cQ[k]?=some (cQ.getD k (0,1)):=by simp[lt]
  exact hw _ (List.mem_of_getElem? e)
theorem Bl(hB:Bk m rows)(ht:t<m):∀x∈col rows t,Wo x:=λx mx=>by
 obtain⟨k,mk,rfl⟩:=List.mem_map.mp mx
 exact hB.vQ (List.mem_range.mp mk) ht
theorem ahG(hB:Bk m rows)(hk:k<rows.length)(hd:d<=m):Wo (gK aF (1,1) (rows.getD k []) d):=by
 obtain⟨ml,h1,h2⟩:=hB.row hk
 have hO:=hB.od
 have q1:=hO.ln _ ml
 have q2:=hO.lt _ ml
 unfold gK
 generalize rows.getD k []=l at *
 split
 .have lt:d-1<(aF l).length:=by lia
  have e:(aF l)[d-1]?=some ((aF l).getD (d-1) 0):=by simp[lt]
  have aR:=q2 _ (List.mem_of_getElem? e)
  have jL:(aF l).getD (d-1) 0<l.length:=by lia
  generalize (aF l).getD (d-1) 0=j at *
  have e2:l[j]?=some (l.getD j (0,1)):=by simp[jL]
  exact h2 _ (List.mem_of_getElem? e2)
 .exact ahE
theorem Bm(hB:Bk m rows)(hL:Lk rows.length m ds as):∀x∈dO aF (1,1) rows ds,Wo x:=λx mx=>by
 obtain⟨k,hk,e⟩:=List.getElem_of_mem mx
 have ll:=oE (od:=aF) (one:=(1,1)) hL.1
 have hk':k<rows.length:=by lia
 have e2:=Jl (od:=aF) (one:=(1,1)) hL.1 hk'
 have e3:(dO aF (1,1) rows ds).getD k (0,1)=x:=by simp[hk,e]
 rw[<-e3,e2]
 have ld:k<ds.length:=by have:=hL.1; lia
 have e4:ds[k]?=some (ds.getD k 0):=by simp[ld]
 exact ahG hB hk' (hL.2.1 _ (List.mem_of_getElem? e4))
theorem fC:(lo rows s t).length=rows.length:=by unfold lo; simp
theorem iG:(hi rows s cQ t).length=rows.length:=by unfold hi; simp
theorem jP:(col rows t).length=rows.length:=by unfold col; simp
theorem ahH(hk:k<rows.length):(lo rows s t).getD k (0,1)=if s k t=true then eO rows k t else(0,1):=by unfold lo; simp[hk]
theorem ahI(hk:k<rows.length):(hi rows s cQ t).getD k (0,1)=if s k t=true then eO rows k t else cQ.getD k (0,1):=by unfold hi; simp[hk]
theorem Ws(hk:k<rows.length):(col rows t).getD k (0,1)=eO rows k t:=by unfold col; simp[hk]
variable {r:Ru}
noncomputable def loV(r:Ru)(rows:List (List (Int × Int)))(ds:List Nat)(as:List (Nat × Nat))(t:Nat):Int × Int:=wv r (lo rows (sA aF rows ds as) t)
noncomputable def hiV(r:Ru)(rows:List (List (Int × Int)))(ds:List Nat)(as:List (Nat × Nat))(t:Nat):Int × Int:=wv r (hi rows (sA aF rows ds as) (dO aF (1,1) rows ds) t)
theorem ahJ(hB:Bk m rows)(ho:bU rows.length r)(ht:t<m):gJ [aY r,aJ (col rows t)]=.ok (fT (wv r (col rows t)),false)/\Wv r (col rows t) (wv r (col rows t)):=qd (Bl hB ht) (by rw[jP]; exact hB.1) (by rw[jP]; have:=hB.2.1; lia) (by rw[jP]; exact ho)
theorem Wt(hB:Bk m rows)(ho:bU rows.length r)(ht:t<m):gJ [aY r,aJ (lo rows (sA aF rows ds as) t)]=.ok (fT (loV r rows ds as t),false)/\Fq 400 (loV r rows ds as t):=by
 have q:=qd (r:=r) (vR (s:=sA aF rows ds as) hB ht) (by rw[fC]; exact hB.1) (by rw[fC]; have:=hB.2.1; lia) (by rw[fC]; exact ho)
 exact⟨q.1,Wv.fq (vR hB ht) (by rw[fC]; exact hB.2.1) (by rw[fC]; exact ho) q.2⟩
theorem Wu(hB:Bk m rows)(hL:Lk rows.length m ds as)(ho:bU rows.length r)(ht:t<m):gJ [aY r,aJ (hi rows (sA aF rows ds as) (dO aF (1,1) rows ds) t)]=.ok (fT (hiV r rows ds as t),false)/\Fq 400 (hiV r rows ds as t):=by
 have w:=Bj (s:=sA aF rows ds as) hB ht (oE hL.1) (Bm hB hL)
 have q:=qd (r:=r) w (by rw[iG]; exact hB.1) (by rw[iG]; have:=hB.2.1; lia) (by rw[iG]; exact ho)
 exact⟨q.1,Wv.fq w (by rw[iG]; exact hB.2.1) (by rw[iG]; exact ho) q.2⟩
theorem ahK(hB:Bk m rows)(hL:Lk rows.length m ds as)(ho:bU rows.length r)(ht:t<m):le2 (loV r rows ds as t) (wv r (col rows t))/\le2 (wv r (col rows t)) (hiV r rows ds as t):=by
 have h1:=hB.1
 have h4:=hB.2.1
 have h12:=hB.2.2.2.1
 constructor
 .refine Wq (vR hB ht) (Bl hB ht) (by rw[fC,jP]) (by rw[fC]; exact h1) (by rw[fC]; exact h4) (by rw[fC]; exact ho) λk hk=>?_
  rw[fC]at hk
  rw[ahH hk,Ws hk]
  split
  .exact mL _
  .have:=(hB.vQ hk ht).1
   unfold le2
   show 0*_<=_*1
   lia
 .refine Wq (Bl hB ht) (Bj hB ht (oE hL.1) (Bm hB hL)) (by rw[iG,jP]) (by rw[jP]; exact h1) (by rw[jP]; exact h4) (by rw[jP]; exact ho) λk hk=>?_
  rw[jP]at hk
  rw[ahI hk,Ws hk]
  split
  .exact mL _
  .rename_i hs
   rw[Jl hL.1 hk]
   have ld:k<ds.length:=by have:=hL.1; lia
   have e4:ds[k]?=some (ds.getD k 0):=by simp[ld]
   have hd:=hL.2.1 _ (List.mem_of_getElem? e4)
   obtain⟨ml,q1,q2⟩:=hB.row hk
   unfold sA sn at hs
   rw[Bool.or_eq_true,decide_eq_true_eq,not_or]at hs
   have hw:=hB.vQ hk ht
   unfold eO at *
   unfold gK
   generalize ds.getD k 0=d,rows.getD k []=l at *
   split
   .rename_i h0
    exact ahF (sX (N:=40) (Wo.frs q2) (by lia) (by lia) (by lia)).1 (by lia) h0 (by lia) hs.1
   .obtain⟨w1,w2,w3,_⟩:=hw
    unfold le2
    show _*1<=1*_
    lia
end
noncomputable def Sc(c:Int)(x x':Int × Int):Prop:=x'.1*x.2=c*x.1*x'.2
theorem Sc.le(hc:1<=c)(h1:1<=x.2)(h2:1<=x'.2)(h3:1<=y.2)(h4:1<=y'.2)(a:Sc c x x')(b:Sc c y y'):le2 x' y'↔le2 x y:=by
 unfold Sc at a b
 unfold le2
 have p1:0<x.2*y.2:=Int.mul_pos (by lia) (by lia)
 have p2:0<c*(x'.2*y'.2):=Int.mul_pos (by lia) (Int.mul_pos (by lia) (by lia))
 have e1:x'.1*y'.2*(x.2*y.2)=x.1*y.2*(c*(x'.2*y'.2)):=by grind
 have e2:y'.1*x'.2*(x.2*y.2)=y.1*x.2*(c*(x'.2*y'.2)):=by grind
 constructor
 .intro h
  have:=Int.mul_le_mul_of_nonneg_right h (Int.le_of_lt p1)
  rw[e1,e2]at this
  exact Int.le_of_mul_le_mul_right this p2
 .intro h
  have:=Int.mul_le_mul_of_nonneg_right h (Int.le_of_lt p2)
  rw[<-e1,<-e2]at this
  exact Int.le_of_mul_le_mul_right this p1
theorem Sc.Ww(h1:1<=x.2)(h2:1<=x'.2)(h3:1<=y.2)(h4:1<=y'.2)(a:Sc c x x')(b:Sc d y y'):Sc (c*d) (bH x y) (bH x' y'):=by
 have p1:0<x.2*y.2:=Int.mul_pos (by lia) (by lia)
 have p2:0<x'.2*y'.2:=Int.mul_pos (by lia) (by lia)
 have v1:=(ju (a:=x.1*y.1) (b:=x.2*y.2) (by lia)).1
 have v2:=(ju (a:=x'.1*y'.1) (b:=x'.2*y'.2) (by lia)).1
 unfold Sc at *
 unfold bH
 generalize (red (x'.1*y'.1) (x'.2*y'.2)).2=q',(red (x'.1*y'.1) (x'.2*y'.2)).1=p',(red (x.1*y.1) (x.2*y.2)).2=q,(red (x.1*y.1) (x.2*y.2)).1=p at *
 refine Int.eq_of_mul_eq_mul_right (a:=x.2*y.2*(x'.2*y'.2)) (Int.ne_of_gt (Int.mul_pos p1 p2)) ?_
 grind
theorem Sc.sum(h1:1<=x.2)(h2:1<=x'.2)(h3:1<=y.2)(h4:1<=y'.2)(a:Sc c x x')(b:Sc c y y'):Sc c (sumF x y) (sumF x' y'):=by
 have p1:0<x.2*y.2:=Int.mul_pos (by lia) (by lia)
 have p2:0<x'.2*y'.2:=Int.mul_pos (by lia) (by lia)
 have v1:=(ju (a:=x.1*y.2+y.1*x.2) (b:=x.2*y.2) (by lia)).1
 have v2:=(ju (a:=x'.1*y'.2+y'.1*x'.2) (b:=x'.2*y'.2) (by lia)).1
 unfold Sc at *
 unfold sumF
 generalize (red (x'.1*y'.2+y'.1*x'.2) (x'.2*y'.2)).2=q',(red (x'.1*y'.2+y'.1*x'.2) (x'.2*y'.2)).1=p',(red (x.1*y.2+y.1*x.2) (x.2*y.2)).2=q,(red (x.1*y.2+y.1*x.2) (x.2*y.2)).1=p at *
 refine Int.eq_of_mul_eq_mul_right (a:=x.2*y.2*(x'.2*y'.2)) (Int.ne_of_gt (Int.mul_pos p1 p2)) ?_
 grind
noncomputable def sc(B:Int)(x:Int × Int):Int × Int:=bH x (B,1)
theorem Wx(B:Int):sc B (0,1)=(0,1):=by
 unfold sc bH red
 simp
theorem ahL:sc B (1,1)=(B,1):=by
 unfold sc bH red
 simp
theorem kW(h:1<=x.2):Sc B x (sc B x):=by
 have v:=(ju (a:=x.1*B) (b:=x.2*1) (by lia)).1
 unfold Sc sc bH
 dsimp only
 generalize (red (x.1*B) (x.2*1)).2=q,(red (x.1*B) (x.2*1)).1=p at *
 grind
theorem Wy(h:1<=x.2)(hd:x.2∣B):∃k,B=x.2*k/\sc B x=(x.1*k,1):=by
 obtain⟨k,rfl⟩:=hd
 refine⟨k,rfl,?_⟩
 have g:Int.gcd (x.1*(x.2*k)) (x.2*1)=x.2.natAbs:=by
  rw[Int.mul_one,show x.1*(x.2*k)=x.2*(x.1*k) by ac_rfl]
  exact Int.gcd_mul_right_left ..
 have e:((Int.gcd (x.1*(x.2*k)) (x.2*1):Nat):Int)=x.2:=by rw[g]; lia
 show red (x.1*(x.2*k)) (x.2*1)=_
 unfold red
 rw[e,show x.1*(x.2*k)=x.2*(x.1*k) by ac_rfl,Int.mul_ediv_cancel_left _ (by lia),Int.mul_one,Int.ediv_self (by lia)]
theorem Bo(h:Wo x)(hd:x.2∣B)(h1:1<=B)(hB:B<=1000000000000):Fq 45 (sc B x)/\(sc B x).2=1:=by
 obtain⟨k,e,v⟩:=Wy h.2.2.1 hd
 obtain⟨w1,w2,w3,_⟩:=h
 have k0:0<=k:=by
  rcases Int.lt_or_le k 0 with z|z
  .have:=Int.mul_neg_of_pos_of_neg (a:=x.2) (b:=k) (by lia) z
   lia
  .exact z
 have l1:=Int.mul_nonneg w1 k0
 have l2:=Int.mul_le_mul_of_nonneg_right w2 k0
 rw[v]
 refine⟨⟨l1,?_,by show(1:Int)<=1; lia,by show(1:Int)<2 ^ 45; decide,by show Int.gcd _ 1=1; simp⟩,rfl⟩
 show x.1*k<2 ^ 45
 have:(2:Int) ^ 45=35184372088832:=by decide
 lia
theorem Bp(h1:1<=x.2)(h2:1<=y.2):1<=(bH x y).2:=(ju (by have:=Int.mul_pos (a:=x.2) (b:=y.2) (by lia) (by lia); lia)).2.1
theorem Wz(h1:1<=x.2)(h2:1<=y.2):1<=(sumF x y).2:=(ju (by have:=Int.mul_pos (a:=x.2) (b:=y.2) (by lia) (by lia); lia)).2.1
noncomputable def dX(k:Int):Ru->Ru
 |.sh ws=>.sh (ws.map (sc k))
 |r=>r
noncomputable def jQ(k B:Int)(n:Nat):Ru->Int
 |.sh _=>k*B
 |.product=>B ^ n
 |_=>B
theorem WD:∀(ws xs:List (Int × Int)) (t t':Int × Int),(∀w∈ws,1<=w.2/\1<=(sc k w).2)->(∀x∈xs,1<=x.2/\1<=(sc B x).2)->1<=t.2->1<=t'.2->Sc (k*B) t t'->Sc (k*B) (cZ (ws.zip xs) t) (cZ ((ws.map (sc k)).zip (xs.map (sc B))) t')
 | [],_,t,t',_,_,_,_,h=>h
 |_::_,[],t,t',_,_,_,_,h=>h
 |w::ws,x::xs,t,t',hw,hx,h1,h2,h=>by
  obtain⟨w1,w2⟩:=hw w (by simp)
  obtain⟨x1,x2⟩:=hx x (by simp)
  have b1:=Bp w1 x1
  have b2:=Bp w2 x2
  exact WD ws xs _ _ (λw m=>hw w (by simp[m])) (λx m=>hx x (by simp[m])) (Wz h1 b1) (Wz h2 b2) (Sc.sum h1 h2 b1 b2 h (Sc.Ww w1 w2 x1 x2 (kW w1) (kW x1)))
theorem WK:∀(xs:List (Int × Int)) (c:Int) (t t':Int × Int),(∀x∈xs,1<=x.2/\1<=(sc B x).2)->1<=t.2->1<=t'.2->Sc c t t'->Sc (c*B ^ xs.length) (dD xs t) (dD (xs.map (sc B)) t')
 | [],c,t,t',_,_,_,h=>by
  rw[List.length_nil,Int.pow_zero,Int.mul_one]
  exact h
 |x::xs,c,t,t',hx,h1,h2,h=>by
  obtain⟨x1,x2⟩:=hx x (by simp)
  have:=WK xs (c*B) (bH t x) (bH t' (sc B x)) (λx m=>hx x (by simp[m])) (Bp h1 x1) (Bp h2 x2) (Sc.Ww h1 h2 x1 x2 h (kW x1))
  rw[List.length_cons,Int.pow_succ,show c*(B ^ xs.length*B)=c*B*B ^ xs.length by ac_rfl]
  exact this
theorem LT.of(h:∀x∈xs,Fq 45 x):LT xs:=λx m=>⟨(h x m).2.2.1,(h x m).2.2.2.2⟩
theorem WL(hx:∀x∈xs,Wo x/\x.2∣B)(b1:1<=B)(b2:B<=1000000000000)(h1:1<=xs.length)(h4:xs.length<=4)(ho:bU xs.length r)(ho':bU xs.length (dX k r)):∃v',gJ [aY (dX k r),aJ (xs.map (sc B))]=.ok (fT v',false)/\Sc (jQ k B xs.length r) (wv r xs) v'/\Fq 400 v':=by
 have hf:∀x∈xs,Fq 45 (sc B x)/\(sc B x).2=1:=λx m=>Bo (hx x m).1 (hx x m).2 b1 b2
 have hq:∀x∈xs.map (sc B),Fq 45 x:=λy m=>by
  obtain⟨x,mx,rfl⟩:=List.mem_map.mp m
  exact(hf x mx).1
 have ll:(xs.map (sc B)).length=xs.length:=List.length_map ..
 have ho2:bU (xs.map (sc B)).length (dX k r):=by rw[ll]; exact ho'
 obtain⟨v',e,h'⟩:=VH hq (by lia) (by lia) ho2
 have hw:=(qd (r:=r) (λx m=>(hx x m).1) h1 (by lia) ho).2
 refine⟨v',e,?_,Wv.VJ hq (by lia) ho2 h'⟩
 have px:∀x∈xs,1<=x.2/\1<=(sc B x).2:=λx m=>⟨(hx x m).1.2.2.1,(hf x m).1.2.2.1⟩
 have pl:placed r=true->dX k r=r->jQ k B xs.length r=B->(∃zs,cL xs zs/\zs[eH xs.length r-1]?=some (wv r xs))->(∃zs,cL (xs.map (sc B)) zs/\zs[eH (xs.map (sc B)).length r-1]?=some v')->Sc (jQ k B xs.length r) (wv r xs) v':=λ_ _ es ⟨zs,d,e1⟩ ⟨zs',d',e2⟩=>by
  have dm:cL (xs.map (sc B)) (zs.map (sc B)):=⟨d.1.map _,by
   rw[List.pairwise_map]
   refine d.2.imp_of_mem λ{a b} ma mb hab=>?_
   have ma:=px a (d.1.mem_iff.mp ma)
   have mb:=px b (d.1.mem_iff.mp mb)
   exact(Sc.le b1 mb.1 mb.2 ma.1 ma.2 (kW mb.1) (kW ma.1)).mpr hab⟩
  rw[cL.uniq (LT.of hq) d' dm,ll,List.getElem?_map,e1]at e2
  cases e2
  rw[es]
  exact kW (px _ (d.1.mem_iff.mp (List.mem_of_getElem? e1))).1
 cases r with
 |sh ws =>
  have hw:wv (.sh ws) xs=cZ (ws.zip xs) (0,1):=hw
  have h':v'=cZ ((ws.map (sc k)).zip (xs.map (sc B))) (0,1):=h'
  rw[hw,h']
  exact WD ws xs _ _ (λw m=>⟨(ho.2 w m).2.2.1,(ho'.2 _ (List.mem_map.mpr ⟨w,m,rfl⟩)).2.2.1⟩) px (by decide) (by decide) (by unfold Sc; simp)
 |product =>
  have hw:wv .product xs=dD xs (1,1):=hw
  have h':v'=dD (xs.map (sc B)) (1,1):=h'
  rw[hw,h']
  have:=WK xs 1 (1,1) (1,1) px (by decide) (by decide) (by unfold Sc; simp)
  rw[Int.one_mul]at this
  exact this
 |least=>exact pl rfl rfl rfl hw h'
 |greatest=>exact pl rfl rfl rfl hw h'
 |mid j=>exact pl rfl rfl rfl hw h'
noncomputable def cg(B:Int)(rows:List (List (Int × Int))):List (List (Int × Int)):=rows.map λl=>l.map (sc B)
section
variable {m:Nat}{rows:List (List (Int × Int))}{ds:List Nat}{as:List (Nat × Nat)}{B:Int}
theorem vU(l:List (Int × Int))(t:Nat):(l.map (sc B)).getD t (0,1)=sc B (l.getD t (0,1)):=by
 by_cases h:t<l.length
 .simp[h]
 .simp[h,Wx]
theorem WM(k:Nat):(cg B rows).getD k []=(rows.getD k []).map (sc B):=by
 unfold cg
 by_cases h:k<rows.length <;> simp[h]
theorem WQ(k t:Nat):eO (cg B rows) k t=sc B (eO rows k t):=by
 unfold eO
 rw[WM,vU]
theorem WR(hw:∀x∈l,Wo x/\x.2∣B)(hl:l.length<=12)(b1:1<=B)(b2:B<=1000000000000):aF (l.map (sc B))=aF l:=by
 have hF:=(sX (N:=40) (l:=l) (Wo.frs λx m=>(hw x m).1) (by lia) (by lia) (by lia)).1
 refine Jo ⟨by rw[List.length_map]; exact hF.1,hF.2.imp_of_mem λ{i j} mi mj h=>?_⟩
 have li:=List.mem_range.mp (hF.1.mem_iff.mp mi)
 have lj:=List.mem_range.mp (hF.1.mem_iff.mp mj)
 have wi:=hw (l.getD i (0,1)) (List.mem_of_getElem? (i:=i) (by simp[li]))
 have wj:=hw (l.getD j (0,1)) (List.mem_of_getElem? (i:=j) (by simp[lj]))
 have fi:=(Bo wi.1 wi.2 b1 b2).1
 have fj:=(Bo wj.1 wj.2 b1 b2).1
 have l1:=Sc.le b1 wi.1.2.2.1 fi.2.2.1 wj.1.2.2.1 fj.2.2.1 (kW wi.1.2.2.1) (kW wj.1.2.2.1)
 have l2:=Sc.le b1 wj.1.2.2.1 fj.2.2.1 wi.1.2.2.1 fi.2.2.1 (kW wj.1.2.2.1) (kW wi.1.2.2.1)
 unfold jO at *
 rw[vU,vU]
 unfold le2 at l1 l2
 lia
end
noncomputable def Bd(B:Int)(rows:List (List (Int × Int))):Prop:=1<=B/\B<=1000000000000/\∀l∈rows,∀x∈l,x.2∣B
section
variable {m:Nat}{rows:List (List (Int × Int))}{ds:List Nat}{as:List (Nat × Nat)}{B k:Int}{s:Nat->Nat->Bool}{cQ:List (Int × Int)}{t:Nat}{r:Ru}
theorem vW:(cg B rows).length=rows.length:=List.length_map ..
theorem ahM(hB:Bk m rows)(hD:Bd B rows)(j:Nat):aF ((rows.getD j []).map (sc B))=aF (rows.getD j []):=by
 by_cases h:j<rows.length
 .obtain⟨ml,q1,q2⟩:=hB.row h
  exact WR (λx mx=>⟨q2 x mx,hD.2.2 _ ml x mx⟩) (by have:=hB.2.2.2.1; lia) hD.1 hD.2.1
 .rw[show rows.getD j []=[] by simp[h]]
  rfl
theorem WT(hB:Bk m rows)(hD:Bd B rows):sA aF (cg B rows) ds as=sA aF rows ds as:=by
 funext j t
 unfold sA sn
 rw[WM,ahM hB hD]
theorem ahN:lo (cg B rows) s t=(lo rows s t).map (sc B):=by
 unfold lo
 rw[vW,List.map_map]
 refine List.map_congr_left λj _=>?_
 dsimp only[Function.comp]
 rw[WQ]
 split
 .rfl
 .exact(Wx B).symm
theorem ahO:hi (cg B rows) s (cQ.map (sc B)) t=(hi rows s cQ t).map (sc B):=by
 unfold hi
 rw[vW,List.map_map]
 refine List.map_congr_left λj _=>?_
 dsimp only[Function.comp]
 rw[WQ,vU]
 split <;> rfl
theorem ahP{rows:List (List (Int × Int))}{ds:List Nat}(h:∀l∈rows,aF (l.map (sc B))=aF l):dO aF (B,1) (cg B rows) ds=(dO aF (1,1) rows ds).map (sc B):=by
 unfold dO
 rw[List.map_map,show(cg B rows).length=rows.length by unfold cg; simp]
 refine List.map_congr_left λk hk=>?_
 have hk:=List.mem_range.mp hk
 show gK aF (B,1) ((cg B rows).getD k []) _=sc B (gK aF (1,1) (rows.getD k []) _)
 rw[show(cg B rows).getD k []=(rows.getD k []).map (sc B) by unfold cg; simp[hk]]
 unfold gK
 rw[h _ (getM hk),vU]
 split
 .rfl
 .exact ahL.symm
theorem ahQ(hB:Bk m rows)(hD:Bd B rows):∀l∈rows,aF (l.map (sc B))=aF l:=λl ml=>by
 have:=hB.2.2.2.2 l ml
 exact WR (λx mx=>⟨this.2 x mx,hD.2.2 l ml x mx⟩) (by have:=hB.2.2.2.1; lia) hD.1 hD.2.1
theorem ahR(hD:Bd B rows)(hB:Bk m rows)(ht:t<m):∀x∈lo rows s t,Wo x/\x.2∣B:=λx mx=>by
 refine⟨vR hB ht x mx,?_⟩
 obtain⟨j,mj,rfl⟩:=List.mem_map.mp mx
 have hj:=List.mem_range.mp mj
 split
 .obtain⟨ml,q1,q2⟩:=hB.row hj
  refine hD.2.2 _ ml _ ?_
  unfold eO
  generalize rows.getD j []=l at *
  have lt:t<l.length:=by lia
  exact List.mem_of_getElem? (i:=t) (by simp[lt])
 .exact Int.one_dvd _
theorem ahS(hD:Bd B rows)(hB:Bk m rows)(hL:Lk rows.length m ds as):∀x∈dO aF (1,1) rows ds,x.2∣B:=λx mx=>by
 obtain⟨j,hj,e⟩:=List.getElem_of_mem mx
 have ll:=oE (od:=aF) (one:=(1,1)) hL.1
 have hj':j<rows.length:=by lia
 have e2:=Jl (od:=aF) (one:=(1,1)) hL.1 hj'
 have e3:(dO aF (1,1) rows ds).getD j (0,1)=x:=by simp[hj,e]
 rw[<-e3,e2]
 have ld:j<ds.length:=by have:=hL.1; lia
 have e4:ds[j]?=some (ds.getD j 0):=by simp[ld]
 have hd:=hL.2.1 _ (List.mem_of_getElem? e4)
 obtain⟨ml,q1,q2⟩:=hB.row hj'
 have hO:=hB.od
 have w1:=hO.ln _ ml
 have w2:=hO.lt _ ml
 have w3:=hD.2.2 _ ml
 unfold gK
 generalize ds.getD j 0=d,rows.getD j []=l at *
 split
 .have lt:d-1<(aF l).length:=by lia
  have e:(aF l)[d-1]?=some ((aF l).getD (d-1) 0):=by simp[lt]
  have aR:=w2 _ (List.mem_of_getElem? e)
  have jL:(aF l).getD (d-1) 0<l.length:=by lia
  generalize (aF l).getD (d-1) 0=i at *
  exact w3 _ (List.mem_of_getElem? (i:=i) (by simp[jL]))
 .exact Int.one_dvd _
theorem ahT(hD:Bd B rows)(hB:Bk m rows)(hL:Lk rows.length m ds as)(ht:t<m):∀x∈hi rows s (dO aF (1,1) rows ds) t,Wo x/\x.2∣B:=λx mx=>by
 refine⟨Bj hB ht (oE hL.1) (Bm hB hL) x mx,?_⟩
 obtain⟨j,mj,rfl⟩:=List.mem_map.mp mx
 have hj:=List.mem_range.mp mj
 split
 .obtain⟨ml,q1,q2⟩:=hB.row hj
  refine hD.2.2 _ ml _ ?_
  unfold eO
  generalize rows.getD j []=l at *
  have lt:t<l.length:=by lia
  exact List.mem_of_getElem? (i:=t) (by simp[lt])
 .have ll:=oE (od:=aF) (one:=(1,1)) hL.1
  have lt:j<(dO aF (1,1) rows ds).length:=by lia
  exact ahS hD hB hL _ (List.mem_of_getElem? (i:=j) (by simp[lt]))
theorem ahU(hB:Bk m rows)(hD:Bd B rows)(hL:Lk rows.length m ds as)(ho:bU rows.length r)(ho':bU rows.length (dX k r)):∃a b:Nat->Int × Int,Bc [aU (cg B rows),aY (dX k r),dN ds as,fT (B,1)]=.ok (.lst (bN a b m),true)/\∀t,t<m->Sc (jQ k B rows.length r) (loV r rows ds as t) (a t)/\Sc (jQ k B rows.length r) (hiV r rows ds as t) (b t)/\Fq 400 (a t)/\Fq 400 (b t):=by
 have h1:=hB.1
 have h4:=hB.2.1
 have A:∀t,∃v,t<m->gJ [aY (dX k r),aJ (lo (cg B rows) (sA aF (cg B rows) ds as) t)]=.ok (fT v,false)/\Sc (jQ k B rows.length r) (loV r rows ds as t) v/\Fq 400 v:=λt=>by
  by_cases ht:t<m
  .obtain⟨v,q⟩:=WL (k:=k) (B:=B) (r:=r) (ahR (s:=sA aF rows ds as) hD hB ht) hD.1 hD.2.1 (by rw[fC]; exact h1) (by rw[fC]; exact h4) (by rw[fC]; exact ho) (by rw[fC]; exact ho')
   rw[fC]at q
   refine⟨v,λ_=>?_⟩
   rw[WT hB hD,ahN]
   exact q
  .exact⟨(0,1),λz=>absurd z ht⟩
 have C:∀t,∃v,t<m->gJ [aY (dX k r),aJ (hi (cg B rows) (sA aF (cg B rows) ds as) (dO aF (B,1) (cg B rows) ds) t)]=.ok (fT v,false)/\Sc (jQ k B rows.length r) (hiV r rows ds as t) v/\Fq 400 v:=λt=>by
  by_cases ht:t<m
  .obtain⟨v,q⟩:=WL (k:=k) (B:=B) (r:=r) (ahT (s:=sA aF rows ds as) hD hB hL ht) hD.1 hD.2.1 (by rw[iG]; exact h1) (by rw[iG]; exact h4) (by rw[iG]; exact ho) (by rw[iG]; exact ho')
   rw[iG]at q
   refine⟨v,λ_=>?_⟩
   rw[WT hB hD,ahP (ahQ hB hD),ahO]
   exact q
  .exact⟨(0,1),λz=>absurd z ht⟩
 have hO:Od aF m (cg B rows):=Od.of (N:=45) (by rw[vW]; exact h1) (by rw[vW]; exact h4) hB.2.2.1 hB.2.2.2.1 (λl ml=>by
   obtain⟨l',Bq,rfl⟩:=List.mem_map.mp ml
   rw[List.length_map]
   exact(hB.2.2.2.2 l' Bq).1) (λl ml=>by
   obtain⟨l',Bq,rfl⟩:=List.mem_map.mp ml
   refine Fq.frs λy my=>?_
   obtain⟨x,mx,rfl⟩:=List.mem_map.mp my
   exact(Bo ((hB.2.2.2.2 l' Bq).2 x mx) (hD.2.2 l' Bq x mx) hD.1 hD.2.1).1) (by lia)
 refine⟨λt=>(A t).choose,λt=>(C t).choose,ahA hO (by rw[vW]; exact hL) (λt ht=>((A t).choose_spec ht).1) (λt ht=>((C t).choose_spec ht).1),λt ht=>?_⟩
 have q1:=(A t).choose_spec ht
 have q2:=(C t).choose_spec ht
 exact⟨q1.2.1,q2.2.1,q1.2.2,q2.2.2⟩
end
end BH
end
section
set_option maxHeartbeats 400000
namespace BH
open PySem L2
noncomputable def Br:Ru->Prop
 |.sh ws=>∀w∈ws,w.2∣12/\w.1<=100
 |_=>True
theorem WW(s0:Sl):∀(ts:List Tr) (s1:Sl),∃t1,fO (gN 1) jc (bx 1) ts [s0,s1]=.ok (ts,[s0,t1])
 | [],s1=>⟨s1,rfl⟩
 |u::ts,s1=>by
  obtain⟨t1,e⟩:=WW s0 ts (.sh u)
  exact⟨t1,bk rfl (bk rfl (bk e rfl))⟩
theorem WX:∀(rows:List (List (Int × Int))) (s0 s1:Sl),(∀l∈rows,l.length<=1000)->∃t0 t1,vq (gN 0) (rK (bx 0)) (gN 1) (bx 1) (rows.map aJ) [s0,s1]=.ok (rows.flatten.map fT,[t0,t1])
 | [],s0,s1,_=>⟨s0,s1,rfl⟩
 |l::rows,s0,s1,h=>by
  obtain⟨u1,e1⟩:=WW (.sh (aJ l)) (l.map fT) s1
  obtain⟨t0,t1,e2⟩:=WX rows (.sh (aJ l)) u1 λl ml=>h l (by simp[ml])
  refine⟨t0,t1,bk rfl (bk rfl ((if_pos (by show(l.map fT).length<=1000; rw[List.length_map]; exact h l (by simp))).trans (bk e1 (bk e2 ?_))))⟩
  rw[List.flatten_cons,List.map_append]
theorem WY(b1:1<=B)(b2:B<=1000000000000):Fq 45 (B,1):=by
 have e:(2:Int) ^ 45=35184372088832:=by decide
 refine⟨?_,?_,Int.le_refl 1,by show(1:Int)<2 ^ 45; decide,by show Int.gcd B 1=1; simp⟩
 .show 0<=B
  lia
 .show B<2 ^ 45
  lia
theorem W0{rows:List (List (Int × Int))}{fi:IF}{us:List Tr}{ρ : En}(h:fi ρ=.ok (us,ρ))(hu:us=rows.map aJ)(hl:rows.length<=100)(hr:∀l∈rows,l.length<=1000):Hy [none,none] fi (gN 0) (rK (bx 0)) (gN 1) (bx 1) ρ=.ok (.v (.lst (rows.flatten.map fT)) true,ρ):=by
 subst hu
 obtain⟨t0,t1,eg⟩:=WX rows .un .un hr
 refine bk h ((if_pos (by rw[List.length_map]; exact hl)).trans ?_)
 show(fM (vq _ _ _ _ (rows.map aJ) [.un,.un])).bind _=_
 rw[eg]
 rfl
section
variable {m:Nat}{rows:List (List (Int × Int))}{r:Ru}
theorem ahV(hB:Bk m rows)(hD:∃D,Bd D rows)(ho:bU rows.length r)(hS:Br r):∃B k:Int,Bd B rows/\bU rows.length (dX k r)/\1<=k/\Bf [aU rows,aY r]=.ok (.tup [aU (cg B rows),aY (dX k r),fT (B,1)],false):=by
 obtain⟨c1,c2,c3,c4,c5⟩:=id hB
 obtain⟨D,d1,d2,d3⟩:=hD
 have wo:∀x∈rows.flatten,Wo x:=λx mx=>by
  obtain⟨l,ml,mx⟩:=List.mem_flatten.mp mx
  exact(c5 l ml).2 x mx
 have lf:rows.flatten.length<=48:=by
  have:∀rs:List (List (Int × Int)),(∀l∈rs,l.length=m)->rs.flatten.length=rs.length*m:=λrs=>by
   induction rs with
   |nil=>intro _; simp
   |cons l rs ih =>
    intro h
    rw[List.flatten_cons,List.length_append,ih λl ml=>h l (by simp[ml]),h l (by simp),List.length_cons,Nat.succ_mul]
    lia
  rw[this rows λl ml=>(c5 l ml).1]
  exact Nat.mul_le_mul (show rows.length<=4 by lia) c4
 obtain⟨_,eB,B,⟨b1,_,b3,b4⟩,rfl⟩:=Iz (N:=40) rows.flatten (Wo.frs wo) (by lia) (by lia)
 have b2:B<=1000000000000:=Int.le_trans (Int.le_of_dvd (by lia) (b4 D λx mx=>by
  obtain⟨l,ml,mx⟩:=List.mem_flatten.mp mx
  exact d3 l ml x mx)) d2
 have ft:∀x,Fq 45 x->Am [fT x,.tup [.int B,.int 1]]=.ok (fT (sc B x),false):=λx h=>Az (y:=(B,1)) h (WY b1 b2) (by lia)
 have eW:aU (cg B rows)=.lst (rows.map λl=>.lst (l.map λx=>fT (sc B x))):=by
  unfold aU cg
  rw[List.map_map]
  refine congrArg Tr.lst (List.map_congr_left λl _=>?_)
  show aJ (l.map (sc B))=_
  rw[sV]
 have c6:∀l∈rows,l.length<=1000:=λl ml=>by rw[(c5 l ml).1]; lia
 suffices h:∃k,bU rows.length (dX k r)/\1<=k/\Bf [aU rows,aY r]=.ok (.tup [.lst (rows.map λl=>.lst (l.map λx=>fT (sc B x))),aY (dX k r),.tup [.int B,.int 1]],false) by
  obtain⟨k,h1,h2,h3⟩:=h
  exact⟨B,k,⟨b1,b2,λl ml x mx=>b3 x (List.mem_flatten.mpr ⟨l,ml,mx⟩)⟩,h1,h2,by rw[eW]; exact h3⟩
 have fq:∀l∈rows,∀x∈l,Fq 45 x:=λl ml x mx=>((c5 l ml).2 x mx).fq
 cases r
 case sh ws =>
  obtain⟨hl,hq⟩:=ho
  obtain⟨_,ek,k,⟨k1,_,k3,k4⟩,rfl⟩:=Iz (N:=45) ws (Fq.frs hq) (by lia) (by lia)
  have k12:k<=12:=Int.le_of_dvd (by lia) (k4 12 λx mx=>(hS x mx).1)
  have fk:∀x,Fq 45 x->Am [fT x,.tup [.int k,.int 1]]=.ok (fT (sc k x),false):=λx h=>Az (y:=(k,1)) h (WY k1 (by lia)) (by lia)
  refine⟨k,⟨by rw[List.length_map]; exact hl,λy my=>?_⟩,k1,?_⟩
  .obtain⟨x,mx,rfl⟩:=List.mem_map.mp my
   obtain⟨j,ej,v⟩:=Wy (hq x mx).2.2.1 (k3 x mx)
   have x1:=(hq x mx).1
   have x3:=(hq x mx).2.2.1
   have x2:=(hS x mx).2
   have j0:0<=j:=by
    rcases Int.lt_or_le j 0 with z|z
    .have:=Int.mul_neg_of_pos_of_neg (a:=x.2) (b:=j) (by lia) z
     lia
    .exact z
   have j1:j<=12:=by
    have:=Int.mul_le_mul_of_nonneg_right (a:=1) (b:=x.2) (c:=j) (by lia) j0
    lia
   have l1:=Int.mul_nonneg x1 j0
   have l2:=Int.mul_le_mul (a:=x.1) (b:=j) (c:=100) (d:=12) x2 j1 j0 (by lia)
   have e45:(2:Int) ^ 45=35184372088832:=by decide
   rw[v]
   refine⟨l1,?_,Int.le_refl 1,by show(1:Int)<2 ^ 45; decide,by show Int.gcd _ 1=1; simp⟩
   show x.1*j<2 ^ 45
   lia
  .dsimp only[aY,dX]
   rw[sV]
   unfold aJ
   walk_at "d"
   exact W0 rfl rfl (by lia) c6
   walk_at "r"
   exact ft _ (fq _ (by assumption) _ (by assumption))
   walk_at "r"
   have:=c6 _ (by assumption)
   lia
   walk_at "r"
   exact fk _ (hq _ (by assumption))
   walk_at "r"
 all_goals
  refine⟨1,ho,Int.le_refl 1,?_⟩
  dsimp only[aY,dX]
  walk_at "d"
  exact W0 rfl rfl (by lia) c6
  walk_at "r"
  exact ft _ (fq _ (by assumption) _ (by assumption))
  walk_at "r"
  have:=c6 _ (by assumption)
  lia
  walk_at "r"
end
noncomputable def dY(a b:Nat->Int × Int)(i j:Nat):Prop:=(a j).1*(a i).2<(a i).1*(a j).2\/((a j).1*(a i).2=(a i).1*(a j).2/\((b j).1*(b i).2<(b i).1*(b j).2\/((b j).1*(b i).2=(b i).1*(b j).2/\i<j)))
noncomputable def kY(a b:Nat->Int × Int)(m:Nat)(ys:List Nat):Prop:=ys.Perm (List.range m)/\ys.Pairwise (dY a b)
section
variable {m:Nat}{a b:Nat->Int × Int}
theorem ahW(hf:∀t,t<m->Fq 400 (a t)/\Fq 400 (b t))(hm:m<=12):∃ys,kY a b m ys/\vP [.lst (bN a b m)]=.ok (.lst (ys.map iT),true):=by
 have fr:∀c:Nat->Int × Int,(∀t,t<m->Fq 400 (c t))->Frs 400 ((List.range m).map c):=λc hc x mx=>by
  obtain⟨t,mt,rfl⟩:=List.mem_map.mp mx
  obtain⟨q1,q2,q3,q4,_⟩:=hc t (List.mem_range.mp mt)
  have:=iD 400
  exact⟨q3,q4,by lia⟩
 have ln:∀c:Nat->Int × Int,((List.range m).map c).length=m:=λc=>by simp
 have top:∀c:Nat->Int × Int,(∀t,t<m->Fq 400 (c t))->∃B:Int,Il [.lst ((List.range m).map λt=>fT (c t))]=.ok (.lst ((List.range m).map λt=>.int ((c t).1*B.fdiv (c t).2)),true)/\1<=B/\∀t,t<m->(c t).2∣B:=λc hc=>by
  obtain⟨B,e,p,d⟩:=Vm ((List.range m).map c) (fr c hc) (by rw[ln]; lia) (by lia) (by rw[ln]; lia)
  rw[List.map_map,List.map_map]at e
  exact⟨B,e,p,λt ht=>d _ (List.mem_map.mpr ⟨t,List.mem_range.mpr ht,rfl⟩)⟩
 obtain⟨B1,e1,p1,d1⟩:=top a λt ht=>(hf t ht).1
 obtain⟨B2,e2,p2,d2⟩:=top b λt ht=>(hf t ht).2
 have el:d8 (.lst (bN a b m))=.ok (.int (m:Nat),false):=by
  unfold bN
  rw[Ce,List.length_range]
 obtain⟨ys,e,p,q⟩:=Vo (n:=m) (ρ:=[.sh (.lst (bN a b m)),.sh (.lst ((List.range m).map λt=>.int ((a t).1*B1.fdiv (a t).2))),.sh (.lst ((List.range m).map λt=>.int ((b t).1*B2.fdiv (b t).2)))]) (kt:=Hv) (src:=[some 1,some 2]) (fa:=cF (mF (g1 d8) (cF (bx 0) dR)) dR) (fb:=Rr (Ab mR (Aa aW (nY 1) (nY 0))) (Ab mR (Aa aW (nY 2) (nY 0)))) (λi=>(-((a i).1*B1.fdiv (a i).2),-((b i).1*B2.fdiv (b i).2))) (tD (xC1 rfl rfl el) rfl) (by lia) λi hi=>by
  have g:∀f:Nat->Int,aW (.lst ((List.range m).map λt=>.int (f t))) (.int (i:Int))=.ok (.int (f i),false):=λf=>oA (by simp[hi])
  have g1:=g λt=>(a t).1*B1.fdiv (a t).2
  have g2:=g λt=>(b t).1*B2.fdiv (b t).2
  exact⟨.tup [.int (-((a i).1*B1.fdiv (a i).2)),.int (-((b i).1*B2.fdiv (b i).2))],bk (bk (bk rfl (bk rfl (bk g1 rfl))) rfl) (bk (bk (bk rfl (bk rfl (bk g2 rfl))) rfl) rfl),rfl⟩
 refine⟨ys,⟨p,q.imp_of_mem λ{i j} hi hj hb=>?_⟩,?_⟩
 .have hi:=List.mem_range.mp (p.mem_iff.mp hi)
  have hj:=List.mem_range.mp (p.mem_iff.mp hj)
  have t1:=top_lt (p:=(a j).1) (r:=(a i).1) p1 (hf j hj).1.2.2.1 (hf i hi).1.2.2.1 (d1 j hj) (d1 i hi)
  have t2:=top_lt (p:=(b j).1) (r:=(b i).1) p2 (hf j hj).2.2.2.1 (hf i hi).2.2.2.1 (d2 j hj) (d2 i hi)
  unfold iC at hb
  dsimp only at hb
  unfold dY
  rw[<-t1.1,<-t1.2,<-t2.1,<-t2.2]
  omega
 .walk_at "d"
end
theorem ahX(hx:Fq 400 x)(hy:Fq 400 y):S6 [fT x,fT y]=.ok (.bl (aR x y),false):=by
 obtain⟨a1,a2,a3,a4,_⟩:=hx
 obtain⟨b1,b2,b3,b4,_⟩:=hy
 have:=iD 400
 have c1:dH x.1 y.2=true:=kE (M:=400) (N:=400) (by lia) (by lia) (by lia) (by lia)
 have c2:dH y.1 x.2=true:=kE (M:=400) (N:=400) (by lia) (by lia) (by lia) (by lia)
 walk_at "d"
theorem W2(h:Fall l ys)(n:l≠[]):∃p q,ys[0]?=some p/\ys[ys.length-1]?=some q/\p<l.length/\q<l.length/\∀i,i<l.length->aR (at2 l p) (at2 l i)=false/\aR (at2 l i) (at2 l q)=false:=by
 obtain⟨h1,h2⟩:=h
 have ln:ys.length=l.length:=by rw[h1.length_eq,List.length_range]
 have l0:0<l.length:=List.length_pos_iff.mpr n
 have mm:∀i,i∈ys↔i<l.length:=λi=>by rw[h1.mem_iff,List.mem_range]
 have hp:0<ys.length:=by lia
 have hq:ys.length-1<ys.length:=by lia
 refine⟨ys[0],ys[ys.length-1],List.getElem?_eq_getElem hp,List.getElem?_eq_getElem hq,(mm _).mp (List.getElem_mem hp),(mm _).mp (List.getElem_mem hq),λi hi=>?_⟩
 obtain⟨k,hk,rfl⟩:=List.mem_iff_getElem.mp ((mm i).mpr hi)
 have pw:=List.pairwise_iff_getElem.mp h2
 unfold aR at2
 constructor
 .rcases Nat.eq_zero_or_pos k with rfl|k0
  .exact decide_eq_false (by lia)
  .have:=pw 0 k hp hk k0
   unfold jO at this
   exact decide_eq_false (by lia)
 .rcases Nat.lt_or_ge k (ys.length-1)with c|c
  .have:=pw k (ys.length-1) hk hq c
   unfold jO at this
   exact decide_eq_false (by lia)
  .have:k=ys.length-1:=by lia
   subst this
   exact decide_eq_false (by lia)
theorem kZ(hx:1<=x.2)(hy:1<=y.2)(hz:1<=z.2)(h1:aR x y=false)(h2:aR y z=false):aR x z=false:=by
 unfold aR at *
 have h1:=of_decide_eq_false h1
 have h2:=of_decide_eq_false h2
 refine decide_eq_false λh3=>?_
 have a1:y.1*x.2*z.2<=x.1*y.2*z.2:=Int.mul_le_mul_of_nonneg_right (by lia) (by lia)
 have a2:z.1*y.2*x.2<=y.1*z.2*x.2:=Int.mul_le_mul_of_nonneg_right (by lia) (by lia)
 have a3:x.1*z.2*y.2<z.1*x.2*y.2:=Int.mul_lt_mul_of_pos_right h3 (by lia)
 have e1:y.1*x.2*z.2=y.1*z.2*x.2:=Int.mul_right_comm _ _ _
 have e2:z.1*y.2*x.2=z.1*x.2*y.2:=Int.mul_right_comm _ _ _
 have e3:x.1*y.2*z.2=x.1*z.2*y.2:=Int.mul_right_comm _ _ _
 lia
theorem ahY(h:xs[xs.length-1]?=some T):aW (.lst xs) (.int (-1))=.ok (T,false):=by
 obtain⟨hi,e⟩:=List.getElem?_eq_some_iff.mp h
 have z:gW xs.length (-1)=some (xs.length-1):=by
  unfold gW
  rw[if_neg (by lia),if_pos (by lia)]
  congr 1
  lia
 show(match cR xs (-1)with
  |some t=>Rs.ok (t,false)
  |none=>.bad)=_
 unfold cR
 rw[z]
 dsimp only[Option.bind]
 rw[h]
section
variable {m:Nat}{a b:Nat->Int × Int}
theorem KJ(h:t<m):aW (.lst (bN a b m)) (iT t)=.ok (.tup [fT (a t),fT (b t)],false):=kJ (by unfold bN; simp[h])
noncomputable def dF(a b:Nat->Int × Int)(m:Nat)(ys:List Nat):Prop:=∀t∈ys,∀o,o<m->o∉ys->aR (a t) (b o)=false
noncomputable abbrev gM(m:Nat)(ys:List Nat):List Nat:=(List.range m).filter λt=>!decide (t∈ys)
theorem KH:d8 (.lst (bN a b m))=.ok (.int (m:Nat),false):=by
 show Rs.ok (Tr.int ((bN a b m).length:Int),false)=_
 unfold bN
 simp
theorem ahZ(hf:∀t,t<m->Fq 400 (a t)/\Fq 400 (b t))(hm:m<=12){ys:List Nat}(hy:∀t∈ys,t<m)(hl:ys.length<=12):∃T,Vf [.lst (bN a b m),.lst (ys.map iT)]=.ok (T,false)/\((T=.non/\(ys=[]\/gM m ys=[]))\/∃t o,T=.tup [iT t,iT o]/\t∈ys/\o∈gM m ys/\(∀s∈ys,aR (a s) (a t)=false)/\∀s∈gM m ys,aR (b o) (b s)=false):=by
 have ho:∀t∈gM m ys,t<m:=λt ht=>List.mem_range.mp (List.mem_filter.mp ht).1
 have hol:(gM m ys).length<=12:=Nat.le_trans (List.length_filter_le ..) (by rw[List.length_range]; exact hm)
 have em:∀zs:List Nat,zs≠[]->(zs.map iT).isEmpty=false:=λzs h=>by cases zs with|nil=>exact(h rfl).elim|cons _ _=>rfl
 by_cases c1:ys=[]
 .refine⟨.non,?_,.inl ⟨rfl,.inl c1⟩⟩
  have n1:(ys.map iT).isEmpty=true:=by rw[c1]; rfl
  walk_at "d"
 have n1:=em ys c1
 by_cases c2:gM m ys=[]
 .refine⟨.non,?_,.inl ⟨rfl,.inr c2⟩⟩
  have n2:((gM m ys).map iT).isEmpty=true:=by rw[c2]; rfl
  walk_at "d"
 have n2:=em _ c2
 have fr:∀(c:Nat->Int × Int) (zs:List Nat),(∀t∈zs,Fq 400 (c t))->Frs 400 (zs.map c):=λc zs hc x mx=>by
  obtain⟨t,mt,rfl⟩:=List.mem_map.mp mx
  obtain⟨q1,q2,q3,q4,_⟩:=hc t mt
  have:=iD 400
  exact⟨q3,q4,by lia⟩
 obtain⟨f1,g1⟩:=sX (fr a ys λt mt=>(hf t (hy t mt)).1) (by rw[List.length_map]; lia) (by lia) (by rw[List.length_map]; lia)
 obtain⟨f2,g2⟩:=sX (fr b (gM m ys) λt mt=>(hf t (ho t mt)).2) (by rw[List.length_map]; lia) (by lia) (by rw[List.length_map]; lia)
 obtain⟨_,q,_,hq,_,q1,hq2⟩:=W2 f1 (by simpa using c1)
 obtain⟨p,_,hp,_,p1,_,hp2⟩:=W2 f2 (by simpa using c2)
 rw[List.length_map]at q1 p1 hq2 hp2
 have ga:∀(c:Nat->Int × Int) (zs:List Nat) i (h:i<zs.length),at2 (zs.map c) i=c zs[i]:=λc zs i h=>by unfold at2; simp[h]
 rw[sV]at g1 g2
 have i1:aW (.lst ((aF (ys.map a)).map iT)) (.int (-1))=.ok (iT q,false):=ahY (by rw[List.length_map,List.getElem?_map,hq]; rfl)
 have i2:aW (.lst ((aF ((gM m ys).map b)).map iT)) (.int 0)=.ok (iT p,false):=kJ (i:=0) (by rw[List.getElem?_map,hp]; rfl)
 have i3:aW (.lst (ys.map iT)) (iT q)=.ok (iT ys[q],false):=kJ (by rw[List.getElem?_map,List.getElem?_eq_getElem q1]; rfl)
 have i4:aW (.lst ((gM m ys).map iT)) (iT p)=.ok (iT (gM m ys)[p],false):=kJ (by rw[List.getElem?_map,List.getElem?_eq_getElem p1]; rfl)
 refine⟨.tup [iT ys[q],iT (gM m ys)[p]],?_,.inr ⟨ys[q],(gM m ys)[p],rfl,List.getElem_mem q1,List.getElem_mem p1,λs ms=>?_,λs ms=>?_⟩⟩
 .walk_at "d"
  exact hy x hx
  walk_at "r"
  exact ho x hx
  walk_at "r"
  exact Nat.le_trans hol (by lia)
  walk_at "r"
 .obtain⟨i,hi,rfl⟩:=List.mem_iff_getElem.mp ms
  have:=(hq2 i hi).2
  rwa[ga a ys i hi,ga a ys q q1]at this
 .obtain⟨i,hi,rfl⟩:=List.mem_iff_getElem.mp ms
  have:=(hp2 i hi).1
  rwa[ga b _ i hi,ga b _ p p1]at this
theorem ah0(hf:∀t,t<m->Fq 400 (a t)/\Fq 400 (b t))(hm:m<=12)(hy:∀t∈ys,t<m)(hl:ys.length<=12):∃bb,Aq [.lst (bN a b m),.lst (ys.map iT)]=.ok (.bl bb,false)/\(bb=true↔dF a b m ys):=by
 obtain⟨T,e,h⟩:=ahZ hf hm hy hl
 have mo:∀o,o∈gM m ys↔o<m/\o∉ys:=λo=>by unfold gM; simp
 rcases h with⟨rfl,h⟩|⟨t,o,rfl,mt,mo',h1,h2⟩
 .refine⟨true,by walk_at "d",λ_ t mt o ho no=>?_,λ_=>rfl⟩
  rcases h with h|h
  .rw[h]at mt; cases mt
  .have:=(mo o).mpr ⟨ho,no⟩
   rw[h]at this; cases this
 .obtain⟨om,on⟩:=(mo o).mp mo'
  have tm:=hy t mt
  have fb:=ahX (hf t tm).1 (hf o om).2
  refine⟨!aR (a t) (b o),by walk_at "d",λhb=>?_,λhs=>by rw[hs t mt o om on]; rfl⟩
  have hb':aR (a t) (b o)=false:=by simpa using hb
  intro s ms r hr nr
  exact kZ (hf s (hy s ms)).1.2.2.1 (hf o om).2.2.2.1 (hf r hr).2.2.2.1 (kZ (hf s (hy s ms)).1.2.2.1 (hf t tm).1.2.2.1 (hf o om).2.2.2.1 (h1 s ms) hb') (h2 r ((mo r).mpr ⟨hr,nr⟩))
end
noncomputable def dg(m:Nat)(zs:List Nat):List Nat:=(List.range m).filter λt=>decide (t∈zs)
theorem ah1{m t:Nat}{zs:List Nat}(h:∀t∈zs,t<m):t∈dg m zs↔t∈zs:=by
 unfold dg
 rw[List.mem_filter,List.mem_range,decide_eq_true_iff]
 exact⟨And.right,λq=>⟨h t q,q⟩⟩
theorem ah2{m c:Nat}{ys:List Nat}(h:ys.Perm (List.range m)):(dg m (ys.take c)).Perm (ys.take c):=by
 have nd:ys.Nodup:=h.nodup_iff.mpr List.nodup_range
 have e:ys.filter (λt=>decide (t∈ys.take c))=ys.take c:=by
  have nd':=nd
  rw[<-List.take_append_drop c ys]at nd'
  obtain⟨_,_,dj⟩:=List.nodup_append.mp nd'
  calc ys.filter (λt=>decide (t∈ys.take c))=(ys.take c++ys.drop c).filter (λt=>decide (t∈ys.take c)):=by rw[List.take_append_drop]
   _=ys.take c:=by
    rw[List.filter_append,List.filter_eq_self.mpr λt ht=>decide_eq_true ht,List.filter_eq_nil_iff.mpr λt ht=>by
     rw[decide_eq_true_iff]
     exact λq=>dj t q t ht rfl,List.append_nil]
 unfold dg
 have:=(h.filter λt=>decide (t∈ys.take c)).symm
 rwa[e]at this
theorem W3{m c:Nat}{ys:List Nat}(h:ys.Perm (List.range m))(hm:m<=12):pW (.lst ((ys.take c).map iT))=.ok (.lst ((dg m (ys.take c)).map iT),true):=by
 have p:=ah2 (c:=c) h
 have ln:ys.length=m:=by rw[h.length_eq,List.length_range]
 have l2:=List.length_take_le c ys
 have iq:rY ((ys.take c).map iT)=some ((ys.take c).map λi:Nat=>(i:Int)):=Vq _
 have s:((dg m (ys.take c)).map λi:Nat=>(i:Int)).Pairwise (· <= ·):=by
  rw[List.pairwise_map]
  unfold dg
  exact((List.pairwise_lt_range (n:=m)).filter _).imp λ{a b} h=>by lia
 unfold pW
 simp only[iq]
 rw[if_pos (by rw[List.length_map,List.length_take]; lia),<-Rf (p.map _) s,List.map_map]
 rfl
section
variable {m:Nat}{a b:Nat->Int × Int}
noncomputable def qe(bb:Bool)(zs:List Nat):Tr:=if bb=true then .lst (zs.map iT)else .non
theorem ah3(hf:∀t,t<m->Fq 400 (a t)/\Fq 400 (b t))(hm:m<=12)(c:Nat):∃ys bb,kY a b m ys/\V4 [.lst (bN a b m),iT c]=.ok (qe bb (dg m (ys.take c)),bb)/\(bb=true↔dF a b m (ys.take c)):=by
 obtain⟨ys,ho,e⟩:=ahW hf hm
 have lt:∀t∈ys.take c,t<m:=λt ht=>by simpa using ho.1.mem_iff.mp (List.mem_of_mem_take ht)
 have ms:∀t,t∈dg m (ys.take c)↔t∈ys.take c:=λt=>ah1 lt
 have es:=W3 (c:=c) ho.1 hm
 have l:(dg m (ys.take c)).length<=12:=by
  have:=List.length_filter_le (λt=>decide (t∈ys.take c)) (List.range m)
  rw[List.length_range]at this
  unfold dg
  lia
 obtain⟨bb,e2,h2⟩:=ah0 hf hm (ys:=dg m (ys.take c)) (λt ht=>lt t ((ms t).mp ht)) l
 refine⟨ys,bb,ho,?_,h2.trans ?_⟩
 .have ec:jR none (some (c:Int)) (.lst (ys.map iT))=.ok (.lst ((ys.take c).map iT),true):=by
   show Rs.ok (Tr.lst (cut (ys.map iT) none (some (c:Int))),true)=_
   rw[IV,<-List.map_take]
  generalize Tr.lst (bN a b m)=B at *
  have sr:qe true (dg m (ys.take c))=.lst ((dg m (ys.take c)).map iT):=rfl
  generalize (dg m (ys.take c)).map iT=zs at *
  have k1:iy vP (cF (bx 0) dR) [.sh B,.sh (iT c),.un]=.ok (.v (.lst (ys.map iT)) true,[.sh B,.sh (iT c),.un]):=gH (fB rfl rfl) rfl rfl e
  have k2:zj (iy vP (cF (bx 0) dR)) v7 (zf (bx 1)) [.sh B,.sh (iT c),.un]=.ok (.v (.lst ((ys.take c).map iT)) true,[.sh B,.sh (iT c),.un]):=bk k1 (bk rfl (bk rfl (bk rfl (bk ec rfl))))
  have k3:mF (g1 pW) (cF (zj (iy vP (cF (bx 0) dR)) v7 (zf (bx 1))) dR) [.sh B,.sh (iT c),.un]=.ok (.v (.lst zs) true,[.sh B,.sh (iT c),.un]):=Ia (z:=(.lst zs,true)) (fB k2 rfl) rfl es
  have k4:iy Aq (cF (bx 0) (cF (bx 2) dR)) [.sh B,.sh (iT c),.ow zs]=.ok (.v (.bl bb) false,[.sh B,.sh (iT c),.ow zs]):=bk (fB rfl (fB rfl rfl)) (bk rfl (bk e2 (if_neg λq=>Bool.noConfusion q.2)))
  have k5:yP (iy Aq (cF (bx 0) (cF (bx 2) dR))) [.sh B,.sh (iT c),.ow zs]=.ok (bb,[.sh B,.sh (iT c),.ow zs]):=Ib k4 rfl rfl
  cases bb
  .exact vJ (p7 (Sd k3) (Al (bk k5 rfl)))
  .rw[sr]
   exact vJ (p7 (Sd k3) (bk (bk k5 rfl) rfl))
 .unfold dF
  simp only[ms]
end
theorem ah4(hk:1<=k)(hB:1<=B)(n:Nat)(r:Ru):1<=jQ k B n r:=by
 cases r
 case sh=>exact Int.mul_pos (a:=k) (b:=B) (by lia) (by lia)
 case product=>exact Int.pow_pos (show 0<B by lia)
 all_goals exact hB
section
variable {m:Nat}{a b a' b':Nat->Int × Int}{C:Int}
noncomputable def fQ(C:Int)(m:Nat)(a a':Nat->Int × Int):Prop:=∀t,t<m->Sc C (a t) (a' t)/\1<=(a t).2/\1<=(a' t).2
theorem fQ.le(hC:1<=C)(h:fQ C m a a')(h':fQ C m b b')(hi:i<m)(hj:j<m):((a' i).1*(b' j).2<=(b' j).1*(a' i).2↔(a i).1*(b j).2<=(b j).1*(a i).2)/\((b' j).1*(a' i).2<=(a' i).1*(b' j).2↔(b j).1*(a i).2<=(a i).1*(b j).2) :=
 ⟨Sc.le hC (h i hi).2.1 (h i hi).2.2 (h' j hj).2.1 (h' j hj).2.2 (h i hi).1 (h' j hj).1,Sc.le hC (h' j hj).2.1 (h' j hj).2.2 (h i hi).2.1 (h i hi).2.2 (h' j hj).1 (h i hi).1⟩
theorem fQ.ord(hC:1<=C)(h:fQ C m a a')(h':fQ C m b b')(o:kY a' b' m ys):kY a b m ys:=by
 refine⟨o.1,o.2.imp_of_mem λ{i j} mi mj q=>?_⟩
 have hi:i<m:=by simpa using o.1.mem_iff.mp mi
 have hj:j<m:=by simpa using o.1.mem_iff.mp mj
 have t1:=fQ.le hC h h hi hj
 have t2:=fQ.le hC h' h' hi hj
 unfold dY at *
 lia
theorem fQ.sure(hC:1<=C)(h:fQ C m a a')(h':fQ C m b b')(hz:∀t∈zs,t<m):dF a' b' m zs↔dF a b m zs:=by
 have k:∀t∈zs,∀o,o<m->(aR (a' t) (b' o)=false↔aR (a t) (b o)=false):=λt mt o ho=>by
  have t1:=(fQ.le hC h h' (hz t mt) ho).2
  unfold aR
  rw[decide_eq_false_iff_not,decide_eq_false_iff_not]
  lia
 exact⟨λq t mt o ho no=>(k t mt o ho).mp (q t mt o ho no),λq t mt o ho no=>(k t mt o ho).mpr (q t mt o ho no)⟩
end
section
variable {m c:Nat}{rows:List (List (Int × Int))}{ds:List Nat}{as:List (Nat × Nat)}{r:Ru}
theorem ah5(hB:Bk m rows)(ho:bU rows.length r)(hc:c<=m):Uy [aU rows,aY r,iT c]=.ok (.non,false):=by
 have hl:0<rows.length:=by have:=hB.1; lia
 have e1:aW (aU rows) (.int 0)=.ok (aJ rows[0],false):=oA (i:=0) (by rw[List.getElem?_map,List.getElem?_eq_getElem hl]; rfl)
 have e2:d8 (aJ rows[0])=.ok (.int (m:Int),false):=by
  show Rs.ok (Tr.int ((rows[0].map fT).length:Int),false)=_
  rw[List.length_map,(hB.2.2.2.2 _ (List.getElem_mem hl)).1]
 have nc:Uw [aU rows,iT c]=.ok (.non,false):=by
  have k1:mF (g1 d8) (cF (j5 aW (bx 0) (eC (.int 0))) dR) [.sh (aU rows),.sh (iT c)]=.ok (.v (.int (m:Int)) false,[.sh (aU rows),.sh (iT c)]):=Ia (z:=(.int (m:Int),false)) (fB (afK (z:=(aJ rows[0],false)) (T:=aU rows) (b:=false) (U:=.int 0) (b':=false) rfl rfl e1) rfl) rfl e2
  exact HY (Sg (Sh (Ib (gH (fB rfl (fB k1 rfl)) rfl rfl (count_eq hc)) rfl rfl)) rfl)
 exact HY (p7 (vI (gH rfl rfl rfl (ahC hB ho))) (vI (gH rfl rfl rfl nc)))
theorem ah6(hB:Bk m rows)(hD:∃D,Bd D rows)(hL:Lk rows.length m ds as)(ho:bU rows.length r)(hS:Br r)(hc:c<=m):∃ys bb,kY (loV r rows ds as) (hiV r rows ds as) m ys/\Ji [aU rows,aY r,iT c,dN ds as]=.ok (qe bb (dg m (ys.take c)),bb)/\(bb=true↔dF (loV r rows ds as) (hiV r rows ds as) m (ys.take c)):=by
 obtain⟨B,k,W4,ho',hk,e1⟩:=ahV hB hD ho hS
 obtain⟨a,b,e2,hs⟩:=ahU (k:=k) hB W4 hL ho ho'
 have hm:m<=12:=by have:=hB.2.2.2.1; lia
 obtain⟨ys,bb,h1,e3,h2⟩:=ah3 (λt ht=>(hs t ht).2.2) hm c
 have hC:1<=jQ k B rows.length r:=ah4 hk W4.1 _ _
 have sa:fQ (jQ k B rows.length r) m (loV r rows ds as) a:=λt ht=>⟨(hs t ht).1,(Wt hB ho ht).2.2.2.1,(hs t ht).2.2.1.2.2.1⟩
 have sb:fQ (jQ k B rows.length r) m (hiV r rows ds as) b:=λt ht=>⟨(hs t ht).2.1,(Wu hB hL ho ht).2.2.2.1,(hs t ht).2.2.2.2.2.1⟩
 refine⟨ys,bb,fQ.ord hC sa sb h1,?_,h2.trans (fQ.sure hC sa sb λt ht=>by simpa using h1.1.mem_iff.mp (List.mem_of_mem_take ht))⟩
 have ei:V6 [.tup [aU (cg B rows),aY (dX k r),fT (B,1)],iT c,dN ds as]=.ok (qe bb (dg m (ys.take c)),bb):=by
  have z1:iy Bc (cF (bx 3) (cF (bx 4) (cF (bx 2) (cF (bx 5) dR)))) [.sh (.tup [aU (cg B rows),aY (dX k r),fT (B,1)]),.sh (iT c),.sh (dN ds as),.sh (aU (cg B rows)),.sh (aY (dX k r)),.sh (fT (B,1))]=.ok (.v (.lst (bN a b m)) true,[.sh (.tup [aU (cg B rows),aY (dX k r),fT (B,1)]),.sh (iT c),.sh (dN ds as),.sh (aU (cg B rows)),.sh (aY (dX k r)),.sh (fT (B,1))]):=gH rfl rfl rfl e2
  exact vJ (p7 (afJ rfl rfl) (Al (gH (fB z1 (fB rfl rfl)) rfl rfl e3)))
 have z2:iy Bf (cF (bx 0) (cF (bx 1) dR)) [.sh (aU rows),.sh (aY r),.sh (iT c),.sh (dN ds as)]=.ok (.v (.tup [aU (cg B rows),aY (dX k r),fT (B,1)]) false,[.sh (aU rows),.sh (aY r),.sh (iT c),.sh (dN ds as)]):=gH rfl rfl rfl e1
 exact vJ (p7 (vI (gH rfl rfl rfl (ah5 hB ho hc))) (p7 (vI (gH rfl rfl rfl (ahr hB hL))) (Al (gH (fB z2 (fB rfl (fB rfl rfl))) rfl rfl ei))))
end
section
variable {m c:Nat}{a b:Nat->Int × Int}
theorem dY.ge(h:dY a b i j):aR (a i) (a j)=false/\(aR (a j) (a i)=false->aR (b i) (b j)=false):=by
 unfold dY at h
 unfold aR
 rw[decide_eq_false_iff_not,decide_eq_false_iff_not,decide_eq_false_iff_not]
 lia
theorem dY.ah7(h:dY a b i j):¬dY a b j i:=by
 unfold dY at *
 lia
theorem dY.irr(i:Nat):¬dY a b i i:=by
 unfold dY
 lia
theorem W5{T G:List Nat}(hT:T.Nodup)(hG:G.Nodup)(hl:G.length<=T.length){t:Nat}(tG:t∈G)(tT:t∉T):∃x∈T,x∉G:=by
 refine Classical.byContradiction λn=>?_
 have s:T ⊆ G.erase t:=λx mx=>(List.Nodup.mem_erase_iff hG).mpr ⟨λq=>tT (q▸mx),Classical.byContradiction λq=>n ⟨x,mx,q⟩⟩
 have:=hT.length_le_of_subset s
 rw[List.length_erase_of_mem tG]at this
 have:=List.length_pos_of_mem tG
 lia
theorem ah8{ys T:List Nat}(hf:∀t,t<m->1<=(a t).2/\1<=(b t).2/\aR (b t) (a t)=false)(ho:kY a b m ys)(hT:T.Nodup)(hm:∀t∈T,t<m)(hs:dF a b m T):dF a b m (ys.take T.length):=by
 have nd:ys.Nodup:=ho.1.nodup_iff.mpr List.nodup_range
 have my:∀t,t∈ys↔t<m:=λt=>by rw[ho.1.mem_iff,List.mem_range]
 have nd':(ys.take T.length++ys.drop T.length).Nodup:=by rw[List.take_append_drop]; exact nd
 have pw:(ys.take T.length++ys.drop T.length).Pairwise (dY a b):=by rw[List.take_append_drop]; exact ho.2
 have ah:∀t o,t∈ys.take T.length->o<m->o∉ys.take T.length->dY a b t o:=λt o ht hm no=>by
  have q:o∈ys.take T.length++ys.drop T.length:=by rw[List.take_append_drop]; exact(my o).mpr hm
  exact(List.pairwise_append.mp pw).2.2 t ht o ((List.mem_append.mp q).resolve_left no)
 have gG:(ys.take T.length).Nodup:=(List.nodup_append.mp nd').1
 have gm:∀t∈ys.take T.length,t<m:=λt ht=>(my t).mp (List.mem_of_mem_take ht)
 have lG:(ys.take T.length).length=T.length:=by
  have l1:ys.length=m:=by rw[ho.1.length_eq,List.length_range]
  have l2:=hT.length_le_of_subset (l₂ := List.range m) λt ht=>List.mem_range.mpr (hm t ht)
  rw[List.length_range]at l2
  rw[List.length_take]
  lia
 generalize ys.take T.length=G at *
 intro t tG o om oG
 have tm:=gm t tG
 have hto:=(ah t o tG om oG).ge
 by_cases tT:t∈T
 .by_cases oT:o∈T
  .obtain⟨y,yG,yT⟩:=W5 gG hT (by lia) oT oG
   have ym:=gm y yG
   have q1:=hs t tT y ym yT
   have q2:=hs o oT y ym yT
   have q3:=(ah y o yG om oG).ge
   have q4:=kZ (hf o om).1 (hf y ym).2.1 (hf y ym).1 q2 (hf y ym).2.2
   exact kZ (hf t tm).1 (hf y ym).2.1 (hf o om).2.1 q1 (q3.2 q4)
  .exact hs t tT o om oT
 .by_cases oT:o∈T
  .have q1:=hs o oT t tm tT
   have q2:=kZ (hf o om).1 (hf t tm).2.1 (hf t tm).1 q1 (hf t tm).2.2
   have q3:=hto.2 q2
   exact kZ (hf t tm).1 (hf t tm).2.1 (hf o om).2.1 (kZ (hf t tm).1 (hf o om).1 (hf t tm).2.1 hto.1 q1) q3
  .obtain⟨x,xT,xG⟩:=W5 hT gG (by lia) tG tT
   have xm:=hm x xT
   exact kZ (hf t tm).1 (hf x xm).1 (hf o om).2.1 (ah t x tG xm xG).ge.1 (hs x xT o om oT)
theorem Bs{q:Nat->Nat->Bool}{y:Nat}(hq:q y y=false):∀(l:List Nat) (x:Nat),(y∈l\/x=y)->(∀z∈l,z≠y->q y z=true/\q z y=false)->(x≠y->q y x=true)->(l.foldl (λs t=>if q t s=true then t else s) x)=y
 | [],x,h,_,_=>by simpa using h
 |z::l,x,h,k,k'=>by
  rw[List.foldl_cons]
  by_cases e:z=y
  .subst e
   refine Bs hq l _ (.inr ?_) (λw mw=>k w (List.mem_cons_of_mem _ mw)) λn=>absurd ?_ n
   all_goals
    by_cases e2:x=z
    .subst e2; rw[hq]; rfl
    .rw[k' e2]; rfl
  .have kz:=k z (List.mem_cons_self ..) e
   by_cases e2:x=y
   .subst e2
    rw[kz.2]
    exact Bs hq l _ (.inr rfl) (λw mw=>k w (List.mem_cons_of_mem _ mw)) k'
   .refine Bs hq l _ (.inl ?_) (λw mw=>k w (List.mem_cons_of_mem _ mw)) λ_=>?_
    .rcases h with h|h
     .exact(List.mem_cons.mp h).resolve_left λq=>e q.symm
     .exact absurd h e2
    .by_cases c:q z x=true
     .rw[if_pos c]; exact kz.1
     .rw[if_neg c]; exact k' e2
end
end BH
end
section
namespace K22
open PySem L2 BH
noncomputable def top(i:Nat):Stmt:=PySem.Challenge.pw_bestheads_k22_sure_few.main.body.getD i (.Pass ⟨0,0,0,0⟩)
noncomputable abbrev W6:=(bC (sA 2 (aE (vC (.int 0)))) (bC (sI (tK (aN mK (aj 1) (bf (ak (aj 0) ao)))) (b1 (sA 2 (aE (aq (aj 0) (aj 1))))) b0) (bC (sI (tK (aN HS (aj 2) (HN (vC (.int 10)) (vC (.int 18))))) (b1 (aC (eG (sE (aj 2) (HN (vC (.int 10)) (vC (.int 18)))) (HN (vC (.int 10)) (vC (.int 60)))))) b0) (bC (sA 3 (aE (eG (dz (dz (cX (aj 2) (vC (.int 48271))) (cX (aj 1) (vC (.int 69621)))) (vC (.int 11))) (vC (.int 2147483629))))) (bC (sA 3 (aE (eG (cX (aj 3) (aj 3)) (vC (.int 2147483587))))) (b1 (aC (dz (cX (aj 3) (vC (.int 2147483563))) (eG (cX (aj 3) (aj 3)) (vC (.int 2147483563)))))))))))
noncomputable abbrev ah9:SF:=by exists W6
noncomputable def Jq:FP:=aL 4 ah9
noncomputable abbrev qg{f:AF}(a:VA f):=vF "_law_cell" ["_law_script", "_law_k"] Jq 1 a
noncomputable abbrev W7:=(bC (sA 2 (aE (HW (ak (aj 0) ao)))) (bC (sA 3 (aE (HW (ak (aj 1) ao)))) (bC (sN (sW (HB 3) (tK (aN Ah (aj 3) (vC (.int 0)))) (b1 (Ga 2 3 (ak (aj 3) (ak (eG (aj 2) (aj 3)) ao)))))) (bC (sI (tK (aN mK (aj 1) (vC (.int 0)))) (b1 (sA 2 (aE (sE (vC (.int 0)) (aj 2))))) b0) (b1 (aC (fL (ak (fP (aj 0) (aj 2)) (ak (fP (aj 1) (aj 2)) ao)))))))))
noncomputable abbrev aia:SF:=by exists W7
noncomputable def Bt:FP:=aL 4 aia
noncomputable abbrev Bu{f:AF}(a:VA f):=vF "_law_frac" ["_law_top", "_law_bottom"] Bt 1 a
noncomputable abbrev W8:=(b1 (aC (Bu (ak (dz (cX (aq (aj 0) (vC (.int 0))) (aq (aj 1) (vC (.int 1)))) (cX (aq (aj 1) (vC (.int 0))) (aq (aj 0) (vC (.int 1))))) (ak (cX (aq (aj 0) (vC (.int 1))) (aq (aj 1) (vC (.int 1)))) ao)))))
noncomputable abbrev aib:SF:=by exists W8
noncomputable def W9:FP:=aL 2 aib
noncomputable abbrev aic{f:AF}(a:VA f):=vF "_law_add" ["_law_one", "_law_other"] W9 2 a
noncomputable abbrev Xa:=(b1 (aC (Bu (ak (cX (aq (aj 0) (vC (.int 0))) (aq (aj 1) (vC (.int 0)))) (ak (cX (aq (aj 0) (vC (.int 1))) (aq (aj 1) (vC (.int 1)))) ao)))))
noncomputable abbrev aie:SF:=by exists Xa
noncomputable def Xb:FP:=aL 2 aie
noncomputable abbrev Xc{f:AF}(a:VA f):=vF "_law_mul" ["_law_one", "_law_other"] Xb 2 a
noncomputable abbrev Xd:=(b1 (aC (vK (aN mK (cX (aq (aj 0) (vC (.int 0))) (aq (aj 1) (vC (.int 1)))) (cX (aq (aj 1) (vC (.int 0))) (aq (aj 0) (vC (.int 1))))))))
noncomputable abbrev aif:SF:=by exists Xd
noncomputable def Xe:FP:=aL 2 aif
noncomputable abbrev vX{f:AF}(a:VA f):=vF "_law_below" ["_law_one", "_law_other"] Xe 1 a
noncomputable abbrev Xf:=(bC (sA 4 (aE (qg (ak (aj 0) (ak (aj 1) ao))))) (bC (sA 5 (aE (dz (vC (.int 1)) (eG (aj 4) (aj 3))))) (bC (sA 6 (aE (dz (vC (.int 1)) (eG (fP (aj 4) (aj 3)) (aj 2))))) (bC (sA 7 (aE (aq (Fo [.int 2,.int 3,.int 4,.int 6,.int 10,.int 24,.int 97,.int 999999999999]) (eG (fP (aj 4) (vC (.int 1000))) (vC (.int 8)))))) (bC (sO 8 (aE (dM ao))) (bC (sN (sF (dW (ak (aj 6) ao)) (gV 9) (bC (sA 10 (aE (qg (ak (aj 0) (ak (dz (dz (aj 1) (vC (.int 1))) (aj 9)) ao))))) (bC (sO 11 (aE (dM ao))) (bC (sF (dW (ak (aj 5) ao)) (gV 12) (bC (sI (tK (aN Ah (aj 7) (vC (.int 100)))) (b1 (sA 10 (aE (qg (ak (aj 0) (ak (eG (dz (dz (dz (aj 1) (vC (.int 1))) (aj 9)) (cX (vC (.int 5)) (aj 12))) (vC (.int 63))) ao)))))) b0) (bC (dw (iV 11 (ak (Bu (ak (eG (aj 10) (dz (aj 7) (vC (.int 1)))) (ak (aj 7) ao))) ao))) (b1 (sA 10 (aE (fP (aj 10) (dz (aj 7) (vC (.int 1)))))))))) (b1 (sZ 11 (dw (iV 8 (ak (aj 11) ao)))))))))) (b1 (aC (aj 8)))))))))
noncomputable abbrev aii:SF:=by exists Xf
noncomputable def Jr:FP:=aL 13 aii
noncomputable abbrev aij{f:AF}(a:VA f):=vF "_law_book" ["_law_script", "_law_at", "_law_lists", "_law_most"] Jr 2 a
noncomputable abbrev Xg:=(bC (sA 2 (aE (eG (aj 0) (vC (.int 7))))) (bC (sA 0 (aE (fP (aj 0) (vC (.int 7))))) (bC (sI (tK (aN cY (aj 2) (vC (.int 0)))) (b1 (aC (mD [.str "least"]))) b0) (bC (sI (tK (aN cY (aj 2) (vC (.int 1)))) (b1 (aC (mD [.str "greatest"]))) b0) (bC (sI (tK (aN cY (aj 2) (vC (.int 2)))) (b1 (aC (fL (ak (vC (.str "middle")) (ak (dz (vC (.int 1)) (eG (aj 0) (aj 1))) ao))))) b0) (bC (sI (tK (aN cY (aj 2) (vC (.int 3)))) (b1 (aC (mD [.str "product"]))) b0) (bC (sO 3 (aE (dM ao))) (bC (sN (sF (dW (ak (aj 1) ao)) (gV 4) (bC (dw (iV 3 (ak (Bu (ak (eG (aj 0) (vC (.int 7))) (ak (dz (vC (.int 1)) (eG (fP (aj 0) (vC (.int 7))) (vC (.int 4)))) ao))) ao))) (b1 (sA 0 (aE (fP (aj 0) (vC (.int 28))))))))) (b1 (sZ 3 (aC (fL (ak (vC (.str "shares")) (ak (aj 3) ao))))))))))))))
noncomputable abbrev aik:SF:=by exists Xg
noncomputable def Js:FP:=aL 5 aik
noncomputable abbrev ail{f:AF}(a:VA f):=vF "_law_rule" ["_law_number", "_law_lists"] Js 2 a
noncomputable abbrev Xh:=(bC (sI (tK (aN cY (aq (aj 0) (vC (.int 0))) (vC (.str "shares")))) (bC (sA 2 (aE (mD [.int 0,.int 1]))) (bC (sN (sF (dW (ak (bf (ak (aj 1) ao)) ao)) (gV 3) (b1 (sA 2 (aE (aic (ak (aj 2) (ak (Xc (ak (aq (aq (aj 0) (vC (.int 1))) (aj 3)) (ak (aq (aj 1) (aj 3)) ao))) ao)))))))) (b1 (aC (aj 2))))) b0) (bC (sI (tK (aN cY (aq (aj 0) (vC (.int 0))) (vC (.str "product")))) (bC (sA 2 (aE (mD [.int 1,.int 1]))) (bC (sN (sF (bM (aj 1)) (gV 4) (b1 (sA 2 (aE (Xc (ak (aj 2) (ak (aj 4) ao)))))))) (b1 (aC (aj 2))))) b0) (bC (sO 5 (aE (dM ao))) (bC (sN (sF (bM (aj 1)) (gV 4) (bC (sA 6 (aE (bf (ak (eZ (cO [none,some 4] ["_law_one", "_law_worth_here"] 5 (gV 0) (bZ (vX (ak (aj 0) (ak (aj 1) ao)))) (aj 0))) ao)))) (b1 (dw (R9 5 (ak (aj 6) (ak (aj 4) ao)))))))) (bC (sI (tK (aN cY (aq (aj 0) (vC (.int 0))) (vC (.str "least")))) (b1 (aC (aq (aj 5) (vC (.int 0))))) b0) (bC (sI (tK (aN cY (aq (aj 0) (vC (.int 0))) (vC (.str "greatest")))) (b1 (aC (aq (aj 5) (Es (vC (.int 1)))))) b0) (b1 (aC (aq (aj 5) (sE (bf (ak (aj 5) ao)) (aq (aj 0) (vC (.int 1)))))))))))))
noncomputable abbrev ain:SF:=by exists Xh
noncomputable def sY:FP:=aL 7 ain
noncomputable abbrev Xi{f:AF}(a:VA f):=vF "_law_worth" ["_law_rule_here", "_law_worths"] sY 3 a
noncomputable abbrev Xj:=(bC (sO 1 (aE (dM ao))) (bC (sN (sF (dW (ak (bf (ak (aj 0) ao)) ao)) (gV 2) (bC (sA 3 (aE (bf (ak (eZ (cO [none,some 0,some 2] ["_law_one", "_law_worths", "_law_thing"] 1 (gV 0) (cM (bZ (vX (ak (aq (aj 1) (aj 0)) (ak (aq (aj 1) (aj 2)) ao))))) (aj 0))) ao)))) (b1 (dw (R9 1 (ak (aj 3) (ak (aj 2) ao)))))))) (b1 (aC (aj 1)))))
noncomputable abbrev aio:SF:=by exists Xj
noncomputable def Bv:FP:=aL 4 aio
noncomputable abbrev Xk{f:AF}(a:VA f):=vF "_law_order" ["_law_worths"] Bv 2 a
noncomputable abbrev Xl:=(bC (sA 3 (aE (qg (ak (aj 0) (ak (aj 1) ao))))) (bC (sA 4 (aE (bf (ak (aq (aj 2) (vC (.int 0))) ao)))) (bC (sO 5 (aE (dM ao))) (bC (sN (sF (dW (ak (bf (ak (aj 2) ao)) ao)) (gV 6) (bC (dw (iV 5 (ak (eG (aj 3) (dz (aj 4) (vC (.int 1)))) ao))) (b1 (sA 3 (aE (fP (aj 3) (dz (aj 4) (vC (.int 1)))))))))) (bC (sI (tK (aN cY (eG (aj 3) (vC (.int 4))) (vC (.int 0)))) (b1 (sZ 5 (sO 5 (cC [none] ["_law_depth"] (bM (aj 5)) (gV 0) (fP (aj 0) (vC (.int 2))))))) b0) (bC (sO 7 (aE (dM ao))) (bC (sA 8 (aE (qg (ak (aj 0) (ak (dz (aj 1) (vC (.int 1))) ao))))) (bC (sN (sF (dW (ak (bf (ak (aj 2) ao)) ao)) (gV 6) (bC (sI (tK (aN cY (aj 6) (vC (.int 2)))) (b1 (sA 8 (aE (qg (ak (aj 0) (ak (dz (aj 1) (vC (.int 50))) ao)))))) b0) (b1 (sF (dW (ak (aj 4) ao)) (gV 9) (bC (sI (tK (aN cY (eG (aj 8) (vC (.int 5))) (vC (.int 1)))) (b1 (dw (iV 7 (ak (fL (ak (aj 6) (ak (aj 9) ao))) ao)))) b0) (b1 (sA 8 (aE (fP (aj 8) (vC (.int 5)))))))))))) (bC (sI (tK (aN cY (eG (fP (aj 3) (vC (.int 4))) (vC (.int 3))) (vC (.int 0)))) (b1 (sO 7 (aE (dM ao)))) b0) (b1 (sZ 7 (sZ 5 (aC (fL (ak (aj 5) (ak (aj 7) ao))))))))))))))))
noncomputable abbrev aip:SF:=by exists Xl
noncomputable def Jt:FP:=aL 10 aip
noncomputable abbrev aiq{f:AF}(a:VA f):=vF "_law_looks" ["_law_script", "_law_at", "_law_book_here"] Jt 2 a
noncomputable abbrev Xm:=(bC (sO 2 (aE (dM ao))) (bC (sN (sF (dW (ak (bf (ak (aj 0) ao)) ao)) (gV 3) (bC (sA 4 (aE (uP (Xk (ak (aq (aj 0) (aj 3)) ao)) oN (oS (aq (aq (aj 1) (vC (.int 0))) (aj 3)))))) (bC (sO 5 (aE (dM ao))) (bC (sF (dW (ak (bf (ak (aq (aj 0) (aj 3)) ao)) ao)) (gV 6) (bC (sA 7 (aE (vV .Or (uO (vK (aN Ai (aj 6) (aj 4))) (u1 .Or (vK (aN Ai (fL (ak (aj 3) (ak (aj 6) ao))) (aq (aj 1) (vC (.int 1)))))))))) (b1 (dw (iV 5 (ak (aq (dM (ak (vC .non) (ak (aq (aq (aj 0) (aj 3)) (aj 6)) ao))) (vInt (ak (aj 7) ao))) ao)))))) (b1 (sZ 5 (dw (iV 2 (ak (aj 5) ao)))))))))) (b1 (aC (aj 2)))))
noncomputable abbrev air:SF:=by exists Xm
noncomputable def Ju:FP:=aL 8 air
noncomputable abbrev ais{f:AF}(a:VA f):=vF "_law_seen" ["_law_book_here", "_law_looks_here"] Ju 3 a
noncomputable abbrev Xn:=(bC (sA 3 (aE (ais (ak (aj 0) (ak (aj 2) ao))))) (bC (sO 4 (aE (dM ao))) (bC (sN (sF (dW (ak (bf (ak (aj 0) ao)) ao)) (gV 5) (bC (sA 6 (aE (uP (Xk (ak (aq (aj 0) (aj 5)) ao)) oN (oS (aq (aq (aj 2) (vC (.int 0))) (aj 5)))))) (b1 (dw (iV 4 (ak (aq (dM (ak (mD [.int 1,.int 1]) (ak (aq (aq (aj 0) (aj 5)) (aq (dz (aj 6) (Fo [.int 0])) (sE (bf (ak (aj 6) ao)) (vC (.int 1))))) ao))) (vInt (ak (vK (aN Ah (bf (ak (aj 6) ao)) (vC (.int 0)))) ao))) ao))))))) (bC (sO 7 (aE (dM ao))) (bC (sN (sF (dW (ak (bf (ak (aq (aj 0) (vC (.int 0))) ao)) ao)) (gV 8) (bC (sA 9 (cC [none,some 3,some 8] ["_law_k", "_law_seen_here", "_law_thing"] (dW (ak (bf (ak (aj 0) ao)) ao)) (gV 0) (aq (dM (ak (aq (aq (aj 1) (aj 0)) (aj 2)) (ak (mD [.int 0,.int 1]) ao))) (vInt (ak (vK (aN vH (aq (aq (aj 1) (aj 0)) (aj 2)) (vC .non))) ao))))) (bC (sA 10 (cC [none,some 3,some 8,some 4] ["_law_k", "_law_seen_here", "_law_thing", "_law_last"] (dW (ak (bf (ak (aj 0) ao)) ao)) (gV 0) (aq (dM (ak (aq (aq (aj 1) (aj 0)) (aj 2)) (ak (aq (aj 3) (aj 0)) ao))) (vInt (ak (vK (aN vH (aq (aq (aj 1) (aj 0)) (aj 2)) (vC .non))) ao))))) (b1 (dw (iV 7 (ak (fL (ak (Xi (ak (aj 1) (ak (aj 9) ao))) (ak (Xi (ak (aj 1) (ak (aj 10) ao))) ao))) ao)))))))) (b1 (aC (aj 7))))))))
noncomputable abbrev ait:SF:=by exists Xn
noncomputable def Xo:FP:=aL 11 ait
noncomputable abbrev aiu{f:AF}(a:VA f):=vF "_law_bounds" ["_law_book_here", "_law_rule_here", "_law_looks_here"] Xo 4 a
noncomputable abbrev Xp:=(bC (sN (sF (bM (aj 1)) (gV 2) (b1 (sF (dW (ak (bf (ak (aj 0) ao)) ao)) (gV 3) (b1 (sI (tW .And (wA (tK (aN R5 (aj 3) (aj 1))) (w1 .And (bZ (vX (ak (aq (aq (aj 0) (aj 2)) (vC (.int 0))) (ak (aq (aq (aj 0) (aj 3)) (vC (.int 1))) ao))))))) (b1 (aC (vC (.bl false)))) b0)))))) (b1 (aC (vC (.bl true)))))
noncomputable abbrev aiv:SF:=by exists Xp
noncomputable def Jv:FP:=aL 4 aiv
noncomputable abbrev Xq{f:AF}(a:VA f):=vF "_law_are_sure" ["_law_bounds_here", "_law_things"] Jv 2 a
noncomputable abbrev Xr:=(bC (sI (tK (aN gF (aq (aq (aj 0) (aj 1)) (vC (.int 0))) (aq (aq (aj 0) (aj 2)) (vC (.int 0))))) (b1 (aC (vX (ak (aq (aq (aj 0) (aj 2)) (vC (.int 0))) (ak (aq (aq (aj 0) (aj 1)) (vC (.int 0))) ao))))) b0) (bC (sI (tK (aN gF (aq (aq (aj 0) (aj 1)) (vC (.int 1))) (aq (aq (aj 0) (aj 2)) (vC (.int 1))))) (b1 (aC (vX (ak (aq (aq (aj 0) (aj 2)) (vC (.int 1))) (ak (aq (aq (aj 0) (aj 1)) (vC (.int 1))) ao))))) b0) (b1 (aC (vK (aN mK (aj 1) (aj 2)))))))
noncomputable abbrev aiw:SF:=by exists Xr
noncomputable def Xu:FP:=aL 3 aiw
noncomputable abbrev aix{f:AF}(a:VA f):=vF "_law_ahead" ["_law_bounds_here", "_law_one", "_law_other"] Xu 2 a
noncomputable abbrev Xv:=(bC (sA 2 (aE (vLR (ak (bf (ak (aj 0) ao)) ao)))) (bC (sO 3 (aE (dM ao))) (bC (sN (sW (HB 1) (tK (aN mK (bf (ak (aj 3) ao)) (aj 1))) (bC (sA 4 (aE (aq (aj 2) (vC (.int 0))))) (bC (sF (bM (aj 2)) (gV 5) (b1 (sI (bZ (aix (ak (aj 0) (ak (aj 5) (ak (aj 4) ao))))) (b1 (sA 4 (aE (aj 5)))) b0))) (bC (dw (iV 3 (ak (aj 4) ao))) (b1 (sA 2 (GR [none,some 4] ["_law_thing", "_law_best"] (bM (aj 2)) (gV 0) (tK (aN gF (aj 0) (aj 1))) (aj 0))))))))) (bC (sI (bZ (Xq (ak (aj 0) (ak (aj 3) ao)))) (b1 (aC (R7 (ak (aj 3) ao)))) b0) (b1 (aC (vC .non)))))))
noncomputable abbrev aiy:SF:=by exists Xv
noncomputable def Xw:FP:=aL 6 aiy
noncomputable abbrev aiz{f:AF}(a:VA f):=vF "_law_sure" ["_law_bounds_here", "_law_count"] Xw 3 a
noncomputable abbrev Xx:=(b1 (aC (eZ (cC [none] ["_law_row"] (bM (aj 0)) (gV 0) (HX (ak (aj 0) ao))))))
noncomputable abbrev aiA:SF:=by exists Xx
noncomputable def Xy:FP:=aL 1 aiA
noncomputable abbrev aiB{f:AF}(a:VA f):=vF "_law_copied" ["_law_book_here"] Xy 1 a
noncomputable abbrev Xz:=(bC (sN (sF (dW (ak (afF (vC (.int 1)) (bf (ak (aj 0) ao))) ao)) (gV 2) (bC (sA 3 (GR [none,some 2] ["_law_thing", "_law_code"] (dW (ak (bf (ak (aj 0) ao)) ao)) (gV 0) (tK (aN cY (afH (afG (aj 1) (aj 0)) (vC (.int 1))) (vC (.int 1)))) (aj 0))) (b1 (sI (tW .And (wA (tK (aN cY (bf (ak (aj 3) ao)) (aj 1))) (w1 .And (bZ (Xq (ak (aj 0) (ak (aj 3) ao))))))) (b1 (aC (vC (.bl true)))) b0))))) (b1 (aC (vC (.bl false)))))
noncomputable abbrev aiC:SF:=by exists Xz
noncomputable def Jw:FP:=aL 4 aiC
noncomputable abbrev aiD{f:AF}(a:VA f):=vF "_law_some_sure" ["_law_bounds_here", "_law_count"] Jw 3 a
noncomputable abbrev XC:=(bC (sA 1 (aE (aij (ak (aj 0) (ak (vC (.int 0)) (ak (vC (.int 4)) (ak (vC (.int 8)) ao))))))) (bC (sA 2 (aE (aiq (ak (aj 0) (ak (vC (.int 5)) (ak (aj 1) ao)))))) (bC (sA 3 (aE (ail (ak (qg (ak (aj 0) (ak (vC (.int 7)) ao))) (ak (bf (ak (aj 1) ao)) ao))))) (bC (sA 4 (aE (aiu (ak (aj 1) (ak (aj 3) (ak (aj 2) ao)))))) (bC (sA 5 (aE (dM (ak (aiB (ak (aj 1) ao)) (ak (fL (ak (HX (ak (aq (aj 2) (vC (.int 0))) ao)) (ak (HX (ak (aq (aj 2) (vC (.int 1))) ao)) ao))) ao))))) (bC (sN (sF (dW (ak (dz (bf (ak (aq (aj 1) (vC (.int 0))) ao)) (vC (.int 1))) ao)) (gV 6) (bC (sA 7 (aE (aiz (ak (aj 4) (ak (aj 6) ao))))) (bC (sON 8 (aE (V8 (ak (aq (aj 5) (vC (.int 0))) (ak (aj 3) (ak (aj 6) (ak (aq (aj 5) (vC (.int 1))) ao))))))) (bC (sI (RK (tW .Or (wO (tK (aN gF (aj 8) (aj 7))) (wO (tK (aN gF (aj 5) (dM (ak (aj 1) (ak (aj 2) ao))))) (w1 .Or (tK (aN gF (vK (aN R6 (aj 7) (vC .non))) (aiD (ak (aj 4) (ak (aj 6) ao)))))))))) (b1 (aC (vC (.bl false)))) b0) (b1 (sI (tK (aN R6 (aj 7) (vC .non))) (bC (sI (RK (tW .Or (wO (cM (bZ (sG (aj 8)))) (w1 .Or (tK (aN Ai (vC (.bl true)) (eZ (cC [none] ["_law_thing"] (bM (aj 8)) (gV 0) (R8 (aj 0)))))))))) (b1 (aC (vC (.bl false)))) b0) (bC (dw (iV 8 (ak (vC (.int 0)) ao))) (b1 (sI (tK (aN gF (V8 (ak (aq (aj 5) (vC (.int 0))) (ak (aj 3) (ak (aj 6) (ak (aq (aj 5) (vC (.int 1))) ao))))) (aj 7))) (b1 (aC (vC (.bl false)))) b0)))) b0))))))) (b1 (aC (vC (.bl true))))))))))
noncomputable abbrev aiE:SF:=by exists XC
noncomputable def tu:FP:=aL 9 aiE
theorem p18:tH (.int 10) (.int 18)=.ok (.int 1000000000000000000,false):=by kernel_rfl
theorem p60:tH (.int 10) (.int 60)=.ok (.int 1000000000000000000000000000000000000000000000000000000000000,false):=by kernel_rfl
theorem KN{rows:List (List (Int × Int))}(h:0<rows.length):aW (aU rows) (.int 0)=.ok (aJ (rows.getD 0 []),false):=tL h
theorem half{d:Nat}:xR (.int d) (.int 2)=.ok (.int ((d / 2:Nat):Int),false):=by
 refine(Ku (Kz (by lia) (by lia))).trans ?_
 rw[Int.fdiv_eq_ediv_of_nonneg _ (by lia)]
 rfl
theorem qp{α : Type}{f : α -> Tr}{l:List α}{d:Nat}:jR none (some (d:Int)) (.lst (l.map f))=.ok (.lst ((l.take d).map f),true):=by
 show Rs.ok (Tr.lst (cut (l.map f) none (some (d:Int))),true)=_
 rw[IV,<-List.map_take]
theorem Bk.lt{m k t:Nat}{rows:List (List (Int × Int))}(hB:Bk m rows)(hk:k<rows.length)(ht:t<m):t<(rows.getD k []).length:=by rw[(hB.row hk).2.1]; exact ht
theorem KQ{f:Bool->Bool}{k t:Nat}{as:List (Nat × Nat)}:jh f (.tup [.int k,.int t]) (.lst (as.map pT))=.ok (.bl (f (decide ((k,t)∈as))),false):=aht f (k,t) as
theorem K1{L:List Nat}:aW (.lst (L.map iT++[.int 0])) (.int (L.length-1))=.ok (iT (L.getLastD 0),false):=by
 cases L with
 |nil=>rfl
 |cons x L =>
  rw[show((x::L).length:Int)-1=(L.length:Nat) by simp]
  refine kJ ?_
  rw[List.getElem?_append_left (by simp),List.getElem?_map,List.getLastD_eq_getLast?,List.getLast?_eq_getElem?]
  simp
theorem aiF{L:List Nat}{m:Nat}(h:∀x∈L,x<m)(h0:0<m):L.getLastD 0<m:=by
 rw[List.getLastD_eq_getLast?]
 cases e:L.getLast? with
 |none=>exact h0
 |some x=>exact h x (List.mem_of_getLast? e)
theorem KY{n:Nat}{a b:Int}{y:Int × Int}:aW (.lst [.tup [.int a,.int b],fT y]) (.int (if decide (0<(n:Int))=true then 1 else 0))=.ok (fT (if 0<n then y else(a,b)),false):=by
 by_cases h:0<n
 .rw[if_pos (decide_eq_true (by lia)),if_pos h]; rfl
 .rw[if_neg (by simp; lia),if_neg h]; rfl
theorem pick{b:Bool}{x y:Int × Int}:aW (.lst [eN b x,fT y]) (.int (if id (xO (eN b x))=true then 1 else 0))=.ok (fT (if b=true then x else y),false):=by cases b <;> rfl
theorem KZ{b:Bool}{x:Int × Int}{c d:Int}:aW (.lst [eN b x,.tup [.int c,.int d]]) (.int (if id (xO (eN b x))=true then 1 else 0))=.ok (fT (if b=true then x else(c,d)),false):=pick (y:=(c,d))
theorem KR{b:Bool}{x:Int × Int}:aW (.lst [.non,fT x]) (.int (if b=true then 1 else 0))=.ok (eN b x,false):=by cases b <;> rfl
theorem cell_eq(ns:List Int)(k:Nat):∃x:Int,Jq [.lst (ns.map .int),.int k]=.ok (.int x,false)/\0<=x/\x<2 ^ 200:=by
 have a1:=p18
 have a2:=p60
 have big:∀c:Int,0<=c.fmod 1000000000000000000000000000000000000000000000000000000000000/\c.fmod 1000000000000000000000000000000000000000000000000000000000000<2 ^ 200:=λc=>(iW c _ (by decide)).imp id λh=>Int.lt_trans h (by decide)
 have c1:∀c:Int,dH (c.fmod 2147483629) (c.fmod 2147483629)=true:=λc=>by
  have:=iW c 2147483629 (by lia)
  exact kE (M:=40) (N:=40) (by lia) (by lia) (by lia) (by lia)
 have c2:∀c:Int,dH (c.fmod 2147483587) (c.fmod 2147483587)=true:=λc=>by
  have:=iW c 2147483587 (by lia)
  exact kE (M:=40) (N:=40) (by lia) (by lia) (by lia) (by lia)
 have fin:∀c d:Int,0<=c.fmod 2147483587*2147483563+d.fmod 2147483563/\c.fmod 2147483587*2147483563+d.fmod 2147483563<2 ^ 200:=λc d=>by
  have:=iW c 2147483587 (by lia)
  have:=iW d 2147483563 (by lia)
  lia
 by_cases z:k<ns.length
 .have g:=lA (f:=Tr.int) 0 z
  by_cases y:1000000000000000000<=ns.getD k 0 <;> apply Sq
  .walk_at "d"
  .exact big _
  .walk_at "d"
  .exact fin _ _
 .apply Sq
  .walk_at "d"
  .exact fin _ _
theorem Bw{a b:Int}{M:Nat}(ha:0<=a)(hb:1<=b)(hb2:b<2 ^ M)(hM:M<=8900):Bt [.int a,.int b]=.ok (fT (red a b),false):=by
 have np:=iD M
 obtain⟨g1,g2,_⟩:=qJ (a:=a) (b:=b) (by lia)
 have c1:∀n,iH n ((Int.gcd a b:Nat):Int)=true:=λn=>Ar (M:=M) (by lia) (by lia) hM
 walk_at "d"
 refine Ig [] (λs:Int × Int=>[(2,.sh (.int s.1)),(3,.sh (.int s.2))]) (λs=>0<=s.1/\0<=s.2/\Int.gcd s.1 s.2=Int.gcd a b) (λs=>s.2.natAbs) (a,b) ⟨ha,by lia,rfl⟩ rfl (by show b.natAbs<b.natAbs+1; lia) ?_
 rintro v ⟨x,y⟩ ⟨h1,h2,h3⟩
 dsimp only[pt,List.map,List.set]at *
 by_cases z:0<y
 .have r:=iW x y z
  apply sH
  walk_at "r"
  exact⟨(y,x.fmod y),⟨h2,r.1,by rw[<-h3]; exact N5 ..⟩,NZ x y (by lia),λ_=>.un,rfl⟩
 .obtain rfl:y=0:=by lia
  obtain rfl:x=(Int.gcd a b:Nat):=by rw[<-h3,Int.gcd_zero_right]; lia
  apply sH
  walk_at "r"
  unfold fT red
  rw[Int.fdiv_eq_ediv_of_nonneg _ (by lia),Int.fdiv_eq_ediv_of_nonneg _ (by lia)]
  rfl
theorem vY{x y:Int × Int}{M N:Nat}(hx:Fq M x)(hy:Fq N y)(hM:M+N<=8900):Xe [fT x,fT y]=.ok (.bl (aR x y),false):=by
 obtain⟨_,c1,c2,_⟩:=mulC hx hy hM
 walk_at "d"
theorem mul_eq{x y:Int × Int}{M N:Nat}(hx:Fq M x)(hy:Fq N y)(hM:M+N<=8900):Xb [fT x,fT y]=.ok (fT (bH x y),false):=by
 obtain⟨c1,_,_,c4⟩:=mulC hx hy hM
 have p:=Int.mul_pos (a:=x.2) (b:=y.2) (by have:=hx.2.2.1; lia) (by have:=hy.2.2.1; lia)
 have e:=Bw (a:=x.1*y.1) (b:=x.2*y.2) (M:=M+N) (Int.mul_nonneg hx.1 hy.1) (by lia) (mO (by have:=hx.2.2.1; lia) hx.2.2.2.1 (by have:=hy.2.2.1; lia) hy.2.2.2.1) hM
 walk_at "d"
theorem add_eq{x y:Int × Int}{M N:Nat}(hx:Fq M x)(hy:Fq N y)(hM:M+N<=8900):W9 [fT x,fT y]=.ok (fT (sumF x y),false):=by
 obtain⟨_,c2,c3,c4⟩:=mulC hx hy hM
 have x3:=hx.2.2.1
 have y3:=hy.2.2.1
 have p:=Int.mul_pos (a:=x.2) (b:=y.2) (by lia) (by lia)
 have e:=Bw (a:=x.1*y.2+y.1*x.2) (b:=x.2*y.2) (M:=M+N) (Int.add_nonneg (Int.mul_nonneg hx.1 (by lia)) (Int.mul_nonneg hy.1 (by lia))) (by lia) (mO (by lia) hx.2.2.2.1 (by lia) hy.2.2.2.1) hM
 walk_at "d"
theorem Bx(ns:List Int){i:Int}(h:0<=i):∃x:Int,Jq [.lst (ns.map .int),.int i]=.ok (.int x,false)/\0<=x/\x<2 ^ 200:=by
 obtain⟨k,rfl⟩:=Int.eq_ofNat_of_zero_le h
 exact cell_eq ns k
theorem Jx(x:Int){n:Nat}(h:1<=n):∃m:Nat,1<=m/\m<=n/\nu (.int 1) (.int (x.fmod n))=.ok (.int m,false):=by
 have r:=iW x n (by lia)
 exact⟨(1+x.fmod n).toNat,by lia,by lia,by rw[Int.toNat_of_nonneg (by lia)]; rfl⟩
theorem aiG{z b:Int}(h0:0<=z)(h1:z<=b)(h2:1<=b)(h3:b<=1000000000000):Wo (red z b):=by
 obtain⟨g1,g2,g3,g4,g5,g6,g7⟩:=qJ (a:=z) (b:=b) (by lia)
 have d2:=Int.ediv_le_self (a:=b) ((Int.gcd z b:Nat):Int) (by lia)
 have d3:=Int.ediv_le_ediv g1 h1
 exact⟨g5 h0,d3,g3,by show b / ((Int.gcd z b:Nat):Int)<=_; lia,g4⟩
noncomputable def BJ(b:Int)(x:Int × Int):Prop:=Wo x/\x.2∣b
theorem aiH(x:Int):∃b:Int,aW (.lst [.int 2,.int 3,.int 4,.int 6,.int 10,.int 24,.int 97,.int 999999999999]) (.int (x.fmod 8))=.ok (.int b,false)/\1<=b/\b<=1000000000000:=by
 have r:=iW x 8 (by lia)
 obtain⟨k,hk⟩:=Int.eq_ofNat_of_zero_le r.1
 rw[hk]
 have:k<8:=by lia
 rcases k with _|_|_|_|_|_|_|_|k <;> first|exact⟨_,rfl,by decide,by decide⟩|lia
theorem snoc{α : Type}{p : α -> Prop}{l:List α}{x : α}(h:∀y∈l,p y)(k:p x):∀y∈l++[x],p y:=λy hy=>(List.mem_append.mp hy).elim (h y) λz=>List.mem_singleton.mp z▸k
theorem tB{α β : Type}{f : α -> β}{l:List α}{x : α}:l.map f++[f x]=(l++[x]).map f:=by simp
theorem aiI(ns:List Int)(a:Nat){L M:Nat}(hL:1<=L/\L<=4)(hM:1<=M/\M<=12):∃(m:Nat) (rows:List (List (Int × Int))),Bk m rows/\(∃D,Bd D rows)/\m<=M/\rows.length<=L/\Jr [.lst (ns.map .int),.int a,.int L,.int M]=.ok (aU rows,true):=by
 obtain⟨x,ex,_⟩:=cell_eq ns a
 obtain⟨m,m1,m2,em⟩:=Jx x hM.1
 obtain⟨w,w1,w2,ew⟩:=Jx (x.fdiv M) hL.1
 obtain⟨b,eb,b1,b2⟩:=aiH (x.fdiv 1000)
 suffices h:∃z,Jr [.lst (ns.map .int),.int a,.int L,.int M]=.ok z/\∃rows:List (List (Int × Int)),(rows.length=w/\∀l∈rows,l.length=m/\∀x∈l,BJ b x)/\z=(aU rows,true) by
  obtain⟨_,e,rows,⟨h1,h2⟩,rfl⟩:=h
  exact⟨m,rows,⟨by lia,by lia,by lia,by lia,λl hl=>⟨(h2 l hl).1,λx hx=>((h2 l hl).2 x hx).1⟩⟩,⟨b,b1,b2,λl hl x hx=>((h2 l hl).2 x hx).2⟩,m2,by lia,e⟩
 walk_at "e"
 refine jt [9,10,11,12] (λs:List (List (Int × Int))=>[(8,.ow (s.map aJ))]) (λk s=>s.length=k/\∀l∈s,l.length=m/\∀x∈l,BJ b x) [] ⟨rfl,λ_ h=>by cases h⟩ rfl (λk v rows hk ⟨i1,i2⟩=>?_) (λv rows i=>?_)
 rotate_left
 .walk_at "p"
  exact⟨_,rfl,rows,i,rfl⟩
 obtain⟨o,eo,_⟩:=Bx ns (i:=(a:Int)+1+k) (by lia)
 walk_at "p"
 refine jt [12] (λs:Int × List (Int × Int)=>[(10,.sh (.int s.1)),(11,.ow (s.2.map fT))]) (λk s=>s.2.length=k/\∀x∈s.2,BJ b x) (o,[]) ⟨rfl,λ_ h=>by cases h⟩ rfl (λt v s ht ⟨j1,j2⟩=>?_) (λv s j=>?_)
 .obtain⟨o1,l⟩:=s
  have j1:l.length=t:=j1
  obtain⟨o2,eo2,_⟩:=Bx ns (i:=((a:Int)+1+k+5*t).fmod 63) (iW _ _ (by lia)).1
  have fr:∀o:Int,Bt [.int (o.fmod (b+1)),.int b]=.ok (fT (red (o.fmod (b+1)) b),false)/\BJ b (red (o.fmod (b+1)) b):=λo=>by
   have r:=iW o (b+1) (by lia)
   exact⟨Bw (M:=60) r.1 b1 (by lia) (by lia),aiG r.1 (by lia) b1 b2,Int.ediv_dvd_of_dvd (Int.gcd_dvd_right ..)⟩
  have f1:=fr o1
  have f2:=fr o2
  have e1:=f1.1
  have e2:=f2.1
  by_cases h:100<b
  .walk_at "p"
   exact⟨(_,l++[_]),⟨by simp[j1],snoc j2 f2.2⟩,exV (by rw[<-tB]; rfl)⟩
  .walk_at "p"
   exact⟨(_,l++[_]),⟨by simp[j1],snoc j2 f1.2⟩,exV (by rw[<-tB]; rfl)⟩
 .walk_at "p"
  exact⟨rows++[s.2],⟨by simp[i1],snoc i2 j⟩,exV (by rw[<-tB]; rfl)⟩
theorem aiJ(x:Int)(m:Nat):∃d:Nat,d<=m/\xU (.int x) (.int ((m:Int)+1))=.ok (.int d,false):=by
 have r:=iW x (m+1) (by lia)
 exact⟨(x.fmod (m+1)).toNat,by lia,by rw[Int.toNat_of_nonneg r.1]; exact Ks (by lia)⟩
noncomputable def Ak(m k j:Nat)(as:List (Nat × Nat)):Prop:=as.Pairwise Lx/\(∀p∈as,Lx p (k,j)/\p.2<m)/\as.length<=m*k+j
theorem Ak.step{m k j:Nat}{as r:List (Nat × Nat)}(h:Ak m k j as)(hj:j<m)(hr:r=[]\/r=[(k,j)]):Ak m k (j+1) (as++r):=by
 obtain⟨h1,h2,h3⟩:=h
 have lx:∀p,Lx p (k,j)->Lx p (k,j+1):=λp q=>by
  unfold Lx at *
  rcases q with q|q
  .exact .inl q
  .exact .inr ⟨q.1,by have:=q.2; dsimp only at this ⊢; lia⟩
 rcases hr with rfl|rfl
 .rw[List.append_nil]
  exact⟨h1,λp m=>⟨lx p (h2 p m).1,(h2 p m).2⟩,by lia⟩
 .refine⟨List.pairwise_append.mpr ⟨h1,List.pairwise_singleton _ _,λp mp q mq=>?_⟩,λp mp=>?_,by rw[List.length_append,List.length_singleton]; lia⟩
  .rw[List.mem_singleton.mp mq]
   exact(h2 p mp).1
  .rcases List.mem_append.mp mp with mp|mp
   .exact⟨lx p (h2 p mp).1,(h2 p mp).2⟩
   .rw[List.mem_singleton.mp mp]
    exact⟨.inr ⟨rfl,Nat.lt_succ_self j⟩,hj⟩
theorem Ak.next{m k:Nat}{as:List (Nat × Nat)}(h:Ak m k m as):Ak m (k+1) 0 as:=by
 obtain⟨h1,h2,h3⟩:=h
 refine⟨h1,λp m=>⟨.inl ?_,(h2 p m).2⟩,by rw[Nat.mul_succ]; lia⟩
 rcases(h2 p m).1 with q|q
 .dsimp only at q ⊢; lia
 .have:=q.1; dsimp only at this ⊢; lia
theorem Ak.lk{n m:Nat}{ds:List Nat}{as:List (Nat × Nat)}(h1:ds.length=n)(h2:∀d∈ds,d<=m)(hn:n<=4)(hm:m<=12)(h:Ak m n 0 as):Lk n m ds as:=by
 have mk:m*n<=12*4:=Nat.mul_le_mul hm hn
 refine⟨h1,h2,h.1,by have:=h.2.2; lia,λp mp=>⟨?_,(h.2.1 p mp).2⟩⟩
 rcases(h.2.1 p mp).1 with q|q
 .exact q
 .have:=q.2; dsimp only at this; lia
theorem aiK(ns:List Int)(a:Nat){m:Nat}{rows:List (List (Int × Int))}(hB:Bk m rows):∃(ds:List Nat) (as:List (Nat × Nat)),Lk rows.length m ds as/\Jt [.lst (ns.map .int),.int a,aU rows]=.ok (dN ds as,false):=by
 obtain⟨b1,b2,b3,b4,b5⟩:=id hB
 have l0:=(hB.row b1).2.1
 obtain⟨x,ex,_⟩:=cell_eq ns a
 obtain⟨y,ey,_⟩:=Bx ns (i:=(a:Int)+1) (by lia)
 obtain⟨w,ew,_⟩:=Bx ns (i:=(a:Int)+50) (by lia)
 have el:d8 (aJ (rows.getD 0 []))=.ok (.int m,false):=by rw[jU,l0]
 suffices h:∃z,Jt [.lst (ns.map .int),.int a,aU rows]=.ok z/\∃ds as,Lk rows.length m ds as/\z=(dN ds as,false) by
  obtain⟨_,e,ds,as,h,rfl⟩:=h
  exact⟨ds,as,h,e⟩
 walk_at "e"
 refine jt [6] (λs:Int × List Nat=>[(3,.sh (.int s.1)),(5,.ow (s.2.map iT))]) (λk s=>s.2.length=k/\∀d∈s.2,d<=m) (x,[]) ⟨rfl,λ_ h=>by cases h⟩ rfl (λk v s hk i=>?_) (λv s i=>?_)
 .obtain⟨x,ds⟩:=s
  obtain⟨d,hd,ed⟩:=aiJ x m
  have i1:ds.length=k:=i.1
  walk_at "p"
  exact⟨(_,ds++[d]),⟨by simp[i1],snoc i.2 hd⟩,exV (by rw[<-tB]; rfl)⟩
 obtain⟨x,ds⟩:=s
 have i1:ds.length=rows.length:=i.1
 walk_at "p"
 refine Ih (λs=>[(5,.ow (s.map iT))]) (λs:List Nat=>s.length=rows.length/\∀d∈s,d<=m) ?_ λds i=>?_
 .by_cases z:x.fmod 4=0
  .walk_at "r"
   exact⟨rfl,ds.map (· / 2),⟨by simp[i1],λd hd=>by obtain⟨e,he,rfl⟩:=List.mem_map.mp hd; have:=i.2 e he; lia⟩,by rw[List.map_map]; rfl⟩
  .walk_at "r"
   exact⟨rfl,ds,i,rfl⟩
 walk_at "p"
 refine jt [6,9] (λs:Int × List (Nat × Nat)=>[(8,.sh (.int s.1)),(7,.ow (s.2.map pT))]) (λk s=>Ak m k 0 s.2) (y,[]) ⟨.nil,λ_ h=>(by cases h),Nat.zero_le _⟩ rfl (λk v s hk ia=>?_) (λv s ia=>?_)
 .have mk:m*k<=12*4:=Nat.mul_le_mul b4 (by lia)
  obtain⟨o,as⟩:=s
  walk_at "p"
  refine Ih (λs=>[(8,.sh (.int s))]) (λ_:Int=>True) ?_ λo _=>?_
  .by_cases z:k=2
   .walk_at "r"
    exact⟨rfl,_,trivial,rfl⟩
   .walk_at "r"
    exact⟨rfl,_,trivial,rfl⟩
  walk_at "p"
  refine jt [9] (λs:Int × List (Nat × Nat)=>[(8,.sh (.int s.1)),(7,.ow (s.2.map pT))]) (λj s=>Ak m k j s.2) (o,as) ia rfl (λj v s hj ij=>?_) (λv s ij=>⟨s,ij.next,exV rfl⟩)
  obtain⟨o,as⟩:=s
  have la:as.length<=m*k+j:=ij.2.2
  by_cases z:o.fmod 5=1
  .walk_at "p"
   exact⟨(_,as++[(k,j)]),ij.step hj (.inr rfl),exV (by rw[<-tB]; rfl)⟩
  .walk_at "p"
   exact⟨(_,as),by have:=ij.step hj (.inl rfl); rwa[List.append_nil]at this,exV rfl⟩
 obtain⟨o,as⟩:=s
 walk_at "p"
 refine Ih (λs=>[(7,.ow (s.map pT))]) (λs:List (Nat × Nat)=>s=as\/s=[]) ?_ λas' ia'=>?_
 .by_cases z:(x.fdiv 4).fmod 3=0
  .walk_at "r"
   exact⟨rfl,[],.inr rfl,rfl⟩
  .walk_at "r"
   exact⟨rfl,as,.inl rfl,rfl⟩
 walk_at "p"
 refine⟨_,rfl,ds,as',?_,rfl⟩
 have L:=Ak.lk i.1 i.2 b2 b4 ia
 rcases ia' with rfl|rfl
 .exact L
 .exact⟨L.1,L.2.1,.nil,by simp,λ_ h=>by cases h⟩
theorem pref{α : Type}{p : α -> Bool}:∀zs:List α,zs.Pairwise (λa b=>p b=true->p a=true)->zs.take (zs.filter p).length=zs.filter p/\zs.drop (zs.filter p).length=zs.filter λa=>!p a
 | [],_=>⟨rfl,rfl⟩
 |a::l,h=>by
  obtain⟨h1,h2⟩:=List.pairwise_cons.mp h
  obtain⟨i1,i2⟩:=pref l h2
  cases e:p a with
  |true=>simp[e,i1,i2]
  |false =>
   have hf:∀b∈l,p b=false:=λb hb=>by
    cases z:p b with
    |false=>rfl
    |true=>rw[h1 b hb z]at e; cases e
   have z:l.filter p=[]:=List.filter_eq_nil_iff.mpr λb hb=>by rw[hf b hb]; simp
   have z':l.filter (λa=>!p a)=l:=List.filter_eq_self.mpr λb hb=>by rw[hf b hb]; rfl
   simp[e,z,z']
theorem jq{α : Type}{R : α -> α -> Prop}{p : α -> Bool}{zs:List α}{n : α}(hs:zs.Pairwise R)(hp:∀a∈zs,∀b∈zs,R a b->p b=true->p a=true)(h1:∀a∈zs,p a=true->R a n)(h2:∀b∈zs,p b=false->R n b):(zs.take (zs.filter p).length++n::zs.drop (zs.filter p).length).Perm (n::zs)/\(zs.take (zs.filter p).length++n::zs.drop (zs.filter p).length).Pairwise R:=by
 obtain⟨e1,e2⟩:=pref (p:=p) zs (hs.imp_of_mem λ{a b} ma mb r=>hp a ma b mb r)
 have hs':(zs.take (zs.filter p).length++zs.drop (zs.filter p).length).Pairwise R:=by rw[List.take_append_drop]; exact hs
 rw[e1,e2]at hs'
 rw[e1,e2]
 refine⟨List.perm_middle.trans ((List.filter_append_perm p zs).cons n),List.pairwise_append.mpr ⟨hs.filter p,List.pairwise_cons.mpr ⟨λb hb=>?_,hs.filter _⟩,λa ha b hb=>?_⟩⟩
 .obtain⟨m,q⟩:=List.mem_filter.mp hb
  exact h2 b m (by simpa using q)
 .obtain⟨m,q⟩:=List.mem_filter.mp ha
  rcases List.mem_cons.mp hb with rfl|hb
  .exact h1 a m q
  .exact(List.pairwise_append.mp hs').2.2 a ha b hb
theorem Wo.fq{x:Int × Int}(h:Wo x):Fq 400 x:=by
 obtain⟨h1,h2,h3,h4,h5⟩:=h
 exact⟨h1,by lia,h3,by lia,h5⟩
theorem order_eq{l:List (Int × Int)}(h:∀x∈l,Fq 400 x)(hc:l.length<=12):∃zs:List Nat,Bv [aJ l]=.ok (.lst (zs.map iT),true)/\Fall l zs:=by
 suffices h:∃z,Bv [aJ l]=.ok z/\∃zs:List Nat,Fall l zs/\z=(.lst (zs.map iT),true) by
  obtain⟨_,e,zs,h,rfl⟩:=h
  exact⟨zs,e,h⟩
 have hg:∀i,i<l.length->Fq 400 (l.getD i (0,1)):=λi hi=>h _ (by rw[List.getD_eq_getElem?_getD,List.getElem?_eq_getElem hi]; exact List.getElem_mem _)
 walk_at "e"
 refine jt [2,3] (λs:List Nat=>[(1,.ow (s.map iT))]) (λk s=>s.Perm (List.range k)/\s.Pairwise (jO l)) [] ⟨.nil,.nil⟩ rfl (λk v zs hk i=>?_) (λv zs i=>?_)
 .have ll:zs.length=k:=by simpa using i.1.length_eq
  have lz:∀a∈zs,a<k:=λa ha=>List.mem_range.mp (i.1.mem_iff.mp ha)
  walk_at "p"
  exact Nat.lt_trans (lz x hx) hk
  walk_at "r"
  exact vY (hg x (Nat.lt_trans (lz x hx) hk)) (hg k hk) (by lia)
  walk_at "r"
  have h:=jq (p:=λx=>!aR (l.getD x (0,1)) (l.getD k (0,1))) (n:=k) i.2 (λa ma b mb r q=>by
   have ab:aR (l.getD a (0,1)) (l.getD b (0,1))=false:=decide_eq_false (by unfold jO at r; lia)
   simpa using kZ (hg a (Nat.lt_trans (lz a ma) hk)).2.2.1 (hg b (Nat.lt_trans (lz b mb) hk)).2.2.1 (hg k hk).2.2.1 ab (by simpa using q)) (λa ma q=>by
   have:=lz a ma
   unfold aR at q
   unfold jO
   simp only[Bool.not_eq_true',decide_eq_false_iff_not]at q
   lia) λb mb q=>.inl (by unfold aR at q; simp only[Bool.not_eq_false',decide_eq_true_eq]at q; exact q)
  exact⟨_,⟨h.1.trans ((i.1.cons k).trans (List.range_succ▸List.perm_append_comm (l₁:=[k]))),h.2⟩,exV (by rw[List.map_append,List.map_cons,List.map_take,List.map_drop]; rfl)⟩
 .walk_at "p"
  exact⟨_,rfl,zs,i,rfl⟩
theorem XD{l:List (Int × Int)}(h:∀x∈l,Wo x)(hc:l.length<=12):Fall l (aF l)/\Bv [aJ l]=.ok (.lst ((aF l).map iT),true)/\sJ [aJ l]=.ok (.lst ((aF l).map iT),true):=by
 obtain⟨zs,e1,f1⟩:=order_eq (λx hx=>Wo.fq (h x hx)) hc
 have e2:=sX (N:=40) (BH.Wo.frs h) (by lia) (by lia) (by lia)
 rw[<-Jo f1]at e1
 exact⟨e2.1,e1,e2.2⟩
theorem aiL{m:Nat}{rows:List (List (Int × Int))}{ds:List Nat}{as:List (Nat × Nat)}(hB:Bk m rows)(hL:Lk rows.length m ds as):Ju [aU rows,dN ds as]=.ok (.lst (gs rows (sA aF rows ds as)),true):=by
 obtain⟨b1,b2,b3,b4,b5⟩:=id hB
 have hl:=hL.1
 walk_at "d"
 refine p8 [3,4,5,6,7] (λk=>[(2,.ow ((List.range k).map λk=>.lst (gr (rows.getD k []) (sA aF rows ds as k))))]) rfl (λk v hk=>?_) (λv=>?_)
 .obtain⟨_,q1,q2⟩:=hB.row hk
  obtain⟨oo,eo,_⟩:=XD q2 (by lia)
  walk_at "p"
  refine p8 [6,7] (λt=>[(5,.ow ((List.range t).map λt=>eN (sA aF rows ds as k t) ((rows.getD k []).getD t (0,1))))]) rfl (λt v ht=>?_) (λv=>?_)
  .walk_at "p"
   rw[List.range_succ,List.map_append]; rfl
  .walk_at "p"
   rw[List.range_succ,List.map_append]; rfl
 .walk_at "p"
theorem aiM{rows:List (List (Int × Int))}(hl:rows.length<=1000):Xy [aU rows]=.ok (aU rows,true):=by
 walk_at "d"
noncomputable def XF(w:Int × Int):Prop:=Fq 45 w/\w.2∣12/\w.1<=100
theorem wgt(x y:Int):Bt [.int (x.fmod 7),.int (1+y.fmod 4)]=.ok (fT (red (x.fmod 7) (1+y.fmod 4)),false)/\XF (red (x.fmod 7) (1+y.fmod 4)):=by
 have r1:=iW x 7 (by lia)
 have r2:=iW y 4 (by lia)
 have hb:1<=1+y.fmod 4/\1+y.fmod 4<=4:=by lia
 generalize 1+y.fmod 4=b,x.fmod 7=a at *
 obtain⟨g1,g2,g3,g4,g5,g6,g7⟩:=qJ (a:=a) (b:=b) (by lia)
 have d2:=Int.ediv_le_self (a:=a) ((Int.gcd a b:Nat):Int) (by lia)
 refine⟨Bw (M:=60) r1.1 hb.1 (by lia) (by lia),Jb (M:=45) r1.1 (by lia) hb.1 (by lia),Int.dvd_trans (Int.ediv_dvd_of_dvd (Int.gcd_dvd_right a b)) ?_,by show a / ((Int.gcd a b:Nat):Int)<=100; lia⟩
 have:b=1\/b=2\/b=3\/b=4:=by omega
 rcases this with rfl|rfl|rfl|rfl <;> decide
theorem aiN(x:Int){n:Nat}(h1:1<=n)(h4:n<=4):∃r,Js [.int x,.int n]=.ok (aY r,false)/\bU n r/\Br r:=by
 suffices h:∃z,Js [.int x,.int n]=.ok z/\∃r,(bU n r/\Br r)/\z=(aY r,false) by
  obtain⟨_,e,r,h,rfl⟩:=h
  exact⟨r,e,h⟩
 obtain⟨j,j1,j2,ej⟩:=Jx (x.fdiv 7) h1
 by_cases w0:x.fmod 7=0
 .walk_at "e"
  exact⟨_,rfl,.least,⟨trivial,trivial⟩,rfl⟩
 by_cases w1:x.fmod 7=1
 .walk_at "e"
  exact⟨_,rfl,.greatest,⟨trivial,trivial⟩,rfl⟩
 by_cases w2:x.fmod 7=2
 .walk_at "e"
  exact⟨_,rfl,.mid j,⟨⟨j1,j2⟩,trivial⟩,rfl⟩
 by_cases w3:x.fmod 7=3
 .walk_at "e"
  exact⟨_,rfl,.product,⟨trivial,trivial⟩,rfl⟩
 walk_at "e"
 refine jt [4] (λs:Int × List (Int × Int)=>[(0,.sh (.int s.1)),(3,.ow (s.2.map fT))]) (λk s=>s.2.length=k/\∀w∈s.2,XF w) (x.fdiv 7,[]) ⟨rfl,λ_ h=>by cases h⟩ rfl (λk v s hk i=>?_) (λv s i=>?_)
 .obtain⟨y,ws⟩:=s
  have i1:ws.length=k:=i.1
  obtain⟨e,q⟩:=wgt y (y.fdiv 7)
  walk_at "p"
  exact⟨(_,ws++[_]),⟨by simp[i1],snoc i.2 q⟩,exV (by rw[<-tB]; rfl)⟩
 .walk_at "p"
  exact⟨_,rfl,.sh s.2,⟨⟨i.1,λw hw=>(i.2 w hw).1⟩,λw hw=>(i.2 w hw).2⟩,rfl⟩
section
variable {m:Nat}{rows:List (List (Int × Int))}{ds:List Nat}{as:List (Nat × Nat)}{r:Ru}{s:Nat->Nat->Bool}{xs:List (Int × Int)}
theorem aiO{l:List Tr}{T:Tr}(h:l.getLast? = some T):aW (.lst l) (.int (-1))=.ok (T,false):=by
 have n0:l.length≠0:=λz=>by rw[List.length_eq_zero_iff.mp z]at h; cases h
 have e:cR l (-1)=some T:=by
  unfold cR gW
  rw[if_neg (by lia),if_pos (by lia),<-h,List.getLast?_eq_getElem?]
  exact congrArg (λj=>l[j]?) (show(-1+(l.length:Int)).toNat=l.length-1 by lia)
 show(match cR l (-1)with|some t=>Rs.ok (t,false)|none=>.bad)=_
 rw[e]
theorem aiP(hx:∀x∈xs,Wo x)(h1:1<=xs.length)(h2:xs.length<=12)(ho:bU xs.length r):∃v,sY [aY r,aJ xs]=.ok (fT v,false)/\Wv r xs v:=by
 have hq:∀x∈xs,Fq 45 x:=λx m=>BH.Wo.fq (hx x m)
 have pl:placed r=true->∃z,sY [aY r,aJ xs]=.ok z/\∃v zs,(cL xs zs/\zs[eH xs.length r-1]?=some v)/\z=(fT v,false):=λhp=>by
  obtain⟨w,e1,e2,e3,e4,e5⟩:=ag9 hp
  walk_at "e"
  refine kj [4,6] (λs:List (Int × Int)=>[(5,.ow (s.map fT))]) (λk s=>s.Perm (xs.take k)/\s.Pairwise le2) [] ⟨.nil,.nil⟩ rfl (λk y v zs gx i=>?_) (λv zs i=>?_)
  .have kl:=(List.getElem?_eq_some_iff.mp gx).1
   have lz:zs.length=k:=by rw[i.1.length_eq,List.length_take]; lia
   have hz:∀z∈zs,Fq 45 z:=λz m=>hq z (List.mem_of_mem_take (i.1.mem_iff.mp m))
   have hy:=hq y (List.mem_of_getElem? gx)
   walk_at "p"
   exact vY (hz x hx) hy (by lia)
   walk_at "r"
   have h:=jq (R:=le2) (p:=λz=>aR z y) (n:=y) i.2 (λa ma b mb r q=>by
    cases e:aR a y with
    |true=>rfl
    |false=>rw[kO.mpr (Ay hy.2.2.1 (hz a ma).2.2.1 (hz b mb).2.2.1 (kO.mp e) r)]at q; cases q) (λa ma q=>by unfold aR at q; unfold le2; simp only[decide_eq_true_eq]at q; lia) λb mb q=>kO.mp q
   refine⟨_,⟨h.1.trans ((i.1.cons y).trans ?_),h.2⟩,exV (by rw[List.map_append,List.map_cons,List.map_take,List.map_drop]; rfl)⟩
   rw[List.take_add_one,gx]
   exact List.perm_append_comm (l₁:=[y])
  .rw[List.take_length]at i
   have lz:=i.1.length_eq
   obtain⟨p1,p2⟩:=VF hp ho h1
   have go:∀k:Nat,k=xs.length-eH xs.length r->∃v ys,(cL xs ys/\ys[eH xs.length r-1]?=some v)/\(fT (zs.getD k (0,1)),false)=(fT v,false):=λk hk=>⟨_,zs.reverse,⟨⟨(List.reverse_perm zs).trans i.1,List.pairwise_reverse.mpr i.2⟩,by
    rw[List.getElem?_reverse (by lia),show zs.length-1-(eH xs.length r-1)=k by lia,List.getElem?_eq_getElem (by lia),List.getD_eq_getElem?_getD,List.getElem?_eq_getElem (by lia)]; rfl⟩,rfl⟩
   have g0:aW (.lst (zs.map fT)) (.int 0)=.ok (fT (zs.getD 0 (0,1)),false):=lA (k:=0) _ (by lia)
   have gl:aW (.lst (zs.map fT)) (.int (-1))=.ok (fT (zs.getD (xs.length-1) (0,1)),false):=aiO (by rw[List.getLast?_eq_getElem?,List.getElem?_map,List.length_map,lz,List.getD_eq_getElem?_getD,List.getElem?_eq_getElem (by lia)]; rfl)
   cases r with
   |sh ws=>cases hp
   |product=>cases hp
   |least=>walk_at "p"; exact⟨_,rfl,go 0 (Nat.sub_self _).symm⟩
   |greatest=>walk_at "p"; exact⟨_,rfl,go _ rfl⟩
   |mid k =>
    have p1:1<=k:=p1
    have p2:k<=xs.length:=p2
    have i1:aW (aY (.mid k)) (.int 1)=.ok (.int k,false):=rfl
    have d1:uq (.int (zs.length:Int)) (.int k)=.ok (.int ((xs.length-k:Nat):Int),false):=by show Rs.ok (Tr.int ((zs.length:Int)-k),false)=_; rw[lz,Int.ofNat_sub p2]
    walk_at "p"; exact⟨_,rfl,go _ rfl⟩
 cases r with
 |sh ws =>
  have ol:=ho.1
  suffices h:sY [aY (.sh ws),aJ xs]=.ok (fT (cZ (ws.zip xs) (0,1)),false)from⟨_,h,rfl⟩
  have zl:(ws.zip xs).length=xs.length:=by rw[List.length_zip,ol,Nat.min_self]
  have i1:aW (aY (.sh ws)) (.int 1)=.ok (aJ ws,false):=rfl
  walk_at "d"
  refine jt [3] (λt:Int × Int=>[(2,.sh (fT t))]) (λk t=>t=cZ ((ws.zip xs).take k) (0,1)/\Fq (1+91*k) t) (0,1) ⟨rfl,by decide,by decide,by decide,by decide,rfl⟩ rfl (λk v t hk i=>?_) (λv t i=>?_)
  .have fx:=hq _ (List.getElem_mem hk)
   have fw:=ho.2 _ (List.getElem_mem (ol▸hk))
   have f:=vO fw fx
   have e1:=mul_eq fw fx (by lia)
   have e2:=add_eq i.2 f (by lia)
   have g1:aW (aJ xs) (.int k)=.ok (fT xs[k],false):=kJ (by simp[hk])
   have g2:aW (aJ ws) (.int k)=.ok (fT (ws[k]'(ol▸hk)),false):=kJ (by simp[ol▸hk])
   walk_at "p"
   refine⟨_,⟨?_,(Vs i.2 f).up (by lia)⟩,exV rfl⟩
   rw[i.1,List.take_add_one,List.getElem?_eq_getElem (by lia)]
   unfold cZ
   rw[List.foldl_append]
   simp
  .rw[i.1,List.take_of_length_le (by lia)]
   walk_at "p"
 |product =>
  suffices h:sY [aY .product,aJ xs]=.ok (fT (dD xs (1,1)),false)from⟨_,h,rfl⟩
  walk_at "d"
  refine kj [4] (λt:Int × Int=>[(2,.sh (fT t))]) (λk t=>t=dD (xs.take k) (1,1)/\Fq (1+45*k) t) (1,1) ⟨rfl,by decide,by decide,by decide,by decide,rfl⟩ rfl (λk x v t gx i=>?_) (λv t i=>?_)
  .have kl:=(List.getElem?_eq_some_iff.mp gx).1
   have fx:=hq x (List.mem_of_getElem? gx)
   have e1:=mul_eq i.2 fx (by lia)
   walk_at "p"
   refine⟨_,⟨?_,(vO i.2 fx).up (by lia)⟩,exV rfl⟩
   rw[i.1,List.take_add_one,gx]
   unfold dD
   rw[List.foldl_append]
   rfl
  .rw[i.1,List.take_length]
   walk_at "p"
 |least=>obtain⟨_,e,v,zs,h,rfl⟩:=pl rfl; exact⟨v,e,zs,h⟩
 |greatest=>obtain⟨_,e,v,zs,h,rfl⟩:=pl rfl; exact⟨v,e,zs,h⟩
 |mid k=>obtain⟨_,e,v,zs,h,rfl⟩:=pl rfl; exact⟨v,e,zs,h⟩
theorem XH{xs:List (Int × Int)}(hx:∀x∈xs,Wo x)(h1:1<=xs.length)(h2:xs.length<=12)(ho:bU xs.length r):sY [aY r,aJ xs]=.ok (fT (wv r xs),false):=by
 obtain⟨v,e,h⟩:=aiP hx h1 h2 ho
 rw[Wn hx h]
 exact e
theorem aiQ(hL:Lk rows.length m ds as):((List.range rows.length).map λk=>fT (gK aF (1,1) (rows.getD k []) (ds.getD k 0)))=(dO aF (1,1) rows ds).map fT:=by unfold dO; rw[List.map_map]; rfl
theorem aiR(hB:Bk m rows)(hL:Lk rows.length m ds as)(ho:bU rows.length r):Xo [aU rows,aY r,dN ds as]=.ok (.lst (bN (loV r rows ds as) (hiV r rows ds as) m),true):=by
 have h1:=hB.1
 have h4:=hB.2.1
 have b3:=hB.2.2.1
 have b4:=hB.2.2.2.1
 have ll:=oE (od:=aF) (one:=(1,1)) hL.1
 have l0:=(hB.row h1).2.1
 have hl:=hL.1
 have z1:Ju [aU rows,dN ds as]=.ok (.lst (gs rows (sA aF rows ds as)),true):=aiL hB hL
 walk_at "d"
 refine p8 [5,6] (λk=>[(4,.ow ((List.range k).map λk=>fT (gK aF (1,1) (rows.getD k []) (ds.getD k 0))))]) rfl (λk v hk=>?_) (λv=>?_)
 .obtain⟨_,q1,q2⟩:=hB.row hk
  obtain⟨oo,eo,_⟩:=XD q2 (by lia)
  have lg:=aiF (L:=(aF (rows.getD k [])).take (ds.getD k 0)) (m:=m) (λx hx=>by rw[<-q1]; exact List.mem_range.mp (oo.1.mem_iff.mp (List.mem_of_mem_take hx))) (by lia)
  have dm:=hL.2.1 (ds.getD k 0) (by rw[List.getD_eq_getElem?_getD,List.getElem?_eq_getElem (hl▸hk)]; exact List.getElem_mem _)
  walk_at "p"
  rw[List.range_succ,List.map_append]
  refine congrArg (λy=>_++[fT y]) ?_
  have lt:((aF (rows.getD k [])).take (ds.getD k 0)).length=ds.getD k 0:=by rw[List.length_take,oo.1.length_eq,List.length_range,q1]; lia
  rw[List.getLastD_eq_getLast?,List.getLast?_eq_getElem?,lt]
  unfold gK
  split
  .rw[List.getElem?_take,if_pos (by lia),<-List.getD_eq_getElem?_getD]
  .rfl
 walk_at "p"
 rw[aiQ hL,l0]
 refine p8 [8,9,10] (λk=>[(7,.ow (bN (loV r rows ds as) (hiV r rows ds as) k))]) rfl (λt v ht=>?_) (λv=>?_)
 .have e1:=XH (vR (s:=sA aF rows ds as) hB ht) (by rw[fC]; exact h1) (by rw[fC]; lia) (by rw[fC]; exact ho)
  have e2:=XH (Bj (s:=sA aF rows ds as) hB ht ll (Bm hB hL)) (by rw[iG]; exact h1) (by rw[iG]; lia) (by rw[iG]; exact ho)
  unfold lo at e1
  unfold hi at e2
  rw[sV]at e1 e2
  have bl:=Wl (m:=t) (a:=loV r rows ds as) (b:=hiV r rows ds as)
  walk_at "p"
  exact Wm
 walk_at "p"
end
end K22
end
section
namespace BH
open PySem L2
theorem XJ(p:Nat->Bool):∀m:Nat,∃n,n<2 ^ m/\∀t,t<m->n.testBit t=p t
 | 0=>⟨0,by lia,λt h=>by lia⟩
 |m+1=>by
  obtain⟨n,h1,h2⟩:=XJ p m
  have z:n.testBit m=false:=Nat.testBit_lt_two_pow h1
  by_cases c:p m=true
  .refine⟨2 ^ m+n,by rw[Nat.pow_succ]; lia,λt ht=>?_⟩
   rcases Nat.lt_or_ge t m with q|q
   .rw[Nat.testBit_two_pow_add_gt q,h2 t q]
   .obtain rfl:t=m:=by lia
    rw[Nat.testBit_two_pow_add_eq,z,c]
    rfl
  .refine⟨n,by rw[Nat.pow_succ]; lia,λt ht=>?_⟩
   rcases Nat.lt_or_ge t m with q|q
   .exact h2 t q
   .obtain rfl:t=m:=by lia
    rw[z,Bool.eq_false_iff.mpr c]
theorem aaj(n:Nat):R4 (.int (n:Nat)) (.int 1)=.ok (.int ((n &&& 1:Nat):Int),false):=rfl
theorem aai(n t:Nat):HJ (.int (n:Nat)) (.int (t:Nat))=.ok (.int ((n / 2 ^ t:Nat):Int),false):=by
 have e:((n:Int) / 2 ^ ((t:Int)).toNat)=((n / 2 ^ t:Nat):Int):=by rw[Int.toNat_natCast]; push_cast; rfl
 rw[<-e]
 unfold HJ lR
 exact if_pos (decide_eq_true (Int.natCast_nonneg t))
theorem aiS(n t:Nat):n.testBit t=decide ((n / 2 ^ t) &&& 1=1):=by
 rw[Nat.testBit_eq_decide_div_mod_eq,Nat.and_one_is_mod]
end BH
end
section
namespace K22
open PySem L2 BH
section
variable {m:Nat}{a b:Nat->Int × Int}{ys:List Nat}
theorem aiT(a b:Int × Int):eqT (fT a) (fT b)=decide (a=b):=by
 show((a.1 == b.1)&&((a.2 == b.2)&&true))=_
 rw[Bool.and_true,Bool.eq_iff_iff,Bool.and_eq_true,beq_iff_eq,beq_iff_eq,decide_eq_true_eq,Prod.ext_iff]
theorem aak(x y:Int × Int):iw (fT x) (fT y)=.ok (.bl (!decide (x=y)),false):=by
 unfold iw
 rw[if_pos ⟨by rw[Ja]; lia,by rw[Ja]; lia⟩,aiT]
theorem XM{M N:Nat}{x y:Int × Int}(hx:Fq M x)(hy:Fq N y):x=y↔x.1*y.2=y.1*x.2:=by
 obtain⟨x1,x2,x3,x4,x5⟩:=hx
 obtain⟨y1,y2,y3,y4,y5⟩:=hy
 exact⟨λq=>by rw[q],λq=>Vr x3 y3 x5 y5 (by unfold le2; lia) (by unfold le2; lia)⟩
variable {m:Nat}{a b:Nat->Int × Int}
noncomputable def lq(a b:Nat->Int × Int)(i j:Nat):Bool:=if a i=a j then if b i=b j then decide (i<j)else aR (b j) (b i)else aR (a j) (a i)
theorem Jy{i j:Nat}(hf:∀t,t<m->Fq 400 (a t)/\Fq 400 (b t))(hi:i<m)(hj:j<m):lq a b i j=true↔dY a b i j:=by
 have e1:=XM (hf i hi).1 (hf j hj).1
 have e2:=XM (hf i hi).2 (hf j hj).2
 unfold lq dY aR
 by_cases c1:a i=a j
 .have d1:=e1.mp c1
  rw[if_pos c1]
  by_cases c2:b i=b j
  .have d2:=e2.mp c2
   rw[if_pos c2,decide_eq_true_iff]
   lia
  .have d2:¬_:=λq=>c2 (e2.mpr q)
   rw[if_neg c2,decide_eq_true_iff]
   lia
 .have d1:¬_:=λq=>c1 (e1.mpr q)
  rw[if_neg c1,decide_eq_true_iff]
  lia
noncomputable def dG(m:Nat)(ys:List Nat)(k:Nat):List Nat:=(List.range m).filter λt=>!decide (t∈ys.take k)
theorem qj{t k:Nat}:t∈dG m ys k↔t<m/\t∉ys.take k:=by
 unfold dG
 simp
theorem XQ(ho:kY a b m ys){k:Nat}(hk:k<ys.length):ys[k]∈dG m ys k/\∀z∈dG m ys k,z≠ys[k]->dY a b ys[k] z:=by
 have nd:ys.Nodup:=ho.1.nodup_iff.mpr List.nodup_range
 have my:∀t,t∈ys↔t<m:=λt=>by rw[ho.1.mem_iff,List.mem_range]
 have pw:=List.pairwise_iff_getElem.mp ho.2
 refine⟨qj.mpr ⟨(my _).mp (List.getElem_mem hk),λq=>?_⟩,λz mz ne=>?_⟩
 .obtain⟨j,hj,e⟩:=List.mem_take_iff_getElem.mp q
  exact absurd e (List.pairwise_iff_getElem.mp nd j k (by lia) hk (by lia))
 .obtain⟨zm,zn⟩:=qj.mp mz
  obtain⟨j,hj,rfl⟩:=List.mem_iff_getElem.mp ((my z).mpr zm)
  refine pw k j hk hj ?_
  rcases Nat.lt_trichotomy k j with c|c|c
  .exact c
  .subst c; exact absurd rfl ne
  .exact absurd (List.mem_take_iff_getElem.mpr ⟨j,by lia,rfl⟩) zn
theorem aiU{k:Nat}(hk:k<ys.length):(dG m ys k).filter (λt=>!decide (t=ys[k]))=dG m ys (k+1):=by
 unfold dG
 rw[List.filter_filter]
 congr 1
 funext t
 rw[List.take_succ_eq_append_getElem hk,Bool.eq_iff_iff]
 have q:t∈ys.take k++[ys[k]]↔t∈ys.take k\/t=ys[k]:=by rw[List.mem_append,List.mem_singleton]
 rw[Bool.and_eq_true,Bool.not_eq_true',Bool.not_eq_true',Bool.not_eq_true',decide_eq_false_iff_not,decide_eq_false_iff_not,decide_eq_false_iff_not,q,not_or]
 exact⟨λh=>⟨h.2,h.1⟩,λh=>⟨h.2,h.1⟩⟩
theorem aiV(hf:∀t,t<m->Fq 400 (a t)/\Fq 400 (b t))(ho:kY a b m ys){k x:Nat}(hk:k<ys.length)(hx:x∈dG m ys k):(dG m ys k).foldl (λs t=>if lq a b t s=true then t else s) x=ys[k]:=by
 obtain⟨h1,h2⟩:=XQ ho hk
 have ym:=(qj.mp h1).1
 have no:∀{i j:Nat},i<m->j<m->¬dY a b i j->lq a b i j=false:=λhi hj n=>Bool.eq_false_iff.mpr λq=>n ((Jy hf hi hj).mp q)
 refine Bs (no ym ym (dY.irr _)) _ x (.inl h1) (λz mz ne=>?_) λne=>(Jy hf ym (qj.mp hx).1).mpr (h2 x hx ne)
 have zm:=(qj.mp mz).1
 exact⟨(Jy hf ym zm).mpr (h2 z mz ne),no zm ym (h2 z mz ne).ah7⟩
theorem aal(i j:Nat):iw (iT i) (iT j)=.ok (.bl (!decide (i=j)),false):=by
 refine Ca.trans ?_
 rw[show decide ((i:Int)=j)=decide (i=j)from decide_eq_decide.mpr (by lia)]
theorem aiW{i j:Nat}(hf:∀t,t<m->Fq 400 (a t)/\Fq 400 (b t))(hi:i<m)(hj:j<m):Xu [.lst (bN a b m),iT i,iT j]=.ok (.bl (lq a b i j),false):=by
 have e1:=vY (hf j hj).1 (hf i hi).1 (by lia)
 have e2:=vY (hf j hj).2 (hf i hi).2 (by lia)
 unfold lq
 by_cases c1:a i=a j
 .rw[if_pos c1]
  by_cases c2:b i=b j
  .rw[if_pos c2]
   walk_at "d"
   rw[show decide ((i:Int)<j)=decide (i<j)from decide_eq_decide.mpr (by lia)]; rfl
  .rw[if_neg c2]
   walk_at "d"
 .rw[if_neg c1]
  walk_at "d"
theorem XR(hf:∀t,t<m->Fq 400 (a t)/\Fq 400 (b t))(hm:m<=12){zs:List Nat}(hz:∀t∈zs,t<m):∃bb,Jv [.lst (bN a b m),.lst (zs.map iT)]=.ok (.bl bb,false)/\(bb=true↔dF a b m zs):=by
 suffices h:∃z,Jv [.lst (bN a b m),.lst (zs.map iT)]=.ok z/\∃bb:Bool,(bb=true↔dF a b m zs)/\z=(.bl bb,false) by
  obtain⟨_,e,bb,h,rfl⟩:=h
  exact⟨bb,e,h⟩
 walk_at "e"
 refine kj [2,3] (λ_:Unit=>[]) (λk _=>∀t∈zs.take k,∀o,o<m->o∉zs->aR (a t) (b o)=false) () (λ_ h=>by cases h) rfl (λk t v _ g i=>?_) (λv _ i=>?_)
 .have mt:=List.mem_of_getElem? g
  have ht:=hz t mt
  walk_at "p"
  refine jt [3] (λ_:Unit=>[]) (λj _=>∀o,o<j->o∉zs->aR (a t) (b o)=false) () (λ_ h=>by lia) rfl (λo v _ ho j=>?_) (λv _ j=>⟨(),λt' h=>?_,exV rfl⟩)
  .have e:=vY (hf t ht).1 (hf o ho).2 (by lia)
   have nx:(o∉zs->aR (a t) (b o)=false)->∀p,p<o+1->p∉zs->aR (a t) (b p)=false:=λh p hp n=>by
    by_cases q:p=o
    .subst q; exact h n
    .exact j p (by lia) n
   by_cases c:o∈zs
   .walk_at "p"
    exact⟨(),nx λh=>(h c).elim,exV rfl⟩
   .by_cases c2:aR (a t) (b o)=true
    .walk_at "p"
     exact⟨_,rfl,false,⟨λh=>(by cases h),λh=>(by rw[h t mt o ho c]at c2; cases c2)⟩,rfl⟩
    .have c2:=Bool.eq_false_iff.mpr c2
     walk_at "p"
     exact⟨(),nx λ_=>c2,exV rfl⟩
  .rw[List.take_add_one,g]at h
   rcases List.mem_append.mp h with h|h
   .exact i t' h
   .obtain rfl:t'=t:=by simpa using h
    exact j
 .rw[List.take_length]at i
  walk_at "p"
  exact⟨_,rfl,true,⟨λ_=>i,λ_=>rfl⟩,rfl⟩
theorem aiX(hf:∀t,t<m->Fq 400 (a t)/\Fq 400 (b t))(hm:m<=12)(ho:kY a b m ys){c:Nat}(hc:c<=m):∃bb,Xw [.lst (bN a b m),iT c]=.ok (qe bb (dg m (ys.take c)),bb)/\(bb=true↔dF a b m (ys.take c)):=by
 have ln:ys.length=m:=by rw[ho.1.length_eq,List.length_range]
 obtain⟨bb,e1,h1⟩:=XR hf hm (zs:=ys.take c) λt ht=>by simpa using ho.1.mem_iff.mp (List.mem_of_mem_take ht)
 refine⟨bb,?_,h1⟩
 have es:=W3 (c:=c) ho.1 hm
 have l0:dG m ys 0=List.range m:=List.filter_eq_self.mpr λt _=>by simp
 have ll:∀k,(dG m ys k).length<=12:=λk=>by have:=List.length_filter_le (λt=>!decide (t∈ys.take k)) (List.range m); rw[List.length_range]at this; exact Nat.le_trans this hm
 walk_at "d"
 rw[<-l0]
 refine Ig [4,5] (λk:Nat=>[(2,.sh (.lst ((dG m ys k).map iT))),(3,.ow ((ys.take k).map iT))]) (λk=>k<=c) (λk=>c-k) 0 (Nat.zero_le _) rfl (by show c-0<(c:Int).natAbs+1; lia) λv k hk=>?_
 have lk:(ys.take k).length=k:=by rw[List.length_take]; lia
 by_cases z:k<c
 .have hk':k<ys.length:=by lia
  obtain⟨y1,y2⟩:=XQ ho hk'
  have l1:0<(dG m ys k).length:=List.length_pos_of_mem y1
  have lx:=ll k
  have g0:aW (.lst ((dG m ys k).map iT)) (.int 0)=.ok (iT ((dG m ys k).getD 0 0),false):=lA (k:=0) 0 l1
  have m0:(dG m ys k).getD 0 0∈dG m ys k:=by rw[List.getD_eq_getElem?_getD,List.getElem?_eq_getElem l1]; exact List.getElem_mem _
  apply sH
  walk_at "p"
  refine kj [5] (λx:Nat=>[(4,.sh (iT x))]) (λj x=>x∈dG m ys k/\x=((dG m ys k).take j).foldl (λs t=>if lq a b t s=true then t else s) ((dG m ys k).getD 0 0)) _ ⟨m0,rfl⟩ rfl (λj t v x g i=>?_) (λv x i=>?_)
  .have mt:=List.mem_of_getElem? g
   have e:=aiW hf (qj.mp mt).1 (qj.mp i.1).1
   have st:((dG m ys k).take (j+1)).foldl (λs t=>if lq a b t s=true then t else s) ((dG m ys k).getD 0 0)=if lq a b t x=true then t else x:=by rw[List.take_add_one,g,i.2,List.foldl_append]; rfl
   by_cases q:lq a b t x=true
   .rw[if_pos q]at st
    walk_at "p"
    exact⟨t,⟨mt,st.symm⟩,exV rfl⟩
   .rw[if_neg q]at st
    have q:=Bool.eq_false_iff.mpr q
    walk_at "p"
    exact⟨x,⟨i.1,st.symm⟩,exV rfl⟩
  .obtain rfl:x=ys[k]:=by rw[i.2,List.take_length]; exact aiV hf ho hk' m0
   walk_at "p"
   refine⟨k+1,by lia,by lia,exV ?_⟩
   rw[<-aiU hk',List.take_succ_eq_append_getElem hk',List.map_append]
   rfl
 .obtain rfl:k=c:=by lia
  cases bb <;> apply sH <;> walk_at "p"
noncomputable def iY(m n:Nat):List Nat:=(List.range m).filter λt=>n.testBit t
theorem aiY{zs:List Nat}(hz:zs.Nodup)(hm:∀t∈zs,t<m):∃n,n<2 ^ m/\(iY m n).Perm zs:=by
 obtain⟨n,h1,h2⟩:=XJ (λt=>decide (t∈zs)) m
 refine⟨n,h1,(List.perm_ext_iff_of_nodup (List.Pairwise.filter _ List.nodup_range) hz).mpr λt=>?_⟩
 rw[List.mem_filter,List.mem_range]
 exact⟨λh=>by have:=h2 t h.1; rw[h.2]at this; exact of_decide_eq_true this.symm,λh=>⟨hm t h,(h2 t (hm t h)).trans (decide_eq_true h)⟩⟩
theorem dF.perm{zs us:List Nat}(p:zs.Perm us)(h:dF a b m us):dF a b m zs:=λt ht o ho no=>h t (p.mem_iff.mp ht) o ho λq=>no (p.mem_iff.mpr q)
theorem aiZ(hf:∀t,t<m->Fq 400 (a t)/\Fq 400 (b t))(hl:∀t,t<m->aR (b t) (a t)=false)(hm:m<=8)(ho:kY a b m ys){c:Nat}(hc:c<=m):∃bb,Jw [.lst (bN a b m),iT c]=.ok (.bl bb,false)/\(bb=true↔dF a b m (ys.take c)):=by
 suffices h:∃z,Jw [.lst (bN a b m),iT c]=.ok z/\∃bb:Bool,(bb=true↔dF a b m (ys.take c))/\z=(.bl bb,false) by
  obtain⟨_,e,bb,h,rfl⟩:=h
  exact⟨bb,e,h⟩
 have pw:2 ^ m<=256:=Nat.pow_le_pow_right (n:=2) (by lia) hm
 have es:R3 (.int 1) (.int (m:Nat))=.ok (.int ((2 ^ m:Nat):Int),false):=by
  refine(if_pos (show qL 1 (m:Int)=true by unfold qL; rw[Bool.and_eq_true,Bool.and_eq_true,decide_eq_true_iff,decide_eq_true_iff]; exact⟨⟨by lia,by lia⟩,rfl⟩)).trans ?_
  show Rs.ok (Tr.int (1*2 ^ (m:Int).toNat),false)=_
  rw[Int.toNat_natCast]
  push_cast
  rw[Int.one_mul]
 have sa:∀{n:Nat},(iY m n).length=c->dF a b m (iY m n)->dF a b m (ys.take c):=λ{n} h1 h2=>h1▸ah8 (λt ht=>⟨(hf t ht).1.2.2.1,(hf t ht).2.2.2.1,hl t ht⟩) ho (List.Pairwise.filter _ List.nodup_range) (λt ht=>List.mem_range.mp (List.mem_filter.mp ht).1) h2
 walk_at "e"
 refine jt [2,3] (λ_:Unit=>[]) (λk _=>∀n,n<k->(iY m n).length=c->¬dF a b m (iY m n)) () (λ_ h=>by lia) rfl (λn v _ hn i=>?_) (λv _ i=>?_)
 .obtain⟨bb,e,h⟩:=XR hf (by lia) (zs:=iY m n) λt ht=>List.mem_range.mp (List.mem_filter.mp ht).1
  have Jz:iY m n=(List.range m).filter λt=>decide (((n / 2 ^ t &&& 1:Nat):Int)=1):=by
   unfold iY
   congr 1
   funext t
   exact(aiS n t).trans (decide_eq_decide.mpr (by lia))
  have nx:((iY m n).length=c->¬dF a b m (iY m n))->∀k,k<n+1->(iY m k).length=c->¬dF a b m (iY m k):=λq k hk=>by
   by_cases z:k=n
   .subst z; exact q
   .exact i k (by lia)
  rw[Jz]at e
  by_cases z:(iY m n).length=c
  .have z':=z
   rw[Jz]at z'
   cases bb
   .walk_at "p"
    exact⟨(),nx λ_ q=>(by cases h.mpr q),exV rfl⟩
   .walk_at "p"
    exact⟨_,rfl,true,⟨λ_=>sa z (h.mp rfl),λ_=>rfl⟩,rfl⟩
  .have z':=z
   rw[Jz]at z'
   walk_at "p"
   exact⟨(),nx λq=>(z q).elim,exV rfl⟩
 .walk_at "p"
  refine⟨_,rfl,false,⟨λh=>(by cases h),λh=>?_⟩,rfl⟩
  obtain⟨n,h1,h2⟩:=aiY (zs:=ys.take c) (m:=m) (List.Nodup.sublist (List.take_sublist c ys) (ho.1.nodup_iff.mpr List.nodup_range)) λt ht=>by simpa using ho.1.mem_iff.mp (List.mem_of_mem_take ht)
  exact(i n h1 (by rw[h2.length_eq,List.length_take,ho.1.length_eq,List.length_range]; lia) (dF.perm h2 h)).elim
end
theorem noB{zs:List Nat}:jh id (.bl true) (.lst (zs.map λ_=>.bl false))=.ok (.bl false,false):=by
 have q:deps (zs.map λ_=>Tr.bl false)<=0/\jG (.bl true) (zs.map λ_=>Tr.bl false)=false:=by
  induction zs with
  |nil=>exact⟨by rw[List.map_nil,Aw]; lia,rfl⟩
  |cons x xs ih=>exact⟨by rw[List.map_cons,sS]; have:dep (.bl false)=0:=rfl; lia,by rw[List.map_cons]; exact ih.2⟩
 refine(if_pos ⟨by lia,by show 0<=40; lia⟩).trans ?_
 rw[q.2]
 rfl
theorem ai0(ns:List Int):tu [.lst (ns.map .int)]=.ok (.bl true,false):=by
 obtain⟨m,rows,hB,hD,h8,_,e1⟩:=aiI ns 0 (L:=4) (M:=8) (by lia) (by lia)
 obtain⟨ds,as,hL,e2⟩:=aiK ns 5 hB
 obtain⟨x7,c7,_⟩:=cell_eq ns 7
 obtain⟨r,q1,o1,oS⟩:=aiN x7 hB.1 hB.2.1
 obtain⟨b1,b2,b3,b4,b5⟩:=id hB
 have e3:=aiR hB hL o1
 have hf:∀t,t<m->Fq 400 (loV r rows ds as t)/\Fq 400 (hiV r rows ds as t):=λt ht=>⟨(Wt hB o1 ht).2,(Wu hB hL o1 ht).2⟩
 have hl:∀t,t<m->aR (hiV r rows ds as t) (loV r rows ds as t)=false:=λt ht=>by
  obtain⟨b1,b2⟩:=ahK hB hL o1 ht
  exact kZ (hf t ht).2.2.2.1 (Wv.fq (Bl hB ht) (by rw[jP]; exact hB.2.1) (by rw[jP]; exact o1) (ahJ (r:=r) hB o1 ht).2).2.2.1 (hf t ht).1.2.2.1 (kO.mpr b2) (kO.mpr b1)
 have dB:=agY rows
 have dL:dep (dN ds as)<=30:=by
  have:=Jk as
  have:=Bh ds
  show max (deps (ds.map iT)+1) (max (deps (as.map pT)+1) 0)+1<=30
  lia
 have dP:dep (.lst [aU rows,dN ds as])<=40:=by rw[Av,sS,sS,Aw]; lia
 have l0:=(hB.row b1).2.1
 have el:d8 (aJ (rows.getD 0 []))=.ok (.int m,false):=by rw[jU,l0]
 have ea:nu (.int (m:Nat)) (.int 1)=.ok (.int ((m+1:Nat):Int),false):=rfl
 have ec:=aiM (rows:=rows) (by lia)
 have k0:aW (dN ds as) (.int 0)=.ok (.lst (ds.map iT),false):=rfl
 have k1:aW (dN ds as) (.int 1)=.ok (.lst (as.map pT),false):=rfl
 walk_at "d"
 refine p8 [6,7,8] (λ_=>[]) rfl (λc v hc=>?_) (λv=>?_)
 .obtain⟨ys,bb,ho,f1,h1⟩:=ah6 hB hD hL o1 oS (show c<=m by lia)
  obtain⟨b2,f2,h2⟩:=aiX hf b4 ho (show c<=m by lia)
  obtain⟨b3,f3,h3⟩:=aiZ hf hl h8 ho (show c<=m by lia)
  obtain rfl:b2=bb:=Bool.eq_iff_iff.mpr (h2.trans h1.symm)
  obtain rfl:b3=b2:=Bool.eq_iff_iff.mpr (h3.trans h2.symm)
  have lz:(dg m (ys.take c)).length<=12:=Nat.le_trans (List.length_filter_le ..) (by rw[List.length_range]; exact b4)
  have gP:iw (.lst [aU rows,.tup [.lst (ds.map iT),.lst (as.map pT)]]) (.lst [aU rows,dN ds as])=.ok (.bl false,false):=Ax dP
  have f1:Ji [aU rows,aY r,iT c,.tup [.lst (ds.map iT),.lst (as.map pT)]]=_:=f1
  have gB:=Ax (T:=.bl b3) (show dep _<=40 from Nat.zero_le _)
  cases b3
  .have gN:=Ax (T:=.non) (show dep _<=40 from Nat.zero_le _)
   rw[show qe false (dg m (ys.take c))=.non from rfl]at f1 f2
   walk_at "p"
   exact gB
   walk_at "r"
  .have gZ:=Ax (T:=.lst ((dg m (ys.take c)).map iT)) (by rw[Av,Bh]; lia)
   rw[show qe true (dg m (ys.take c))=.lst ((dg m (ys.take c)).map iT)from rfl]at f1 f2
   walk_at "p"
   exact gB
   walk_at "r"
   exact noB
   walk_at "r"
 .walk_at "p"
end K22
end
section
namespace L2
open PySem PySem.Spec PyProof.Rows PySem.W
noncomputable def XS:List Ty:=[.int,.bool,.str,.tuple,.list]
noncomputable def X3(K:Frag)(cs:List Str)(p:Str->Addr->Bool):Bool:=cs.all λc=>match nsIn K mainGlobals c with
 |some (some (.ref C))=>p c C
 |_=>true
theorem ai1{K:Frag}{cs:List Str}{p:Str->Addr->Bool}(h:X3 K cs p=true){c:Str}(m:c∈cs){C:Addr}(n:nsIn K mainGlobals c=some (some (.ref C))):p c C=true:=by
 have:=List.all_eq_true.mp h c m
 rw[n]at this
 exact this
noncomputable def JB(K:Frag)(C:Addr):Bool:=findIn K (.ref C) "__getattribute__" == some (some (.builtin "BaseException.__getattribute__"))&&findIn K (.ref C) "__getattr__" == some none&&findIn K (.ref C) "__class__" == some (some (.builtin "object.__class__"))&&mroIn K C (.type "object") == some true&&mroIn K C (.type "BaseException") == some true&&(clsIn K C).isSome
theorem ai2{K:Frag}{C:Addr}(h:JB K C=true):nq K C:=by
 unfold JB at h
 simp only[Bool.and_eq_true]at h
 obtain⟨⟨⟨⟨⟨h1,h2⟩,h3⟩,h4⟩,h5⟩,h6⟩:=h
 exact⟨beq_iff_eq.mp h1,beq_iff_eq.mp h2,beq_iff_eq.mp h3,beq_iff_eq.mp h4,beq_iff_eq.mp h5,h6⟩
theorem lK.of{K:Frag}(h:(X3 K Dp λ_ C=>JB K C&&XS.all λy=>kitOne K (.ref C) (.type y.name) == some false)=true):lK K:=λc m C n=>by
 obtain⟨x1,x2⟩:=an.mp (ai1 h m n)
 exact⟨λa=>acS (ai2 x1),λy=>beq_iff_eq.mp (List.all_eq_true.mp x2 y (by cases y <;> simp[XS]))⟩
theorem ai3{P:Program}{w:World}{K:PySem.W.Frag}{mg mb:Str->Option Value}{CX:gU}{k:Nat}{fa a:Addr}{x:Str}{sp:Sp}{s₁ : Shared}{vs:List Value}{ns:List Int}
  (KX:K.In s₁.heap) (hns:s₁.heap.Ns mainGlobals mg) (hb:s₁.heap.Ns builtinsNs mb) (hbb:∀x:Str,x ≠ "__name__" -> mb x=bootBuiltins x) (hlim:s₁.heap.NoLimit) (hg:s₁.gens = #[])
  (ha:s₁.heap.get? a=some {cls:=.type "list",data:=.seq vs.toArray }) (hi:IntsAre vs ns) (hl:ns.length<=sizeLine) (hr:dU k callerA)
  (hT:∀x∈eX,∀c b,tabIn K x=some (c,b)->CodeHd s₁.heap c b/\s₁.heap.get? b=some (tabObj #[])) (ql:noTabs K=true) (hB:lZ mg s₁.heap)
  (F:∀base:Heap,K.In base->base.Ns mainGlobals mg->(∀x∈eX,∀c b,tabIn K x=some (c,b)->CodeHd base c b)->lZ mg base->∃fd:FuncData,(∀(s:Shared) (u:Value),K.In s.heap->BindsTo s fd ⟨[u],[]⟩ [(x,u)])/\iI P w K mg base CX k fa fd [x] sp)
  (hsp:∀H:Hp,bJ (aA K) H->iu K H a (ns.map V.int)->sp [.ref a] H (λv _=>v=.bl true) λ_ _ _=>False)
  (JC:∀H e s',CX [] H s₁ (λ_ _ _=>False) e s'->False) :
  codeAny (model P w) callerA (.call (.ref fa) ⟨[.ref a],[]⟩) (λr s'=>r=.ok (.ret (.bool true))/\OldK s₁.heap s'.heap/\s'.os=s₁.os/\AllBare s'.gens) s₁ := by
 have rv:=Di hi
 have lenV:=hi.length
 -- from an abstract heap in which nothing but the script may be tracked
 have hT':∀b,Tb (aA K) b->∃c,CodeHd s₁.heap c b/\s₁.heap.get? b=some (tabObj #[]):=λb ⟨x,hx,c,e⟩=>⟨c,hT x hx c b (PB e)⟩
 have core:∀H:Hp,(∀b,H b=none\/(∃o xs,H b=some (.cH o (.lst xs)))\/(H b=some (.cj #[])/\Tb (aA K) b))->bJ (aA K) H->iu K H a (ns.map V.int)->cA P w H s₁.heap->(∀b,H b≠none->b=a\/Tb (aA K) b)->(H a≠none->K.lookup a=none) ->
   codeAny (model P w) callerA (.call (.ref fa) ⟨[.ref a],[]⟩) (λr s'=>r=.ok (.ret (.bool true))/\OldK s₁.heap s'.heap/\s'.os=s₁.os/\AllBare s'.gens) s₁ := by
  intro H hO hTb hS hok hA hK
  have BK:∀{b:Addr} {o:Obj},s₁.heap.get? b=some o->H b=none->(lB s₁.heap H).get? b=some o:=λe n=>aao e n
  have tZ:∀{b:Addr} {o:Obj} {es:Array DictEntry} {ep:Nat},s₁.heap.get? b=some o->o.data=.dict es ep->H b=none:=λ{b o es ep} e d=>by
   cases q:H b with
   |none=>rfl
   |some u =>
    rcases hA b (by rw[q]; simp)with e'|e'
    .subst e'
     rw[ha]at e; cases e
     have d':Data.seq vs.toArray _=Data.dict es ep:=d
     cases d'
    .obtain⟨c,_,z⟩:=hT' b e'
     rw[z]at e; cases e
     cases d
  have BL:∀{b:Addr} {m:Str->Option Value},s₁.heap.Ns b m->(lB s₁.heap H).Ns b m:=λ{b m} ⟨o,es,ep,e,d,r⟩=>⟨o,es,ep,BK e (tZ e d),d,r⟩
  have X4:K.In (lB s₁.heap H):=λb o e=>BK (KX b o e) (by
   cases q:H b with
   |none=>rfl
   |some u =>
    rcases hA b (by rw[q]; simp)with e'|e'
    .subst e'
     rw[hK (by rw[q]; simp)]at e; cases e
    .obtain⟨c,_,z⟩:=hT' b e'
     have z2:=KX b o e
     rw[z]at z2
     cases z2
     have h2:=List.all_eq_true.mp ql (b,_) (mem_of_lookupK e)
     exact absurd (show false=true from h2) Bool.false_ne_true)
  have hM:Mod K mg (lB s₁.heap H):=⟨X4,BL hns,⟨mb,BL hb,hbb⟩,let⟨mc,h1,h2⟩:=hlim; ⟨mc,BL h1,h2⟩⟩
  have e0:wV P w K mg (lB s₁.heap H) callerA [] s₁ H:=⟨rfl,hM,λb o e=>aap e,Nat.le_of_eq (aan _ _),trivial,λb hb=>absurd (show b∈([]:List Addr)from hb) (by simp),hok,.of_eq hg⟩
  have free:∀{b:Addr} {o:Obj},s₁.heap.get? b=some o->o.cls ≠ .none->(∀its n,o.data ≠ .seq its n)->H b=none:=λ{b o} e n1 n2=>by
   cases q:H b with
   |none=>rfl
   |some u =>
    rcases hA b (by rw[q]; simp)with e'|e'
    .subst e'
     rw[ha]at e; cases e
     exact(n2 _ _ rfl).elim
    .obtain⟨c,_,z⟩:=hT' b e'
     rw[z]at e; cases e
     exact(n1 rfl).elim
  obtain⟨fd,hbind,F1⟩:=F _ X4 (BL hns) (λx hx c b e=>by
   obtain⟨o,vs',file,tf,flags,tg,inF,text,tt,e1,r1,r2,r3⟩:=(hT x hx c b e).1
   exact⟨o,vs',file,tf,flags,tg,inF,text,tt,BK e1 (free e1 (by rw[r1]; intro z; cases z) (λ_ _ z=>by rw[r2]at z; cases z)),r1,r2,r3⟩) (by
   obtain⟨bm,ob,b1,b2,b3,b4,b5,b6,b7⟩:=hB
   exact⟨bm,ob,b1,b2,b3,BK b4 (free b4 (by rw[b5]; intro z; cases z) (λ_ _ z=>by rw[b7]at z; cases z)),b5,b6,b7⟩)
  refine codeAny_mono (F1.run callerA [] s₁ H ⟨[.ref a],[]⟩ [.ref a] [.ref a] _ _ hr e0 (hbind s₁ (.ref a) KX) (.cons rfl .nil) (hsp H hTb hS)) λr s' h=>?_
  cases r with
  |error e=>exact(JC H e s' h).elim
  |ok fl =>
   cases fl with
   |next=>exact False.elim h
   |brk=>exact False.elim h
   |cont=>exact False.elim h
   |ret u =>
    obtain⟨v,H',os,bare,un,hok',r',q⟩:=h
    have q':v=.bl true:=q
    subst q'
    obtain rfl:u=Value.bool true:=r'
    refine⟨rfl,⟨λb o e=>?_,λb o e=>un.there b o e (by simp)⟩,os,bare⟩
    cases q:H b with
    |none=>exact .inl (un.keep b o e q (by intro z; exact absurd (show b∈([]:List Addr)from z) (by simp)) (by simp))
    |some u =>
     rcases hO b with z|⟨ob,xs,z⟩|⟨z,zt⟩
     .rw[q]at z; cases z
     .have z2:=un.jx b ob _ z
      obtain⟨e1,_⟩:=hok b _ z
      obtain⟨e2,_⟩:=hok' b _ z2
      rw[e]at e1; cases e1
      exact .inl e2
     .obtain⟨more,z2⟩:=un.jz b _ z
      have e1:s₁.heap.get? b=some (tabObj #[]):=hok b _ z
      have e2:s'.heap.get? b=some (tabObj (#[]++more)):=hok' b _ z2
      rw[e]at e1; cases e1
      obtain⟨c,hc,_⟩:=hT' b zt
      exact .inr (.inl ⟨(hc.tab e).isCodeTable,rfl,#[],more,rfl,e2⟩)
 classical
 have X5:∀H:Hp,(∀b,Tb (aA K) b->H b=some (.cj #[]))->bJ (aA K) H:=λH h x hx c b e=>⟨#[],h b ⟨x,hx,c,e⟩,trivial,λpos v z=>by cases z⟩
 have X6:¬Tb (aA K) a:=λz=>by
  obtain⟨c,_,e⟩:=hT' a z
  rw[ha]at e
  cases e
 cases hk:K.lookup a with
 |some o =>
  have e:=KX a o hk
  rw[ha]at e
  cases e
  refine core (λb=>if Tb (aA K) b then some (.cj #[])else none) (λb=>?_) (X5 _ λb z=>if_pos z) (.inr ⟨vs.toArray,_,hk,by rw[List.size_toArray,lenV]; exact hl,by simpa using rv⟩) (λb u z=>?_) (λb z=>?_) λz=>?_
  .by_cases q:Tb (aA K) b
   .exact .inr (.inr ⟨if_pos q,q⟩)
   .exact .inl (if_neg q)
  .by_cases q:Tb (aA K) b
   .have z':=(if_pos q).symm.trans z
    cases z'
    obtain⟨c,_,e⟩:=hT' b q
    exact e
   .have z':=(if_neg q).symm.trans z
    cases z'
  .by_cases q:Tb (aA K) b
   .exact .inr q
   .exact absurd (if_neg q) z
  .exact absurd (if_neg X6) z
 |none =>
  refine core (λb=>if b=a then some (.cH {cls:=.type "list",data:=.seq vs.toArray } (.lst (ns.map V.int)))else if Tb (aA K) b then some (.cj #[])else none) (λb=>?_) (X5 _ λb z=>by
   have nb:¬b=a:=λq=>X6 (by rw[<-q]; exact z)
   exact(if_neg nb).trans (if_pos z)) (.inl (.inr ⟨{cls:=.type "list",data:=.seq vs.toArray },if_pos rfl⟩)) (λb u z=>?_) (λb z=>?_) λ_=>hk
  .by_cases hb:b=a
   .exact .inr (.inl ⟨_,_,if_pos hb⟩)
   .by_cases q:Tb (aA K) b
    .exact .inr (.inr ⟨(if_neg hb).trans (if_pos q),q⟩)
    .exact .inl ((if_neg hb).trans (if_neg q))
  .by_cases hb:b=a
   .have z':=(if_pos hb).symm.trans z
    cases z'
    subst hb
    exact⟨ha,by rw[List.length_map]; exact hl,vs,_,rv,ha⟩
   .have z':=(if_neg hb).symm.trans z
    by_cases q:Tb (aA K) b
    .have z':=(if_pos q).symm.trans z'
     cases z'
     obtain⟨c,_,e⟩:=hT' b q
     exact e
    .have z':=(if_neg q).symm.trans z'
     cases z'
  .by_cases hb:b=a
   .exact .inl hb
   .by_cases q:Tb (aA K) b
    .exact .inr q
    .exact absurd ((if_neg hb).trans (if_neg q)) z
theorem ai4{l:PySem.W.OpenLaw}{n k:Nat}{q:Program}{loose:List Str}{XP:(Str->Option Value)->Heap->Prop}{YP:World->Heap->Prop}{d:DefRec}{K:Params->PySem.W.Frag}{CX:World->gU}{sp:World->Sp}{x:Str}
  (hn:l.most=some n) (hn2:n<=sizeLine) (hdf:d.params.defaults=[]) (hr:dU k callerA)
  (vZ:∀x∈eX,((recsOf q).find? (λe=>e.name == x)).isSome=true\/∀w:World,nsIn (K w.params) mainGlobals x=some none) (ql:∀w:World,noTabs (K w.params)=true)
  (hY:∀(w:World) (h:Heap),YP w h->(K w.params).In h)
  (F:∀(w:World) (mg:Str->Option Value) (fa:Addr) (h:Heap),(K w.params).In h->h.Ns mainGlobals mg->mg d.name=some (.ref fa) ->
   ∀base:Heap,(K w.params).In base->base.Ns mainGlobals mg->(∀x∈eX,∀c b,tabIn (K w.params) x=some (c,b)->CodeHd base c b)->lZ mg base->∃fd:FuncData,(∀(s:Shared) (u:Value),(K w.params).In s.heap->BindsTo s fd ⟨[u],[]⟩ [(x,u)])/\iI l.prog w (K w.params) mg base (CX w) k fa fd [x] (sp w))
  (hsp:∀(w:World) (H:Hp) (a:Addr) (ns:List Int),ns.length<=n->bJ (aA (K w.params)) H->iu (K w.params) H a (ns.map V.int)->sp w [.ref a] H (λv _=>v=.bl true) λ_ _ _=>False)
  (JC:∀(w:World) (H:Hp) (s:Shared) (e:Value) (s':Shared),CX w [] H s (λ_ _ _=>False) e s'->False) :
  PySem.W.WalkO q loose XP YP l.row.toRowW d [] (λf vs=>PySem.call f vs):=by
 refine Nk.acz hn hdf λw s₀ s₁ mg mb fa o pm cd doc a vs ns G Y ho hd hcd hmg hobj hints hlen hg=>?_
 have KX:=hY w _ Y
 have hT:∀x∈eX,∀c b,tabIn (K w.params) x=some (c,b)->CodeHd s₁.heap c b/\s₁.heap.get? b=some (tabObj #[]):=λx hx c b e=>by
  rcases vZ x hx with z|z
  .obtain⟨d,z⟩:=Option.isSome_iff_exists.mp z
   exact tab_of G.T KX z e
  .rw[aea (z w)]at e; cases e
 have hB:lZ mg s₁.heap:=by
  obtain⟨bm,ob,b1,b2,b3,b4,b5,b6⟩:=G.T.bmain
  refine⟨bm,ob,b1,b2,λz=>?_,b3,b4,b5,b6⟩
  obtain⟨o,es,ep,e,hd,_⟩:=G.T.g
  rw[z,e]at b3; cases b3
  rw[hd]at b6; cases b6
 exact ai3 KX G.T.g G.T.b G.T.builtins G.T.nolimit hg hobj hints (Nat.le_trans hlen hn2) hr hT (ql w) hB (F w mg fa _ KX G.T.g hmg) (λH hO hS=>hsp w H a ns hlen hO hS) λH e s'=>JC w H s₁ e s'
end L2
end
section
namespace K22
open PySem L2 BH PySem.W
section
variable {K:Frag}{mg:Str->Option Value}{h:Heap}
theorem ai5{x:Str}{st:Stmt}(X:K.In h)(G:h.Ns mainGlobals mg){f:Addr}{od an:Option Addr}{sl:Array (Option Value)}{oc kV dc pm cd ct:Value}
  (a:nsIn K mainGlobals x=some (some (.ref f))) (l:K.lookup f=some ⟨oc,od,.func (fnOf x x (jE st) (gY st) (bV st) .none kV dc pm an cd ct),sl⟩) (c:codeIn K cd x=true) (k:keepIn K (.ref f)=true):At K mg x st :=
 ⟨f,_,Nm (st:=st) l c k,mg_of X G a⟩
theorem X7{x:Str}{st:Stmt}(X:K.In h)(G:h.Ns mainGlobals mg){f c:Addr}{od an:Option Addr}{sl:Array (Option Value)}{oc kV dc pm ct:Value}
  (a:nsIn K mainGlobals x=some (some (.ref f))) (l:K.lookup f=some ⟨oc,od,.func (fnOf x x (jE st) (gY st) (bV st) .none kV dc pm an (.ref c) ct),sl⟩) (cc:codeIn K (.ref c) x=true) (k:keepIn K (.ref f)=true):qT K mg x st c :=
 ⟨f,_,Nm (st:=st) l cc k,mg_of X G a,rfl⟩
theorem X8{x:Str}{i:Int}{tk:Tok}(X:K.In h)(G:h.Ns mainGlobals mg)(a:nsIn K mainGlobals x=some (some (.int i tk))):Gk K mg x (.int i) (.int i):=⟨.int i tk,mg_of X G a,by first|exact rfl|exact⟨_,rfl⟩,λ_=>.int i⟩
theorem v5{H:Hp}{a:Addr}{od:Option Addr}{its:Array Value}{n:Nat}{sl:Array (Option Value)}{xs:List V}{vs:List Value}{ts:List Tr}(l:K.lookup a=some ⟨.type "tuple",od,.seq its n,sl⟩) (e:its.toList=vs) (hl:vs.length<=1000) (r:Vals xs vs) (rr:au (aA K) H xs ts):Rep (aA K) H (.ref a) (.tup ts):=by
 refine .tup (xs:=xs) (.inr ⟨_,its,n,ac5 l rfl,rfl,rfl,?_,by rw[e]; exact r⟩) rr
 rw[<-Array.length_toList,e]
 exact Nat.le_of_lt (Dj hl)
theorem ai6(X:K.In h)(G:h.Ns mainGlobals mg){a r1 r2 r3:Addr}{od o1 o2 o3:Option Addr}{its i1 i2 i3:Array Value}{n n1 n2 n3:Nat}{sl NK sl2 Dw:Array (Option Value)}{t1 t2 t3:Tok}
  (m:nsIn K mainGlobals "BARE_RULES" = some (some (.ref a))) (l:K.lookup a=some ⟨.type "tuple",od,.seq its n,sl⟩) (e:its.toList=[.ref r1,.ref r2,.ref r3])
  (l1:K.lookup r1=some ⟨.type "tuple",o1,.seq i1 n1,NK⟩) (e1:i1.toList=[.str "least" t1]) (l2:K.lookup r2=some ⟨.type "tuple",o2,.seq i2 n2,sl2⟩) (e2:i2.toList=[.str "greatest" t2]) (l3:K.lookup r3=some ⟨.type "tuple",o3,.seq i3 n3,Dw⟩) (e3:i3.toList=[.str "product" t3]):Gk K mg "BARE_RULES" (.ref a) (.tup [(.tup [(.str "least")]),(.tup [(.str "greatest")]),(.tup [(.str "product")])]):=by
 refine⟨_,mg_of X G m,rfl,λH=>v5 (xs:=[.ref r1,.ref r2,.ref r3]) l e (Nat.le_of_ble_eq_true rfl) (.cons rfl (.cons rfl (.cons rfl .nil))) ?_⟩
 exact .cons (v5 (xs:=[.str "least"]) l1 e1 (Nat.le_of_ble_eq_true rfl) (.cons ⟨_,rfl⟩ .nil) (.cons (.str _) .nil)) (.cons (v5 (xs:=[.str "greatest"]) l2 e2 (Nat.le_of_ble_eq_true rfl) (.cons ⟨_,rfl⟩ .nil) (.cons (.str _) .nil)) (.cons (v5 (xs:=[.str "product"]) l3 e3 (Nat.le_of_ble_eq_true rfl) (.cons ⟨_,rfl⟩ .nil) (.cons (.str _) .nil)) .nil))
theorem ai7(X:K.In h)(G:h.Ns mainGlobals mg){x:Str}{a:Addr}{od:Option Addr}{its:Array Value}{n:Nat}{sl:Array (Option Value)}{i j:Int}{t1 t2:Tok}
  (m:nsIn K mainGlobals x=some (some (.ref a))) (l:K.lookup a=some ⟨.type "tuple",od,.seq its n,sl⟩) (e:its.toList=[.int i t1,.int j t2]):Gk K mg x (.ref a) (.tup [.int i,.int j]) :=
 ⟨_,mg_of X G m,rfl,λH=>v5 (xs:=[.int i,.int j]) l e (Nat.le_of_ble_eq_true rfl) (.cons ⟨_,rfl⟩ (.cons ⟨_,rfl⟩ .nil)) (.cons (.int _) (.cons (.int _) .nil))⟩
noncomputable def BP(K:Frag)(n:Nat)(F:FP):Sp:=λvs H Q E=>∃G ts,vs.length=n/\au (aA K) G vs ts/\Same G H/\bJ (aA K) H/\(∀b,Tb (aA K) b->G b=none)/\∃p,F ts=.ok p/\∀v G' H',VN (aA K) H G' H' v p.1 p.2->Q v H'
theorem ai8{K:Frag}{cl:Str->Addr}{n:Nat}{F:FP}(vs:List V)(H:Hp)(Q:VK)(E:XK)(h:BP K n F vs H Q E):pG K cl n F vs H Q E:=by
 obtain⟨G,ts,h1,h2,h3,h4,h5,p,h6,h7⟩:=h
 refine⟨G,ts,h1,h2,h3,h4,h5,?_⟩
 rw[h6]
 exact λv G' H' _=>h7 v G' H'
theorem ai9{K:Frag}{H:Hp}(t:bJ (aA K) H)(h:iu K H a xs):∃G,Same G H/\(∀b,Tb (aA K) b->G b=none)/\aH (aA K) G a xs:=by
 rcases h with h|h
 .refine⟨λb=>if b=a then H b else none,λb o q=>?_,λb z=>?_,.inl ?_⟩
  .dsimp only at q
   split at q
   .exact q
   .cases q
  .dsimp only
   split
   .rename_i e
    subst e
    obtain⟨ps,y⟩:=t.cj z
    rcases h with h|⟨o,h⟩ <;> (rw[y]at h; cases h)
   .rfl
  .have e:(if a=a then H a else none)=H a:=if_pos rfl
   unfold Rd at h ⊢
   dsimp only
   rw[e]
   exact h
 .exact⟨λ_=>none,λ_ _ z=>(by cases z),λ_ _=>rfl,iu.toN (.inr h)⟩
end
section
variable {P:Program}{w:World}{K:Frag}{mg:Str->Option Value}{base:Heap}
theorem aja(M:∀x∈(["abs", "all", "bool", "enumerate", "int", "isinstance", "len", "list", "range", "sorted", "tuple", "zip"]:List Str),mg x=none) (O:∀x∈(["NoBottom", "NoBook", "NoRule", "NoCount", "NoLooks"]:List Str),∃k,PyProof.Rows.OwnCls x k yM "ValueError.__new__" mg base) (XT:lK K) (ajb:At K mg "is_whole" (top 8)) (ajc:At K mg "common_divisor" (top 9)) (ajd:At K mg "fraction_of" (top 10)) (aje:At K mg "frac_sum" (top 11)) (ajf:At K mg "frac_times" (top 12)) (ajg:At K mg "frac_below" (top 13)) (ajh:At K mg "is_fraction" (top 14)) (aji:At K mg "common_bottom" (top 15)) (ajj:At K mg "tops_on_one_bottom" (top 16)) {ou ajk:Addr} (ajl:qT K mg "falling_places" (top 17) ou) (ajm:uH K mg base "falling_places" ou ajk) (ajn:At K mg "is_worth" (top 21)) (ajo:At K mg "are_worths" (top 22)) (ajp:At K mg "is_book" (top 23)) (ajq:At K mg "is_place" (top 24)) (ajr:At K mg "is_count" (top 25)) (ajs:At K mg "are_rising" (top 26)) (ajt:At K mg "need_book" (top 27)) (aju:At K mg "read_orders" (top 28)) (ajv:At K mg "are_weights" (top 31)) (ajw:At K mg "is_rule" (top 32)) (ajx:At K mg "shares_worth" (top 33)) (ajy:At K mg "product_worth" (top 34)) (ajz:At K mg "place_of" (top 35)) (ajA:At K mg "worth_by" (top 36)) (ajB:At K mg "need_book_and_rule" (top 37)) (ajC:At K mg "whole_form" (top 38)) (ajD:At K mg "need_count" (top 40)) (ajE:At K mg "need_book_rule_and_count" (top 41)) (ajF:At K mg "worths_of" (top 42)) (ajG:At K mg "are_depths" (top 45)) (ajH:At K mg "is_ask" (top 46)) (ajI:At K mg "are_asked" (top 47)) (ajJ:At K mg "need_looks" (top 48)) (ajK:At K mg "seen_by" (top 49)) (ajL:At K mg "last_worths" (top 50)) (ajM:At K mg "bounds_by" (top 51)) (ajN:At K mg "bounds_of" (top 52)) (ajO:At K mg "weakest_and_rival" (top 53)) (ajP:At K mg "are_sure" (top 54)) {Bg ajQ:Addr} (ajR:qT K mg "order_of_bounds" (top 55) Bg) (ajS:uH K mg base "order_of_bounds" Bg ajQ) (ajT:At K mg "sure_by" (top 56)) (ajU:At K mg "sure_in" (top 57)) (ajV:At K mg "sure_few" (top 58)) (ajW:At K mg "_law_cell" (top 60)) (ajX:At K mg "_law_frac" (top 61)) (ajY:At K mg "_law_add" (top 62)) (ajZ:At K mg "_law_mul" (top 63)) (aj0:At K mg "_law_below" (top 64)) (aj1:At K mg "_law_book" (top 65)) (aj2:At K mg "_law_rule" (top 66)) (aj3:At K mg "_law_worth" (top 67)) (aj4:At K mg "_law_order" (top 68)) (aj5:At K mg "_law_looks" (top 69)) (aj6:At K mg "_law_seen" (top 70)) (aj7:At K mg "_law_bounds" (top 71)) (aj8:At K mg "_law_are_sure" (top 72)) (aj9:At K mg "_law_ahead" (top 73)) (akb:At K mg "_law_sure" (top 74)) (akc:At K mg "_law_copied" (top 75)) (akd:At K mg "_law_some_sure" (top 76)) (ake:At K mg "law" (top 77)) {akf:V} (akg:Gk K mg "MOST_LISTS" akf (.int 4)) {akh:V} (aki:Gk K mg "MOST_THINGS" akh (.int 12)) {akj:V} (akk:Gk K mg "BARE_RULES" akj (.tup [(.tup [(.str "least")]),(.tup [(.str "greatest")]),(.tup [(.str "product")])])) {akl:V} (akm:Gk K mg "NOTHING" akl (.tup [(.int 0),(.int 1)])):jX P w K mg base 10 "law" ["_law_script"] (BP K 1 tu):=by
 have kn:=Kn.mk' (P:=P) (w:=w) M O XT
 have h:∀y∈[Ey.gk "MOST_LISTS" (.int 4),Ey.gk "MOST_THINGS" (.int 12),Ey.gk "BARE_RULES" (.tup [(.tup [(.str "least")]),(.tup [(.str "greatest")]),(.tup [(.str "product")])]),Ey.gk "NOTHING" (.tup [(.int 0),(.int 1)])],Ey.nF ⟨P,w,K,mg,base,clz mg⟩ y:=List.forall_mem_cons.mpr ⟨⟨_,akg⟩,List.forall_mem_cons.mpr ⟨⟨_,aki⟩,List.forall_mem_cons.mpr ⟨⟨_,akk⟩,List.forall_mem_cons.mpr ⟨⟨_,akm⟩,λ_ z=>nomatch z⟩⟩⟩⟩
 have h:=aO S7 kn h ajb
 have h:=aO Sw kn h ajc
 have h:=aO Sy kn h ajd
 have h:=aO SN kn h aje
 have h:=aO SX kn h ajf
 have h:=aO S5 kn h ajg
 have h:=aO S9 kn h ajh
 have h:=aO TF kn h aji
 have h:=aO TQ kn h ajj
 have h:=R0 ["fractions", "tops"] TV kn h ajl ajm
 have h:=aO Tf kn h ajn
 have h:=aO Tn kn h ajo
 have h:=aO Tw kn h ajp
 have h:=aO TY kn h ajq
 have h:=aO Ur kn h ajr
 have h:=aO Uz kn h ajs
 have h:=aO T4 kn h ajt
 have h:=aO UJ kn h aju
 have h:=aO T8 kn h ajv
 have h:=aO Ua kn h ajw
 have h:=aO Uc kn h ajx
 have h:=aO Ue kn h ajy
 have h:=aO Uh kn h ajz
 have h:=aO Uj kn h ajA
 have h:=aO Ul kn h ajB
 have h:=aO V1 kn h ajC
 have h:=aO Uv kn h ajD
 have h:=aO Ux kn h ajE
 have h:=aO Uo kn h ajF
 have h:=aO U0 kn h ajG
 have h:=aO U4 kn h ajH
 have h:=aO U6 kn h ajI
 have h:=aO U8 kn h ajJ
 have h:=aO Va kn h ajK
 have h:=aO VP kn h ajL
 have h:=aO Vc kn h ajM
 have h:=aO V0 kn h ajN
 have h:=aO Ve kn h ajO
 have h:=aO Vg kn h ajP
 have h:=R0 ["bounds", "lows", "highs"] V2 kn h ajR ajS
 have h:=aO V3 kn h ajT
 have h:=aO V5 kn h ajU
 have h:=aO V7 kn h ajV
 have h:=aO W6 kn h ajW
 have h:=aO W7 kn h ajX
 have h:=aO W8 kn h ajY
 have h:=aO Xa kn h ajZ
 have h:=aO Xd kn h aj0
 have h:=aO Xf kn h aj1
 have h:=aO Xg kn h aj2
 have h:=aO Xh kn h aj3
 have h:=aO Xj kn h aj4
 have h:=aO Xl kn h aj5
 have h:=aO Xm kn h aj6
 have h:=aO Xn kn h aj7
 have h:=aO Xp kn h aj8
 have h:=aO Xr kn h aj9
 have h:=aO Xv kn h akb
 have h:=aO Xx kn h akc
 have h:=aO Xz kn h akd
 have h:=aO XC kn h ake
 obtain⟨f,fd,h1,h2⟩:jX P w K mg base 10 "law" ["_law_script"] (pG K (clz mg) 1 tu):=h (Ey.fn "law" ["_law_script"] tu 10) (fm "law" (by kernel_rfl))
 exact⟨f,fd,h1.imp ai8,h2⟩
end
theorem walk{l:OpenLaw}{q:Program}{loose:List Str}{XP:(Str->Option Value)->Heap->Prop}{YP:World->Heap->Prop}{d:DefRec}{K:Params->Frag}(hn:l.most=some 63)(hdf:d.params.defaults=[])(hd:d.name = "law")
  (vZ:∀x∈eX,((PyProof.Rows.recsOf q).find? (λe=>e.name == x)).isSome=true\/∀w:World,nsIn (K w.params) mainGlobals x=some none) (ql:∀w:World,noTabs (K w.params)=true)
  (hY:∀(w:World) (h:Heap),YP w h->(K w.params).In h)
  (F:∀(w:World) (mg:Str->Option Value) (h:Heap),(K w.params).In h->h.Ns mainGlobals mg->∀base:Heap,(K w.params).In base->base.Ns mainGlobals mg->(∀x∈eX,∀c b,tabIn (K w.params) x=some (c,b)->CodeHd base c b)->lZ mg base->jX l.prog w (K w.params) mg base 10 "law" (["_law_script"]:List Str) (BP (K w.params) 1 tu)) :
  WalkO q loose XP YP l.row.toRowW d [] (λf vs=>PySem.call f vs) :=
 L2.ai4 (n:=63) (k:=10) (x := "_law_script") (CX:=λw=>ig l.prog w) (sp:=λw=>BP (K w.params) 1 tu) hn (by decide) hdf ⟨rfl,by decide,by decide,rfl⟩ vZ ql hY
  (λw mg fa h KX G hm base kb gb hc bm=>by
   obtain⟨f,fd,h1,h2,_,h4⟩:=F w mg h KX G base kb gb hc bm
   rw[hd]at hm
   cases h4.symm.trans hm
   exact⟨fd,λs u ks=>h2 s [u] ks rfl,h1⟩)
  (λw H a ns hl hTb hS=>by
   obtain⟨G,g1,g2,g3⟩:=ai9 hTb hS
   exact⟨G,[.lst (ns.map .int)],rfl,.cons (.lst g3 (Hl ns)) .nil,g1,hTb,g2,_,ai0 ns,λv G' H' r=>by cases r; rfl⟩)
  λw H s e s' h=>by
   obtain⟨_,_,_,_,_,_,z,_⟩:=h
   exact z
end K22
end
section
namespace PySem.W.Fast
end PySem.W.Fast
inductive PySem.W.Fast:Prop
|tw10322194670944632004
|tw10543122680761941805
|tw1055753084265971116
|tw10706467056687174987
|tw10937975613848277555
|tw10975437764798857837
|tw11020427518802891589
|tw11060266429677933648
|tw11112108623132322505
|tw11328207079793870543
|tw1167415616569284646
|tw11689792479675881013
|tw11954509561243653068
|tw12019561936396294069
|tw12025794646329224029
|tw12286314689770820370
|tw12322863225061641886
|tw12452934451283008157
|tw12600934176464523438
|tw12703588271672099462
|tw12941041218228251177
|tw13147677871079513723
|tw1316060330198897348
|tw13227824956458472493
|tw13263388210611553771
|tw13412767530404239941
|tw13485935141554544514
|tw13554147147179650836
|tw13676980218805393877
|tw1392429626588896201
|tw14098770694458912315
|tw14100793309676800817
|tw14121372879386938819
|tw14136797997130363968
|tw14154741111559693091
|tw14196384671934077635
|tw14298143546437069361
|tw14524478778972701828
|tw14635238330417766221
|tw14653434393262377131
|tw14659246806753163941
|tw14670735604177425905
|tw14801257040513098018
|tw14926303765505611010
|tw14967346692336661756
|tw15373497875019534793
|tw15503723865636278036
|tw15688335383924995863
|tw15868938799426203759
|tw1590402750400282684
|tw16016362785162574100
|tw1605987183558773911
|tw16254009047159926067
|tw16378222658693954722
|tw16450356142057372180
|tw16691995956875074194
|tw1677424852175821501
|tw1681569153225785846
|tw16832097495894280855
|tw16861405207135520332
|tw16875305128352740888
|tw16890432742892973357
|tw16983966967846039298
|tw17011175748410744265
|tw17026321646620448976
|tw17185059382386823905
|tw1724476822065627736
|tw17286530684994958412
|tw17305400937336101399
|tw17339778376785596045
|tw17341245428023925828
|tw17396642305982371390
|tw17758831792486041354
|tw17829826653387000467
|tw17868401111262377472
|tw179973786874031690
|tw1801452283405234407
|tw18019678317254893557
|tw18033002916096295542
|tw18110468623394144168
|tw1811367658506467467
|tw18114277502274186584
|tw18146958537263415832
|tw18158769103469242899
|tw18341789164726633479
|tw18415246880264613835
|tw1846270248294900256
|tw2207312324312673346
|tw224441026025106490
|tw2392488576254120760
|tw2429741930744221303
|tw3227783566486258595
|tw3247411076107852656
|tw3313919132749637836
|tw3431807228124982741
|tw3450151408117444439
|tw3454415094765450870
|tw3475634688505113341
|tw3577786117473079316
|tw3603008028866023376
|tw3898840468533256128
|tw3918536871724293146
|tw4074865499214141471
|tw4138774876127275936
|tw4302804150831603959
|tw4347687550866091866
|tw4460429269382580045
|tw4491139938291985205
|tw4582315567588446233
|tw4697728056251917454
|tw476621547346599116
|tw4848071698753724227
|tw4994236666993828264
|tw5075513886761717449
|tw5183497230556537231
|tw5258054655702509407
|tw5274636948507155221
|tw5299104249915171858
|tw5436733253801733578
|tw5520324139335308717
|tw5542979692020943158
|tw5655933389541335042
|tw587876811351228373
|tw5925456749376724197
|tw6014513341547082188
|tw6067098679015200827
|tw6172917560978892183
|tw6379654133239063461
|tw6519024286364202724
|tw6890286604198153287
|tw7327417088285257208
|tw7394671359047283691
|tw7398722597934497306
|tw7408929651878769232
|tw7538017200928026089
|tw7570899538035599416
|tw8463347078247971545
|tw8464813278760101834
|tw8514907362153799265
|tw8626836638819053044
|tw8868249925226803668
|tw8882993117112734465
|tw8892192225627843963
|tw8912509818814610020
|tw8996637173463566608
|tw9019477986129689756
|tw9087599178446001631
|tw9327035043404027088
|tw9367695963640726842
|tw964076555533268084
|tw9691826389142930033
|tw9843853681662161896
|tw9911390064674190307
|tw9928256976295062186
open PySem PySem.W PyProof.Rows
set_option maxRecDepth 100000 in
set_option maxHeartbeats 0 in
theorem PySem.Challenge.cw_bestheads_k22_sure_few_holds : PySem.Challenge.rw_bestheads_k22_sure_few.Holds := by
 w_on; o_law; k_head; (case hw=>w_witness2)
 k_fill
 refine K22.walk (l:=PySem.Challenge.rw_bestheads_k22_sure_few) rfl rfl rfl ?vZ ?ql (λw h Y=>by first|exact PySem.W.km_in_of Y|exact PySem.W.kIn_of Y) ?F
 case vZ =>
  intro x hx
  rcases(List.mem_cons.mp hx)with rfl|hx
  .exact .inl (by kernel_rfl)
  .rw[List.mem_singleton.mp hx]
   exact .inl (by kernel_rfl)
 case ql=>intro w; kernel_rfl
 case F =>
  intro w mg h KX G base kb gb hcd hbm
  refine' K22.aja ?qM ?qO ?qXT ?qd1 ?qd2 ?qd3 ?qd4 ?qd5 ?qd6 ?qd7 ?qd8 ?qd9 ?akn ?ako ?akp ?akq ?akr ?aks ?akt ?aku ?akv ?akx ?aky ?akz ?akA ?akB ?akC ?akD ?akE ?akF ?akG ?akH ?akI ?akJ ?akK ?akL ?akM ?akN ?akO ?akP ?akQ ?akR ?akS ?akT ?akU ?akV ?akW ?akX ?akY ?akZ ?ak0 ?ak1 ?ak2 ?ak3 ?ak4 ?ak5 ?ak6 ?ak7 ?ak8 ?ak9 ?ala ?alb ?alc ?ald ?ale ?alf ?alg ?alh ?ali ?alj
  case qM=>intro x m; simp only[List.mem_cons,List.not_mem_nil,or_false]at m; rcases m with rfl|rfl|rfl|rfl|rfl|rfl|rfl|rfl|rfl|rfl|rfl|rfl <;> exact mg_none_of KX G (by k_is)
  case qd1|qd2|qd3|qd4|qd5|qd6|qd7|qd8|qd9|akp|akq|akr|aks|akt|aku|akv|akx|aky|akz|akA|akB|akC|akD|akE|akF|akG|akH|akI|akJ|akK|akL|akM|akN|akO|akP|akQ|akR|akS|akV|akW|akX|akY|akZ|ak0|ak1|ak2|ak3|ak4|ak5|ak6|ak7|ak8|ak9|ala|alb|alc|ald|ale|alf=>exact K22.ai5 KX G (by k_is) (by k_is) (by k_is) (by k_is)
  case akn =>
   refine' K22.X7 KX G ?alk ?alm ?aln ?alo
   (case alk=>k_is); (case alm=>k_is); (case aln=>k_is); (case alo=>k_is)
  case ako =>
   refine' L2.PK (by decide) hcd hbm (L2.yL ?alp ?alq ?JD ?alr ?JF ?JG ?als ?JH ?JK) ?alu
   (case alp=>k_is); (case alq=>k_is); (case alr=>k_is); (case JG=>exact rfl); (case als=>k_is); (case JD=>kernel_rfl); (case JF=>kernel_rfl); (case JH=>kernel_rfl); (case JK=>exact rfl)
   case alu =>
    intro x' hx'
    rcases(List.mem_cons.mp hx')with rfl|hx'
    .exact .inl rfl
    .rw[List.mem_singleton.mp hx']
     refine' .inr λc' z=>absurd ((L2.yK (L2.yL ?alv ?alw ?alx ?aly ?alz ?alA ?alB ?alC ?alD)).1.symm.trans z) ?alE
     (case alv=>k_is); (case alw=>k_is); (case aly=>k_is); (case alA=>exact rfl); (case alB=>k_is); (case alx=>kernel_rfl); (case alz=>kernel_rfl); (case alC=>kernel_rfl); (case alD=>exact rfl)
     (case alE=>exact λy=>absurd (Prod.mk.inj (Option.some.inj y)).2 (by decide))
  case akT =>
   refine' K22.X7 KX G ?alF ?alG ?alH ?alI
   (case alF=>k_is); (case alG=>k_is); (case alH=>k_is); (case alI=>k_is)
  case akU =>
   refine' L2.PK (by decide) hcd hbm (L2.yL ?alJ ?alK ?JD ?alL ?JF ?JG ?alM ?JH ?JK) ?alN
   (case alJ=>k_is); (case alK=>k_is); (case alL=>k_is); (case JG=>exact rfl); (case alM=>k_is); (case JD=>kernel_rfl); (case JF=>kernel_rfl); (case JH=>kernel_rfl); (case JK=>exact rfl)
   case alN =>
    intro x' hx'
    rcases(List.mem_cons.mp hx')with rfl|hx'
    .refine' .inr λc' z=>absurd ((L2.yK (L2.yL ?alO ?alP ?alQ ?alR ?alS ?alT ?alU ?alV ?alW)).1.symm.trans z) ?alX
     (case alO=>k_is); (case alP=>k_is); (case alR=>k_is); (case alT=>exact rfl); (case alU=>k_is); (case alQ=>kernel_rfl); (case alS=>kernel_rfl); (case alV=>kernel_rfl); (case alW=>exact rfl)
     (case alX=>exact λy=>absurd (Prod.mk.inj (Option.some.inj y)).2 (by decide))
    .rw[List.mem_singleton.mp hx']
     exact .inl rfl
  case alg =>
   refine' K22.X8 KX G ?alY
   (case alY=>k_is)
  case alh =>
   refine' K22.X8 KX G ?alZ
   (case alZ=>k_is)
  case ali =>
   refine' K22.ai6 KX G ?qbm ?qbl ?qbe ?al0 ?al1 ?al2 ?al3 ?al4 ?al5
   (case qbm=>k_is); (case qbl=>k_is); (case qbe=>rfl); (case al0=>k_is); (case al1=>rfl); (case al2=>k_is); (case al3=>rfl); (case al4=>k_is); (case al5=>rfl)
  case alj =>
   refine' K22.ai7 KX G ?al6 ?al7 ?al8
   (case al6=>k_is); (case al7=>k_is); (case al8=>rfl)
  case qXT=>exact L2.lK.of (by kernel_rfl)
  case qO=>intro x m; simp only[List.mem_cons,List.not_mem_nil,or_false]at m; rcases m with rfl|rfl|rfl|rfl|rfl <;> exact⟨_,L2.acW kb gb (by k_is) (by k_exc)⟩
#print axioms PySem.Challenge.cw_bestheads_k22_sure_few_holds
end